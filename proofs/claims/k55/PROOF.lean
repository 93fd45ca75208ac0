import PyProof.Rows.All
import Wide.All
import OpenK.AllK
import Wide.FinOn
import PyProof.EqAt
import PyProof.EqKinds
import PyProof.TupleCall
import Lean
import PySem.Challenge.RW_onceroad_k55_whole_every_position
set_option Elab.async false
set_option linter.all false
set_option maxRecDepth 100000
theorem ya {a b:Type} {as:List a} (f:a→b):(as.map f).length=as.length:=List.length_map f
theorem yb {a:Type} {l:List a} {i:Nat} (h:i<l.length):l[i]?=some l[i]:=List.getElem?_eq_getElem h
theorem yc {b:Type} {l:List b} {i:Nat} {a:b}:l[i]?=some a↔∃h:i<l.length,l[i]=a:=List.getElem?_eq_some_iff
theorem yd {a b:Type} {f:a→b} {l:List a} {i:Nat}:(l.map f)[i]?=l[i]?.map f:=List.getElem?_map
theorem ye {b:Type} {l:List b} {i:Nat} {a:b} (h:l[i]?=some a):a∈l:=List.mem_of_getElem? h
theorem yf {b:Type} {a:b} {l:List b} (h:a∈l):∃i:Nat,l[i]?=some a:=List.getElem?_of_mem h
noncomputable abbrev yg:=PySem.W.Frag
theorem yh (n:Nat):n≤n:=Nat.le_refl n
theorem yi {a b c:Nat} (h:a≤b) (k:b≤c):a≤c:=Nat.le_trans h k
theorem yj {a b c:Nat} (h:a<b) (k:b≤c):a<c:=Nat.lt_of_lt_of_le h k
theorem yk {p:Prop} [Decidable p] (h:decide p=true):p:=of_decide_eq_true h
theorem yl {p:Prop} [Decidable p] (h:¬p):decide p=false:=decide_eq_false h
theorem ym {c:Type} {a b:c} (h:some a=some b):a=b:=Option.some.inj h
theorem yn {c d:Type} {f:c→d} {x:Option c} {b:d}:x.map f=some b↔∃a,x=some a∧f a=b:=Option.map_eq_some_iff
theorem yo {b:Type} {a:b} {l:List b}:(a::l).Nodup↔a∉l∧l.Nodup:=List.nodup_cons
theorem yp {a:Type} {p:a→Bool} {as:List a} {x:a}:x∈as.filter p↔x∈as∧p x=true:=List.mem_filter
theorem yq {A B:Prop} (h:B):if false=true then A else B:=h
def yr:=@PySem.wpAny_bind
def yt:=@List.length_append
def yu:=@PySem.wpAny_pure
def yv:=@PySem.Heap.get?_push_of_some
def yw:=@List.size_toArray
def yx:=@List.mem_singleton
def yy:=@if_neg
def yz:=@List.mem_cons_of_mem
def yA:=@List.map_append
def yB:=@List.mem_cons
def yC:=@List.length_cons
def yD:=@if_pos
def yE:=@List.mem_append
def yF:=@List.length_filter_le
def yG:=@List.getElem?_append_right
def yH:=@List.mem_append_left
def yI:=@Nat.ne_of_lt
def yJ:=@decide_eq_true_iff
def yK:=@List.take_add_one
def yL:=@PySem.F.plainAttrs_list
def yM:=@decide_eq_true
def yN:=@List.mem_cons_self
def yO:=@Or.inl
def yP:=@List.mem_append_right
def yQ:=@PySem.Heap.lt_size
def yR:=@List.take_length
def yS:=@List.filter_cons
def yT:=@List.length_take
def yU:=@Bool.and_eq_true
def yV:=@List.nodup_append
def yW:=@PySem.Heap.get?_push_size
def yX:=@Nat.le_of_lt
def yY:=@PySem.F.slot_list_append
def yZ:=@PySem.F.type_list_append
def y0:=@PySem.PassesOwn.never
def y8:=@List.getElem?_append_left
def y9:=@List.filter_append
def Yb:=@Bool.eq_iff_iff
def Yc:=@List.append_nil
def Yd:=@List.not_mem_nil
def Ye:=@List.mem_map
def Yg:=@List.idxOf_lt_length_of_mem
def Yh:=@Ne.symm
def Yi:=@List.append_assoc
def Yj:=@List.filter_nil
def Yk:=@PySem.wpAny_holding
def Yl:=@Nat.ne_of_gt
def Ym:=@Int.toNat_natCast
def Yn:=@Bool.false_ne_true
def Yo:=@List.any_eq_true
def Yp:=@List.append_of_mem
def Yq:=@List.length_reverse
def Yr:=@decide_eq_decide
def Ys:=@beq_iff_eq
def Yt:=@List.map_cons
def Yu:=@Nat.lt_of_le_of_lt
def Yv:=@Int.eq_ofNat_of_zero_le
def Yw:=@Nat.lt_irrefl
def Yx:=@Bool.false_eq_true
def Yy:=@List.getElem_idxOf
def Yz:=@PyProof.Rows.callWith_type1
def YA:=@PyProof.Rows.slot_tuple_getitem
def YB:=@PySem.sizeLine_eq
def YC:=@beq_eq_false_iff_ne
def YD:=@List.filter_congr
def YE:=@Classical.byContradiction
def YF:=@PySem.W.mg_none_of
def YG:=@PyProof.Rows.boot_isinstance
def YH:=@Nat.zero_le
def YI:=@List.length_range
def YJ:=@List.mem_range
def YK:=@List.getD_eq_getElem?_getD
def YL:=@PySem.wpAny_newObj_type
def YM:=@List.length_replicate
def YN:=@PySem.F.slot_NoneType_eq
def YO:=@PySem.boot_len
def YQ:=@List.length_erase_of_mem
def YR:=@List.dropLast_concat_getLast
def YS:=@List.all_eq_true
def YT:=@List.getElem_mem
def YU:=@PySem.wpAny_mono
def YV:=@True.intro
def YW:=@List.length_pos_of_mem
def YX:=@PySem.wpAny_of_eq
def YY:=@List.pairwise_iff_getElem
def YZ:=@PySem.Heap.get?_update_self
def Y0:=@or_false
def Y1:=@Option.isSome_iff_exists
def Y2:=@List.Pairwise.imp_of_mem
def Y3:=@PySem.W.looks_findIn
def Y4:=@PySem.wpAny_field
def Y5:=@Bool.not_eq_true'
def Y6:=@List.find?_cons
def Y7:=@List.replicate_succ
def Y8:=@Sum.inr.inj
def Y9:=@List.cons.inj
def xi:=@beq_self_eq_true
def xj:=@PySem.Heap.size_push
def xk:=@List.lookup_append
def xl:=@Int.emod_lt_of_pos
def xm:=@List.filter_filter
def xn:=@PySem.wpAny_passesOwn
def xo:=@List.length_nil
def xp:=@PyProof.Rows.boot_list
def xq:=@Int.emod_nonneg
def xr:=@List.getElem?_set_ne
def xt:=@PySem.wpAny_truthy_bool
def xu:=@if_false
def xv:=@decide_eq_true_eq
def xw:=@Nat.zero_add
def xx:=@Array.length_toList
def xy:=@PySem.mem_of_lookup
def xz:=@PySem.W.looks_mroIn
def xA:=@PySem.Heap.SameBut.update
def xB:=@List.getElem_of_mem
def xC:=@Nat.testBit_two_pow
def xD:=@List.flatMap_append
def xE:=@PySem.W.any_some
def xF:=@Prod.ext
def xG:=@PySem.wpAny_callSpecial?_slot
def xH:=@PySem.wpAny_call_entry
def xI:=@List.lookup_cons
def xJ:=@PySem.wpAny_getItem_str_slice
def xK:=@PySem.F.slot_list_index
def xL:=@Nat.le_add_right
def xM:=@decide_eq_false_iff_not
def xN:=@List.mem_flatMap
def xO:=@List.length_tail
def xP:=@PySem.tupleKind_room_in1
def xQ:=@List.take_of_length_le
def xR:=@Array.getElem?_eq_none
def xS:=@List.getElem?_tail
def xT:=@List.range_succ
def xU:=@Nat.le_antisymm
def xV:=@Array.getElem?_toList
def xW:=@List.mem_iff_getElem?
def xX:=@List.getElem?_reverse
def xY:=@List.take_sublist
def xZ:=@List.flatten_cons
def x0:=@Option.isSome_map
def Xa:=@Nat.le_succ
def Xb:=@PySem.codeAny_call_builtin
def Xc:=@Nat.testBit_or
def Xd:=@List.mem_erase_of_ne
def Xe:=@Nat.mod_two_eq_zero_or_one
def Xf:=@List.mem_reverse
def Xg:=@Array.getElem?_eq_getElem
def Xh:=@List.filterMap_cons
def Xi:=@Or.inr
def Xj:=@PySem.F.plain_extend_loop
def Xk:=@Prod.mk.injEq
def Xl:=@if_true
def Xm:=@Int.natCast_pow
def Xn:=@List.mem_filterMap
def Xo:=@PySem.wpAny_Call_Name_kw
def Xp:=@Option.isSome_some
def Xq:=@List.getElem?_replicate
def Xr:=@PySem.F.type_list_index
def Xs:=@PySem.Calls.callWith_builtin
def Xu:=@PySem.wpAny_nextOf_list_item
def Xv:=@PySem.Heap.get?_push_ne
def Xw:=@Nat.sub_self
def Xx:=@Int.zero_add
def Xy:=@PySem.F.slot_dict_get
def Xz:=@PySem.F.slot_list_pop
def XA:=@PySem.F.type_list_pop
def XB:=@Nat.lt_succ_self
def XC:=@List.length_drop
def XD:=@PySem.call_meets
def XE:=@Nat.min_eq_right
def XF:=@PyProof.Rows.boot_tuple
def XG:=@List.all_cons
def XH:=@List.any_cons
def XI:=@List.sum_cons
def XJ:=@Nat.pow_lt_pow_right
def XM:=@PySem.wpAny_execs_nil
def XR:=@List.length_set
def XS:=@PySem.SeqAt.EqAt.same
def XT:=@Option.map_some
def XU:=@Bool.or_eq_true
def XV:=@PySem.post_val_or_str
def XW:=@Nat.min_eq_left
def XX:=@PySem.F.slot_zip_next
def XY:=@PySem.wpAny_updateSeq
def XZ:=@List.all_append
def X0:=@PySem.W.plainGet_of
def X1:=@PySem.W.looks_clsIn
def X2:=@PySem.Heap.get?_update_ne
def X3:=@List.length_pos_iff
def X4:=@List.filter_sublist
def X5:=@List.getElem?_range
def X6:=@PySem.Calls.spliced_cons
def X7:=@PySem.wpAny_call
def X8:=@PySem.W.callWith_K
def X9:=@PyProof.Rows.slicePart_none
def kc:=@PySem.Heap.IsSliceOf.new
def ke:=@List.take_zero
def kf:=@Option.isSome_none
def kg:=@PySem.Calls.spliced_nil
def kh:=@PySem.slot_list_getitem
def ki:=@Nat.lt_succ_of_lt
def kj:=@PySem.wpAny_pyIter_list
def km:=@Nat.le_succ_of_le
def kn:=@PyProof.Rows.mirror_perm
def ko:=@Nat.lt_trichotomy
def kq:=@Nat.or_lt_two_pow
def kt:=@List.reverse_perm
def ku:=@List.pairwise_map
def kx:=@PySem.wpAny_standAt
def ky:=@PySem.evalPart_none
def kz:=@Bool.or_false
def kC:=@PySem.wpAny_attempt
def kD:=@List.map_tail
def kE:=@PySem.wpAny_eqBool_int
def kF:=@List.cons_append
def kG:=@PySem.wpAny_askSetting
def kH:=@PySem.wpAny_pyIter_zip
def kI:=@Nat.lt_of_not_le
def kJ:=@PySem.Heap.size_update
def kK:=@List.cons_ne_nil
def kL:=@List.map_reverse
def kM:=@Nat.max_eq_right
def kN:=@PySem.codeAny_mono
def kO:=@Nat.lt_trans
def kP:=@List.all_map
def kQ:=@PySem.Txt.slice_le
def kR:=@Nat.sub_zero
def kS:=@List.of_mem_zip
def kU:=@List.forIn_cons
def kW:=@Nat.max_eq_left
def kX:=@Bool.false_and
def kY:=@List.nodup_nil
def kZ:=@List.forIn_nil
def k7:=@Nat.left_le_or
def k8:=@PySem.W.mg_of
def k9:=@Bool.and_true
def Ka:=@decide_false
def Kb:=@Nat.le_total
def Kc:=@Nat.lt_or_ge
namespace L2
open PySem PySem.Spec PyProof.Rows
noncomputable def qJ (s:Stmt) (j:Nat):Stmt:=match s with
 | .ClassDef _ _ _ body _ _ _ _ _ _ _=>body.getD j (.Pass ⟨0,0,0,0⟩)
 | _=>.Pass ⟨0,0,0,0⟩
noncomputable def qaB (s:Stmt):Arguments:=match s with
 | .FunctionDef _ a _ _ _ _ _ _ _ _=>a
 | _=>{ posonlyargs:=[],args:=[],vararg:=none,kwonlyargs:=[],kw_defaults:=[],kwarg:=none,defaults:=[] }
noncomputable def zW (s:Stmt):List Stmt:=match s with
 | .FunctionDef _ _ b _ _ _ _ _ _ _=>b
 | _=>[]
noncomputable def qh (s:Stmt):Scope:=match s with
 | .FunctionDef _ _ _ _ _ _ sc _ _ _=>sc
 | _=>{ kind:=.function,names:=[],isGenerator:=false,isCoroutine:=false }
end L2
namespace K55
open PySem L2 PyProof.Rows
noncomputable def top (i:Nat):Stmt:=PySem.Challenge.pw_onceroad_k55_whole_every_position.main.body.getD i (.Pass ⟨0,0,0,0⟩)
noncomputable abbrev qaa:Stmt:=top 31
noncomputable abbrev qaR:Stmt:=top 45
noncomputable abbrev qan:Stmt:=top 46
noncomputable abbrev jB:Stmt:=top 47
noncomputable abbrev zl:Stmt:=top 48
noncomputable abbrev qao:Stmt:=qJ (top 44) 0
noncomputable abbrev qaS:Stmt:=top 49
noncomputable abbrev zm:Stmt:=qJ (top 44) 1
noncomputable abbrev jI:Stmt:=qJ (top 44) 4
noncomputable abbrev jJ:Stmt:=qJ (top 44) 6
noncomputable abbrev zn:Stmt:=qJ (top 44) 7
noncomputable abbrev jv:Stmt:=qJ (top 44) 8
noncomputable abbrev qap:Stmt:=qJ (top 44) 9
noncomputable abbrev jA:Stmt:=qJ (top 44) 12
noncomputable abbrev qaq:Stmt:=qJ (top 44) 2
noncomputable abbrev zL:Stmt:=top 13
noncomputable abbrev j7:Stmt:=qJ (top 44) 5
noncomputable abbrev j8:Stmt:=top 14
noncomputable abbrev jT:Stmt:=qJ (top 17) 6
noncomputable abbrev qU:Stmt:=qJ (top 17) 9
noncomputable abbrev jc:Stmt:=qJ (top 17) 10
noncomputable abbrev jK:Stmt:=qJ (top 17) 11
noncomputable abbrev qM:Stmt:=qJ (top 17) 8
noncomputable abbrev jd:Stmt:=qJ (top 17) 7
noncomputable abbrev j9:Stmt:=qJ (top 17) 5
noncomputable abbrev za:Stmt:=qJ (top 17) 0
noncomputable abbrev zo:Stmt:=qJ (top 17) 1
noncomputable abbrev jk:Stmt:=qJ (top 17) 2
noncomputable abbrev jZ:Stmt:=top 15
noncomputable abbrev ji:Stmt:=top 20
noncomputable abbrev qbl:Stmt:=top 19
noncomputable abbrev qX:Stmt:=top 21
noncomputable abbrev qar:Stmt:=top 22
noncomputable abbrev qaU:Stmt:=top 23
noncomputable abbrev jL:Stmt:=top 26
noncomputable abbrev qas:Stmt:=top 25
noncomputable abbrev qbo:Stmt:=top 51
noncomputable abbrev qaV:Stmt:=top 52
noncomputable abbrev qbp:Stmt:=top 53
noncomputable abbrev zA:Stmt:=top 54
noncomputable abbrev zB:Stmt:=top 55
noncomputable abbrev qaW:Stmt:=top 56
noncomputable abbrev qcb:Stmt:=top 57
noncomputable abbrev zC:Stmt:=top 58
noncomputable abbrev ze:Stmt:=top 59
noncomputable abbrev qce:Stmt:=top 28
noncomputable abbrev qbq:Stmt:=top 33
noncomputable abbrev qaX:Stmt:=top 34
noncomputable abbrev zO:Stmt:=qJ (top 38) 0
noncomputable abbrev jC:Stmt:=qJ (top 38) 2
noncomputable abbrev zP:Stmt:=qJ (top 38) 3
noncomputable abbrev zQ:Stmt:=qJ (top 38) 5
noncomputable abbrev jU:Stmt:=qJ (top 38) 8
noncomputable abbrev zR:Stmt:=qJ (top 38) 9
noncomputable abbrev zq:Stmt:=qJ (top 40) 1
noncomputable abbrev jt:Stmt:=qJ (top 40) 2
noncomputable abbrev qaY:Stmt:=qJ (top 40) 3
noncomputable abbrev jw:Stmt:=qJ (top 44) 13
noncomputable abbrev j3:Stmt:=top 35
noncomputable abbrev jM:Stmt:=qJ (top 40) 4
noncomputable abbrev qa0:Stmt:=top 36
noncomputable abbrev qaF:Stmt:=top 60
noncomputable abbrev zD:Stmt:=top 61
noncomputable abbrev qaf:Stmt:=top 62
noncomputable abbrev qcU:Stmt:=top 63
end K55
namespace Hd
open PySem PySem.W PySem.Calls PyProof.Rows
variable {p:Program} {α:Type}
noncomputable def qfO (c:String->Option Builtin) (p:Program) (w:World) (a:Nat) (b:Option Value):Nat->SharedT->Thread->Option SharedT
 | 0,_,_=>none
 | n+1,s,t=>match through t with
  | true=>some s
  | false=>match stepOk a b t with
   | false=>none
   | true=>match stepT (denote c) p w s t with
    | some (s',t')=>qfO c p w a b n s' t'
    | none=>none
theorem qft {e:String->Option Builtin} {w:World} {a:Nat} {b:Option Value}:∀ {n:Nat} {s d:SharedT} {t:Thread},qfO e p w a b n s t=some d->topRun e p w a b n s.abs t=some d.abs
 | 0,_,_,_,h=>by cases h
 | n+1,s,d,t,h=>by
  unfold qfO at h;unfold topRun
  cases f:through t with
  | true=>rw [f] at h;cases h;rfl
  | false =>
   rw [f] at h
   cases g:stepOk a b t with
   | false=>rw [g] at h;cases h
   | true =>
    rw [g] at h
    cases c:stepT (denote e) p w s t with
    | none=>rw [c] at h;cases h
    | some r=>obtain ⟨i,j⟩:=r;rw [c] at h;rw [stepT_spec c];exact qft h
noncomputable def qdm:List Obj->Nat->BT->BT
 | [],_,t=>t
 | o::r,n,t=>qdm r (n+1) (t.ins n o)
noncomputable def qeQ (P:Params) (a:OsState):SharedT:=⟨qdm (boot_heap P).objs.toList 0 .nil,(boot_heap P).objs.size,(boot_heap P).life,Array.mk [],boot_drawn,boot_toks,a⟩
theorem boot_abs (P:Params):absHeap (qdm (boot_heap P).objs.toList 0 .nil) (boot_heap P).objs.size (boot_heap P).life=boot_heap P:=by kernel_rfl
noncomputable def qe4 (p q:Program) (Xt:Shared->Bool) {α:Type} (Yf:Shared->α) (N:Nat) (w:World) (a:OsState):=match (boot_heap w.params).isNs mainGlobals&&(Array.mk []:Array GenState).size==0 with
 | true=>(qfO treeTable p w (boot_heap w.params).objs.size ((boot_heap w.params).nsMap mainGlobals "__annotations__") N (qeQ w.params a) (topStub p)).bind fun s=>match staticsOk (importedModules p.main.body) (boot_heap w.params) s.abs.heap&&namesBound p s.abs.heap&&gensDone s.abs&&laidKept (boot_heap w.params) s.abs.heap with
   | true=>some (openSeen q [] (importedModules p.main.body) Xt true s.abs,Yf s.abs)
   | false=>none
 | false=>none
noncomputable def lookS (p:Program) (N:Nat) (w:World) (a:OsState):Option Shared:=match (boot_heap w.params).isNs mainGlobals&&(Array.mk []:Array GenState).size==0 with
 | true=>(qfO treeTable p w (boot_heap w.params).objs.size ((boot_heap w.params).nsMap mainGlobals "__annotations__") N (qeQ w.params a) (topStub p)).bind fun s=>match staticsOk (importedModules p.main.body) (boot_heap w.params) s.abs.heap&&namesBound p s.abs.heap&&gensDone s.abs&&laidKept (boot_heap w.params) s.abs.heap with
   | true=>some s.abs
   | false=>none
 | false=>none
theorem lookT_map (p q:Program) (Xt:Shared->Bool) (Yf:Shared->α) (N:Nat) (w:World) (a:OsState):qe4 p q Xt Yf N w a=(lookS p N w a).map fun s=>(openSeen q [] (importedModules p.main.body) Xt true s,Yf s):=by
 unfold qe4 lookS
 cases (boot_heap w.params).isNs mainGlobals&&(Array.mk []:Array GenState).size==0 with
 | false=>rfl
 | true =>
  dsimp only
  cases qfO treeTable p w (boot_heap w.params).objs.size ((boot_heap w.params).nsMap mainGlobals "__annotations__") N (qeQ w.params a) (topStub p) with
  | none=>rfl
  | some s =>
   show (match _ with | true=>_ | false=>_)=Option.map _ (match _ with | true=>_ | false=>_);cases staticsOk (importedModules p.main.body) (boot_heap w.params) s.abs.heap&&namesBound p s.abs.heap&&gensDone s.abs&&laidKept (boot_heap w.params) s.abs.heap<;>rfl
theorem packs {b A B C D E Y:Type} {o:Option b} {f:b->A×B×C×D×E} {g:b->Y} {x:A×B×C×D×E} {y:Y} (h1:o.map (fun s=>((f s).1,(f s).2.1,(f s).2.2.1,(f s).2.2.2.1))=some (x.1,x.2.1,x.2.2.1,x.2.2.2.1)) (h:o.map (fun s=>(f s).2.2.2.2)=some x.2.2.2.2) (c:o.map g=some y):o.map (fun s=>(f s,g s))=some (x,y):=by
 cases o with
 | none=>cases c
 | some s =>
  have a:=ym h1;have d:=ym h;have e:=ym c;have i:=congrArg Prod.fst a;have j:=congrArg (fun z=>z.2.1) a;have l:=congrArg (fun z=>z.2.2.1) a;have m:=congrArg (fun z=>z.2.2.2) a;exact congrArg some (xF (xF i (xF j (xF l (xF m d)))) e)
theorem left_of {q:Program} {Xt:Shared->Bool} {Yf:Shared->α} {Ya:World->α} {N:Nat} (e:opening p=plainProg p.main.scope.names) (n:Nat.ble 600 N=true) (f:∀ s,fenceModules? p s=some s)
  (h:∀ w a,qe4 p q Xt Yf N w a=some (openGood q [],Ya w)):LeftO p q [] Xt Yf Ya N:=fun w=>by
 obtain ⟨⟨m,l,d,k,a⟩,i,j⟩:=yn.mp (boot_open e n f w);obtain ⟨rfl,rfl,rfl,rfl⟩:m=boot_heap w.params/\l=Array.mk []/\d=boot_drawn/\k=boot_toks:=by simpa using j
 have b:=h w a;unfold qe4 at b;unfold openEnds;rw [i];show (topFrom treeTable p w N _).map _=_;unfold topFrom;dsimp only;split at b
 .rename_i z
  rw [z];obtain ⟨s,o,c⟩:=Option.bind_eq_some_iff.mp b;have r:=qft o
  have g:(qeQ w.params a).abs=⟨boot_heap w.params,Array.mk [],boot_drawn,boot_toks,a⟩:=by
   unfold qeQ SharedT.abs;dsimp only;rw [boot_abs]
  rw [g] at r;dsimp only;rw [r];split at c
  .rename_i z2
   show ((match staticsOk (importedModules p.main.body) (boot_heap w.params) s.abs.heap&&namesBound p s.abs.heap&&gensDone s.abs&&laidKept (boot_heap w.params) s.abs.heap with | true=>some s.abs | false=>none):Option Shared).map _=_;rw [z2];exact c
  .cases c
 .cases b
end Hd
namespace K55
open PySem L2 PyProof.Rows PySem.W
noncomputable abbrev NN:Nat:=20000
noncomputable def Q:Program:=view PySem.Challenge.pw_onceroad_k55_whole_every_position [0,2,3,4,5,6,7,8,9,10,11,13,14,15,17,19,20,21,22,23,25,26,28,30,31,33,34,35,36,38,40,42,43,44,45,46,47,48,49,51,52,53,54,55,56,57,58,59,60,61,62,63]
noncomputable def en (P:Params) (t:Tok) (v:Value) (k:Str):DictEntry:=⟨PyData.keyHash P k,.str k t,v⟩
noncomputable def cO (t a b r:Nat) (x y z v:Value) (e u:Nat) (q n:Str):Obj:=⟨.type "code",none,.fields #[.str n t,.str q (t+1),.str "/claim/cut.py" (t+2),.int a 0,.int b 0,.int 0 0,.int 0 0,.int 3 0,.ref r,.bool true,.int 181 0,x,y,z,v,.ref e,.int u 0,.int a 0,.str "/claim/cut.py" (u+1)],#[]⟩
noncomputable def cE (t b a r:Nat) (x y z v:Value) (e u:Nat) (n:Str):Obj:=cO t b a r x y z v e u n n
noncomputable def fO (k c:Nat) (s:Stmt) (m q n:Str):Obj:=⟨.type "function",none,.func (fnOf n q (qaB s) (zW s) (qh s) .none .none .none (.str m k) none (.ref c) .none),#[]⟩
noncomputable def fE (k c:Nat) (s:Stmt) (m n:Str):Obj:=fO k c s m n n
noncomputable def Kf (P:Params):Frag:=
 (nat_lit 2,(⟨.none,none,.dict #[] 0,#[]⟩:Obj)) ::
 (nat_lit 3,(⟨(.type "dict"),none,.dict #[en P 165 (.str "law_onceroad_k55_whole_every_position" 1096) "__name__",en P 166 .none "__doc__",en P 167 .none "__package__",en P 168 (.builtin "__main__.__loader__#opaque") "__loader__",en P 169 .none "__spec__",en P 170 (.ref 6) "__annotations__",en P 171 (.ref 4) "__builtins__",en P 173 (.str "/claim/cut.py" 172) "__file__",en P 174 .none "__cached__",en P 193 (.ref 21) "_wall",en P 221 (.ref 38) "OnceError",en P 246 (.ref 58) "NoName",en P 271 (.ref 77) "Twice",en P 296 (.ref 96) "NoPlace",en P 321 (.ref 115) "NoTie",en P 346 (.ref 134) "TooMany",en P 371 (.ref 153) "NoPairs",en P 396 (.ref 172) "NoRow",en P 421 (.ref 191) "NoMove",en P 444 (.ref 210) "NoBack",en P 456 (.ref 219) "are_pairs",en P 466 (.ref 226) "partners_in",en P 472 (.ref 231) "told_pairs",en P 602 (.ref 319) "Forest",en P 614 (.ref 330) "is_row",en P 624 (.ref 337) "are_unlike_places",en P 630 (.ref 342) "goes_by_turns",en P 642 (.ref 349) "can_turn",en P 648 (.ref 354) "turned",en P 657 (.ref 361) "greatest",en P 668 (.ref 368) "greatest_from",en P 677 (.ref 375) "loose",en P 681 (.int 6 680) "LONGEST_NAME",en P 687 (.ref 380) "is_name",en P 697 (.ref 387) "winner",en P 707 (.ref 394) "winners",en P 713 (.ref 399) "good_moves",en P 721 (.ref 406) "of_play",en P 818 (.ref 486) "Walk",en P 885 (.ref 547) "Play",en P 889 (.int 14 888) "MOST_PLACES",en P 891 (.int 30 890) "MOST_TIES",en P 1049 (.ref 674) "Web",en P 1057 (.ref 685) "has_bit",en P 1065 (.ref 692) "is_place",en P 1074 (.ref 699) "are_two_places",en P 1083 (.ref 706) "numbers_of",en P 1095 (.ref 713) "near_of",en P 1105 (.ref 720) "_law_cell",en P 1112 (.ref 727) "_law_begun",en P 1122 (.ref 734) "_law_take",en P 1128 (.ref 739) "_law_names",en P 1134 (.ref 744) "_law_shape",en P 1150 (.ref 751) "_law_drawn",en P 1163 (.ref 758) "_law_web",en P 1169 (.ref 763) "_law_beside",en P 1175 (.ref 768) "_law_solved",en P 1181 (.ref 773) "_law_due",en P 1187 (.ref 778) "_law_stands",en P 1193 (.ref 783) "_law_moved",en P 1199 (.ref 788) "law"] 61,#[]⟩:Obj)) ::
 (nat_lit 218,cE 447 54 2 213 (.ref 214) .none (.ref 215) (.ref 216) 217 454 "are_pairs") ::
 (nat_lit 219,fE 445 218 zL "onceroad.pairs" "are_pairs") ::
 (nat_lit 225,cE 457 64 2 220 (.ref 221) .none (.ref 222) (.ref 223) 224 464 "partners_in") ::
 (nat_lit 226,fE 445 225 j8 "onceroad.pairs" "partners_in") ::
 (nat_lit 230,cE 467 72 2 227 (.ref 228) .none .none .none 229 470 "told_pairs") ::
 (nat_lit 231,fE 445 230 jZ "onceroad.pairs" "told_pairs") ::
 (nat_lit 244,cO 487 78 3 239 (.ref 240) .none (.ref 241) (.ref 242) 243 493 "Forest.__init__" "__init__") ::
 (nat_lit 245,fO 473 244 za "onceroad.forests" "Forest.__init__" "__init__") ::
 (nat_lit 251,cO 496 89 1 246 (.ref 247) .none (.ref 248) (.ref 249) 250 500 "Forest.row" "row") ::
 (nat_lit 252,fO 473 251 zo "onceroad.forests" "Forest.row" "row") ::
 (nat_lit 256,cO 503 92 1 253 (.ref 254) .none .none .none 255 506 "Forest.reached" "reached") ::
 (nat_lit 257,fO 473 256 jk "onceroad.forests" "Forest.reached" "reached") ::
 (nat_lit 277,cO 524 103 1 272 (.ref 273) .none (.ref 274) (.ref 275) 276 529 "Forest.grow" "grow") ::
 (nat_lit 278,fO 473 277 j9 "onceroad.forests" "Forest.grow" "grow") ::
 (nat_lit 284,cO 532 111 3 279 (.ref 280) .none (.ref 281) (.ref 282) 283 538 "Forest.reach" "reach") ::
 (nat_lit 285,fO 473 284 jT "onceroad.forests" "Forest.reach" "reach") ::
 (nat_lit 291,cO 541 115 2 286 (.ref 287) .none (.ref 288) (.ref 289) 290 548 "Forest.look_around" "look_around") ::
 (nat_lit 292,fO 473 291 jd "onceroad.forests" "Forest.look_around" "look_around") ::
 (nat_lit 296,cO 551 126 3 293 (.ref 294) .none .none .none 295 554 "Forest.bring_together" "bring_together") ::
 (nat_lit 297,fO 473 296 qM "onceroad.forests" "Forest.bring_together" "bring_together") ::
 (nat_lit 303,cO 557 137 2 298 (.ref 299) .none (.ref 300) (.ref 301) 302 564 "Forest.bases_down_from" "bases_down_from") ::
 (nat_lit 304,fO 473 303 qU "onceroad.forests" "Forest.bases_down_from" "bases_down_from") ::
 (nat_lit 310,cO 567 144 4 305 (.ref 306) .none (.ref 307) (.ref 308) 309 578 "Forest.reach_round" "reach_round") ::
 (nat_lit 311,fO 473 310 jc "onceroad.forests" "Forest.reach_round" "reach_round") ::
 (nat_lit 315,cO 581 153 3 312 (.ref 313) .none .none .none 314 584 "Forest.fold" "fold") ::
 (nat_lit 316,fO 473 315 jK "onceroad.forests" "Forest.fold" "fold") ::
 (nat_lit 318,(⟨(.type "dict"),none,.dict #[en P 482 (.str "onceroad.forests" 473) "__module__",en P 486 (.int 76 485) "__firstlineno__",en P 495 (.ref 245) "__init__",en P 502 (.ref 252) "row",en P 508 (.ref 257) "reached",en P 516 (.ref 264) "row_to",en P 523 (.ref 271) "folds",en P 531 (.ref 278) "grow",en P 540 (.ref 285) "reach",en P 550 (.ref 292) "look_around",en P 556 (.ref 297) "bring_together",en P 566 (.ref 304) "bases_down_from",en P 580 (.ref 311) "reach_round",en P 586 (.ref 316) "fold",en P 595 (.ref 317) "__static_attributes__",en P 597 (.ref 320) "__dict__",en P 599 (.ref 321) "__weakref__",en P 600 .none "__doc__"] 4,#[]⟩:Obj)) ::
 (nat_lit 319,(⟨(.type "type"),none,.cls { name:="Forest",bases:=[(.type "object")],mro:=[(.ref 319),(.type "object")],ns:=318,qualname:="Forest",hasDict:=true,slotNames:=[],subclasses:=[],abstract:=false,collection:=none,hasDel:=false },#[none,none,(some (.str "Forest" 475)),(some (.str "Forest" 483)),(some (.builtin "object.__new__")),(some (.bool true))]⟩:Obj)) ::
 (nat_lit 329,cE 605 159 3 324 (.ref 325) .none (.ref 326) (.ref 327) 328 612 "is_row") ::
 (nat_lit 330,fE 603 329 qbl "onceroad.rows" "is_row") ::
 (nat_lit 336,cE 615 164 2 331 (.ref 332) .none (.ref 333) (.ref 334) 335 622 "are_unlike_places") ::
 (nat_lit 337,fE 603 336 ji "onceroad.rows" "are_unlike_places") ::
 (nat_lit 341,cE 625 173 3 338 (.ref 339) .none .none .none 340 628 "goes_by_turns") ::
 (nat_lit 342,fE 603 341 qX "onceroad.rows" "goes_by_turns") ::
 (nat_lit 348,cE 631 179 3 343 (.ref 344) .none (.ref 345) (.ref 346) 347 640 "can_turn") ::
 (nat_lit 349,fE 603 348 qar "onceroad.rows" "can_turn") ::
 (nat_lit 353,cE 643 186 3 350 (.ref 351) .none .none .none 352 646 "turned") ::
 (nat_lit 354,fE 603 353 qaU "onceroad.rows" "turned") ::
 (nat_lit 360,cE 651 193 1 355 (.ref 356) .none (.ref 357) (.ref 358) 359 655 "greatest") ::
 (nat_lit 361,fE 649 360 qas "onceroad.greatest" "greatest") ::
 (nat_lit 367,cE 658 195 2 362 (.ref 363) .none (.ref 364) (.ref 365) 366 666 "greatest_from") ::
 (nat_lit 368,fE 649 367 jL "onceroad.greatest" "greatest_from") ::
 (nat_lit 374,cE 671 205 1 369 (.ref 370) .none (.ref 371) (.ref 372) 373 675 "loose") ::
 (nat_lit 375,fE 669 374 qce "onceroad.sorts" "loose") ::
 (nat_lit 379,cE 682 209 1 376 (.ref 377) .none .none .none 378 685 "is_name") ::
 (nat_lit 380,fE 678 379 qaa "onceroad.names" "is_name") ::
 (nat_lit 386,cE 690 214 2 381 (.ref 382) .none (.ref 383) (.ref 384) 385 695 "winner") ::
 (nat_lit 387,fE 688 386 qbq "onceroad.wins" "winner") ::
 (nat_lit 393,cE 698 217 1 388 (.ref 389) .none (.ref 390) (.ref 391) 392 705 "winners") ::
 (nat_lit 394,fE 688 393 qaX "onceroad.wins" "winners") ::
 (nat_lit 398,cE 708 223 2 395 (.ref 396) .none .none .none 397 711 "good_moves") ::
 (nat_lit 399,fE 688 398 j3 "onceroad.wins" "good_moves") ::
 (nat_lit 405,cE 714 226 1 400 (.ref 401) .none (.ref 402) (.ref 403) 404 719 "of_play") ::
 (nat_lit 406,fE 688 405 qa0 "onceroad.wins" "of_play") ::
 (nat_lit 419,cO 736 232 3 414 (.ref 415) .none (.ref 416) (.ref 417) 418 742 "Walk.__init__" "__init__") ::
 (nat_lit 420,fO 722 419 zO "onceroad.walks" "Walk.__init__" "__init__") ::
 (nat_lit 433,cO 752 241 1 428 (.ref 429) .none (.ref 430) (.ref 431) 432 756 "Walk.stands_at" "stands_at") ::
 (nat_lit 434,fO 722 433 jC "onceroad.walks" "Walk.stands_at" "stands_at") ::
 (nat_lit 440,cO 759 244 1 435 (.ref 436) .none (.ref 437) (.ref 438) 439 763 "Walk.gone" "gone") ::
 (nat_lit 441,fO 722 440 zP "onceroad.walks" "Walk.gone" "gone") ::
 (nat_lit 454,cO 773 250 1 449 (.ref 450) .none (.ref 451) (.ref 452) 453 777 "Walk.hand" "hand") ::
 (nat_lit 455,fO 722 454 zQ "onceroad.walks" "Walk.hand" "hand") ::
 (nat_lit 475,cO 794 259 2 470 (.ref 471) .none (.ref 472) (.ref 473) 474 799 "Walk.move_to" "move_to") ::
 (nat_lit 476,fO 722 475 jU "onceroad.walks" "Walk.move_to" "move_to") ::
 (nat_lit 482,cO 802 264 1 477 (.ref 478) .none (.ref 479) (.ref 480) 481 806 "Walk.back" "back") ::
 (nat_lit 483,fO 722 482 zR "onceroad.walks" "Walk.back" "back") ::
 (nat_lit 485,(⟨(.type "dict"),none,.dict #[en P 731 (.str "onceroad.walks" 722) "__module__",en P 735 (.int 230 734) "__firstlineno__",en P 744 (.ref 420) "__init__",en P 751 (.ref 427) "web",en P 758 (.ref 434) "stands_at",en P 765 (.ref 441) "gone",en P 772 (.ref 448) "moves",en P 779 (.ref 455) "hand",en P 786 (.ref 462) "ended",en P 793 (.ref 469) "loser",en P 801 (.ref 476) "move_to",en P 808 (.ref 483) "back",en P 811 (.ref 484) "__static_attributes__",en P 813 (.ref 487) "__dict__",en P 815 (.ref 488) "__weakref__",en P 816 .none "__doc__"] 4,#[]⟩:Obj)) ::
 (nat_lit 486,(⟨(.type "type"),none,.cls { name:="Walk",bases:=[(.type "object")],mro:=[(.ref 486),(.type "object")],ns:=485,qualname:="Walk",hasDict:=true,slotNames:=[],subclasses:=[(.ref 547)],abstract:=false,collection:=none,hasDel:=false },#[none,none,(some (.str "Walk" 724)),(some (.str "Walk" 732)),(some (.builtin "object.__new__")),(some (.bool true))]⟩:Obj)) ::
 (nat_lit 510,cO 840 274 1 505 (.ref 506) .none (.ref 507) (.ref 508) 509 844 "Play.moves" "moves") ::
 (nat_lit 511,fO 819 510 zq "onceroad.plays" "Play.moves" "moves") ::
 (nat_lit 515,cO 847 277 2 512 (.ref 513) .none .none .none 514 850 "Play.not_gone" "not_gone") ::
 (nat_lit 516,fO 819 515 jt "onceroad.plays" "Play.not_gone" "not_gone") ::
 (nat_lit 522,cO 853 280 2 517 (.ref 518) .none (.ref 519) (.ref 520) 521 858 "Play.go" "go") ::
 (nat_lit 523,fO 819 522 qaY "onceroad.plays" "Play.go" "go") ::
 (nat_lit 529,cO 861 283 1 524 (.ref 525) .none (.ref 526) (.ref 527) 528 865 "Play.web_left" "web_left") ::
 (nat_lit 530,fO 819 529 jM "onceroad.plays" "Play.web_left" "web_left") ::
 (nat_lit 546,(⟨(.type "dict"),none,.dict #[en P 828 (.str "onceroad.plays" 819) "__module__",en P 832 (.int 269 831) "__firstlineno__",en P 839 (.ref 504) "left",en P 846 (.ref 511) "moves",en P 852 (.ref 516) "not_gone",en P 860 (.ref 523) "go",en P 867 (.ref 530) "web_left",en P 874 (.ref 537) "position",en P 881 (.ref 544) "twin",en P 882 (.ref 545) "__static_attributes__",en P 883 .none "__doc__"] 2,#[]⟩:Obj)) ::
 (nat_lit 547,(⟨(.type "type"),none,.cls { name:="Play",bases:=[(.ref 486)],mro:=[(.ref 547),(.ref 486),(.type "object")],ns:=546,qualname:="Play",hasDict:=true,slotNames:=[],subclasses:=[],abstract:=false,collection:=none,hasDel:=false },#[(some (.ref 491)),none,(some (.str "Play" 821)),(some (.str "Play" 829)),(some (.builtin "object.__new__")),(some (.bool true))]⟩:Obj)) ::
 (nat_lit 562,cO 904 296 3 557 (.ref 558) .none (.ref 559) (.ref 560) 561 910 "Web.__init__" "__init__") ::
 (nat_lit 563,fO 886 562 qao "onceroad.webs" "Web.__init__" "__init__") ::
 (nat_lit 569,cO 913 301 1 564 (.ref 565) .none (.ref 566) (.ref 567) 568 917 "Web.places" "places") ::
 (nat_lit 570,fO 886 569 zm "onceroad.webs" "Web.places" "places") ::
 (nat_lit 576,cO 920 304 1 571 (.ref 572) .none (.ref 573) (.ref 574) 575 927 "Web.ties" "ties") ::
 (nat_lit 577,fO 886 576 qaq "onceroad.webs" "Web.ties" "ties") ::
 (nat_lit 590,cO 937 315 2 585 (.ref 586) .none (.ref 587) (.ref 588) 589 942 "Web.has_place" "has_place") ::
 (nat_lit 591,fO 886 590 jI "onceroad.webs" "Web.has_place" "has_place") ::
 (nat_lit 597,cO 945 318 2 592 (.ref 593) .none (.ref 594) (.ref 595) 596 950 "Web.has_tie" "has_tie") ::
 (nat_lit 598,fO 886 597 j7 "onceroad.webs" "Web.has_tie" "has_tie") ::
 (nat_lit 604,cO 953 321 2 599 (.ref 600) .none (.ref 601) (.ref 602) 603 958 "Web.number_of" "number_of") ::
 (nat_lit 605,fO 886 604 jJ "onceroad.webs" "Web.number_of" "number_of") ::
 (nat_lit 611,cO 961 326 2 606 (.ref 607) .none (.ref 608) (.ref 609) 610 966 "Web.beside" "beside") ::
 (nat_lit 612,fO 886 611 zn "onceroad.webs" "Web.beside" "beside") ::
 (nat_lit 618,cO 969 329 2 613 (.ref 614) .none (.ref 615) (.ref 616) 617 974 "Web.bits_beside" "bits_beside") ::
 (nat_lit 619,fO 886 618 jv "onceroad.webs" "Web.bits_beside" "bits_beside") ::
 (nat_lit 625,cO 977 332 3 620 (.ref 621) .none (.ref 622) (.ref 623) 624 984 "Web.tied" "tied") ::
 (nat_lit 626,fO 886 625 qap "onceroad.webs" "Web.tied" "tied") ::
 (nat_lit 644,cO 1001 342 2 641 (.ref 642) .none .none .none 643 1004 "Web.names_in" "names_in") ::
 (nat_lit 645,fO 886 644 jA "onceroad.webs" "Web.names_in" "names_in") ::
 (nat_lit 649,cO 1007 345 2 646 (.ref 647) .none .none .none 648 1010 "Web.without" "without") ::
 (nat_lit 650,fO 886 649 jw "onceroad.webs" "Web.without" "without") ::
 (nat_lit 673,(⟨(.type "dict"),none,.dict #[en P 899 (.str "onceroad.webs" 886) "__module__",en P 903 (.int 294 902) "__firstlineno__",en P 912 (.ref 563) "__init__",en P 919 (.ref 570) "places",en P 929 (.ref 577) "ties",en P 936 (.ref 584) "how_many",en P 944 (.ref 591) "has_place",en P 952 (.ref 598) "has_tie",en P 960 (.ref 605) "number_of",en P 968 (.ref 612) "beside",en P 976 (.ref 619) "bits_beside",en P 986 (.ref 626) "tied",en P 993 (.ref 633) "pieces",en P 1000 (.ref 640) "told",en P 1006 (.ref 645) "names_in",en P 1012 (.ref 650) "without",en P 1020 (.ref 657) "with_place",en P 1029 (.ref 664) "with_tie",en P 1038 (.ref 671) "without_tie",en P 1042 (.ref 672) "__static_attributes__",en P 1044 (.ref 675) "__dict__",en P 1046 (.ref 676) "__weakref__",en P 1047 .none "__doc__"] 4,#[]⟩:Obj)) ::
 (nat_lit 674,(⟨(.type "type"),none,.cls { name:="Web",bases:=[(.type "object")],mro:=[(.ref 674),(.type "object")],ns:=673,qualname:="Web",hasDict:=true,slotNames:=[],subclasses:=[],abstract:=false,collection:=none,hasDel:=false },#[none,none,(some (.str "Web" 892)),(some (.str "Web" 900)),(some (.builtin "object.__new__")),(some (.bool true))]⟩:Obj)) ::
 (nat_lit 684,cE 1050 363 2 679 (.ref 680) .none (.ref 681) (.ref 682) 683 1055 "has_bit") ::
 (nat_lit 685,fE 886 684 qaR "onceroad.webs" "has_bit") ::
 (nat_lit 691,cE 1058 365 2 686 (.ref 687) .none (.ref 688) (.ref 689) 690 1063 "is_place") ::
 (nat_lit 692,fE 886 691 qan "onceroad.webs" "is_place") ::
 (nat_lit 698,cE 1066 367 2 693 (.ref 694) .none (.ref 695) (.ref 696) 697 1072 "are_two_places") ::
 (nat_lit 699,fE 886 698 jB "onceroad.webs" "are_two_places") ::
 (nat_lit 705,cE 1075 372 1 700 (.ref 701) .none (.ref 702) (.ref 703) 704 1081 "numbers_of") ::
 (nat_lit 706,fE 886 705 zl "onceroad.webs" "numbers_of") ::
 (nat_lit 712,cE 1084 385 2 707 (.ref 708) .none (.ref 709) (.ref 710) 711 1093 "near_of") ::
 (nat_lit 713,fE 886 712 qaS "onceroad.webs" "near_of") ::
 (nat_lit 719,cE 1098 402 2 714 (.ref 715) .none (.ref 716) (.ref 717) 718 1103 "_law_cell") ::
 (nat_lit 720,fE 1096 719 qbo "law_onceroad_k55_whole_every_position" "_law_cell") ::
 (nat_lit 726,cE 1106 406 1 721 (.ref 722) .none (.ref 723) (.ref 724) 725 1110 "_law_begun") ::
 (nat_lit 727,fE 1096 726 qaV "law_onceroad_k55_whole_every_position" "_law_begun") ::
 (nat_lit 733,cE 1113 408 2 728 (.ref 729) .none (.ref 730) (.ref 731) 732 1120 "_law_take") ::
 (nat_lit 734,fE 1096 733 qbp "law_onceroad_k55_whole_every_position" "_law_take") ::
 (nat_lit 738,cE 1123 418 2 735 (.ref 736) .none .none .none 737 1126 "_law_names") ::
 (nat_lit 739,fE 1096 738 zA "law_onceroad_k55_whole_every_position" "_law_names") ::
 (nat_lit 743,cE 1129 428 2 740 (.ref 741) .none .none .none 742 1132 "_law_shape") ::
 (nat_lit 744,fE 1096 743 zB "law_onceroad_k55_whole_every_position" "_law_shape") ::
 (nat_lit 750,cE 1135 447 2 745 (.ref 746) .none (.ref 747) (.ref 748) 749 1148 "_law_drawn") ::
 (nat_lit 751,fE 1096 750 qaW "law_onceroad_k55_whole_every_position" "_law_drawn") ::
 (nat_lit 757,cE 1151 459 3 752 (.ref 753) .none (.ref 754) (.ref 755) 756 1161 "_law_web") ::
 (nat_lit 758,fE 1096 757 qcb "law_onceroad_k55_whole_every_position" "_law_web") ::
 (nat_lit 762,cE 1164 467 2 759 (.ref 760) .none .none .none 761 1167 "_law_beside") ::
 (nat_lit 763,fE 1096 762 zC "law_onceroad_k55_whole_every_position" "_law_beside") ::
 (nat_lit 767,cE 1170 472 1 764 (.ref 765) .none .none .none 766 1173 "_law_solved") ::
 (nat_lit 768,fE 1096 767 ze "law_onceroad_k55_whole_every_position" "_law_solved") ::
 (nat_lit 772,cE 1176 481 4 769 (.ref 770) .none .none .none 771 1179 "_law_due") ::
 (nat_lit 773,fE 1096 772 qaF "law_onceroad_k55_whole_every_position" "_law_due") ::
 (nat_lit 777,cE 1182 487 5 774 (.ref 775) .none .none .none 776 1185 "_law_stands") ::
 (nat_lit 778,fE 1096 777 zD "law_onceroad_k55_whole_every_position" "_law_stands") ::
 (nat_lit 782,cE 1188 505 5 779 (.ref 780) .none .none .none 781 1191 "_law_moved") ::
 (nat_lit 783,fE 1096 782 qaf "law_onceroad_k55_whole_every_position" "_law_moved") ::
 (nat_lit 787,cE 1194 513 1 784 (.ref 785) .none .none .none 786 1197 "law") ::
 (nat_lit 788,fE 1096 787 qcU "law_onceroad_k55_whole_every_position" "law") ::
 []
noncomputable def ks:List Addr:=[2,3,218,219,225,226,230,231,244,245,251,252,256,257,277,278,284,285,291,292,296,297,303,304,310,311,315,316,318,319,329,330,336,337,341,342,348,349,353,354,360,361,367,368,374,375,379,380,386,387,393,394,398,399,405,406,419,420,433,434,440,441,454,455,475,476,482,483,485,486,510,511,515,516,522,523,529,530,546,547,562,563,569,570,576,577,590,591,597,598,604,605,611,612,618,619,625,626,644,645,649,650,673,674,684,685,691,692,698,699,705,706,712,713,719,720,726,727,733,734,738,739,743,744,750,751,757,758,762,763,767,768,772,773,777,778,782,783,787,788]
theorem ks_eq:∀ P,ks=(Kf P).map (·.1):=fun P=>by kernel_rfl
noncomputable abbrev Hk:Hook:=kHook Kf ks ks_eq
noncomputable abbrev Xt (s:Shared):Bool:=xlAt Q [] s&&recOk [] s
noncomputable abbrev sn (s:Shared):=openSeen Q [] (importedModules PySem.Challenge.pw_onceroad_k55_whole_every_position.main.body) Xt true s
noncomputable def runA (w:World) (a:OsState):=(Hd.lookS PySem.Challenge.pw_onceroad_k55_whole_every_position NN w a).map fun s=>((sn s).1,(sn s).2.1,(sn s).2.2.1,(sn s).2.2.2.1)
noncomputable def runB (w:World) (a:OsState):=(Hd.lookS PySem.Challenge.pw_onceroad_k55_whole_every_position NN w a).map fun s=>(sn s).2.2.2.2
noncomputable def runC (w:World) (a:OsState):=(Hd.lookS PySem.Challenge.pw_onceroad_k55_whole_every_position NN w a).map fun s=>ks.map s.heap.get?
noncomputable def gdA (_:World) (_:OsState):=some ((openGood Q []).1,(openGood Q []).2.1,(openGood Q []).2.2.1,(openGood Q []).2.2.2.1)
noncomputable def gdB (_:World) (_:OsState):=some (openGood Q []).2.2.2.2
noncomputable def gdC (w:World) (_:OsState):=some ((Kf w.params).map fun p=>some p.2)
noncomputable def tag {a:Type} (f g:World->OsState->a):Bool:=true
theorem tag1:(tag runA gdA&&(tag runB gdB&&tag runC runC))=true:=by k_qdec
theorem hA1 (w:World) (a:OsState):runA w a=gdA w a:=by
 rw [PySem.W.Fast.te14847088616814932437,PySem.W.Fast.te6363335729250179387]
 kernel_rfl
theorem hB1 (w:World) (a:OsState):runB w a=gdB w a:=by
 rw [PySem.W.Fast.te11037450043526129494,PySem.W.Fast.te9054297986321482196]
 kernel_rfl
theorem hC1 (w:World) (a:OsState):runC w a=gdC w a:=by
 rw [PySem.W.Fast.te9614759454469635311]
 kernel_rfl
theorem hl:LeftO PySem.Challenge.pw_onceroad_k55_whole_every_position Q [] Xt (Hook.obs Hk) (Hook.val Hk) NN:=Hd.left_of (by kernel_rfl) (by decide) (fun s=>by kernel_rfl) fun w a=>(Hd.lookT_map ..).trans (Hd.packs (hA1 w a) (hB1 w a) (hC1 w a))
end K55
namespace L2
open PySem PySem.Spec PyProof.Rows
variable {A:Around} {C a b dx it:Addr} {CX:CXT} {D:Ends} {E:Value->Shared->Prop} {H:Hp} {M:Model} {N ps:List Str} {P:Program} {X:Cx} {base h:Heap} {body:List Stmt} {c e tg:Expr} {ch fp:List Addr} {d':Drawn} {es:List Expr} {f:Value->Value->Sem Value} {g:TG} {g':Array GenState} {i j n t':Nat} {kindOf:Str->Option NameKind} {kw:List (Str×Value)} {lo:Int} {mA mg:Str->Option Value} {o:HO} {op op':CmpOp} {outer:List Env} {p pos:Pos} {pins:List (Addr×Obj)} {pl:Sem Bool} {qual x:Str} {r r':R2} {s s':Shared} {sc scope:Scope} {ta:TA} {tb:TS} {tc:TT} {te:TE} {u:Value} {us:List Value} {v y:V} {vs xs:List V} {w:World} {α:Type} {σ:St}
noncomputable abbrev Key:=Sum Int Str
noncomputable def qcV:Key->Value->Bool
 | .inl k,v=>Value.isInt k v
 | .inr x,v=>Value.isStrOf x v
noncomputable def keyH (w:World):Key->Int
 | .inl k=>hashInt k
 | .inr x=>hashStr w x
theorem qY:∀ {k:Key} {v:Value},qcV k v=true->(∃ i t,k=Sum.inl i/\v=Value.int i t)\/(∃ x t,k=Sum.inr x/\v=Value.str x t)
 | .inl i,v,h=>by
  obtain ⟨t,e⟩:=Value.isInt_shape (k:=i) (v:=v) h;exact .inl ⟨i,t,rfl,e⟩
 | .inr x,v,h=>by
  obtain ⟨t,e⟩:=Value.isStrOf_shape (x:=x) (v:=v) h;exact .inr ⟨x,t,rfl,e⟩
theorem keyIs_int (i:Int) (t:Tok):qcV (.inl i) (.int i t)=true:=by simp [qcV,Value.isInt]
theorem keyIs_str (x:Str) (t:Tok):qcV (.inr x) (.str x t)=true:=by simp [qcV,Value.isStrOf]
theorem key_ll (a b:Int):decide ((Sum.inl a:Key)=Sum.inl b)=(a==b):=by
 by_cases e:a=b
 .subst e;simp
 .have h:¬ (Sum.inl a:Key)=Sum.inl b:=fun q=>e (Sum.inl.inj q);rw [yl h];exact (YC.mpr e).symm
theorem key_rr (a b:Str):decide ((Sum.inr a:Key)=Sum.inr b)=decide (a=b):=by
 by_cases e:a=b
 .subst e;simp
 .have h:¬ (Sum.inr a:Key)=Sum.inr b:=fun q=>e (Y8 q);rw [yl h,yl e]
theorem key_lr (a:Int) (b:Str):decide ((Sum.inl a:Key)=Sum.inr b)=false:=yl (fun q=>nomatch q)
theorem key_rl (a:Str) (b:Int):decide ((Sum.inr a:Key)=Sum.inl b)=false:=yl (fun q=>nomatch q)
noncomputable def jx (prog:Program) (w:World):PySem.KeyKind prog w Key where
 is:=qcV
 hash:=keyH w
 inj:=fun v a b c hb=>by
  rcases qY c with ⟨i,t,rfl,rfl⟩ | ⟨x,t,rfl,rfl⟩
  .rcases qY hb with ⟨j,u,rfl,e⟩ | ⟨y,u,rfl,e⟩
   .injection e with e1 _;rw [e1]
   .exact nomatch e
  .rcases qY hb with ⟨j,u,rfl,e⟩ | ⟨y,u,rfl,e⟩
   .exact nomatch e
   .injection e with e1 _;rw [e1]
 byValue:=fun k v h=>by
  rcases qY h with ⟨i,t,rfl,rfl⟩ | ⟨x,t,rfl,rfl⟩<;>rfl
 pyHash:=fun hv h=>by
  rcases qY hv with ⟨i,t,rfl,rfl⟩ | ⟨x,t,rfl,rfl⟩
  .exact wpAny_pyHash_int h
  .exact wpAny_pyHash_str h
 eqBool:=fun d hv h=>by
  rcases qY d with ⟨i,t,rfl,rfl⟩ | ⟨x,t,rfl,rfl⟩
  .rcases qY hv with ⟨j,u,rfl,rfl⟩ | ⟨y,u,rfl,rfl⟩
   .rw [key_ll] at h;exact kE h
   .rw [key_lr] at h;exact SeqAt.EqAt.int_str i t y u _ _ _ _ h
  .rcases qY hv with ⟨j,u,rfl,rfl⟩ | ⟨y,u,rfl,rfl⟩
   .rw [key_rl] at h;exact SeqAt.EqAt.str_int x t j u _ _ _ _ h
   .rw [key_rr] at h;exact wpAny_eqBool_str h
 «strs»:=fun k x t v h=>by
  rcases qY h with ⟨i,u,rfl,e⟩ | ⟨y,u,rfl,e⟩
  .exact nomatch e
  .injection e with e1 _
   subst e1;cases v<;>rfl
theorem mixKind_int (prog:Program) (w:World) (i:Int) (t:Tok):(jx prog w).is (.inl i) (.int i t)=true:=keyIs_int i t
theorem mixKind_str (prog:Program) (w:World) (x:Str) (t:Tok):(jx prog w).is (.inr x) (.str x t)=true:=keyIs_str x t
inductive V where
 | non | bl (b:Bool) | int (i:Int) | str (x:Str) | byt (b:Array UInt8) | flt (b:UInt64) | ref (a:Addr) | ty (n:String)
 deriving DecidableEq
def RelV:V->Value->Prop
 | .non,u=>u=Value.none
 | .bl b,u=>u=Value.bool b
 | .int i,u=>∃ t,u=Value.int i t
 | .str x,u=>∃ t,u=Value.str x t
 | .byt b,u=>∃ t,u=Value.bytes b t
 | .flt b,u=>∃ t,u=Value.float b t
 | .ref a,u=>u=Value.ref a
 | .ty n,u=>u=Value.type n
abbrev Vals:List V->List Value->Prop:=Paired RelV
theorem Vals.length (r:Vals xs us):xs.length=us.length:=Paired.length r
theorem Vals.get:∀ {xs:List V} {us:List Value} {i:Nat} {x:V},Vals xs us->xs[i]?=some x->∃ u,us[i]?=some u/\RelV x u
 | _,_,_,_,.nil,e=>by simp at e
 | _,_,0,_,.cons r _,e=>by simp at e;subst e;exact ⟨_,rfl,r⟩
 | _,_,i+1,x,.cons _ t,e=>by
  obtain ⟨u,h1,a⟩:=Vals.get (i:=i) (x:=x) t (by simpa using e);exact ⟨u,by simpa using h1,a⟩
theorem Vals.set {x:V} (r:RelV x u):∀ {xs:List V} {us:List Value} (i:Nat),Vals xs us->Vals (xs.set i x) (us.set i u)
 | _,_,_,.nil=>.nil
 | _,_,0,.cons _ t=>.cons r t
 | _,_,i+1,.cons q t=>.cons q (Vals.set r i t)
theorem Vals.append:∀ {xs ys:List V} {us a:List Value},Vals xs us->Vals ys a->Vals (xs++ys) (us++a)
 | _,_,_,_,.nil,s=>s
 | _,_,_,_,.cons r t,s=>.cons r (Vals.append t s)
theorem Vals.take:∀ {xs:List V} {us:List Value} (n:Nat),Vals xs us->Vals (xs.take n) (us.take n)
 | _,_,0,_=>.nil
 | _,_,_+1,.nil=>.nil
 | _,_,n+1,.cons r t=>.cons r (Vals.take n t)
theorem Vals.drop:∀ {xs:List V} {us:List Value} (n:Nat),Vals xs us->Vals (xs.drop n) (us.drop n)
 | _,_,0,r=>r
 | _,_,_+1,.nil=>.nil
 | _,_,n+1,.cons _ t=>Vals.drop n t
def RelO:Option V->Option Value->Prop
 | some v,some u=>RelV v u
 | none,none=>True
 | _,_=>False
def KV {a:Type}:List (a×V)->List (a×Value)->Prop:=Paired fun (p:a×V) (q:a×Value)=>p.1=q.1/\RelV p.2 q.2
noncomputable def kV:Key->V
 | .inl i=>.int i
 | .inr x=>.str x
inductive HO where
 /-- a list -/
 | lst (xs:List V)
 /-- a tuple (never changes) -/
 | tup (xs:List V)
 /-- a dict whose keys are ints and texts;one whose keys are tuples of ints and texts (the empty one is both) -/
 | dK (kvs:List (Key×V)) | dT (kvs:List (List Key×V))
 /-- a set of ints: its members,its size -/
 | set (S:Int->Bool) (n:Nat)
 /-- an instance of the class at C,its dict at dx,its attributes -/
 | ins (C dx:Addr) (fs:List (Str×V))
 /-- the dict of the instance at x -/
 | own (x:Addr)
 /-- the dict of an exception -/
 | xd (fs:List (Str×V))
 /-- a bound method,f of x -/
 | met (f x:Addr)
 /-- a range object lo,lo+1,.. below hi -/
 | rng (lo hi:Int)
 /-- a thing that is known to the object (the script;a dict while a loop walks it): read,never written while it is so -/
 | frz (o:Obj) (u:HO)
 /-- a code object's table -/
 | tbl (ps:Array Value)
 /-- any other thing,by what is true of its one object (a def of one's own: SetO a S n:=HO.ext fun h=>..) -/
 | ext (φ:Heap->Prop)
noncomputable abbrev Hp:=Addr->Option HO
noncomputable def upd (H:Hp) (a:Addr) (o:HO):Hp:=fun b=>if b=a then some o else H b
theorem qb:upd H a o a=some o:=by unfold upd;rw [yD rfl]
theorem qe (h:b≠a):upd H a o b=H b:=by unfold upd;rw [yy h]
theorem jO {u:HO} (h:H a=some o) (h':H b=some u) (d:o≠u):a≠b:=by
 intro e;subst e;rw [h] at h';exact d (ym h')
theorem qm (h:H a=some o) (h':H b=none):a≠b:=by
 intro e;subst e;rw [h] at h';cases h'
section
variable (P:Program) (w:World)
def ObjOk (H:Hp) (h:Heap) (a:Addr):HO->Prop
 | .lst xs=>xs.length<=sizeLine/\∃ (b:List Value) (n:Nat),Vals xs b/\h.get? a=some { cls:=.type "list",data:=.seq b.toArray n }
 | .tup xs=>xs.length<=sizeLine/\∃ b:List Value,Vals xs b/\IsTup h a b.toArray
 | .dK kvs=>kvs.length<=sizeLine/\(a==sysModules)=false/\∃ vs,KV kvs vs/\h.DictOf (jx P w) a vs
 | .dT kvs=>kvs.length<=sizeLine/\(a==sysModules)=false/\∃ xs:List (List Key×Addr×Value),
   Paired (fun (p:List Key×V) (q:List Key×Addr×Value)=>p.1=q.1/\H q.2.1=some (.tup (p.1.map kV))/\RelV p.2 q.2.2) kvs xs /\
   ∃ o es ep,h.get? a=some o/\o.ExactDict/\o.data=.dict es ep/\es.toList=xs.map (entryOfKey (tupleKind (jx P w)))/\(xs.map (·.1)).Nodup
 | .set S n=>h.SetOf (intKind P w) a S n
 | .ins C dx fs=>H dx=some (.own a)/\fs.length<=1000/\dx≠a/\h.get? a=some (PySem.W.instObj C dx) /\
   ∃ mA,h.Ns1 dx mA/\(∀ f,RelO (fs.lookup f) (mA f))/\PySem.Within mA (fs.map (·.1))
 | .own _=>∃ o,h.get? a=some o
 | .xd fs=>∃ mA,h.Ns1 a mA/\∀ f,RelO (fs.lookup f) (mA f)
 | .rng lo hi=>∃ t u v,h.get? a=some { cls:=.type "range",data:=.fields #[.int lo t,.int hi u,.int 1 v] }
 | .frz o u=>h.get? a=some o/\ObjOk H h a u
 | .tbl ps=>h.get? a=some { cls:=.none,data:=.fields ps }
 | .met f x=>h.get? a=some (PySem.W.methodObj (.ref f) (.ref x))
 | .ext φ=>φ h/\(∃ o,h.get? a=some o)/\∀ h1 c:Heap,φ h1->(∀ o,h1.get? a=some o->c.get? a=some o)->φ c
def HOk (H:Hp) (h:Heap):Prop:=∀ a o,H a=some o->ObjOk P w H h a o
end
section
variable {P:Program} {w:World} {H H':Hp} {h h':Heap} {a:Addr} {o:HO}
theorem ObjOk.lt (x:ObjOk P w H h a o):a<h.objs.size:=by
 cases o with
 | lst xs=>obtain ⟨_,_,_,_,e⟩:=x;exact yQ e
 | tup xs=>obtain ⟨_,_,_,p⟩:=x;exact p.lt
 | dK kvs=>obtain ⟨_,_,_,_,o,_,_,e,_⟩:=x;exact yQ e
 | dT kvs=>obtain ⟨_,_,_,_,o,_,_,e,_⟩:=x;exact yQ e
 | set S n=>obtain ⟨o,_,_,_,e,_⟩:=x;exact yQ e
 | ins C dx fs=>obtain ⟨_,_,_,e,_⟩:=x;exact yQ e
 | own y=>obtain ⟨_,e⟩:=x;exact yQ e
 | xd fs=>obtain ⟨_,⟨_,_,_,e,_⟩,_⟩:=x;exact yQ e
 | rng lo hi=>obtain ⟨_,_,_,e⟩:=x;exact yQ e
 | frz ob u=>obtain ⟨e,_⟩:=x;exact yQ e
 | tbl ps=>exact yQ (show h.get? a=some _ from x)
 | met f y=>exact yQ (show h.get? a=some _ from x)
 | ext φ=>obtain ⟨_,⟨_,e⟩,_⟩:=x;exact yQ e
theorem Paired.mapP {d:Type} {F G:α->d->Prop}:∀ {l₁:List α} {c:List d},Paired F l₁ c->(∀ a b,F a b->G a b)->Paired G l₁ c
 | _,_,.nil,_=>.nil
 | _,_,.cons r t,f=>.cons (f _ _ r) (Paired.mapP t f)
theorem ObjOk.stay (x:ObjOk P w H h a o) (k:∀ b u,(b=a\/H b=some (.own a))->h.get? b=some u->h'.get? b=some u)
  (l:∀ b,H b=some (.own a)->H' b=some (.own a)) (m:∀ b xs,H b=some (.tup xs)->H' b=some (.tup xs)):ObjOk P w H' h' a o:=by
 induction o with
 | lst xs=>obtain ⟨z,i,n,r,e⟩:=x;exact ⟨z,i,n,r,k _ _ (.inl rfl) e⟩
 | tup xs=>obtain ⟨z,i,r,g,e,c⟩:=x;exact ⟨z,i,r,g,k _ _ (.inl rfl) e,c⟩
 | dK kvs=>obtain ⟨z,y,vs,r,g,es,ep,e,c⟩:=x;exact ⟨z,y,vs,r,g,es,ep,k _ _ (.inl rfl) e,c⟩
 | dT kvs =>
  obtain ⟨z,y,xs,r,g,es,ep,e,c⟩:=x;exact ⟨z,y,xs,Paired.mapP r fun p q z=>⟨z.1,m _ _ z.2.1,z.2.2⟩,g,es,ep,k _ _ (.inl rfl) e,c⟩
 | set S n=>obtain ⟨g,es,ep,t,e,c⟩:=x;exact ⟨g,es,ep,t,k _ _ (.inl rfl) e,c⟩
 | ins C dx fs =>
  obtain ⟨d,z,ne,e,mA,⟨od,es,ep,j,c⟩,r⟩:=x;exact ⟨l _ d,z,ne,k _ _ (.inl rfl) e,mA,⟨od,es,ep,k _ _ (.inr d) j,c⟩,r⟩
 | own y=>obtain ⟨g,e⟩:=x;exact ⟨g,k _ _ (.inl rfl) e⟩
 | xd fs=>obtain ⟨mA,⟨od,es,ep,e,c⟩,r⟩:=x;exact ⟨mA,⟨od,es,ep,k _ _ (.inl rfl) e,c⟩,r⟩
 | rng lo hi=>obtain ⟨t,u,v,e⟩:=x;exact ⟨t,u,v,k _ _ (.inl rfl) e⟩
 | frz g u ih=>obtain ⟨e,q⟩:=x;exact ⟨k _ _ (.inl rfl) e,ih q⟩
 | tbl ps =>
  have e:h.get? a=some { cls:=.none,data:=.fields ps }:=x;show h'.get? a=some { cls:=.none,data:=.fields ps };exact k a _ (.inl rfl) e
 | met f y =>
  have e:h.get? a=some (PySem.W.methodObj (.ref f) (.ref y)):=x;show h'.get? a=some (PySem.W.methodObj (.ref f) (.ref y));exact k a _ (.inl rfl) e
 | ext φ=>obtain ⟨p,⟨o,e⟩,st⟩:=x;exact ⟨st _ _ p fun o q=>k _ _ (.inl rfl) q,⟨o,k _ _ (.inl rfl) e⟩,st⟩
theorem HOk.lt (x:HOk P w H h) (e:H a=some o):a<h.objs.size:=(x a o e).lt
theorem HOk.fresh (x:HOk P w H h) (e:h.objs.size<=a):H a=none:=by
 cases q:H a with
 | none=>rfl
 | some u=>exact absurd (yj (x.lt q) e) (Yw _)
theorem HOk.kept (x:HOk P w H h) (k:∀ b u,h.get? b=some u->h'.get? b=some u):HOk P w H h':=fun a o e =>
 (x a o e).stay (fun b u _ q=>k b u q) (fun _ q=>q) fun _ _ q=>q
theorem HOk.laid (x:HOk P w H h) (k:∀ b u,h.get? b=some u->h'.get? b=some u) (f:h.objs.size<=a) (new:ObjOk P w (upd H a o) h' a o):HOk P w (upd H a o) h':=fun b u e=>by
 have d:=x.fresh f;by_cases hb:b=a
 .subst hb;rw [qb] at e;cases e;exact new
 .rw [qe hb] at e;exact (x b u e).stay (fun c v _ q=>k c v q) (fun c q=>by rw [qe (qm q d)];exact q) fun c xs q=>by rw [qe (qm q d)];exact q
end
def Rd (H:Hp) (a:Addr) (u:HO):Prop:=H a=some u\/∃ o,H a=some (.frz o u)
theorem Rd.ok {u:HO} (r:Rd H a u) (x:HOk P w H h):ObjOk P w H h a u:=by
 rcases r with r | ⟨o,r⟩
 .exact x a u r
 .obtain ⟨_,q⟩:=x a _ r;exact q
def Mut:Option HO->Prop
 | some (.lst _)=>True
 | some (.dK _)=>True
 | some (.dT _)=>True
 | some (.set _ _)=>True
 | some (.ins _ _ _)=>True
 | some (.ext _)=>True
 | _=>False
section
variable {P:Program} {w:World} {H:Hp} {h h':Heap} {x e:Addr} {o':HO}
theorem HOk.write (ok:HOk P w H h) (g:Mut (H x)) (j:e=x\/H e=some (.own x)) (k:∀ b u,b≠e->h.get? b=some u->h'.get? b=some u) (i:∃ u,h'.get? e=some u)
  (new:ObjOk P w (upd H x o') h' x o'):HOk P w (upd H x o') h':=fun b u q=>by
 have d:∀ c y,H c=some (.own y)->c≠x:=fun c y r z=>by subst z;rw [r] at g;exact g
 have f:∀ c xs,H c=some (.tup xs)->c≠x:=fun c xs r z=>by subst z;rw [r] at g;exact g
 by_cases hb:b=x
 .subst hb;rw [qb] at q;cases q;exact new
 .rw [qe hb] at q;by_cases a:b=e
  .have l:H b=some (.own x):=by
    rcases j with z | z
    .exact absurd (a.trans z) hb
    .rw [a];exact z
   rw [q] at l;cases l;obtain ⟨v,hv⟩:=i;exact ⟨v,by rw [a];exact hv⟩
  .refine (ok b u q).stay (fun c v hc r=>k c v ?_ r) (fun c r=>by rw [qe (d c b r)];exact r) fun c xs r=>by rw [qe (f c xs r)];exact r
   rcases hc with rfl | hc
   .exact a
   .rintro rfl;rcases j with z | z
    .exact d c b hc z
    .rw [hc] at z;cases z;exact hb rfl
end
structure Un (fs ex:List Addr) (H H':Hp) (h h':Heap):Prop where
 keep:∀ b o,h.get? b=some o->H b=none->b∉fs->b∉ex->h'.get? b=some o
 slot:∀ b o,h.get? b=some o->H b=none->b∈fs->b∉ex->∃ sl,h'.get? b=some { o with slots:=sl }
 free:∀ b o,h.get? b=some o->H b=none->b∉ex->H' b=none
 there:∀ b o,h.get? b=some o->b∉ex->∃ o',h'.get? b=some o'
 tups:∀ b xs,H b=some (.tup xs)->H' b=some (.tup xs)
 frzs:∀ b o u,H b=some (.frz o u)->H' b=some (.frz o u)
 tbls:∀ b ps,H b=some (.tbl ps)->∃ more,H' b=some (.tbl (ps++more))
section
variable {fs fs' ex ex':List Addr} {H H1 H2:Hp} {h h1 h2 h':Heap} {a x e:Addr} {o:HO}
theorem Un.any (u:Un fs ex H H1 h h1) {a:Obj} (q:h.get? b=some a) (n:H b=none) (c:b∉ex):∃ d,h1.get? b=some { a with slots:=d }:=by
 by_cases hb:b∈fs
 .exact u.slot b a q n hb c
 .exact ⟨a.slots,u.keep b a q n hb c⟩
theorem Un.kept (k:∀ b u,h.get? b=some u->h'.get? b=some u):Un fs ex H H h h':=
 ⟨fun b a q _ _ _=>k b a q,fun b a q _ _ _=>⟨a.slots,k b a q⟩,fun _ _ _ n _=>n,fun b a q _=>⟨a,k b a q⟩,fun _ _ q=>q,fun _ _ _ q=>q,fun _ ps q=>⟨#[],by rw [q];simp⟩⟩
theorem Un.refl:Un fs ex H H h h:=Un.kept fun _ _ q=>q
theorem Un.laid (k:∀ b u,h.get? b=some u->h'.get? b=some u) (d:h.objs.size<=a) (c:H a=none):Un fs ex H (upd H a o) h h' where
 keep:=fun b u q _ _ _=>k b u q
 slot:=fun b u q _ _ _=>⟨u.slots,k b u q⟩
 free:=fun b u q n _=>by rw [qe (yI (yj (yQ q) d))];exact n
 there:=fun b u q _=>⟨u,k b u q⟩
 tups:=fun b xs q=>by rw [qe (qm q c)];exact q
 frzs:=fun b u xs q=>by rw [qe (qm q c)];exact q
 tbls:=fun b ps q=>⟨#[],by rw [qe (qm q c),q];simp⟩
theorem Un.write (c:Mut (H x)) (i:e=x\/H e=some (.own x)) (k:∀ b u,b≠e->h.get? b=some u->h'.get? b=some u) (d:∃ u,h'.get? e=some u):Un fs ex H (upd H x o) h h':=by
 have g:∀ b,H b=none->b≠x:=fun b n z=>by subst z;rw [n] at c;exact c
 have hb:∀ b,H b=none->b≠e:=fun b n z=>by
  subst z;rcases i with r | r
  .exact g b n r
  .rw [n] at r;cases r
 have f:∀ b u,H b=some u->¬ Mut (some u)->b≠x:=fun b u q j z=>by subst z;rw [q] at c;exact j c
 refine ⟨fun b u q n _ _=>k b u (hb b n) q,fun b u q n _ _=>⟨u.slots,k b u (hb b n) q⟩,fun b u q n _=>by rw [qe (g b n)];exact n,fun b u q _=>?_,
  fun b xs q=>by rw [qe (f b _ q fun z=>z)];exact q,fun b u xs q=>by rw [qe (f b _ q fun z=>z)];exact q,fun b ps q=>⟨#[],by rw [qe (f b _ q fun z=>z),q];simp⟩⟩
 by_cases a:b=e
 .subst a;exact d
 .exact ⟨u,k b u a q⟩
end
noncomputable def trk (h:Heap) (H:Hp):List Addr:=(List.range h.objs.size).filter fun a=>(H a).isSome
noncomputable def qeU (h:Heap) (H:Hp):Heap:=PySem.W.hideAll h (trk h H)
theorem hidT_size (h:Heap) (H:Hp):(qeU h H).objs.size=h.objs.size:=PySem.W.hideAll_size _ _
theorem hidT_get {o:Obj} (e:h.get? b=some o) (n:H b=none):(qeU h H).get? b=some o:=
 PySem.W.hideAll_get _ e fun a=>by
  have q:(H b).isSome=true:=(yp.mp a).2;rw [n] at q;simp at q
theorem of_hidT {o:Obj} (e:(qeU h H).get? b=some o):h.get? b=some o/\H b=none:=by
 have a:h.get? b=some o:=PySem.W.of_hideAll (trk h H) e;refine ⟨a,?_⟩
 cases q:H b with
 | none=>rfl
 | some x =>
  have c:b∈trk h H:=yp.mpr ⟨YJ.mpr (yQ a),by simp [q]⟩;have z:(qeU h H).get? b=none:=PySem.W.hideAll_none (trk h H) c;rw [z] at e;cases e
noncomputable def allNews (g h:Heap) (L:Addr):List (Addr×Obj):=(List.range h.objs.size).filterMap fun a=>if a=L\/(g.get? a).isSome=true then none else (h.get? a).map fun o=>(a,o)
noncomputable def qd1 (g h:Heap) (L d:Addr):List (Addr×Obj):=(allNews g h L).filter fun p=>decide (p.1≠d)
structure Mod (K:yg) (mg:Str->Option Value) (base:Heap):Prop where
 kin:K.In base
 glob:base.Ns mainGlobals mg
 blt:∃ mb,base.Ns builtinsNs mb/\∀ x:Str,x≠"__name__"->mb x=bootBuiltins x
 nolimit:base.NoLimit
structure Cx where
 prog:Program
 w:World
 K:yg
 mg:Str->Option Value
 base:Heap
 A:Around
 N:List Str
 s₀:Shared
 H₀:Hp
 env:Env
 outer:List Env
 stack:List Env
 ex:List Addr
 fn:Str->Bool
 calm:Bool
 pn:List (Addr×Obj)
 xe:Value->Shared->Prop
noncomputable def frs (l:List Env):List Addr:=l.filterMap (·.frame)
noncomputable abbrev Cx.fs (X:Cx):List Addr:=frs X.outer
def Vis (sc:Scope) (x:Str):Prop:=sc.names.lookup x=some .local\/sc.names.lookup x=some .cell\/sc.names.lookup x=some .free
def Loc (sc:Scope) (x:Str):Prop:=sc.names.lookup x=some .local\/sc.names.lookup x=some .cell
def Look (env:Env) (h:Heap) (m:Str->Option Value) (x:Str) (u:Value):Prop:=
 (env.kindOf x=some .local/\m x=some u)\/((env.kindOf x=some .cell\/env.kindOf x=some .free)/\∃ c,env.cells.lookup x=some c/\h.IsCell c (some u))
structure Cx.Ok (X:Cx):Prop where
 mod:Mod X.K X.mg X.base
 kind:X.env.scope.kind=.function
 glob:X.env.globals=mainGlobals
 blt:X.env.builtins=builtinsNs
 above:X.s₀.heap.objs.size<=X.env.locals
 inj:∀ x y c,X.env.cells.lookup x=some c->X.env.cells.lookup y=some c->x=y
 has:∀ x,(X.env.kindOf x=some .cell\/X.env.kindOf x=some .free)->∃ c,X.env.cells.lookup x=some c
 cab:∀ x c,X.fn x=true->X.env.cells.lookup x=some c->X.s₀.heap.objs.size<=c
 hd:X.calm=true->X.A.handled=none
 frames:X.A.frames=some X.stack
 stk:X.stack=X.outer\/(X.stack=X.env::X.outer/\X.env.frame=some X.env.locals)
 exf:∀ b∈X.ex,b≠X.env.locals/\∀ x c,X.env.cells.lookup x=some c->c≠b
 bs:∀ b o,X.base.get? b=some o->X.s₀.heap.get? b=some o/\X.H₀ b=none
 bsz:X.base.objs.size<=X.s₀.heap.objs.size
 noex:∀ b o,X.base.get? b=some o->b∉X.ex
 exfs:∀ b∈X.ex,b∉X.fs
 funs:X.s₀.heap.FunFrames X.base X.outer
 frf:∀ b∈X.fs,X.H₀ b=none
structure Inv (X:Cx) (pins:List (Addr×Obj)) (σ:List (Option V)) (H:Hp) (s:Shared):Prop where
 ok:X.Ok
 os:s.os=X.s₀.os
 bare:AllBare s.gens
 base:Un X.fs X.ex X.H₀ H X.s₀.heap s.heap
 loc:∃ m,s.heap.Ns X.env.locals m/\∀ (i:Nat) (x:Str) (v:V),X.N[i]?=some x->σ[i]?=some (some v)->Vis X.env.scope x->∃ u,RelV v u/\Look X.env s.heap m x u
 cell:∀ x c,X.env.cells.lookup x=some c->∃ v,s.heap.IsCell c v
 free:H X.env.locals=none
 freeC:∀ x c,X.env.cells.lookup x=some c->H c=none
 pin:∀ p∈X.pn++pins,s.heap.get? p.1=some p.2/\H p.1=none/\p.1≠X.env.locals/\p.1∉X.fs/\∀ v,p.2.data≠.cell v
 hok:HOk X.prog X.w H s.heap
 len:σ.length=X.N.length
section
variable {X:Cx} {pins:List (Addr×Obj)} {σ:List (Option V)} {H H':Hp} {s:Shared} {h':Heap}
theorem Cx.Ok.nofr (ok:X.Ok) {o:Obj} (e:X.base.get? b=some o):b∉X.fs:=fun hb=>by
 have:=(ok.funs.mem hb).1;rw [e] at this;cases this
theorem Inv.bs (I:Inv X pins σ H s):∀ b o,X.base.get? b=some o->s.heap.get? b=some o/\H b=none:=fun b o e =>
 ⟨I.base.keep b o (I.ok.bs b o e).1 (I.ok.bs b o e).2 (I.ok.nofr e) (I.ok.noex b o e),I.base.free b o (I.ok.bs b o e).1 (I.ok.bs b o e).2 (I.ok.noex b o e)⟩
theorem Inv.bk (I:Inv X pins σ H s):∀ b o,X.base.get? b=some o->s.heap.get? b=some o:=fun b o e=>(I.bs b o e).1
theorem Inv.mod (I:Inv X pins σ H s):Mod X.K X.mg X.base:=I.ok.mod
theorem Inv.kIn (I:Inv X pins σ H s):X.K.In s.heap:=I.ok.mod.kin.keeps I.bk
theorem Inv.lt (I:Inv X pins σ H s):X.env.locals<s.heap.objs.size:=let ⟨_,hn,_⟩:=I.loc;hn.lt
theorem Inv.sz (I:Inv X pins σ H s):X.s₀.heap.objs.size<=s.heap.objs.size:=yi I.ok.above (yX I.lt)
theorem Inv.nofs (I:Inv X pins σ H s) (h:s.heap.objs.size<=a):a∉X.fs:=fun hb=>by
 obtain ⟨_,o,b,_⟩:=I.ok.funs.mem hb;exact absurd (yj (yQ b) (yi I.sz h)) (Yw _)
theorem Inv.cne (I:Inv X pins σ H s):∀ x c,X.env.cells.lookup x=some c->c≠X.env.locals:=fun x c e z=>by
 obtain ⟨v,o,f,d⟩:=I.cell x c e;obtain ⟨m,⟨g,es,ep,b,a,_⟩,_⟩:=I.loc;rw [z,b] at f;cases f;rw [a] at d;cases d
theorem Inv.funs (I:Inv X pins σ H s):s.heap.FunFrames X.base X.outer:=by
 have all:∀ (l:List Env),(∀ b∈frs l,b∈X.fs)->X.s₀.heap.FunFrames X.base l->s.heap.FunFrames X.base l:=by
  intro l
  induction l with
  | nil=>intro _ _;trivial
  | cons env r ih =>
   intro d hl;obtain ⟨g,⟨L,o,c,h,i,f⟩,j⟩:=hl;have a:L∈X.fs:=d L (by unfold frs;rw [Xh,c];exact yN);obtain ⟨m,e⟩:=I.base.slot L o i (I.ok.frf L a) a fun z=>I.ok.exfs L z a;exact ⟨g,⟨L,_,c,h,e,f⟩,ih (fun b hb=>d b (by unfold frs;rw [Xh,c];exact yz _ hb)) j⟩
 exact all X.outer (fun _ hb=>hb) I.ok.funs
theorem Inv.stack (I:Inv X pins σ H s):s.heap.FunFrames X.base X.stack:=by
 rcases I.ok.stk with e | ⟨e,hf⟩
 .rw [e];exact I.funs
 .rw [e];obtain ⟨m,a,_⟩:=I.loc;refine .cons (by rw [I.ok.kind];decide) hf a ?_ I.funs;exact Heap.get?_none_of_le (yi I.ok.bsz I.ok.above)
theorem Inv.stkSub (I:Inv X pins σ H s):∀ b∈frs X.stack,b∈X.env.locals::X.fs:=fun b hb=>by
 rcases I.ok.stk with e | ⟨e,hf⟩
 .rw [e] at hb;exact yz _ hb
 .rw [e] at hb;unfold frs at hb;rw [Xh,hf] at hb;exact hb
theorem Inv.stkFree (I:Inv X pins σ H s):∀ b∈frs X.stack,H b=none:=fun b hb=>by
 rcases yB.mp (I.stkSub b hb) with e | hb
 .rw [e];exact I.free
 .obtain ⟨_,o,a,_⟩:=I.ok.funs.mem hb;exact I.base.free b o a (I.ok.frf b hb) fun z=>I.ok.exfs b z hb
theorem Inv.step (I:Inv X pins σ H s)
  (f:∀ b∈ch,(b∈X.ex\/X.s₀.heap.objs.size<=b)/\b≠X.env.locals/\(∀ x c,X.env.cells.lookup x=some c->c≠b)/\∀ p∈X.pn++pins,p.1≠b)
  (keep:∀ b o,b≠X.env.locals->b∉X.fs->b∉ch->s.heap.get? b=some o->H b=none->h'.get? b=some o)
  (y:∀ b o,b≠X.env.locals->b∈X.fs->b∉ch->s.heap.get? b=some o->H b=none->∃ M,h'.get? b=some { o with slots:=M }) (free:∀ b o,b∉ch->s.heap.get? b=some o->H b=none->H' b=none)
  (A:∀ b o,b∉ch->s.heap.get? b=some o->∃ F,h'.get? b=some F)
  (J:∀ b xs,H b=some (.tup xs)->H' b=some (.tup xs)) (D:∀ b o u,H b=some (.frz o u)->H' b=some (.frz o u)) (G:∀ b ps,H b=some (.tbl ps)->∃ more,H' b=some (.tbl (ps++more)))
  (ns:∀ m,s.heap.Ns X.env.locals m->h'.Ns X.env.locals m) (L:HOk X.prog X.w H' h') (S:AllBare g') :
  Inv X pins σ H' { s with heap:=h',gens:=g',drawn:=d',toks:=t' }:=by
 have E:∀ b o,X.s₀.heap.get? b=some o->b≠X.env.locals:=fun b o e=>yI (yj (yQ e) I.ok.above)
 have j:∀ b o,X.s₀.heap.get? b=some o->b∉X.ex->b∉ch:=fun b o e a hb=>by
  rcases (f b hb).1 with z | z
  .exact a z
  .exact absurd (yj (yQ e) z) (Yw _)
 have cellK:∀ x c,X.env.cells.lookup x=some c->∀ v,s.heap.IsCell c v->h'.IsCell c v:=fun x c e v ⟨o,B,K⟩=>by
  have g:c∉ch:=fun z=>(f c z).2.2.1 x c e rfl;by_cases hc:c∈X.fs
  .obtain ⟨M,q⟩:=y c o (I.cne x c e) hc g B (I.freeC x c e);exact ⟨_,q,K⟩
  .exact ⟨o,keep c o (I.cne x c e) hc g B (I.freeC x c e),K⟩
 refine ⟨I.ok,I.os,S,⟨fun b o e n hb a=>?_,fun b o e n hb a=>?_,fun b o e n a=>?_,fun b o e a=>?_,fun b xs e=>J b xs (I.base.tups b xs e),fun b o xs e=>D b o xs (I.base.frzs b o xs e),fun b ps e=>?_⟩,?_,fun x c e=>?_,?_,fun x c e=>?_,fun p O=>?_,L,I.len⟩
 .exact keep b o (E b o e) hb (j b o e a) (I.base.keep b o e n hb a) (I.base.free b o e n a)
 .obtain ⟨M,h⟩:=I.base.slot b o e n hb a;obtain ⟨N,C⟩:=y b _ (E b o e) hb (j b o e a) h (I.base.free b o e n a);exact ⟨N,C⟩
 .obtain ⟨F,h⟩:=I.base.there b o e a;exact free b F (j b o e a) h (I.base.free b o e n a)
 .obtain ⟨F,h⟩:=I.base.there b o e a;exact A b F (j b o e a) h
 .obtain ⟨U,h⟩:=I.base.tbls b ps e;obtain ⟨W,C⟩:=G b _ h;exact ⟨U++W,by rw [C,Array.append_assoc]⟩
 .obtain ⟨m,T,hl⟩:=I.loc;refine ⟨m,ns m T,fun i x v h C R=>?_⟩;obtain ⟨u,r,l⟩:=hl i x v h C R;refine ⟨u,r,?_⟩;rcases l with l | ⟨k,c,e,z⟩
  .exact .inl l
  .exact .inr ⟨k,c,e,cellK x c e _ z⟩
 .obtain ⟨v,z⟩:=I.cell x c e;exact ⟨v,cellK x c e v z⟩
 .obtain ⟨m,⟨o,_,_,B,_⟩,_⟩:=I.loc;exact free _ o (fun z=>(f _ z).2.1 rfl) B I.free
 .obtain ⟨v,o,B,K⟩:=I.cell x c e;exact free c o (fun z=>(f c z).2.2.1 x c e rfl) B (I.freeC x c e)
 .obtain ⟨e,n,ne,P,d⟩:=I.pin p O;have g:p.1∉ch:=fun z=>(f p.1 z).2.2.2 p O rfl;exact ⟨keep p.1 p.2 ne P g e n,free p.1 p.2 g e n,ne,P,d⟩
theorem Inv.un (I:Inv X pins σ H s) (u:Un X.fs [] H H' s.heap h') (f:HOk X.prog X.w H' h'):Inv X pins σ H' { s with heap:=h',toks:=t' }:=by
 obtain ⟨m,⟨o,es,ep,g,r⟩,_⟩:=id I.loc;obtain ⟨p,h⟩:=u.any g I.free (by simp)
 exact I.step (g':=s.gens) (d':=s.drawn) (ch:=[]) (fun _ z=>nomatch z) (fun b o _ hb _ e n=>u.keep b o e n hb (by simp)) (fun b o _ hb _ e n=>u.slot b o e n hb (by simp)) (fun b o _ e n=>u.free b o e n (by simp)) (fun b o _ e=>u.there b o e (by simp)) u.tups u.frzs u.tbls (fun j i=>by
  obtain ⟨l,d,c,a,r'⟩:=i;rw [g] at a;cases a;exact ⟨_,d,c,h,r'⟩) f I.bare
theorem Inv.call (I:Inv X pins σ H s) (u:Un (frs X.stack) ch H H' s.heap h') (i:HOk X.prog X.w H' h') (l:AllBare g')
  (a:∀ b∈ch,(b∈X.ex\/X.s₀.heap.objs.size<=b)/\b≠X.env.locals/\(∀ x c,X.env.cells.lookup x=some c->c≠b)/\∀ p∈X.pn++pins,p.1≠b) :
  Inv X pins σ H' { s with heap:=h',gens:=g',drawn:=d',toks:=t' }:=by
 obtain ⟨m,⟨o,es,ep,j,r⟩,_⟩:=id I.loc;obtain ⟨A,h⟩:=u.any j I.free fun z=>(a _ z).2.1 rfl
 exact I.step (ch:=ch) a (fun b o h hb hc e n=>u.keep b o e n (fun z=>(yB.mp (I.stkSub b z)).elim h hb) hc) (fun b o _ _ hc e n=>u.any e n hc) (fun b o hc e n=>u.free b o e n hc) (fun b o hc e=>u.there b o e hc) u.tups u.frzs u.tbls (fun v q=>by
  obtain ⟨y,g,f,d,r'⟩:=q;rw [j] at d;cases d;exact ⟨_,g,f,h,r'⟩) i l
theorem Inv.turned (I:Inv X pins σ H s) (k:∀ b o,b≠it->s.heap.get? b=some o->h'.get? b=some o) (i:H it=none) (d:it≠X.env.locals)
  (h1:it∈X.ex\/X.s₀.heap.objs.size<=it) (f:∀ x c,X.env.cells.lookup x=some c->c≠it) (g:∀ p∈X.pn++pins,p.1≠it):Inv X pins σ H { s with heap:=h',toks:=t' }:=by
 have a:∀ b u,H b=some u->b≠it:=fun b u e z=>by rw [z,i] at e;cases e
 refine I.step (g':=s.gens) (d':=s.drawn) (ch:=[it]) (fun b hb=>?_) (fun b o _ _ hc e _=>k b o (fun z=>hc (by simp [z])) e) (fun b o _ _ hc e _=>⟨o.slots,k b o (fun z=>hc (by simp [z])) e⟩) (fun _ _ _ _ n=>n)
  (fun b o hc e=>⟨o,k b o (fun z=>hc (by simp [z])) e⟩) (fun _ _ e=>e) (fun _ _ _ e=>e) (fun b ps e=>⟨#[],by rw [e];simp⟩) (fun m h=>?_) (fun b u e=>?_) I.bare
 .have e:b=it:=by simpa using hb
  subst e;exact ⟨h1,d,f,g⟩
 .obtain ⟨o,es,ep,j,r⟩:=h;exact ⟨o,es,ep,k _ o (Yh d) j,r⟩
 .refine (I.hok b u e).stay (fun c v hc q=>k c v ?_ q) (fun _ q=>q) fun _ _ q=>q;rcases hc with z | z
  .rw [z];exact a b u e
  .exact a c _ z
theorem Inv.tok (I:Inv X pins σ H s) (t:Nat):Inv X pins σ H { s with toks:=t }:=I.un (h':=s.heap) (t':=t) Un.refl I.hok
theorem Inv.kept (I:Inv X pins σ H s) (k:∀ b u,s.heap.get? b=some u->h'.get? b=some u):Inv X pins σ H { s with heap:=h',toks:=t' }:=I.un (Un.kept k) (I.hok.kept k)
theorem Inv.laid (I:Inv X pins σ H s) (k:∀ b u,s.heap.get? b=some u->h'.get? b=some u) (c:s.heap.objs.size<=a) (new:ObjOk X.prog X.w (upd H a o) h' a o) :
  Inv X pins σ (upd H a o) { s with heap:=h',toks:=t' }:=I.un (Un.laid k c (I.hok.fresh c)) (I.hok.laid k c new)
theorem Inv.write {x e:Addr} (I:Inv X pins σ H s) (d:Mut (H x)) (c:e=x\/H e=some (.own x)) (k:∀ b u,b≠e->s.heap.get? b=some u->h'.get? b=some u) (a:∃ u,h'.get? e=some u)
  (new:ObjOk X.prog X.w (upd H x o) h' x o):Inv X pins σ (upd H x o) { s with heap:=h',toks:=t' }:=I.un (Un.write d c k a) (I.hok.write d c k a new)
theorem Inv.weak {a:List (Option V)} (I:Inv X pins σ H s) (hl:a.length=σ.length) (w:∀ (i:Nat) v,a[i]?=some (some v)->σ[i]?=some (some v)):Inv X pins a H s:=
 ⟨I.ok,I.os,I.bare,I.base,let ⟨m,hn,hl'⟩:=I.loc;⟨m,hn,fun i x v b c d=>hl' i x v b (w i v c) d⟩,I.cell,I.free,I.freeC,I.pin,I.hok,hl.trans I.len⟩
theorem Inv.pins_of {pins':List (Addr×Obj)} (I:Inv X pins σ H s) (h:∀ p∈pins',s.heap.get? p.1=some p.2/\H p.1=none/\p.1≠X.env.locals/\p.1∉X.fs/\∀ v,p.2.data≠.cell v):Inv X pins' σ H s:=
 ⟨I.ok,I.os,I.bare,I.base,I.loc,I.cell,I.free,I.freeC,fun p a=>(yE.mp a).elim (fun z=>I.pin p (yH _ z)) (h p),I.hok,I.len⟩
theorem qdn (e:N.Nodup) (a:N[i]?=some x) (b:N[j]?=some x):i=j:=by
 obtain ⟨h1,c⟩:=yc.mp a;obtain ⟨f,d⟩:=yc.mp b;exact (List.getElem_inj e).mp (c.trans d.symm)
theorem qck {Q:Unit->Shared->Prop} (I:Inv X pins σ H s) (hN:X.N.Nodup) (P:X.N[i]?=some x) (B:Loc X.env.scope x) (r:RelV v u)
  (h:∀ s',Inv X pins (σ.set i (some v)) H s'->(∃ a,Heap.SameBut a s.heap s'.heap/\(a=X.env.locals\/X.env.cells.lookup x=some a))->Q () s') (hf:X.fn x=true\/X.env.scope.names.lookup x=some .local:=by first | exact .inl rfl | exact .inr rfl | assumption):wpAny M A (storeName X.env x u) Q E s:=by
 obtain ⟨m,Y,hl⟩:=id I.loc;have O:(X.env.scope.kind==.class||(X.env.scope.kind==.module&&X.env.locals != X.env.globals))=false:=by rw [I.ok.kind];rfl
 have F:i<σ.length:=by rw [I.len];exact (yc.mp P).1
 have cne:=I.cne
 have l:∀ {a:Addr} {h':Heap},(∃ o,s.heap.get? a=some o/\H a=none)->Heap.SameBut a s.heap h'->HOk X.prog X.w H h':=fun {a h'} ha f b ob e=>by
  obtain ⟨_,_,C⟩:=ha;refine (I.hok b ob e).stay (fun c U hc q=>(f.2 c ?_).trans q) (fun _ q=>q) fun _ _ q=>q;rintro rfl;rcases hc with rfl | hc
  .rw [C] at e;cases e
  .rw [C] at hc;cases hc
 rcases B with hk | hk
 .refine wpAny_storeName_local hk Y (fun h' Z f=>?_) O;obtain ⟨oL,_,_,aa,_⟩:=id Y;refine h _ ⟨I.ok,I.os,I.bare,⟨fun b o e n hb B=>?_,fun b o e n hb B=>?_,I.base.free,fun b o e B=>?_,I.base.tups,I.base.frzs,I.base.tbls⟩,⟨_,Z,fun j y v' g D W=>?_⟩,fun y c e=>?_,I.free,I.freeC,fun p hp=>?_,l ⟨oL,aa,I.free⟩ f,by simpa using I.len⟩ ⟨_,f,.inl rfl⟩
  .exact (f.2 b (yI (yj (yQ e) I.ok.above))).trans (I.base.keep b o e n hb B)
  .obtain ⟨sl,g⟩:=I.base.slot b o e n hb B;exact ⟨sl,(f.2 b (yI (yj (yQ e) I.ok.above))).trans g⟩
  .obtain ⟨o',g⟩:=I.base.there b o e B;exact ⟨o',(f.2 b (yI (yj (yQ e) I.ok.above))).trans g⟩
  .by_cases J:j=i
   .subst J;rw [P] at g;cases g;rw [List.getElem?_set_self F] at D;cases D;exact ⟨u,r,.inl ⟨hk,by simp⟩⟩
   .rw [xr (Yh J)] at D;obtain ⟨u',r',q⟩:=hl j y v' g D W;refine ⟨u',r',?_⟩;rcases q with ⟨k,e⟩ | ⟨k,c,e,z⟩
    .refine .inl ⟨k,?_⟩;have:y≠x:=fun e=>J (qdn hN g (e ▸ P));simp [this,e]
    .exact .inr ⟨k,c,e,z.sameBut f (cne y c e)⟩
  .obtain ⟨U,z⟩:=I.cell y c e;exact ⟨U,z.sameBut f (cne y c e)⟩
  .obtain ⟨e,n,ne,nf,d⟩:=I.pin p hp;exact ⟨(f.2 p.1 ne).trans e,n,ne,nf,d⟩
 .have G:X.fn x=true:=by
   rcases hf with z | z
   .exact z
   .rw [z] at hk;cases hk
  obtain ⟨c,hc⟩:=I.ok.has x (.inl hk);obtain ⟨U,z⟩:=I.cell x c hc;refine wpAny_storeName_cell I.ok.kind hk hc z (fun h' K f=>?_);obtain ⟨oc,R,S⟩:=id z;refine h { s with heap:=h' } ⟨I.ok,I.os,I.bare,⟨fun b o e n hb B=>?_,fun b o e n hb B=>?_,I.base.free,fun b o e B=>?_,I.base.tups,I.base.frzs,I.base.tbls⟩,⟨m,Y.sameBut f (Yh (cne x c hc)),fun j y v' g D W=>?_⟩,fun y T e=>?_,I.free,I.freeC,fun p hp=>?_,l ⟨oc,R,I.freeC x c hc⟩ f,by simpa using I.len⟩ ⟨c,f,.inr hc⟩
  .exact (f.2 b (yI (yj (yQ e) (I.ok.cab x c G hc)))).trans (I.base.keep b o e n hb B)
  .obtain ⟨sl,g⟩:=I.base.slot b o e n hb B;exact ⟨sl,(f.2 b (yI (yj (yQ e) (I.ok.cab x c G hc)))).trans g⟩
  .obtain ⟨o',g⟩:=I.base.there b o e B;exact ⟨o',(f.2 b (yI (yj (yQ e) (I.ok.cab x c G hc)))).trans g⟩
  .by_cases J:j=i
   .subst J;rw [P] at g;cases g;rw [List.getElem?_set_self F] at D;cases D;exact ⟨u,r,.inr ⟨.inl hk,c,hc,K⟩⟩
   .rw [xr (Yh J)] at D;obtain ⟨u',r',q⟩:=hl j y v' g D W;refine ⟨u',r',?_⟩;rcases q with q | ⟨k,T,e,z'⟩
    .exact .inl q
    .refine .inr ⟨k,T,e,z'.sameBut f ?_⟩;rintro rfl;exact J (qdn hN g (I.ok.inj _ _ _ e hc ▸ P))
  .by_cases L:T=c
   .subst L;exact ⟨_,K⟩
   .obtain ⟨w2,z2⟩:=I.cell y T e;exact ⟨w2,z2.sameBut f L⟩
  .obtain ⟨e,n,ne,nf,d⟩:=I.pin p hp;refine ⟨(f.2 p.1 ?_).trans e,n,ne,nf,d⟩;intro q;rw [q,R] at e;have q':oc=p.2:=ym e;exact d U (by rw [<- q'];exact S)
theorem qdo {Q:Unit->Shared->Prop} (I:Inv X pins σ H s) (b:X.N.Nodup) (d:X.N[i]?=some x) (e:Loc X.env.scope x) (r:RelV v u)
  (h:∀ s',Inv X pins (σ.set i (some v)) H s'->Q () s') (c:X.fn x=true\/X.env.scope.names.lookup x=some .local:=by first | exact .inl rfl | exact .inr rfl | assumption):wpAny M A (storeName X.env x u) Q E s:=
 qck I b d e r (fun s' a _=>h s' a) c
theorem Inv.call' (I:Inv X pins σ H s) (g:s'.os=s.os) (u:Un (frs X.stack) ch H H' s.heap s'.heap) (d:HOk X.prog X.w H' s'.heap) (f:AllBare s'.gens)
  (a:∀ b∈ch,(b∈X.ex\/X.s₀.heap.objs.size<=b)/\b≠X.env.locals/\(∀ x c,X.env.cells.lookup x=some c->c≠b)/\∀ p∈X.pn++pins,p.1≠b):Inv X pins σ H' s':=by
 obtain ⟨h',g',d',t',h⟩:=s';have e:h=s.os:=g;subst e;exact I.call (g':=g') (t':=t') (d':=d') u d f a
end
abbrev XK:=Value->Option Addr->Hp->Prop
noncomputable abbrev St:=List (Option V)
abbrev VK:=V->Hp->Prop
abbrev TE:=St->Hp->VK->Prop
abbrev TT:=St->Hp->(Bool->Hp->Prop)->Prop
abbrev TA:=St->Hp->(List V->Hp->Prop)->Prop
structure Ends where
 nx:St->Hp->Prop
 rt:VK
 bk:St->Hp->Prop:=fun _ _=>False
 ct:St->Hp->Prop:=fun _ _=>False
abbrev TS:=Ends->St->Hp->Prop
def EP (X:Cx) (pins:List (Addr×Obj)) (σ:St) (Q:VK) (u:Value) (s':Shared):Prop:=∃ v H',Inv X pins σ H' s'/\RelV v u/\Q v H'
def TP (X:Cx) (pins:List (Addr×Obj)) (σ:St) (Q:Bool->Hp->Prop) (b:Bool) (s':Shared):Prop:=∃ H',Inv X pins σ H' s'/\Q b H'
def AP (X:Cx) (pins:List (Addr×Obj)) (σ:St) (Q:List V->Hp->Prop) (us:List Value) (s':Shared):Prop:=∃ vs H',Inv X pins σ H' s'/\Vals vs us/\Q vs H'
def SP (X:Cx) (pins:List (Addr×Obj)) (D:Ends) (f:Flow) (s':Shared):Prop:=
 match f with
 | .next=>∃ a H',Inv X pins a H' s'/\D.nx a H'
 | .brk=>∃ a H',Inv X pins a H' s'/\D.bk a H'
 | .cont=>∃ a H',Inv X pins a H' s'/\D.ct a H'
 | .ret u=>∃ v a H',Inv X pins a H' s'/\RelV v u/\D.rt v H'
def PE (X:Cx) (e:Expr) (t:TE):Prop:=
 ∀ (pins:List (Addr×Obj)) (s:Shared) (σ:St) (H:Hp) (Q:VK),Inv X pins σ H s->t σ H Q->wpAny (model X.prog X.w) X.A (eval e X.env) (EP X pins σ Q) X.xe s
def PT (X:Cx) (e:Expr) (t:TT):Prop:=
 ∀ (pins:List (Addr×Obj)) (s:Shared) (σ:St) (H:Hp) (Q:Bool->Hp->Prop),Inv X pins σ H s->t σ H Q->wpAny (model X.prog X.w) X.A (isTrue e X.env (eval e X.env)) (TP X pins σ Q) X.xe s
def PW (X:Cx) (e:Expr) (t:TT):Prop:=
 ∀ (a:Sem Value) (pins:List (Addr×Obj)) (s:Shared) (σ:St) (H:Hp) (Q:Bool->Hp->Prop),Inv X pins σ H s->t σ H Q->wpAny (model X.prog X.w) X.A (isTrue e X.env a) (TP X pins σ Q) X.xe s
theorem PW.pt {t:TT} (h:PW X e t):PT X e t:=h _
def PA (X:Cx) (es:List Expr) (t:TA):Prop:=
 ∀ (pos:Pos) (pins:List (Addr×Obj)) (s:Shared) (σ:St) (H:Hp) (Q:List V->Hp->Prop),Inv X pins σ H s->t σ H Q->wpAny (model X.prog X.w) X.A (spliced (backTo pos (starEach es X.env))) (AP X pins σ Q) X.xe s
def PS (X:Cx) (st:Stmt) (t:TS):Prop:=
 ∀ (pins:List (Addr×Obj)) (s:Shared) (σ:St) (H:Hp) (D:Ends),Inv X pins σ H s->t D σ H->wpAny (model X.prog X.w) X.A (exec st X.env) (SP X pins D) X.xe s
def PSs (X:Cx) (st:List Stmt) (t:TS):Prop:=
 ∀ (pins:List (Addr×Obj)) (s:Shared) (σ:St) (H:Hp) (D:Ends),Inv X pins σ H s->t D σ H->wpAny (model X.prog X.w) X.A (execs st X.env) (SP X pins D) X.xe s
theorem thn {t:Sem α} {Q b:α->Shared->Prop} (h:wpAny M A t Q E s) (c:∀ a s,Q a s->b a s):wpAny M A t b E s:=YU h c fun _ _ x=>x
section
variable {X:Cx}
def qgl (i:Nat):TE:=fun σ H Q=>∃ v,σ[i]?=some (some v)/\Q v H
def tC (v:V):TE:=fun _ H Q=>Q v H
theorem pe_var (g:X.N[i]?=some x) (hv:Vis X.env.scope x) (f:(x==("__debug__":Str))=false:=by decide) (d:(x==("__classdict__":Str))=false:=by decide):PE X (.Name x pos) (qgl i):=by
 intro pins s σ H Q I h;obtain ⟨v,e,h⟩:=h;obtain ⟨m,n,hl⟩:=I.loc;obtain ⟨u,r,l⟩:=hl i x v g e hv;have b:EP X pins σ Q u s:=⟨v,H,I,r,h⟩;rcases l with ⟨hk,j⟩ | ⟨hk,c,hc,a⟩
 .exact wpAny_Name (wpAny_loadName_local I.ok.kind hk n j b) f
 .rcases hk with hk | hk
  .exact wpAny_Name (wpAny_loadName_cell I.ok.kind hk hc a b) f
  .exact wpAny_Name (wpAny_loadName_free I.ok.kind hk hc a b d) f
theorem qg {i j pos}:PE X (.Constant (.int i) j pos) (tC (.int i)):=fun _ _ _ H _ I h=>wpAny_Constant_int ⟨.int i,H,I.tok _,⟨_,rfl⟩,h⟩
theorem zg {b j pos}:PE X (.Constant (.bool b) j pos) (tC (.bl b)):=fun _ _ _ H _ I h=>Constant_bool ⟨.bl b,H,I,rfl,h⟩
theorem qax {j pos}:PE X (.Constant .none j pos) (tC .non):=fun _ _ _ H _ I h=>Constant_none ⟨.non,H,I,rfl,h⟩
theorem qbs {x j pos}:PE X (.Constant (.str x) j pos) (tC (.str x)):=fun _ _ _ H _ I h=>Calls.Constant_str ⟨.str x,H,I.tok _,⟨_,rfl⟩,h⟩
def Gl (X:Cx) (x:Str):Prop:=X.env.kindOf x=some .globalImplicit
theorem qcW {Q:Value->Shared->Prop} (I:Inv X pins σ H s) (b:Gl X x) (c:X.mg x=some u) (h:Q u s)
  (a:(x==("__debug__":Str))=false:=by decide):wpAny (model X.prog X.w) X.A (eval (.Name x pos) X.env) Q E s:=
 Calls.Name_function_global I.ok.kind b (Calls.loadGlobal_global (by rw [I.ok.glob];exact I.mod.glob.keeps I.bk) c h) a
theorem qaG {Q:Value->Shared->Prop} (I:Inv X pins σ H s) (c:Gl X x) (d:X.mg x=none) (hv:bootBuiltins x=some u) (h:Q u s)
  (e:x≠"__name__":=by decide) (b:(x==("__debug__":Str))=false:=by decide):wpAny (model X.prog X.w) X.A (eval (.Name x pos) X.env) Q E s:=by
 obtain ⟨f,h1,a⟩:=I.mod.blt;exact Calls.Name_function_global I.ok.kind c (Calls.loadGlobal_builtin (by rw [I.ok.glob];exact I.mod.glob.keeps I.bk) d (by rw [I.ok.blt];exact h1.keeps I.bk) ((a x e).trans hv) h) b
theorem pe_glob (b:Gl X x) (c:X.mg x=some u) (r:RelV v u) (a:(x==("__debug__":Str))=false:=by decide):PE X (.Name x pos) (tC v):=
 fun _ _ _ H _ I h=>qcW I b c ⟨v,H,I,r,h⟩ a
theorem jD (b:Gl X x) (c:X.mg x=none) (hv:bootBuiltins x=some u) (r:RelV v u) (d:x≠"__name__":=by decide) (a:(x==("__debug__":Str))=false:=by decide):PE X (.Name x pos) (tC v):=
 fun _ _ _ H _ I h=>qaG I b c hv ⟨v,H,I,r,h⟩ d a
variable {a b:Expr} {ta tb:TE} {pos:Pos}
def tB (t:TE):TT:=fun σ H Q=>t σ H fun x a=>∃ c,x=.bl c/\Q c a
theorem qZ {t:TE} (h:PE X e t) (f:∀ a,isTrue e X.env a=(do let v <- a;standAt e.pos;holding [v] (truthy v)):=by intro _;rfl):PT X e (tB t):=by
 intro pins s σ H Q I hw;refine isTrue_plain (thn (h pins s σ H _ I hw) fun v j ⟨x,b,c,i,g⟩=>?_) (f _);obtain ⟨d,rfl,q⟩:=g;cases i;exact xt ⟨b,c,q⟩
variable {tA tB':TT} {qd1:List Expr}
def qgy (t u:TT):TT:=fun σ H Q=>t σ H fun c a=>if c=true then u σ a Q else Q false a
def tOr (t u:TT):TT:=fun σ H Q=>t σ H fun c a=>if c=true then Q true a else u σ a Q
def qgz (t:TT):TT:=fun σ H Q=>t σ H fun c a=>Q (!c) a
theorem qaA (b:PT X a tA):PW X (.BoolOp .And [a] pos) tA:=by
 intro f pins s σ H Q I h;refine isTrue_and (thn (b pins s σ H Q I h) fun c d e=>?_)
 cases c with
 | true=>exact isTrue_and_nil e
 | false=>exact e
theorem qay (b:PT X a tA):PW X (.BoolOp .Or [a] pos) tA:=by
 intro f pins s σ H Q I h;refine isTrue_or (thn (b pins s σ H Q I h) fun c d e=>?_)
 cases c with
 | false=>exact isTrue_or_nil e
 | true=>exact e
theorem qa9 (g:PT X a tA) (hb:PW X (.BoolOp .And (b::qd1) pos) tB'):PW X (.BoolOp .And (a::b::qd1) pos) (qgy tA tB'):=by
 intro j pins s σ H Q I h;refine isTrue_and (thn (g pins s σ H _ I h) fun c i ⟨d,e,f⟩=>?_)
 cases c with
 | true=>exact hb j pins i σ d Q e f
 | false=>exact ⟨d,e,f⟩
theorem qaH (g:PT X a tA) (hb:PW X (.BoolOp .Or (b::qd1) pos) tB'):PW X (.BoolOp .Or (a::b::qd1) pos) (tOr tA tB'):=by
 intro j pins s σ H Q I h;refine isTrue_or (thn (g pins s σ H _ I h) fun c i ⟨d,e,f⟩=>?_)
 cases c with
 | true=>exact ⟨d,e,f⟩
 | false=>exact hb j pins i σ d Q e f
theorem jf (d:PT X a tA):PT X (.UnaryOp .Not a pos) (qgz tA):=by
 intro pins s σ H Q I h;exact isTrue_not (d pins s σ H (fun c b=>Q (!c) b) I h)
def qfP (ta tb:TE):TE:=fun σ H Q=>ta σ H fun x a=>∃ c,x=.bl c/\if c=true then tb σ a Q else Q (.bl false) a
def tOrV (ta tb:TE):TE:=fun σ H Q=>ta σ H fun x a=>∃ c,x=.bl c/\if c=true then Q (.bl true) a else tb σ a Q
def tNotV (ta:TE):TE:=fun σ H Q=>ta σ H fun x a=>∃ c,x=.bl c/\Q (.bl (!c)) a
theorem qcm {op} {t:TE} (h:PE X a t):PE X (.BoolOp op [a] pos) t:=fun pins s σ H Q I hw=>BoolOp_one (h pins s σ H Q I hw)
theorem qcn (g:PE X a ta) (hb:PE X (.BoolOp .And (b::qd1) pos) tb):PE X (.BoolOp .And (a::b::qd1) pos) (qfP ta tb):=by
 intro pins s σ H Q I h;refine BoolOp_and (thn (g pins s σ H _ I h) fun v j ⟨x,e,f,i,d⟩=>?_);obtain ⟨c,rfl,d⟩:=d;cases i;refine xt ?_
 cases c with
 | true=>exact hb pins j σ e Q f d
 | false=>exact ⟨.bl false,e,f,rfl,d⟩
def tIf (t:TT) (ta tb:TE):TE:=fun σ H Q=>t σ H fun c a=>if c=true then ta σ a Q else tb σ a Q
theorem qbY (hc:PT X c tA) (j:PE X a ta) (hb:PE X b tb):PE X (.IfExp c a b pos) (tIf tA ta tb):=by
 intro pins s σ H Q I h;refine wpAny_IfExp (thn (hc pins s σ H _ I h) fun d i ⟨e,f,g⟩=>?_)
 cases d with
 | true=>exact j pins i σ e Q f g
 | false=>exact hb pins i σ e Q f g
end
def SqL (K:yg) (H:Hp) (a:Addr) (xs:List V):Prop:=
 Rd H a (.lst xs) \/
  ∃ (o:Obj) (b:Array Value) (n:Nat),K.lookup a=some o/\o.cls=.type "list"/\o.dict=none/\o.data=.seq b n/\b.size<=sizeLine/\Vals xs b.toList
def SqT (K:yg) (H:Hp) (a:Addr) (xs:List V):Prop:=
 Rd H a (.tup xs) \/
  ∃ (o:Obj) (b:Array Value) (n:Nat),K.lookup a=some o/\o.cls=.type "tuple"/\o.data=.seq b n/\b.size<=sizeLine/\Vals xs b.toList
noncomputable def absV:Value->Option V
 | .none=>some .non
 | .bool b=>some (.bl b)
 | .int i _=>some (.int i)
 | .str x _=>some (.str x)
 | .bytes b _=>some (.byt b)
 | .float b _=>some (.flt b)
 | .ref a=>some (.ref a)
 | .type n=>some (.ty n)
 | _=>none
theorem RelV.abs {x:V} (r:RelV x u):absV u=some x:=by
 cases x with
 | non=>cases r;rfl
 | bl _=>cases r;rfl
 | int _=>obtain ⟨t,rfl⟩:=r;rfl
 | str _=>obtain ⟨t,rfl⟩:=r;rfl
 | byt _=>obtain ⟨t,rfl⟩:=r;rfl
 | flt _=>obtain ⟨t,rfl⟩:=r;rfl
 | ref _=>cases r;rfl
 | ty _=>cases r;rfl
theorem RelV.inj {x:V} (r:RelV x u) (q:RelV y u):x=y:=ym (r.abs.symm.trans q.abs)
theorem Vals.inj:∀ {xs ys:List V} {us:List Value},Vals xs us->Vals ys us->xs=ys
 | _,_,_,.nil,.nil=>rfl
 | _,_,_,.cons r t,.cons r' t'=>by rw [r.inj r',Vals.inj t t']
section
variable {X:Cx} {pins:List (Addr×Obj)} {σ:St} {H:Hp} {s:Shared} {a:Addr} {xs ys:List V}
theorem SqL.of {K:yg} (h:H a=some (.lst xs)):SqL K H a xs:=.inl (.inl h)
theorem SqT.of {K:yg} (h:H a=some (.tup xs)):SqT K H a xs:=.inl (.inl h)
theorem Inv.list (I:Inv X pins σ H s) (h:SqL X.K H a xs):∃ b:List Value,Vals xs b/\PlainL s.heap a b.toArray/\xs.length<=sizeLine:=by
 rcases h with h | ⟨o,b,n,hk,hc,hd,hs,hz,r⟩
 .obtain ⟨z,b,n,r,e⟩:=h.ok I.hok;exact ⟨b,r,⟨_,n,e,rfl,rfl,rfl⟩,z⟩
 .refine ⟨b.toList,r,⟨o,n,I.kIn a o hk,hc,hd,by simpa using hs⟩,?_⟩;have e:=r.length;simp only [xx] at e;omega
theorem Inv.tuple (I:Inv X pins σ H s) (h:SqT X.K H a xs):∃ b:List Value,Vals xs b/\IsTup s.heap a b.toArray/\xs.length<=sizeLine:=by
 rcases h with h | ⟨o,b,n,hk,hc,hs,hz,r⟩
 .obtain ⟨z,b,r,p⟩:=h.ok I.hok;exact ⟨b,r,p,z⟩
 .refine ⟨b.toList,r,⟨o,I.kIn a o hk,hc,n,by simpa using hs⟩,?_⟩;have e:=r.length;simp only [xx] at e;omega
theorem Inv.list_inj (I:Inv X pins σ H s) (h:SqL X.K H a xs) (h':SqL X.K H a ys):xs=ys:=by
 obtain ⟨b,r,⟨o,n,e,_,_,d⟩,_⟩:=I.list h;obtain ⟨its',r',⟨g,f,c,_,_,d'⟩,_⟩:=I.list h';rw [e] at c;cases c;rw [d] at d'
 injection d' with d1 _
 have:b=its':=by simpa using congrArg Array.toList d1
 subst this;exact r.inj r'
theorem Inv.tuple_inj (I:Inv X pins σ H s) (h:SqT X.K H a xs) (h':SqT X.K H a ys):xs=ys:=by
 obtain ⟨b,r,⟨o,e,_,n,d⟩,_⟩:=I.tuple h;obtain ⟨its',r',⟨g,c,_,f,d'⟩,_⟩:=I.tuple h';rw [e] at c;cases c;rw [d] at d'
 injection d' with d1 _
 have:b=its':=by simpa using congrArg Array.toList d1
 subst this;exact r.inj r'
end
noncomputable abbrev Cx.wish (X:Cx) (E:Value->Shared->Prop):Cx:={ X with xe:=E }
noncomputable abbrev Cx.nox (X:Cx):Cx:=X.wish fun _ _=>False
theorem Cx.Ok.wish (ok:X.Ok) (E:Value->Shared->Prop):(X.wish E).Ok:=
 ⟨ok.mod,ok.kind,ok.glob,ok.blt,ok.above,ok.inj,ok.has,ok.cab,ok.hd,ok.frames,ok.stk,ok.exf,ok.bs,ok.bsz,ok.noex,ok.exfs,ok.funs,ok.frf⟩
theorem Cx.Ok.unwish (ok:(X.wish E).Ok):X.Ok:=
 ⟨ok.mod,ok.kind,ok.glob,ok.blt,ok.above,ok.inj,ok.has,ok.cab,ok.hd,ok.frames,ok.stk,ok.exf,ok.bs,ok.bsz,ok.noex,ok.exfs,ok.funs,ok.frf⟩
section
variable {X:Cx} {pins:List (Addr×Obj)} {σ:St} {H:Hp} {s:Shared} {E:Value->Shared->Prop}
theorem Inv.wish (I:Inv X pins σ H s) (E:Value->Shared->Prop):Inv (X.wish E) pins σ H s:=⟨I.ok.wish E,I.os,I.bare,I.base,I.loc,I.cell,I.free,I.freeC,I.pin,I.hok,I.len⟩
theorem Inv.unwish (I:Inv (X.wish E) pins σ H s):Inv X pins σ H s:=⟨I.ok.unwish,I.os,I.bare,I.base,I.loc,I.cell,I.free,I.freeC,I.pin,I.hok,I.len⟩
theorem SP.unwish {f:Flow} (h:SP (X.wish E) pins D f s'):SP X pins D f s':=by
 cases f with
 | next=>obtain ⟨a,H',I,q⟩:=h;exact ⟨a,H',I.unwish,q⟩
 | brk=>obtain ⟨a,H',I,q⟩:=h;exact ⟨a,H',I.unwish,q⟩
 | cont=>obtain ⟨a,H',I,q⟩:=h;exact ⟨a,H',I.unwish,q⟩
 | ret u=>obtain ⟨v,a,H',I,r,q⟩:=h;exact ⟨v,a,H',I.unwish,r,q⟩
theorem PSs.nox {st:List Stmt} {t:TS} (h:PSs X.nox st t):PSs X st t:=fun pins s σ H D I hw =>
 YU (h pins s σ H D (I.wish _) hw) (fun _ _ q=>q.unwish) fun _ _ z=>False.elim z
end
section
variable {X:Cx} {st:Stmt} {qd1:List Stmt} {t u:TS} {e:Expr} {te:TE} {pos:Pos}
def qfQ:TS:=fun D σ H=>D.nx σ H
def qgm (t u:TS):TS:=fun D σ H=>t { D with nx:=u D } σ H
theorem qx:PSs X [] qfQ:=fun _ _ σ H _ I h=>XM ⟨σ,H,I,h⟩
theorem qc (h1:PS X st t) (c:PSs X qd1 u):PSs X (st::qd1) (qgm t u):=by
 intro pins s σ H D I h;refine wpAny_execs_cons (thn (h1 pins s σ H { D with nx:=u D } I h) fun f d q=>?_)
 cases f with
 | next =>
  obtain ⟨a,H',b,q⟩:=q;exact c pins d a H' D b q
 | ret v=>exact q
 | brk=>exact q
 | cont=>exact q
theorem qf (h1:PS X st t):PSs X [st] t:=by
 intro pins s σ H D I h;refine wpAny_execs_cons (thn (h1 pins s σ H D I h) fun f a q=>?_)
 cases f with
 | next=>exact XM q
 | ret v=>exact q
 | brk=>exact q
 | cont=>exact q
theorem Inv.quiet (I:Inv X pins σ H s):interactive X.env=false:=by simp [interactive,I.ok.kind]
def qfR (te:TE):TS:=fun D σ H=>te σ H fun _ a=>D.nx σ a
theorem qI (c:PE X e te) (d:swapsWith e none pos.line X.env=pure false:=by rfl):PS X (.Expr e pos) (qfR te):=by
 intro pins s σ H D I h;exact wpAny_Expr_any (thn (c pins s σ H _ I h) fun v i ⟨x,a,b,g,f⟩=>⟨σ,a,b,f⟩) I.quiet d
def qgA (te:TE):TS:=fun D σ H=>te σ H D.rt
theorem qp (c:PE X e te):PS X (.Return (some e) pos) (qgA te):=by
 intro pins s σ H D I h;exact wpAny_Return_some (thn (c pins s σ H _ I h) fun v g ⟨x,a,b,f,d⟩=>⟨x,σ,a,b,f,d⟩)
def qfS:TS:=fun D _ H=>D.rt .non H
theorem ps_retN:PS X (.Return none pos) qfS:=fun _ _ σ H _ I h=>wpAny_Return_none ⟨.non,σ,H,I,rfl,h⟩
def qgB (c:TT) (t u:TS):TS:=fun D σ H=>c σ H fun b a=>if b=true then t D σ a else u D σ a
theorem qV {a b:List Stmt} (hc:PT X c tc) (j:PSs X a t) (hb:PSs X b u):PS X (.If c a b pos) (qgB tc t u):=by
 intro pins s σ H D I h;refine wpAny_If (thn (hc pins s σ H _ I h) fun d i ⟨e,f,g⟩=>?_)
 cases d with
 | true=>exact j pins i σ e D f g
 | false=>exact hb pins i σ e D f g
def tNever:TS:=fun _ _ _=>False
theorem jg:PS X st tNever:=fun _ _ _ _ _ _ h=>h.elim
end
abbrev TG:=V->St->Hp->(St->Hp->Prop)->Prop
abbrev TGs:=List V->St->Hp->(St->Hp->Prop)->Prop
def PG (X:Cx) (a:Expr) (t:TG):Prop:=
 ∀ (pins:List (Addr×Obj)) (s:Shared) (σ:St) (H:Hp) (v:V) (u:Value) (Q:St->Hp->Prop),Inv X pins σ H s->RelV v u->t v σ H Q ->
  wpAny (model X.prog X.w) X.A (assign a X.env u) (fun _ s'=>∃ b H',Inv X pins b H' s'/\Q b H') X.xe s
def PGs (X:Cx) (b:List Expr) (t:TGs):Prop:=
 ∀ (pins:List (Addr×Obj)) (s:Shared) (σ:St) (H:Hp) (vs:List V) (us:List Value) (Q:St->Hp->Prop),Inv X pins σ H s->Vals vs us->t vs σ H Q ->
  wpAny (model X.prog X.w) X.A (assignInOrder ((assignEach b X.env).map (·.2)) us) (fun _ s'=>∃ a H',Inv X pins a H' s'/\Q a H') X.xe s
abbrev qfT:=V->V->V->Hp->(Hp->Prop)->Prop
def qgn (X:Cx) (t:qfT):Prop:=
 ∀ (pins:List (Addr×Obj)) (s:Shared) (σ:St) (H:Hp) (o i v:V) (b a u:Value) (Q:Hp->Prop),Inv X pins σ H s->RelV o b->RelV i a->RelV v u->t o i v H Q ->
  wpAny (model X.prog X.w) X.A (setItem b a u) (fun _ s'=>∃ H',Inv X pins σ H' s'/\Q H') X.xe s
section
variable {X:Cx} {pos:Pos}
def qbZ (i:Nat):TG:=fun v σ H Q=>Q (σ.set i (some v)) H
theorem qr (b:X.N.Nodup) (d:X.N[i]?=some x) (e:Loc X.env.scope x) (c:X.fn x=true\/X.env.scope.names.lookup x=some .local:=by first | exact .inl rfl | exact .inr rfl | assumption):PG X (.Name x pos) (qbZ i):=by
 intro pins s σ H v u Q I r h;exact wpAny_assign_Name (qdo I b d e r (fun s' a=>⟨_,H,a,h⟩) c)
def qgC:TGs:=fun vs σ H Q=>vs=[]/\Q σ H
def qfu (t:TG) (u:TGs):TGs:=fun vs σ H Q=>∃ v r,vs=v::r/\t v σ H fun a H'=>u r a H' Q
theorem qcX:PGs X [] qgC:=by
 intro pins s σ H vs us Q I r h;obtain ⟨e,h⟩:=h;subst e;cases r;exact assignInOrder_nil ⟨σ,H,I,h⟩
theorem qag {t:TG} {u:TGs} (h1:PG X e t) (f:PGs X es u)
  (g:(assignEach (e::es) X.env).map (·.2)=assign e X.env::(assignEach es X.env).map (·.2):=by rfl):PGs X (e::es) (qfu t u):=by
 intro pins s σ H vs us Q I r h;obtain ⟨v,l,d,h⟩:=h;subst d
 cases r with
 | cons r rr =>
  rw [g];refine assignInOrder_cons (thn (h1 pins s σ H _ _ _ I r h) fun _ j ⟨a,b,c,i⟩=>?_);exact f pins j a b _ _ Q c rr i
def qgD (K:yg) (n:Nat) (t:TGs):TG:=fun v σ H Q=>∃ a xs,v=.ref a/\SqT K H a xs/\xs.length=n/\t xs σ H Q
theorem qd2 {k:Nat} {t:TGs} (hc:X.calm=true) (h:PGs X es t)
  (i:(assignEach es X.env).length=n:=by rfl) (c:(assignEach es X.env).findIdx? (·.1)=none:=by rfl):PG X (.Tuple es k pos) (qgD X.K n t):=by
 intro pins s σ H v u Q I r hw;obtain ⟨a,xs,g,j,hl,hw⟩:=hw;subst g;cases r;obtain ⟨p,d,l,hz⟩:=I.tuple j;refine assign_Tuple_tuple (I.ok.hd hc) l (by simp [i,<- hl,d.length]) c fun h' m=>?_;have f:Inv X pins σ H { s with heap:=h' }:=I.kept (t':=s.toks) fun b o e=>m b o (yI (yQ e)) e;exact h pins _ σ H xs _ Q f (by simpa using d) hw
def qgE (to d:TE) (t:qfT):TG:=fun v σ H Q=>to σ H fun o a=>d σ a fun i b=>t o i v b fun c=>Q σ c
theorem jV {o i:Expr} {to c:TE} {t:qfT} (p:PE X o to) (n:PE X i c) (q:qgn X t)
  (m:∀ v,assign (.Subscript o i pos) X.env v=(do
   let a <- holding [v] (eval o X.env);let b <- holding [v,a] (eval i X.env)
   standAt pos
   holding [v,a,b] (setItem a b v)
   release [v,a,b] []):=by intro _;rfl):PG X (.Subscript o i pos) (qgE to c t):=by
 intro pins s σ H v u Q I r h;rw [m];refine yr (Yk (thn (p pins s σ H _ I h) fun a D ⟨x,d,g,B,w⟩=>?_));refine yr (Yk (thn (n pins D σ d _ g w) fun b E ⟨y,e,j,C,z⟩=>?_));refine yr (kx (yr (Yk (thn (q pins E σ e x y v a b u _ j B C r z) fun _ F ⟨f,l,A⟩=>?_))));exact wpAny_release ⟨σ,f,l,A⟩
def qfL (te:TE) (g:TG):TS:=fun D σ H=>te σ H fun x a=>g x σ a D.nx
theorem jN (c:PE X e te) (d:PG X tg g) (f:swapsWithSole [tg] e pos.line X.env=pure false:=by rfl) (hw:swappedStores [tg] e X.env=pure none:=by rfl)
  (h1:(assignEach [tg] X.env).map (·.2)=[assign tg X.env]:=by rfl):PS X (.Assign [tg] e pos) (qfL te g):=by
 intro pins s σ H D I h;refine wpAny_Assign_stores (thn (c pins s σ H _ I h) fun v l ⟨x,a,b,j,i⟩=>?_) f hw;rw [h1];exact thn (d pins l σ a x v _ b j i) fun _ m q=>q
theorem qo {a:Pos} (f:X.N.Nodup) (l:X.N[i]?=some x) (n:Loc X.env.scope x) (g:PE X e te) (m:swapsWith e (some (.Name x a)) pos.line X.env=pure false:=by rfl) (j:X.fn x=true\/X.env.scope.names.lookup x=some .local:=by first | exact .inl rfl | exact .inr rfl | assumption) :
  PS X (.Assign [.Name x a] e pos) (qfL te (qbZ i)):=by
 intro pins s σ H D I h;refine wpAny_Assign_Name (thn (g pins s σ H _ I h) fun v q ⟨y,b,c,p,o⟩=>?_) m;exact qdo c f l n p (fun r d=>⟨_,b,d,o⟩) j
end
section
variable {X:Cx} {pos:Pos}
def tWhile (c:TT) (tb:TS):TS:=fun D σ H=>∃ W:Nat->St->Hp->Prop,(∃ m,W m σ H)/\∀ m σ H,W m σ H ->
 c σ H fun b d=>if b=true then ∃ N:St->Hp->Prop,(∀ a H',N a H'->∃ e,e<m/\W e a H')/\tb { D with nx:=N,ct:=N,bk:=D.nx } σ d else D.nx σ d
theorem qb0 (z:PassesOwn (model X.prog X.w) X.A X.env X.xe) (hc:PT X c tc) (hb:PSs X body tb):PS X (.While c body [] pos) (tWhile tc tb):=by
 intro pins s σ H D I h;obtain ⟨W,⟨C,G⟩,turn⟩:=h;refine wpAny_While (codeAny_whileLoop (fun n s'=>∃ g H',Inv X pins g H' s'/\W n g H') ?_ C ⟨σ,H,I,G⟩);rintro n E ⟨d,r,B,J⟩;refine xn z (thn (hc pins E d r _ B (turn n d r J)) fun b F ⟨u,x,i⟩=>?_)
 cases b with
 | true =>
  obtain ⟨N,y,i⟩:=i;rw [yD rfl];refine xn z (thn (hb pins F d u _ x i) fun f K j=>?_)
  cases f with
  | next =>
   obtain ⟨a,e,l,p⟩:=j;obtain ⟨o,m,q⟩:=y a e p;exact ⟨o,m,a,e,l,q⟩
  | cont =>
   obtain ⟨a,e,l,p⟩:=j;obtain ⟨o,m,q⟩:=y a e p;exact ⟨o,m,a,e,l,q⟩
  | brk=>exact j
  | ret v=>exact j
 | false =>
  rw [yy Yn];exact XM ⟨d,u,x,i⟩
end
structure It where
 go:Nat->Hp->Prop
 yld:Nat->Hp->V->Hp->Prop
 stop:Nat->Hp->Prop
def qcY (X:Cx) (pins:List (Addr×Obj)) (H:Hp) (b:Addr):Prop:=
 H b=none/\b≠X.env.locals/\b∉X.fs/\(b∈X.ex\/X.s₀.heap.objs.size<=b)/\(∀ x c,X.env.cells.lookup x=some c->c≠b)/\∀ p∈X.pn++pins,p.1≠b
theorem Inv.fpOk {H':Hp} (I:Inv X pins σ H s) (hb:s.heap.objs.size<=b) (a:H' b=none):qcY X pins H' b:=by
 refine ⟨a,Yl (yj I.lt hb),I.nofs hb,.inr (yi I.sz hb),fun x c e z=>?_,fun p d z=>?_⟩
 .obtain ⟨v,q⟩:=I.cell x c e;exact absurd (yj q.lt (by rw [z];exact hb)) (Yw _)
 .exact absurd (yj (yQ (I.pin p d).1) (by rw [z];exact hb)) (Yw _)
structure Turn (P:Program) (w:World) (K:yg) (tg:Expr) (J:It) (fp:List Addr) (it:Addr) (tn:Nat->Heap->Prop):Prop where
 mem:it∈fp
 obj:∀ i h,tn i h->∀ b∈fp,∃ o,h.get? b=some o/\∀ v,o.data≠.cell v
 keep:∀ i h h',tn i h->(∀ b∈fp,∀ o,h.get? b=some o->h'.get? b=some o)->tn i h'
 item:∀ (X:Cx),X.prog=P->X.w=w->X.K=K->X.calm=true->∀ (i:Nat) (pins:List (Addr×Obj)) (s:Shared) (σ:St) (H:Hp) (E:Value->Shared->Prop),Inv X pins σ H s->(∀ b∈fp,qcY X pins H b)->tn i s.heap->J.go i H ->
  wpAny (model P w) X.A (pyNext (.ref it)) (fun r s1=>∃ u,r=some u /\
   wpAny (model P w) X.A (letOwnedTupleGo tg (.ref it) u) (fun _ s2=>∃ x H',Inv X pins σ H' s2/\RelV x u/\J.yld i H x H'/\tn (i+1) s2.heap/\∀ b∈fp,H' b=none) E s1) E s
 done:∀ (X:Cx),X.prog=P->X.w=w->X.K=K->X.calm=true->∀ (i:Nat) (pins:List (Addr×Obj)) (s:Shared) (σ:St) (H:Hp) (E:Value->Shared->Prop),Inv X pins σ H s->(∀ b∈fp,qcY X pins H b)->tn i s.heap->J.stop i H ->
  wpAny (model P w) X.A (pyNext (.ref it)) (fun r s1=>r=none/\Inv X pins σ H s1) E s
 self:∀ (A:Around) (i:Nat) (s:Shared) (Q:Value->Shared->Prop) (E:Value->Shared->Prop),tn i s.heap->Q (.ref it) s->wpAny (model P w) A (pyIter (.ref it)) Q E s
abbrev TI:=St->Hp->(It->Hp->Prop)->Prop
def PIE (X:Cx) (pins:List (Addr×Obj)) (σ:St) (tg:Expr) (R:It->Hp->Prop) (a:Value) (c:Shared):Prop:=
 ∃ (it:Addr) (fp:List Addr) (d:Nat->Heap->Prop) (J:It) (H':Hp),a=.ref it/\Inv X pins σ H' c/\Turn X.prog X.w X.K tg J fp it d/\d 0 c.heap/\(∀ b∈fp,qcY X pins H' b)/\R J H'
def PI (X:Cx) (tg a:Expr) (c:TI):Prop:=
 ∀ (pins:List (Addr×Obj)) (s:Shared) (σ:St) (H:Hp) (R:It->Hp->Prop),Inv X pins σ H s->c σ H R ->
  wpAny (model X.prog X.w) X.A (eval a X.env) (fun v b=>wpAny (model X.prog X.w) X.A (pyIter v) (PIE X pins σ tg R) X.xe b) X.xe s
theorem qeV {o:Obj} {n:String} {vs:Array Value} {Q:Unit->Shared->Prop} (d:s.heap.get? it=some o) (hc:o.cls=.type n) (b:o.data=.fields vs)
    (c:["enumerate","zip","dict_itemiterator","dict_reverseitemiterator","odict_iterator","itertools.zip_longest","itertools.pairwise"].contains n=false) (a:Q () s):wpAny M A (letOwnedTupleGo tg (.ref it) u) Q E s:=by
  unfold letOwnedTupleGo;cases tg<;>first
    | exact yu a
    | (cases u<;>first
        | exact yu a
        | (refine yr (wpAny_load d ?_)
           rw [hc,b];show wpAny M A (if (["enumerate","zip","dict_itemiterator","dict_reverseitemiterator","odict_iterator","itertools.zip_longest","itertools.pairwise"].contains n&&vs[0]?==some (rawInt _))=true then _ else _) Q E s;rw [yy (by intro h;rw [c,kX] at h;cases h)];exact yu a))
noncomputable def Itl (K:yg) (a:Addr):It:=
 ⟨fun i H=>∃ xs x,SqL K H a xs/\xs[i]?=some x,fun i H x H'=>H'=H/\∀ xs,SqL K H a xs->xs[i]?=some x,fun i H=>∃ xs,SqL K H a xs/\xs.length<=i⟩
noncomputable def Itt (K:yg) (a:Addr):It:=
 ⟨fun i H=>∃ xs x,SqT K H a xs/\xs[i]?=some x,fun i H x H'=>H'=H/\∀ xs,SqT K H a xs->xs[i]?=some x,fun i H=>∃ xs,SqT K H a xs/\xs.length<=i⟩
noncomputable def Itr (lo:Int) (n:Nat):It:=⟨fun i _=>i<n,fun i H x H'=>H'=H/\x=.int (lo+i),fun i _=>n<=i⟩
theorem qco {K:yg} (a it:Addr):Turn P w K tg (Itl K a) [it] it (fun i h=>h.IsListIter it a i) where
 mem:=by simp
 obj:=fun i h st b hb=>by
  have e:b=it:=by simpa using hb
  subst e;obtain ⟨o,e,c,d⟩:=st;exact ⟨o,e,fun v z=>by rw [d] at z;cases z⟩
 keep:=fun i h h' st k=>st.at fun o e=>k it (by simp) o e
 item:=by
  intro X A hw y hc i pins s σ H E I g st B;subst A hw y;obtain ⟨xs,x,j,C⟩:=B;obtain ⟨D,F,p,hz⟩:=I.list j;obtain ⟨u,M,O⟩:=F.get C;obtain ⟨l,m,L,n,q,r⟩:=g it (by simp);refine wpAny_pyNext_list_item st p.isList (x:=u) (by simpa using M) fun h' f R=>?_;have G:Inv X pins σ H { s with heap:=h' }:=I.turned (t':=s.toks) (fun b o hb e=>(R.2 b hb).trans e) l m n q r;obtain ⟨o,e,c,d⟩:=id f;exact ⟨u,rfl,qeV (s:={ s with heap:=h' }) e c d (by decide) ⟨x,H,G,O,⟨rfl,fun ys N=>by rw [I.list_inj N j];exact C⟩,f,fun b hb=>(g b hb).1⟩⟩
 done:=by
  intro X A hw y hc i pins s σ H E I g st B;subst A hw y;obtain ⟨xs,j,C⟩:=B;obtain ⟨D,F,p,hz⟩:=I.list j;obtain ⟨l,m,L,n,q,r⟩:=g it (by simp);have hl:=F.length;exact wpAny_pyNext_list_end (I.ok.hd hc) st p.isList (by simp;omega) fun h' J=>⟨rfl,I.turned (t':=s.toks) (fun b o hb e=>J b o hb e) l m n q r⟩
 self:=fun _ _ _ _ _ st h=>wpAny_pyIter_listiter st h
theorem turn_tuple {K:yg} (a it:Addr):Turn P w K tg (Itt K a) [it] it (fun i h=>h.IsTupleIter it a i) where
 mem:=by simp
 obj:=fun i h st b hb=>by
  have e:b=it:=by simpa using hb
  subst e;obtain ⟨o,e,c,d⟩:=st;exact ⟨o,e,fun v z=>by rw [d] at z;cases z⟩
 keep:=fun i h h' st k=>st.at fun o e=>k it (by simp) o e
 item:=by
  intro X B hw A hc i pins s σ H E I j st C;subst B hw A;obtain ⟨xs,x,l,D⟩:=C;obtain ⟨f,F,p,hz⟩:=I.tuple l;obtain ⟨u,M,O⟩:=F.get D;obtain ⟨m,n,L,q,r,y⟩:=j it (by simp);refine wpAny_pyNext_tuple_item st (show s.heap.IsTuple a f.toArray from p) (x:=u) (by simpa using M) fun h' g R=>?_;have G:Inv X pins σ H { s with heap:=h' }:=I.turned (t':=s.toks) (fun b o hb e=>(R.2 b hb).trans e) m n q r y;obtain ⟨o,e,c,d⟩:=id g;exact ⟨u,rfl,qeV (s:={ s with heap:=h' }) e c d (by decide) ⟨x,H,G,O,⟨rfl,fun ys N=>by rw [I.tuple_inj N l];exact D⟩,g,fun b hb=>(j b hb).1⟩⟩
 done:=by
  intro X B hw A hc i pins s σ H E I j st C;subst B hw A;obtain ⟨xs,l,D⟩:=C;obtain ⟨f,F,p,hz⟩:=I.tuple l;obtain ⟨m,n,L,q,r,y⟩:=j it (by simp);have hl:=F.length;exact wpAny_pyNext_tuple_end (I.ok.hd hc) st (show s.heap.IsTuple a f.toArray from p) (by simp;omega) fun h' J=>⟨rfl,I.turned (t':=s.toks) (fun b o hb e=>J b o hb e) m n q r y⟩
 self:=fun _ _ _ _ _ st h=>wpAny_pyIter_tupleiter st h
theorem turn_range {K:yg} (it:Addr) (lo:Int) (n:Nat):Turn P w K tg (Itr lo n) [it] it (fun i h=>IsRangeIter h it (lo+(i:Nat)*1) ((n:Int)-(i:Nat)) 1) where
 mem:=by simp
 obj:=fun i h st b hb=>by
  have e:b=it:=by simpa using hb
  subst e
  exact ⟨_,st,fun v z=>by
   have A:Data.fields _=Data.cell v:=z;cases A⟩
 keep:=fun i h h' st k=>k it (by simp) _ st
 item:=by
  intro X p hw m hc i pins s σ H E I c st q;subst p hw m;obtain ⟨d,f,x,g,j,l⟩:=c it (by simp);have W:=Walks.range (prog:=X.prog) (w:=X.w) (I.ok.hd hc) it lo 1 n;refine W.item i s _ _ q st fun v h' tk hv a y=>?_;obtain ⟨t,rfl⟩:=hv;have r:Inv X pins σ H { s with heap:=h',toks:=tk }:=I.turned (fun b o hb e=>y b o (by simpa using hb) e) d f g j l;refine ⟨_,rfl,qeV (s:={ s with heap:=h',toks:=tk }) (n:="range_iterator") a rfl rfl (by decide) ⟨.int (lo+i),H,r,⟨t,?_⟩,⟨rfl,rfl⟩,a,fun b hb=>(c b hb).1⟩⟩;rw [Int.mul_one]
 done:=by
  intro X p hw m hc i pins s σ H E I c st q;subst p hw m;obtain ⟨d,f,x,g,j,l⟩:=c it (by simp);exact wpAny_pyNext_range_end (I.ok.hd hc) st (by have:n<=i:=q;omega) fun h' u=>⟨rfl,I.turned (t':=s.toks) (fun b o hb e=>u b o hb e) d f g j l⟩
 self:=fun _ _ _ _ _ st h=>wpAny_pyIter_rangeiter st h
section
variable {X:Cx} {tg:Expr}
theorem qdp {R:It->Hp->Prop} {a:Int} {t u v:Tok} {tk:Nat} (I:Inv X pins σ H s) (h1:-(2 ^ 62)<=lo) (g:lo<2 ^ 62) (h:-(2 ^ 62)<=a) (i:a<2 ^ 62)
  (q:R (Itr lo (a-lo).toNat) H):wpAny (model X.prog X.w) X.A (pyIter (.ref s.heap.objs.size)) (PIE X pins σ tg R) E { s with heap:=s.heap.push { cls:=.type "range",data:=.fields #[.int lo t,.int a u,.int 1 v] },toks:=tk }:=by
 refine wpAny_pyIter_range (IsRange.new ..) (small_one h1 g h i) ?_;have c:Inv X pins σ H { s with heap:=s.heap.push { cls:=.type "range",data:=.fields #[.int lo t,.int a u,.int 1 v] },toks:=tk }:=I.kept fun b o e=>yv _ e;refine ⟨(s.heap.push { cls:=.type "range",data:=.fields #[.int lo t,.int a u,.int 1 v] }).objs.size,[(s.heap.push { cls:=.type "range",data:=.fields #[.int lo t,.int a u,.int 1 v] }).objs.size],_,_,H,rfl,
  c.kept (t':=tk) fun b o e=>yv _ e,turn_range _ lo (a-lo).toNat,?_,fun b hb=>?_,q⟩
 .have d:lo+((0:Nat):Int)*1=lo:=by simp
  have f:(((a-lo).toNat:Nat):Int)-((0:Nat):Int)=Builtin.Range.rangeSize lo a 1:=by rw [rangeSize_one];split<;>omega
  show IsRangeIter _ _ (lo+((0:Nat):Int)*1) ((((a-lo).toNat:Nat):Int)-((0:Nat):Int)) 1;rw [d,f];exact yW _ rfl
 .have e:b=(s.heap.push { cls:=.type "range",data:=.fields #[.int lo t,.int a u,.int 1 v] }).objs.size:=by simpa using hb
  subst e;exact c.fpOk (yh _) (c.hok.fresh (yh _))
def qfU (ta:TA):TI:=fun σ H R=>ta σ H fun vs a=>∃ j:Int,vs=[.int j]/\-(2 ^ 62)<=j/\j<2 ^ 62/\R (Itr 0 j.toNat) a
def qfV (ta:TA):TI:=fun σ H R=>ta σ H fun vs a=>∃ i j:Int,vs=[.int i,.int j]/\(-(2 ^ 62)<=i/\i<2 ^ 62/\-(2 ^ 62)<=j/\j<2 ^ 62)/\R (Itr i (j-i).toNat) a
theorem jj {a:Expr} (f:Gl X "range") (g:X.mg "range"=none) (d:PA X [a] ta) (i:starEach [a] X.env=[(false,eval a X.env)]:=by rfl):PI X tg (.Call (.Name "range" p) [a] [] pos) (qfU ta):=by
 intro pins s σ H R I h;refine Call_ (qaG I f g boot_range (Yz (thn (d pos pins s σ H _ I h) fun us o ⟨vs,n,c,m,b⟩=>?_) i rfl));obtain ⟨j,e,b,l,q⟩:=b;subst e
 cases m with
 | cons r rr =>
  cases rr;obtain ⟨t,rfl⟩:=r;exact call_range_1 (qdp c (by omega) (by omega) b l (by simpa using q))
theorem qcp {a b:Expr} (l:Gl X "range") (m:X.mg "range"=none) (g:PA X [a,b] ta) (n:starEach [a,b] X.env=[(false,eval a X.env),(false,eval b X.env)]:=by rfl) (c:starEach [b] X.env=[(false,eval b X.env)]:=by rfl) :
  PI X tg (.Call (.Name "range" p) [a,b] [] pos) (qfV ta):=by
 intro pins s σ H R I h;refine Call_ (qaG I l m boot_range (Yz (thn (g pos pins s σ H _ I h) fun us y ⟨vs,x,f,w,d⟩=>?_) (by rw [n,c]) (by rw [c];rfl)));obtain ⟨i,j,e,⟨d,o,u,v⟩,q⟩:=d;subst e
 cases w with
 | cons r rr =>
  cases rr with
  | cons r' rr =>
   cases rr;obtain ⟨t,rfl⟩:=r;obtain ⟨t',rfl⟩:=r';exact call_range_2 (qdp f d o u v q)
def qgF (f:TI) (g:TG) (tb:TS):TS:=fun D σ H=>f σ H fun J d=>∃ W:Nat->Nat->St->Hp->Prop,(∃ m,W 0 m σ d)/\∀ i m σ H,W i m σ H ->
 (J.stop i H/\D.nx σ H)\/(J.go i H/\∃ N:St->Hp->Prop,(∀ a H',N a H'->∃ c,c<m/\W (i+1) c a H')/\∀ x H',J.yld i H x H'->g x σ H' fun b e=>tb { D with nx:=N,ct:=N,bk:=D.nx } b e)
noncomputable def qcq (fp:List Addr) (h:Heap):List (Addr×Obj):=fp.filterMap fun b=>(h.get? b).map fun o=>(b,o)
theorem qah {o:Obj} (hb:b∈fp) (e:h.get? b=some o):(b,o)∈qcq fp h:=Xn.mpr ⟨b,hb,by rw [e];rfl⟩
theorem of_pinsAt {p:Addr×Obj} (c:p∈qcq fp h):p.1∈fp/\h.get? p.1=some p.2:=by
 obtain ⟨b,hb,e⟩:=Xn.mp c
 cases q:h.get? b with
 | none=>rw [q] at e;cases e
 | some o =>
  rw [q] at e;have a:(b,o)=p:=ym e;subst a;exact ⟨hb,q⟩
theorem Inv.pinned (I:Inv X pins σ H s) (h:∀ b∈fp,qcY X pins H b) (i:∀ b∈fp,∃ o,s.heap.get? b=some o/\∀ v,o.data≠.cell v):Inv X (pins++qcq fp s.heap) σ H s:=
 I.pins_of fun p j=>(yE.mp j).elim (fun z=>I.pin p (yP _ z)) fun z=>by
  obtain ⟨hb,e⟩:=of_pinsAt z;obtain ⟨c,f,g,_⟩:=h p.1 hb;obtain ⟨o,a,d⟩:=i p.1 hb;rw [e] at a;cases a;exact ⟨e,c,f,g,d⟩
theorem Inv.unpinned {pl:List (Addr×Obj)} (I:Inv X (pins++pl) σ H s):Inv X pins σ H s:=I.pins_of fun p a=>I.pin p (yP _ (yH _ a))
theorem jl {l:Expr} {wi:TI} (E:PassesOwn (model X.prog X.w) X.A X.env X.xe) (hc:X.calm=true) (hi:PI X tg l wi) (hg:PG X tg g) (hb:PSs X body tb)
  (hs:∀ x,foldedSetIterable l X.env x=pure x:=by intro _;rfl):PS X (.For tg l body [] pos) (qgF wi g tb):=by
 intro pins s σ H D I h;refine wpAny_For (thn (hi pins s σ H _ I h) fun v s1 h1=>thn h1 fun aa s2 h2=>?_) hs;obtain ⟨it,fp,tn,J,H2,e,I2,T,S,f2,W,⟨m0,w0⟩,turn⟩:=h2;subst e;have p:∀ {H':Hp},(∀ b∈fp,H' b=none)->∀ b∈fp,qcY X pins H' b:=fun hn b hb=>⟨hn b hb,(f2 b hb).2⟩;refine codeAny_forLoop_any (fun n s'=>∃ i q H',Inv X pins q H' s'/\tn i s'.heap/\(∀ b∈fp,H' b=none)/\W i n q H') ?_ m0 ⟨0,σ,H2,I2,S,fun b hb=>(f2 b hb).1,w0⟩;rintro n s3 ⟨i,y,L,Z,G,C,w3⟩;rcases turn i n y L w3 with ⟨K,qn⟩ | ⟨go,N,hN,step⟩
 .refine xn E (thn (T.done X rfl rfl rfl hc i pins s3 y L X.xe Z (p C) G K) fun r s4 ⟨P,I4⟩=>?_);subst P;exact XM ⟨y,L,I4,qn⟩
 .refine xn E (thn (T.item X rfl rfl rfl hc i pins s3 y L X.xe Z (p C) G go) fun r s4 ⟨u,P,h4⟩=>?_);subst P;refine xn E (thn h4 fun _ s5 ⟨x,Y,I5,r5,y5,B,O⟩=>?_);have M:=I5.pinned (p O) (T.obj _ _ B);refine xn E (thn (hg _ s5 y Y x u _ M r5 (step x Y y5)) fun _ s6 ⟨U,H6,I6,q6⟩=>?_);refine xn E (thn (hb _ s6 U H6 _ I6 q6) fun f R z=>?_)
  have again:∀ {a:St} {c:Hp},Inv X (pins++qcq fp s5.heap) a c R->N a c->∃ m,m<n/\∃ i q H',Inv X pins q H' R/\tn i R.heap/\(∀ b∈fp,H' b=none)/\W i m q H':=fun {a c} j F=>by
   obtain ⟨m',hm,w7⟩:=hN a c F;refine ⟨m',hm,i+1,a,c,j.unpinned,T.keep _ _ _ B fun b hb o e=>(j.pin (b,o) (yP _ (yP _ (qah hb e)))).1,fun b hb=>?_,w7⟩;obtain ⟨o,e,d⟩:=T.obj _ _ B b hb;exact (j.pin (b,o) (yP _ (yP _ (qah hb e)))).2.1
  cases f with
  | next=>obtain ⟨a,c,j,F⟩:=z;exact again j F
  | cont=>obtain ⟨a,c,j,F⟩:=z;exact again j F
  | brk=>obtain ⟨a,c,j,z⟩:=z;exact ⟨a,c,j.unpinned,z⟩
  | ret v=>obtain ⟨x7,a,c,j,r7,z⟩:=z;exact ⟨x7,a,c,j.unpinned,r7,z⟩
end
theorem ju {K:yg} (b:Nat->St->Hp->Prop) (l:b 0 σ H) (hl:∀ i σ H,i<=xs.length->b i σ H->SqL K H a xs)
  (r:∀ i x σ H,xs[i]?=some x->b i σ H->g x σ H fun d h=>tb { D with nx:=b (i+1),ct:=b (i+1),bk:=D.nx } d h) (n:∀ σ H,b xs.length σ H->D.nx σ H) :
  ∃ W:Nat->Nat->St->Hp->Prop,(∃ m,W 0 m σ H)/\∀ i m σ H,W i m σ H ->
   ((Itl K a).stop i H/\D.nx σ H)\/((Itl K a).go i H/\∃ N:St->Hp->Prop,(∀ c H',N c H'->∃ j,j<m/\W (i+1) j c H')/\∀ x H',(Itl K a).yld i H x H'->g x σ H' fun d h=>tb { D with nx:=N,ct:=N,bk:=D.nx } d h):=by
 refine ⟨fun i m σ H=>m=xs.length-i/\i<=xs.length/\b i σ H,⟨xs.length,by simp,YH _,l⟩,?_⟩;rintro i m σ H ⟨rfl,o,p⟩;have q:=hl i σ H o p;by_cases f:i<xs.length
 .refine .inr ⟨⟨xs,xs[i],q,by simp [f]⟩,b (i+1),fun c H' s=>⟨xs.length-(i+1),by omega,rfl,f,s⟩,fun x H' y=>?_⟩;obtain ⟨e,y⟩:=y;subst e;exact r i x σ _ (y xs q) p
 .have e:i=xs.length:=by omega
  subst e;exact .inl ⟨⟨xs,q,yh _⟩,n σ H p⟩
theorem for_tup {K:yg} (b:Nat->St->Hp->Prop) (l:b 0 σ H) (hl:∀ i σ H,i<=xs.length->b i σ H->SqT K H a xs)
  (r:∀ i x σ H,xs[i]?=some x->b i σ H->g x σ H fun d h=>tb { D with nx:=b (i+1),ct:=b (i+1),bk:=D.nx } d h) (n:∀ σ H,b xs.length σ H->D.nx σ H) :
  ∃ W:Nat->Nat->St->Hp->Prop,(∃ m,W 0 m σ H)/\∀ i m σ H,W i m σ H ->
   ((Itt K a).stop i H/\D.nx σ H)\/((Itt K a).go i H/\∃ N:St->Hp->Prop,(∀ c H',N c H'->∃ j,j<m/\W (i+1) j c H')/\∀ x H',(Itt K a).yld i H x H'->g x σ H' fun d h=>tb { D with nx:=N,ct:=N,bk:=D.nx } d h):=by
 refine ⟨fun i m σ H=>m=xs.length-i/\i<=xs.length/\b i σ H,⟨xs.length,by simp,YH _,l⟩,?_⟩;rintro i m σ H ⟨rfl,o,p⟩;have q:=hl i σ H o p;by_cases f:i<xs.length
 .refine .inr ⟨⟨xs,xs[i],q,by simp [f]⟩,b (i+1),fun c H' s=>⟨xs.length-(i+1),by omega,rfl,f,s⟩,fun x H' y=>?_⟩;obtain ⟨e,y⟩:=y;subst e;exact r i x σ _ (y xs q) p
 .have e:i=xs.length:=by omega
  subst e;exact .inl ⟨⟨xs,q,yh _⟩,n σ H p⟩
theorem jF (a:Nat->St->Hp->Prop) (j:a 0 σ H)
  (o:∀ i σ H,i<n->a i σ H->g (.int (lo+i)) σ H fun d f=>tb { D with nx:=a (i+1),ct:=a (i+1),bk:=D.nx } d f) (l:∀ σ H,a n σ H->D.nx σ H) :
  ∃ W:Nat->Nat->St->Hp->Prop,(∃ m,W 0 m σ H)/\∀ i m σ H,W i m σ H ->
   ((Itr lo n).stop i H/\D.nx σ H)\/((Itr lo n).go i H/\∃ N:St->Hp->Prop,(∀ c H',N c H'->∃ h,h<m/\W (i+1) h c H')/\∀ x H',(Itr lo n).yld i H x H'->g x σ H' fun d f=>tb { D with nx:=N,ct:=N,bk:=D.nx } d f):=by
 refine ⟨fun i m σ H=>m=n-i/\i<=n/\a i σ H,⟨n,by simp,YH _,j⟩,?_⟩;rintro i m σ H ⟨rfl,r,p⟩;by_cases b:i<n
 .refine .inr ⟨b,a (i+1),fun c H' q=>⟨n-(i+1),by omega,rfl,b,q⟩,fun x H' y=>?_⟩;obtain ⟨e,y⟩:=y;subst e y;exact o i σ _ b p
 .have e:i=n:=by omega
  subst e;exact .inl ⟨yh _,l σ H p⟩
abbrev R2:=V->V->Hp->VK->Prop
def OpR (X:Cx) (f:Value->Value->Sem Value) (r:R2):Prop:=
 ∀ (pins:List (Addr×Obj)) (s:Shared) (σ:St) (H:Hp) (x y:V) (v u:Value) (Q:VK),Inv X pins σ H s->RelV x v->RelV y u->r x y H Q ->
  wpAny (model X.prog X.w) X.A (f v u) (EP X pins σ Q) X.xe s
def UnR (X:Cx) (f:Value->Sem Value) (r:V->Hp->VK->Prop):Prop:=
 ∀ (pins:List (Addr×Obj)) (s:Shared) (σ:St) (H:Hp) (x:V) (v:Value) (Q:VK),Inv X pins σ H s->RelV x v->r x H Q ->
  wpAny (model X.prog X.w) X.A (f v) (EP X pins σ Q) X.xe s
def zv (X:Cx) (f:Value) (r:List V->Hp->VK->Prop):Prop:=
 ∀ (pins:List (Addr×Obj)) (s:Shared) (σ:St) (H:Hp) (xs:List V) (us:List Value) (Q:VK),Inv X pins σ H s->Vals xs us->r xs H Q ->
  wpAny (model X.prog X.w) X.A (call f us) (EP X pins σ Q) X.xe s
def tOp (r:R2) (ta tb:TE):TE:=fun σ H Q=>ta σ H fun x a=>tb σ a fun y b=>r x y b Q
def tUn (r:V->Hp->VK->Prop) (ta:TE):TE:=fun σ H Q=>ta σ H fun x a=>r x a Q
def rI (C:Int->Int->Prop) (g:Int->Int->V):R2:=fun x y H Q=>∃ i j,x=.int i/\y=.int j/\C i j/\Q (g i j) H
def rI0 (g:Int->Int->V):R2:=fun x y H Q=>∃ i j,x=.int i/\y=.int j/\Q (g i j) H
def rU (g:Int->V):V->Hp->VK->Prop:=fun x H Q=>∃ i,x=.int i/\Q (g i) H
section
variable {X:Cx} {a b c:Expr} {ta tb tc:TE} {pos:Pos}
theorem qgo (m:PE X a ta) (hb:PE X b tb) {R:V->V->Hp->Prop} (I:Inv X pins σ H s)
  (h:ta σ H fun x i=>tb σ i fun y c=>R x y c) {Q:Value->Shared->Prop}
  (n:∀ v u g x y c,Inv X pins σ c g->RelV x v->RelV y u->R x y c->wpAny (model X.prog X.w) X.A (f v u) Q X.xe g) :
  wpAny (model X.prog X.w) X.A (eval a X.env) (fun v d=>wpAny (model X.prog X.w) X.A (eval b X.env) (fun u e=>wpAny (model X.prog X.w) X.A (f v u) Q X.xe e) X.xe d) X.xe s:=by
 refine thn (m pins s σ H _ I h) fun v z ⟨x,i,j,q,o⟩=>?_;refine thn (hb pins z σ i _ j o) fun u g ⟨y,c,l,r,p⟩=>?_;exact n v u g x y c l q r p
theorem qE {op:Operator} (f:OpR X (binaryOp op) r) (e:PE X a ta) (hb:PE X b tb):PE X (.BinOp a op b pos) (tOp r ta tb):=by
 intro pins s σ H Q I h;exact wpAny_BinOp (qgo e hb I h fun v u j x y c d g i q=>f pins j σ c x y v u Q d g i q)
theorem qav {op:UnaryOp} {r:V->Hp->VK->Prop} (e:UnR X (unaryOp op) r) (d:PE X a ta):PE X (.UnaryOp op a pos) (tUn r ta):=by
 intro pins s σ H Q I h;exact UnaryOp_ (thn (d pins s σ H _ I h) fun v i ⟨x,b,c,g,f⟩=>e pins i σ b x v Q c g f)
theorem opI {C:Int->Int->Prop} {g:Int->Int->Int}
  (a:∀ (i j:Int) (t u:Tok) (s:Shared) (Q:Value->Shared->Prop) (E:Value->Shared->Prop),C i j->Q (.int (g i j) s.toks) { s with toks:=s.toks+1 }->wpAny (model X.prog X.w) X.A (f (.int i t) (.int j u)) Q E s) :
  OpR X f (rI C fun i j=>.int (g i j)):=by
 intro pins s σ H x y v u Q I b c h;obtain ⟨i,j,rfl,rfl,hc,q⟩:=h;obtain ⟨t,rfl⟩:=b;obtain ⟨t',rfl⟩:=c;exact a i j t t' s _ _ hc ⟨.int (g i j),H,I.tok _,⟨_,rfl⟩,q⟩
theorem qgh {g:Int->Int->Int}
  (a:∀ (i j:Int) (t u:Tok) (s:Shared) (Q:Value->Shared->Prop) (E:Value->Shared->Prop),Q (.int (g i j) s.toks) { s with toks:=s.toks+1 }->wpAny (model X.prog X.w) X.A (f (.int i t) (.int j u)) Q E s) :
  OpR X f (rI0 fun i j=>.int (g i j)):=by
 intro pins s σ H x y v u Q I b c h;obtain ⟨i,j,rfl,rfl,q⟩:=h;obtain ⟨t,rfl⟩:=b;obtain ⟨t',rfl⟩:=c;exact a i j t t' s _ _ ⟨.int (g i j),H,I.tok _,⟨_,rfl⟩,q⟩
theorem qgp {g:Int->Int->Bool}
  (a:∀ (i j:Int) (t u:Tok) (s:Shared) (Q:Value->Shared->Prop) (E:Value->Shared->Prop),Q (.bool (g i j)) s->wpAny (model X.prog X.w) X.A (f (.int i t) (.int j u)) Q E s) :
  OpR X f (rI0 fun i j=>.bl (g i j)):=by
 intro pins s σ H x y v u Q I b c h;obtain ⟨i,j,rfl,rfl,q⟩:=h;obtain ⟨t,rfl⟩:=b;obtain ⟨t',rfl⟩:=c;exact a i j t t' s _ _ ⟨.bl (g i j),H,I,rfl,q⟩
def CDiv (i j:Int):Prop:=0<j/\j<1073741824
def qgG (i j:Int):Prop:=0<=j/\j<=1000000/\i.natAbs<2 ^ 64
def CMul (i j:Int):Prop:=(-(2 ^ 64)<i/\i<2 ^ 64)\/(-(2 ^ 64)<j/\j<2 ^ 64)
theorem CMul.ok {i j:Int} (h:CMul i j):IntMulOk i j:=by
 rcases h with ⟨h1,a⟩ | ⟨h1,a⟩
 .exact .of_left (intBits_le_64 h1 a)
 .exact .of_right (intBits_le_64 h1 a)
theorem two_pow_nn (k:Nat):(0:Int)<=2 ^ k:=by
 rw [two_pow_cast];exact Int.natCast_nonneg _
theorem op_add:OpR X (binaryOp .Add) (rI0 fun i j=>.int (i+j)):=qgh fun _ _ _ _ _ _ _ q=>add_int q
theorem zS:OpR X (binaryOp .Sub) (rI0 fun i j=>.int (i-j)):=qgh fun _ _ _ _ _ _ _ q=>sub_int q
theorem op_mul:OpR X (binaryOp .Mult) (rI CMul fun i j=>.int (i*j)):=opI fun _ _ _ _ _ _ _ hc q=>mul_int q hc.ok
theorem qcZ:OpR X (binaryOp .FloorDiv) (rI CDiv fun i j=>.int (i / j)):=opI fun i j _ _ _ _ _ hc q=>by
 have h1:(0:Int)<j:=hc.1;have a:j<1073741824:=hc.2;exact floordiv_int (by omega) (by rw [Int.fdiv_eq_ediv_of_nonneg i (by omega)];exact q) (.inl (PyProof.noPylong_small (by omega)))
theorem zw:OpR X (binaryOp .Mod) (rI (fun _ j=>0<j) fun i j=>.int (i % j)):=opI fun i j _ _ _ _ _ hc q=>by
 have h1:(0:Int)<j:=hc;exact mod_int' (by omega) (by rw [Int.fmod_eq_emod_of_nonneg i (by omega)];exact q)
theorem op_pow:OpR X (binaryOp .Pow) (rI qgG fun i j=>.int (i ^ j.toNat)):=opI fun _ _ _ _ _ _ _ hc q=>pow_int_small hc.1 hc.2.1 hc.2.2 q
theorem qbN:OpR X (binaryOp .LShift) (rI qgG fun i j=>.int (i*2 ^ j.toNat)):=opI fun _ _ _ _ _ _ _ hc q=>lshift_int_small hc.1 hc.2.1 hc.2.2 q
theorem qdq:OpR X (binaryOp .RShift) (rI (fun _ j=>0<=j) fun i j=>.int (i / 2 ^ j.toNat)):=opI fun i j _ _ _ _ _ hc q =>
 rshift_int hc (by rw [Int.fdiv_eq_ediv_of_nonneg i (two_pow_nn _)];exact q)
theorem qdr:OpR X (binaryOp .BitAnd) (rI0 fun i j=>.int (Builtin.bitAnd i j)):=qgh fun _ _ _ _ _ _ _ q=>and_int q
theorem qeW:OpR X (binaryOp .BitOr) (rI0 fun i j=>.int (Builtin.bitOr i j)):=qgh fun _ _ _ _ _ _ _ q=>or_int q
theorem unI {f:Value->Sem Value} {g:Int->Int}
  (a:∀ (i:Int) (t:Tok) (s:Shared) (Q:Value->Shared->Prop) (E:Value->Shared->Prop),Q (.int (g i) s.toks) { s with toks:=s.toks+1 }->wpAny (model X.prog X.w) X.A (f (.int i t)) Q E s) :
  UnR X f (rU fun i=>.int (g i)):=by
 intro pins s σ H x v Q I b h;obtain ⟨i,rfl,q⟩:=h;obtain ⟨t,rfl⟩:=b;exact a i t s _ _ ⟨.int (g i),H,I.tok _,⟨_,rfl⟩,q⟩
theorem j5:UnR X (unaryOp .USub) (rU fun i=>.int (-i)):=unI fun _ _ _ _ _ q=>neg_int q
end
noncomputable def scal:V->V->Bool
 | .non,.non=>true | .non,.int _=>true | .int _,.non=>true | .non,.bl _=>true | .bl _,.non=>true | .non,.str _=>true | .str _,.non=>true
 | .int _,.int _=>true | .bl _,.bl _=>true | .str _,.str _=>true | .byt _,.byt _=>true
 | .int _,.str _=>true | .str _,.int _=>true | .bl _,.str _=>true | .str _,.bl _=>true
 | _,_=>false
def rEq:R2:=fun x y H Q=>scal x y=true/\Q (.bl (decide (x=y))) H
theorem dec_bl {i j:Bool}:decide (V.bl i=V.bl j)=(i==j):=by
 rw [Yb];simp
section
variable {X:Cx} {a b c:Expr} {ta tb tc:TE} {pos:Pos}
theorem qds {Q:VK} {k k':Bool} (I:Inv X pins σ H s) (q:Q (.bl k) H) (e:k=k'):EP X pins σ Q (.bool k') s:=by
 subst e;exact ⟨.bl k,H,I,rfl,q⟩
theorem qd3:OpR X (compareOp .Lt) (rI0 fun i j=>.bl (decide (i<j))):=qgp fun _ _ _ _ _ _ _ q=>lt_int q
theorem op_le:OpR X (compareOp .LtE) (rI0 fun i j=>.bl (decide (i<=j))):=qgp fun _ _ _ _ _ _ _ q=>le_int q
theorem qc0:OpR X (compareOp .Gt) (rI0 fun i j=>.bl (decide (j<i))):=qgp fun _ _ _ _ _ _ _ q=>gt_int q
theorem op_isN:OpR X (compareOp .Is) (fun x y H Q=>y=.non/\Q (.bl (decide (x=.non))) H):=by
 intro pins s σ H x y v u Q I a b h;obtain ⟨rfl,q⟩:=h;cases b;refine is_none_gen (qds I q ?_);cases x<;>first
  | (cases a;rfl)
  | (obtain ⟨t,rfl⟩:=a;rfl)
theorem qc1:OpR X (compareOp .IsNot) (fun x y H Q=>y=.non/\Q (.bl (!decide (x=.non))) H):=by
 intro pins s σ H x y v u Q I a b h;obtain ⟨rfl,q⟩:=h;cases b;refine isnot_none_gen (qds I q ?_);cases x<;>first
  | (cases a;rfl)
  | (obtain ⟨t,rfl⟩:=a;rfl)
theorem qC (b:Expr) (h:op≠.In:=by decide) (d:op≠.NotIn:=by decide):behindInMarks op b=false:=by
 have a:(op==CmpOp.In)=false:=by cases op<;>first | rfl | exact absurd rfl h
 have c:(op==CmpOp.NotIn)=false:=by cases op<;>first | rfl | exact absurd rfl d
 cases b<;>simp [behindInMarks,a,c]
theorem jE (g:OpR X (compareOp op) r) (e:PE X a ta) (hb:PE X b tb) (f:behindInMarks op b=false):PE X (.Compare a [op] [b] pos) (tOp r ta tb):=by
 intro pins s σ H Q I h;exact wpAny_Compare1 (qgo e hb I h fun v u l x y c d i j q=>g pins l σ c x y v u Q d i j q) f
def qfv (t:TE):TT:=fun σ H Q=>t σ H fun x H'=>∃ k,x=.bl k/\Q k H'
theorem qj (o:OpR X (compareOp op) r) (m:PE X a ta) (hb:PE X b tb) (n:behindInMarks op b=false):PT X (.Compare a [op] [b] pos) (qfv (tOp r ta tb)):=by
 intro pins s σ H Q I h
 refine wpAny_isTrue_Compare1 (thn (m pins s σ H _ I h) fun v D ⟨x,d,i,A,p⟩=>thn (hb pins D σ d _ i p) fun u E ⟨y,f,j,B,q⟩ =>
  thn (o pins E σ f x y v u _ j A B q) fun c F ⟨z,g,l,C,k,e,w⟩=>?_) n
 subst e;cases C;exact xt ⟨g,l,w⟩
def qd4 (r r':R2) (ta tb tc:TE):TE:=fun σ H Q=>ta σ H fun x b=>tb σ b fun y c=>r x y c fun z a=>∃ k,z=.bl k /\
 (if k=true then tc σ a fun e d=>r' y e d Q else Q (.bl false) a)
theorem pe_chain (C:OpR X (compareOp op) r) (f:OpR X (compareOp op') r') (A:PE X a ta) (hb:PE X b tb) (hc:PE X c tc)
  (B:lastMarks [op,op'] [b,c]=false:=by with_unfolding_all rfl):PE X (.Compare a [op,op'] [b,c] pos) (qd4 r r' ta tb tc):=by
 intro pins s σ H Q I h
 refine Compare_chain (thn (A pins s σ H _ I h) fun v L ⟨x,m,p,G,D⟩=>chain_link (thn (hb pins L σ m _ p D) fun u M ⟨y,n,q,l,E⟩ =>
  thn (C pins M σ n x y v u _ q G l E) fun d N ⟨z,g,i,J,k,e,j⟩=>?_)) B
 subst e;cases J;refine xt ?_
 cases k with
 | false=>exact ite_ff ⟨.bl false,g,i,rfl,j⟩
 | true=>exact ite_tt (chain_last (thn (hc pins N σ g _ i j) fun P O ⟨R,o,w,K,F⟩=>f pins O σ o y R u P Q w l K F))
theorem pt_chain (G:OpR X (compareOp op) r) (f:OpR X (compareOp op') r') (E:PE X a ta) (hb:PE X b tb) (hc:PE X c tc)
  (F:lastMarks [op,op'] [b,c]=false:=by with_unfolding_all rfl):PT X (.Compare a [op,op'] [b,c] pos) (qfv (qd4 r r' ta tb tc)):=by
 intro pins s σ H Q I h
 refine isTrue_chain (thn (E pins s σ H _ I h) fun v T ⟨x,m,q,O,K⟩=>test_link (thn (hb pins T σ m _ q K) fun u U ⟨y,n,w,l,L⟩ =>
  thn (G pins U σ n x y v u _ w O l L) fun d W ⟨z,g,i,P,k,e,j⟩=>?_)) F
 subst e;cases P;refine xt ?_
 cases k with
 | false =>
  obtain ⟨k',C,J⟩:=j;cases C;exact ite_ff ⟨g,i,J⟩
 | true =>
  refine ite_tt (test_last (thn (hc pins W σ g _ i j) fun Z Y ⟨z',o,A,R,M⟩=>thn (f pins Y σ o y z' u Z _ A l R M) fun d' s5 ⟨z2,p,B,S,k2,D,N⟩=>?_));subst D;cases S;exact xt ⟨p,B,N⟩
theorem qbO:(sizeLine:Nat)<2 ^ 63:=by rw [YB];decide
theorem op_add_str:OpR X (binaryOp .Add) (fun x y H Q=>∃ i j,x=.str i/\y=.str j/\i.length+j.length<=sizeLine/\Q (.str (i++j)) H):=by
 intro pins s σ H x y v u Q I a b h;obtain ⟨i,j,rfl,rfl,hz,q⟩:=h;obtain ⟨t,rfl⟩:=a;obtain ⟨t',rfl⟩:=b;exact add_str (fun t' tk=>⟨.str (i++j),H,I.tok _,⟨_,rfl⟩,q⟩) hz
theorem qbd {x:V} (r:Vals [x] us):∃ u,us=[u]/\RelV x u:=by
 cases r with
 | cons r1 r2=>cases r2;exact ⟨_,rfl,r1⟩
theorem qd5 {x:V} (r:Vals [x,y] us):∃ u a,us=[u,a]/\RelV x u/\RelV y a:=by
 cases r with
 | cons r1 r2 =>
  cases r2 with
  | cons r3 r4=>cases r4;exact ⟨_,_,rfl,r1,r3⟩
theorem qaI (hc:X.calm=true):zv X (.builtin "max") (fun xs H Q=>∃ i j,xs=[.int i,.int j]/\Q (.int (if j>i then j else i)) H):=by
 intro pins s σ H xs us Q I r h;obtain ⟨i,j,rfl,q⟩:=h;obtain ⟨u,b,rfl,⟨t,rfl⟩,⟨t',rfl⟩⟩:=qd5 r;refine max_two_ints (I.ok.hd hc) fun h' tk k=>⟨_,H,I.kept k,?_,q⟩;by_cases a:j>i
 .rw [yD a,yD a];exact ⟨_,rfl⟩
 .rw [yy a,yy a];exact ⟨_,rfl⟩
theorem qaJ (hc:X.calm=true):zv X (.builtin "min") (fun xs H Q=>∃ i j,xs=[.int i,.int j]/\Q (.int (if j<i then j else i)) H):=by
 intro pins s σ H xs us Q I r h;obtain ⟨i,j,rfl,q⟩:=h;obtain ⟨u,b,rfl,⟨t,rfl⟩,⟨t',rfl⟩⟩:=qd5 r;refine min_two_ints (I.ok.hd hc) fun h' tk k=>⟨_,H,I.kept k,?_,q⟩;by_cases a:j<i
 .rw [yD a,yD a];exact ⟨_,rfl⟩
 .rw [yy a,yy a];exact ⟨_,rfl⟩
theorem qaK:zv X (.type "int") (fun xs H Q=>(∃ i,xs=[.int i]/\Q (.int i) H)\/∃ k,xs=[.bl k]/\Q (.int (if k then 1 else 0)) H):=by
 intro pins s σ H xs us Q I r h;rcases h with ⟨i,rfl,q⟩ | ⟨k,rfl,q⟩
 .obtain ⟨u,rfl,t,rfl⟩:=qbd r;exact call_int_int ⟨.int i,H,I,⟨_,rfl⟩,q⟩
 .obtain ⟨u,rfl,a⟩:=qbd r;cases a;exact call_int_bool ⟨.int (if k then 1 else 0),H,I.tok _,⟨_,rfl⟩,q⟩
end
structure ObjM (h:Heap) (x dx C:Addr) (mA:Str->Option Value):Prop where
 obj:h.get? x=some (PySem.W.instObj C dx)
 ns:h.Ns1 dx mA
 ne:dx≠x
theorem qcr (n:h.Ns1 dx mA):∃ od,h.get? dx=some od/\∀ name,PySem.W.lookIn name od=some (mA name):=by
 obtain ⟨o,es,ep,i,d,f,_,g⟩:=n;refine ⟨o,i,fun name=>?_⟩;have e:=g name;unfold nsFind findBy at e;rw [<- Array.find?_toList] at e;unfold PySem.W.lookIn;rw [d];dsimp only;split
 .rename_i y q
  rw [q] at e;exact congrArg some e
 .rename_i q
  rw [q] at e
  have a:es.toList.any (·.refKey)=false:=by
   rw [List.any_eq_false];intro y j;obtain ⟨z,t,b⟩:=f y (Array.mem_toList_iff.mp j);simp [DictEntry.refKey,b]
  have c:¬ es.toList.any (·.refKey)=true:=by rw [a];exact Yn
  rw [yy c];exact congrArg some e
theorem ObjM.look {x:Addr} (I:ObjM h x dx C mA):∃ od,PySem.W.InstAt h x (PySem.W.instObj C dx) C (some od)/\∀ name,PySem.W.lookIn name od=some (mA name):=
 let ⟨od,ho,hl⟩:=qcr I.ns
 ⟨od,⟨I.obj,rfl,rfl,ho⟩,hl⟩
section
variable {prog:Program} {w:World} {A:Around} {E:Value->Shared->Prop} {s:Shared} {K:yg} {x dx C f:Addr} {mA:Str->Option Value} {name:Str} {v:Value}
theorem get_map {a:Bool} {Q:Value->Shared->Prop} (X:K.In s.heap) (I:ObjM s.heap x dx C mA) (d:PySem.W.plainGet K C name=true) (e:PySem.W.hasDictIn K C=true)
  (c:PySem.W.findIn K (.ref C) name=some none) (hv:mA name=some v) (b:PySem.W.handedIn v=true) (h:Q v { s with toks:=s.toks+1 }) :
  wpAny (model prog w) A (getAttr (.ref x) name a) Q E s:=by
 obtain ⟨od,J,hl⟩:=I.look;exact PySem.W.get_value X J (X0 d).1 (PySem.W.findObj_own e c rfl (by rw [hl,hv])) b h
theorem get_meth {Q:Value×List Value->Shared->Prop} (X:K.In s.heap) (I:ObjM s.heap x dx C mA) (a:PySem.W.plainGet K C name=true)
  (b:PySem.W.findIn K (.ref C) name=some (some (.ref f))) (c:PySem.W.isFn K (.ref f)=true) (hv:mA name=none) (h:Q (.ref f,[.ref x]) s) :
  wpAny (model prog w) A (getMethod (.ref x) name pl) Q E s:=by
 obtain ⟨od,J,hl⟩:=I.look;exact PySem.W.method_fn X J (X0 a).1 (X0 a).2 b (Ys.mp c) (by show (PySem.W.lookIn name od).map (·.isSome)=some false;rw [hl,hv];rfl) h
theorem set_map {ns:List Str} {Q:Unit->Shared->Prop} (X:K.In s.heap) (I:ObjM s.heap x dx C mA)
  (o:PySem.W.findIn K (.ref C) "__setattr__"=some (some (.builtin "object.__setattr__"))) (n:PySem.W.plainOver K C=true) (p:PySem.W.takerIn K C name=some none) (m:PySem.W.hasDictIn K C=true)
  (hw:PySem.Within mA ns) (hsz:ns.length<=sizeLine)
  (h:∀ h',ObjM h' x dx C (fun y=>if y=name then some v else mA y)->Heap.SameBut dx s.heap h'->Q () { s with heap:=h',toks:=s.toks+2 }) :
  wpAny (model prog w) A (setAttr (.ref x) name v) Q E s:=by
 obtain ⟨od,J,hl⟩:=I.look;refine PySem.W.set_plain X J o (PySem.W.osa_open (s:={ s with toks:=s.toks+1 }) (r:=none) X J n p fun b=>?_);obtain ⟨u,hc,f⟩:=xE m;have q:s.heap.get? x=some ⟨.ref C,some dx,.plain,#[]⟩:=I.obj;refine yr (yu (yr (yr (wpAny_loadPart q (yr (PySem.W.Looks.here (s:={ s with toks:=s.toks+1 }) (X1 X hc) ?_))))));rw [f];refine yu (a:=some dx) (yr (yu (yr ?_)));refine wpAny_nsSet1 (s:={ s with toks:=s.toks+1 }) I.ns fun h' c d=>?_;obtain ⟨z,l,j,i,g,e⟩:=c.count (PySem.Within.cons name v hw);refine yr (wpAny_lookBehind i (by rw [g];exact pastItsLine_dict (yi e (by rw [yC];omega))) ?_);exact yu (h _ ⟨(d.2 _ (Yh I.ne)).trans I.obj,c,I.ne⟩ d)
theorem make_map {R:Result->Shared->Prop} {vs:List Value} (X:K.In s.heap) (c:PySem.W.makesIn K C=true)
  (b:PySem.W.findIn K (.ref C) "__init__"=some (some (.ref f))) (a:PySem.W.typeIn K (.ref f)=some (.type "function"))
  (h:codeAny (model prog w) (A.under (.builtin "type.__call__" ⟨.ref C::vs,kw⟩)) (.call (.ref f) ⟨.ref (s.heap.objs.size+1)::vs,kw⟩) (PySem.W.InitBack (s.heap.objs.size+1) R)
   { s with heap:=(s.heap.push PySem.W.emptyDict).push (PySem.W.instObj C s.heap.objs.size) }) :
  codeAny (model prog w) A (.call (.ref C) ⟨vs,kw⟩) R s:=by
 obtain ⟨e,g,d,t,i⟩:=s;exact PySem.W.make_core (PySem.W.makes_of X c) (Y3 X b) (fun self=>PySem.W.bind_fn X self a) (.inl rfl) h
end
noncomputable def qG (f:Str) (v:V):List (Str×V)->List (Str×V)
 | []=>[(f,v)]
 | (g,x)::r=>if g=f then (g,v)::r else (g,x)::qG f v r
theorem qz (f g:Str) (v:V):∀ fs:List (Str×V),(qG f v fs).lookup g=if g=f then some v else fs.lookup g
 | []=>by
  show List.lookup g [(f,v)]=_;by_cases h:g=f
  .have hb:(g==f)=true:=Ys.mpr h;simp only [List.lookup,hb,yD h]
  .have hb:(g==f)=false:=YC.mpr h;simp only [List.lookup,hb,yy h]
 | (k,x)::r=>by
  have b:=qz f g v r;rw [show qG f v ((k,x)::r)=(if k=f then (k,v)::r else (k,x)::qG f v r) from rfl];by_cases a:k=f
  .rw [yD a];by_cases h:g=k
   .have hb:(g==k)=true:=Ys.mpr h;simp only [List.lookup,hb,yD (h.trans a)]
   .have hb:(g==k)=false:=YC.mpr h;simp only [List.lookup,hb,yy (fun e:g=f=>h (e.trans a.symm))]
  .rw [yy a];by_cases h:g=k
   .have hb:(g==k)=true:=Ys.mpr h;simp only [List.lookup,hb,yy (fun e:g=f=>a (h.symm.trans e))]
   .have hb:(g==k)=false:=YC.mpr h;simp only [List.lookup,hb];exact b
theorem qbt (f:Str) (v:V):∀ fs:List (Str×V),f∈(qG f v fs).map (·.1)/\∀ g,g∈fs.map (·.1)->g∈(qG f v fs).map (·.1)
 | []=>⟨by simp [qG],fun g h=>by simp at h⟩
 | (k,x)::r=>by
  obtain ⟨b,c⟩:=qbt f v r;rw [show qG f v ((k,x)::r)=(if k=f then (k,v)::r else (k,x)::qG f v r) from rfl];by_cases a:k=f
  .rw [yD a];subst a;exact ⟨by simp,fun g h=>by simpa using h⟩
  .rw [yy a];refine ⟨?_,fun g h=>?_⟩
   .rw [Yt];exact yz _ b
   .rw [Yt] at h ⊢;rcases yB.mp h with e | e
    .exact yB.mpr (.inl e)
    .exact yz _ (c g e)
theorem jo (f:Str) (v:V):∀ fs:List (Str×V),(qG f v fs).length<=fs.length+1
 | []=>by simp [qG]
 | (k,x)::r=>by
  have b:=jo f v r;rw [show qG f v ((k,x)::r)=(if k=f then (k,v)::r else (k,x)::qG f v r) from rfl];by_cases a:k=f
  .rw [yD a,yC,yC];omega
  .rw [yy a,yC,yC];omega
theorem RelO.some_of {o:Option Value} (r:RelO (some v) o):∃ u,o=some u/\RelV v u:=by
 cases o with
 | none=>exact (show False from r).elim
 | some u=>exact ⟨u,rfl,r⟩
theorem RelO.none_of {o:Option Value} (r:RelO none o):o=none:=by
 cases o with
 | none=>rfl
 | some u=>exact (show False from r).elim
theorem qcs (r:RelV v u):PySem.W.handedIn u=true:=by
 cases v with
 | non=>cases (show u=Value.none from r);rfl
 | bl b=>cases (show u=Value.bool b from r);rfl
 | int i=>obtain ⟨t,e⟩:=(show ∃ t,u=Value.int i t from r);cases e;rfl
 | str x=>obtain ⟨t,e⟩:=(show ∃ t,u=Value.str x t from r);cases e;rfl
 | byt b=>obtain ⟨t,e⟩:=(show ∃ t,u=Value.bytes b t from r);cases e;rfl
 | flt b=>obtain ⟨t,e⟩:=(show ∃ t,u=Value.float b t from r);cases e;rfl
 | ref a=>cases (show u=Value.ref a from r);rfl
 | ty n=>cases (show u=Value.type n from r);rfl
section
variable {P:Program} {w:World} {H H':Hp} {h h':Heap} {a C dx:Addr} {fs fs':List (Str×V)}
theorem qa1 (b:HOk P w H h) (e:H a=some (.ins C dx fs)):∃ mA,ObjM h a dx C mA/\(∀ f,RelO (fs.lookup f) (mA f))/\PySem.Within mA (fs.map (·.1))/\fs.length<=1000/\H dx=some (.own a):=by
 obtain ⟨d,z,ne,c,mA,n,r,q⟩:=(show ObjOk P w H h a (.ins C dx fs) from b a _ e);exact ⟨mA,⟨c,n,ne⟩,r,q,z,d⟩
end
structure Cls (K:yg) (C:Addr):Prop where
 pg:PySem.W.plainGet K C Str.empty=true
 hd:PySem.W.hasDictIn K C=true
 po:PySem.W.plainOver K C=true
 sa:PySem.W.findIn K (.ref C) "__setattr__"=some (some (.builtin "object.__setattr__"))
theorem Cls.get {K:yg} (c:Cls K C) (f:Str):PySem.W.plainGet K C f=true:=c.pg
def NoAttr (K:yg) (C:Addr) (f:Str):Prop:=PySem.W.findIn K (.ref C) f=some none
theorem NoAttr.taker {K:yg} {f:Str} (n:NoAttr K C f):PySem.W.takerIn K C f=some none:=by
 unfold PySem.W.takerIn;rw [show PySem.W.findIn K (.ref C) f=some none from n];rfl
structure Con (K:yg) (C:Addr) (f:Str) (v:V) (u:Value):Prop where
 at_:PySem.W.findIn K (.ref C) f=some (some u)
 rel:RelV v u
 get:PySem.W.specialIn K u "__get__"=some none
 cp:PySem.W.copiedNames.contains f=false
structure Meth (K:yg) (C:Addr) (m:Str) (f:Addr):Prop where
 at_:PySem.W.findIn K (.ref C) m=some (some (.ref f))
 fn:PySem.W.isFn K (.ref f)=true
 kp:PySem.W.keepIn K (.ref f)=true
section
variable {X:Cx} {pins:List (Addr×Obj)} {σ:St} {H:Hp} {s:Shared} {a C dx:Addr} {fs:List (Str×V)} {f:Str} {v:V} {A:Around} {E:Value->Shared->Prop}
theorem getattr_ok {b:Bool} {Q:Value->Shared->Prop} (I:Inv X pins σ H s) (e:H a=some (.ins C dx fs)) (c:Cls X.K C) (n:NoAttr X.K C f) (l:fs.lookup f=some v)
  (h:∀ u s',Inv X pins σ H s'->RelV v u->Q u s'):wpAny (model X.prog X.w) A (getAttr (.ref a) f b) Q E s:=by
 obtain ⟨mA,O,r,_,_,_⟩:=qa1 I.hok e;obtain ⟨u,g,d⟩:=RelO.some_of (v:=v) (o:=mA f) (by rw [<- l];exact r f);exact get_map I.kIn O (c.get f) c.hd n g (qcs d) (h u _ (I.tok _) d)
theorem qbP {m:Str} {g:Addr} {Q:Value×List Value->Shared->Prop} (I:Inv X pins σ H s) (e:H a=some (.ins C dx fs)) (c:Cls X.K C) (k:Meth X.K C m g) (l:fs.lookup m=none)
  (h:Q (.ref g,[.ref a]) s):wpAny (model X.prog X.w) A (getMethod (.ref a) m pl) Q E s:=by
 obtain ⟨mA,O,r,_,_,_⟩:=qa1 I.hok e;have b:mA m=none:=RelO.none_of (by rw [<- l];exact r m);exact get_meth I.kIn O (c.get m) k.at_ k.fn b h
theorem setattr_ok {Q:Unit->Shared->Prop} (I:Inv X pins σ H s) (e:H a=some (.ins C dx fs)) (c:Cls X.K C) (n:NoAttr X.K C f) (hl:fs.length<1000) (p:RelV y u)
  (h:∀ s',Inv X pins σ (upd H a (.ins C dx (qG f y fs))) s'->Q () s'):wpAny (model X.prog X.w) A (setAttr (.ref a) f u) Q E s:=by
 obtain ⟨mA,O,r,j,_,i⟩:=qa1 I.hok e;have hz:(fs.map (·.1)).length<=sizeLine:=by rw [ya,YB];omega
 refine set_map I.kIn O c.sa c.po n.taker c.hd j hz fun h' d v=>h _ ?_;have l:∃ o,h'.get? dx=some o:=let ⟨o,_,_,e',_⟩:=d.ns;⟨o,e'⟩;refine I.write (x:=a) (e:=dx) (by rw [e];exact YV) (.inr i) (fun b q hb z=>(v.2 b hb).trans z) l ?_;refine ⟨by rw [qe O.ne];exact i,?_,O.ne,d.obj,_,d.ns,fun g=>?_,fun g m=>?_⟩
 .have:=jo f y fs;omega
 .show RelO ((qG f y fs).lookup g) (if g=f then some u else mA g);rw [qz];by_cases q:g=f
  .rw [yD q,yD q];exact p
  .rw [yy q,yy q];exact r g
 .by_cases q:g=f
  .rw [q];exact (qbt f y fs).1
  .refine (qbt f y fs).2 g (j g fun z=>m ?_);show (if g=f then some u else mA g)=none;rw [yy q];exact z
theorem Inv.made (I:Inv X pins σ H s):Inv X pins σ (upd (upd H s.heap.objs.size (.own (s.heap.objs.size+1))) (s.heap.objs.size+1) (.ins C s.heap.objs.size []))
  { s with heap:=(s.heap.push PySem.W.emptyDict).push (PySem.W.instObj C s.heap.objs.size) }:=by
 have c:(s.heap.push PySem.W.emptyDict).get? s.heap.objs.size=some PySem.W.emptyDict:=yW s.heap rfl
 have f:((s.heap.push PySem.W.emptyDict).push (PySem.W.instObj C s.heap.objs.size)).get? (s.heap.objs.size+1)=some (PySem.W.instObj C s.heap.objs.size):=by
  have:=yW (s.heap.push PySem.W.emptyDict) (o:=PySem.W.instObj C s.heap.objs.size) rfl
  rwa [xj] at this
 have g:(s.heap.push PySem.W.emptyDict).Ns s.heap.objs.size (fun _=>none):=⟨PySem.W.emptyDict,#[],_,c,rfl,(fun e h=>absurd h (by simp)),fun _=>rfl⟩;have d:=I.laid (a:=s.heap.objs.size) (o:=.own (s.heap.objs.size+1)) (h':=s.heap.push PySem.W.emptyDict) (t':=s.toks) (fun b u q=>yv _ q) (yh _) ⟨_,c⟩;refine d.laid (a:=s.heap.objs.size+1) (o:=.ins C s.heap.objs.size []) (t':=s.toks) (fun b u q=>yv _ q) (Nat.le_of_eq (xj _ _)) ?_;have ne:s.heap.objs.size≠s.heap.objs.size+1:=yI (XB _);refine ⟨by rw [qe ne,qb],YH _,ne,f,fun _=>none,(Heap.Ns1.of_empty g).at fun o q=>yv _ q,fun _=>YV,fun y i=>absurd rfl i⟩
theorem attr_of {prog:Program} {env:Env} {f:Str} {Q:Value->Shared->Prop} (hb:attributeBase e f env (eval e env)=eval e env)
  (h:wpAny (model prog w) A (eval e env) (fun o a=>wpAny (model prog w) A (getAttr o f true) Q E a) E s):wpAny (model prog w) A (eval (.Attribute e f pos) env) Q E s:=
 Attribute_any_ h (by rw [arm_eval_Attribute,hb])
end
section
variable {X:Cx} {o e value:Expr} {f:Str} {pos pos' tpos:Pos} {ta tv:TE}
end
section
variable {X:Cx} {pins:List (Addr×Obj)} {σ:St} {H:Hp} {s:Shared} {A:Around} {E:Value->Shared->Prop} {Q:Value->Shared->Prop} {c:Value} {b:Bool}
inductive TyOf (K:yg) (H:Hp):V->Value->Prop where
 | non:TyOf K H .non (.type "NoneType")
 | bl (x:Bool):TyOf K H (.bl x) (.type "bool")
 | int (i:Int):TyOf K H (.int i) (.type "int")
 | str (x:Str):TyOf K H (.str x) (.type "str")
 | flt (x:UInt64):TyOf K H (.flt x) (.type "float")
 | lst {a:Addr} {xs:List V} (e:H a=some (.lst xs)):TyOf K H (.ref a) (.type "list")
 | frz {a:Addr} {o:Obj} {xs:List V} (e:H a=some (.frz o (.lst xs))):TyOf K H (.ref a) (.type "list")
 | tup {a:Addr} {xs:List V} (e:H a=some (.tup xs)):TyOf K H (.ref a) (.type "tuple")
 | dK {a:Addr} {kvs:List (Key×V)} (e:H a=some (.dK kvs)):TyOf K H (.ref a) (.type "dict")
 | dT {a:Addr} {kvs:List (List Key×V)} (e:H a=some (.dT kvs)):TyOf K H (.ref a) (.type "dict")
 | ins {a C dx:Addr} {fs:List (Str×V)} (e:H a=some (.ins C dx fs)) (cl:Cls K C) (ha:PySem.W.findIn K (.ref C) "__class__"=some (some (.builtin "object.__class__")))
   (hn:PySem.W.specialIn K (.builtin "object.__class__") "__get__"=some (some (.builtin "getset_descriptor.__get__"))) (htk:PySem.W.takesIn K (.builtin "object.__class__")=some true)
   (hm:PySem.W.mroIn K C (.type "object")=some true):TyOf K H (.ref a) (.ref C)
end
structure Room (k:Nat) (A:Around):Prop where
 hd:A.handled=none
 dp:A.depth+3*k+5<recursionLimit
 un:A.units+16*k+200<cLine
 gd:A.guards=some []
theorem Room.mono {k:Nat} (r:Room k A) (h:j<=k):Room j A:=⟨r.hd,by have:=r.dp;omega,by have:=r.un;omega,r.gd⟩
theorem Room.deeper {k:Nat} (r:Room (k+1) A) (env:Env):Room k (A.deeper env):=
 ⟨r.hd,by have:=r.dp;show A.depth+1+3*k+5<_;omega,by have:=r.un;show A.units+3+16*k+200<_;omega,r.gd⟩
theorem make_depth:(A.under (.builtin "type.__call__" ⟨.ref C::us,kw⟩)).depth=A.depth+1:=by
 first | rfl | simp [Around.under,Code.weight,Code.isCreation,Code.isGuard,Code.isCaller,Code.frames,Code.isFrame,guardIds]
theorem make_units:(A.under (.builtin "type.__call__" ⟨.ref C::us,kw⟩)).units=A.units+1:=by
 first | rfl | simp [Around.under,Code.cUnits,Code.frames,Code.isFrame]
theorem make_guards:(A.under (.builtin "type.__call__" ⟨.ref C::us,kw⟩)).guards=A.guards:=by
 first | rfl | simp [Around.under,Code.guards,Code.isGuard,guardIds,pushGuards]
theorem Room.make {k:Nat} (r:Room (k+1) A) (C:Addr) (us:List Value) (kw:List (Str×Value)):Room k (A.under (.builtin "type.__call__" ⟨.ref C::us,kw⟩)):=
 ⟨r.hd,by have:=r.dp;rw [make_depth];omega,by have:=r.un;rw [make_units];omega,by rw [make_guards];exact r.gd⟩
theorem Room.depth {k:Nat} (r:Room k A):A.depth<recursionLimit:=by have:=r.dp;omega
def qgi:TA:=fun _ H Q=>Q [] H
def qfW (ta:TE) (tr:TA):TA:=fun σ H Q=>ta σ H fun x a=>tr σ a fun xs b=>Q (x::xs) b
section
variable {X:Cx} {e:Expr} {es:List Expr} {te:TE} {t:TA} {pos:Pos}
theorem qd:PA X [] qgi:=fun _ _ _ _ H Q I h=>kg ⟨[],H,I,.nil,h⟩
theorem qa (f:PE X e te) (g:PA X es t) (i:starEach (e::es) X.env=(false,eval e X.env)::starEach es X.env:=by rfl):PA X (e::es) (qfW te t):=by
 intro pos pins s σ H Q I h;rw [i];show wpAny _ _ (spliced ((false,eval e X.env)::backTo pos (starEach es X.env))) _ _ s;refine X6 (thn (f pins s σ H _ I h) fun u o ⟨x,a,c,m,j⟩=>?_);exact thn (g pos pins o σ a _ c j) fun us p ⟨xs,b,d,n,l⟩=>⟨x::xs,b,d,.cons m n,l⟩
def qgH (t:TA):TE:=fun σ H Q=>t σ H fun xs a=>xs.length<=sizeLine/\∀ p,a p=none->Q (.ref p) (upd a p (.tup xs))
def qgI (t:TA):TE:=fun σ H Q=>t σ H fun xs a=>xs.length<=sizeLine/\∀ p,a p=none->Q (.ref p) (upd a p (.lst xs))
theorem jp {x1} (h:PA X es t):PE X (.Tuple es x1 pos) (qgH t):=by
 intro pins s σ H Q I g;refine wpAny_Tuple_spliced (thn (h pos pins s σ H _ I g) fun us a ⟨xs,c,d,r,z,q⟩=>⟨by rw [<- r.length];exact z,?_⟩);have f:c a.heap.objs.size=none:=d.hok.fresh (yh _);refine ⟨.ref a.heap.objs.size,upd c a.heap.objs.size (.tup xs),d.laid (t':=a.toks) (fun b u e=>yv _ e) (yh _) ?_,rfl,q _ f⟩;exact ⟨z,us,r,⟨_,yW _ rfl,rfl,_,rfl⟩⟩
theorem qP (h:PA X es t):PE X (.List es pos) (qgI t):=by
 intro pins s σ H Q I g;refine wpAny_List_spliced (thn (h pos pins s σ H _ I g) fun us a ⟨xs,c,d,r,z,q⟩=>⟨by rw [<- r.length];exact z,?_⟩);have f:c a.heap.objs.size=none:=d.hok.fresh (yh _);refine ⟨.ref a.heap.objs.size,upd c a.heap.objs.size (.lst xs),d.laid (t':=a.toks) (fun b u e=>yv _ e) (yh _) ?_,rfl,q _ f⟩;exact ⟨z,us,0,r,yW _ rfl⟩
end
abbrev Sp:=List V->Hp->VK->XK->Prop
abbrev CXT:=List Env->Hp->Shared->XK->Value->Shared->Prop
structure Env0 (P:Program) (w:World) (K:yg) (mg:Str->Option Value) (base:Heap) (A:Around) (outer:List Env) (s:Shared) (H:Hp):Prop where
 frames:A.frames=some outer
 mod:Mod K mg base
 bs:∀ b o,base.get? b=some o->s.heap.get? b=some o/\H b=none
 bsz:base.objs.size<=s.heap.objs.size
 funs:s.heap.FunFrames base outer
 frf:∀ b∈frs outer,H b=none
 hok:HOk P w H s.heap
 bare:AllBare s.gens
def CE (outer:List Env) (P:Program) (w:World) (H:Hp) (s:Shared) (Q:VK) (u:Value) (s':Shared):Prop:=
 ∃ v H',s'.os=s.os/\AllBare s'.gens/\Un (frs outer) [] H H' s.heap s'.heap/\HOk P w H' s'.heap/\RelV v u/\Q v H'
def CR (CX:CXT) (outer:List Env) (P:Program) (w:World) (H:Hp) (s:Shared) (Q:VK) (E:XK) (r:Result) (s':Shared):Prop:=
 match r with
 | .ok (.ret u)=>CE outer P w H s Q u s'
 | .ok _=>False
 | .error e=>CX outer H s E e s'
structure FnOk (P:Program) (w:World) (K:yg) (mg:Str->Option Value) (base:Heap) (CX:CXT) (k:Nat) (f:Addr) (fd:FuncData) (ps:List Str) (sp:Sp):Prop where
 len:∀ vs H Q E,sp vs H Q E->vs.length=ps.length
 run:∀ (A:Around) (outer:List Env) (s:Shared) (H:Hp) (args:Args) (us:List Value) (vs:List V) (Q:VK) (E:XK),Room k A->Env0 P w K mg base A outer s H->BindsTo s fd args (ps.zip us)->Vals vs us->sp vs H Q E ->
  codeAny (model P w) A (.call (.ref f) args) (CR CX outer P w H s Q E) s
theorem Env0.make {K:yg} (e:Env0 P w K mg base A outer s H) (C:Addr) (us:List Value) (kw:List (Str×Value)) :
  Env0 P w K mg base (A.under (.builtin "type.__call__" ⟨.ref C::us,kw⟩)) outer s H:=⟨by first | exact e.frames | (simpa [Around.under,Code.envs,Code.isFrame,pushEnvs] using e.frames),e.mod,e.bs,e.bsz,e.funs,e.frf,e.hok,e.bare⟩
section
variable {X:Cx} {pins:List (Addr×Obj)} {σ:St} {H:Hp} {s s':Shared}
theorem Inv.env0 (I:Inv X pins σ H s):Env0 X.prog X.w X.K X.mg X.base X.A X.stack s H:=
 ⟨I.ok.frames,I.ok.mod,I.bs,yi I.ok.bsz I.sz,I.stack,I.stkFree,I.hok,I.bare⟩
theorem Inv.after {Q:VK} (I:Inv X pins σ H s) (h:CE X.stack X.prog X.w H s Q u s'):EP X pins σ Q u s':=by
 obtain ⟨v,H',i,a,un,c,r,q⟩:=h;obtain ⟨f,g,d,t,e⟩:=s';obtain rfl:e=s.os:=i;exact ⟨v,H',I.call (h':=f) (g':=g) (d':=d) (t':=t) (ch:=[]) un c a (fun b z=>absurd z (by simp)),r,q⟩
end
def qfw (sp:Sp) (a:List V) (E:XK) (t:TA):TE:=fun σ H Q=>t σ H fun vs b=>sp (vs++a) b Q E
def qd6 (C:Addr) (m:Str) (sp:Sp) (b:List V) (E:XK) (ta:TE) (t:TA):TE:=fun σ H Q=>ta σ H fun x c=>∃ a dx fs,x=.ref a/\c a=some (.ins C dx fs)/\fs.lookup m=none /\
 t σ c fun vs d=>sp (x::(vs++b)) d Q E
def qfx (C:Addr) (sp:Sp) (b:List V) (E:XK) (t:TA):TE:=fun σ H Q=>t σ H fun vs a=>∀ x dx,a x=none->a dx=none->dx≠x ->
 sp (.ref x::(vs++b)) (upd (upd a dx (.own x)) x (.ins C dx [])) (fun v c=>v=.non/\Q (.ref x) c) E
def Binds (K:yg) (b:FuncData) (ps:List Str) (a:List Value):Prop:=
 ∀ (s:Shared) (us:List Value),K.In s.heap->(us++a).length=ps.length->BindsTo s b ⟨us,[]⟩ (ps.zip (us++a))
theorem Binds.all {K:yg} {a:FuncData} (h:∀ us:List Value,us.length=ps.length->bindArgs a ⟨us,[]⟩=pure (ps.zip us)):Binds K a ps []:=fun s us _ hl=>by
 rw [Yc] at hl ⊢;exact .of_eq (h us hl)
def qba (CX:CXT) (X:Cx) (E:XK):Prop:=∀ (pins:List (Addr×Obj)) (σ:St) (H:Hp) (s:Shared) (e:Value) (s':Shared),Inv X pins σ H s->CX X.stack H s E e s'->X.xe e s'
section
variable {X:Cx} {CX:CXT} {k:Nat} {f C:Addr} {fd:FuncData} {ps:List Str} {sp:Sp} {dvs:List V} {ds:List Value} {E:XK} {x m:Str} {p pos apos:Pos} {e o:Expr} {es:List Expr} {ta:TE} {t:TA}
theorem qd7 {Q:VK} (F:FnOk X.prog X.w X.K X.mg X.base CX k f fd ps sp) (d:Room k X.A) (hb:Binds X.K fd ps ds) (c:Vals dvs ds) (g:qba CX X E)
  (I:Inv X pins σ H s) (r:Vals vs us) (h:sp (vs++dvs) H Q E):wpAny (model X.prog X.w) X.A (call (.ref f) us) (EP X pins σ Q) X.xe s:=by
 have b:Vals (vs++dvs) (us++ds):=r.append c;have hl:(us++ds).length=ps.length:=by rw [<- b.length];exact F.len _ _ _ _ h
 refine X7 (kN (F.run X.A X.stack s H ⟨us,[]⟩ (us++ds) (vs++dvs) Q E d I.env0 (hb s us I.kIn hl) b h) fun r s' a=>?_)
 cases r with
 | error e=>exact g pins σ H s e s' I a
 | ok fl =>
  cases fl with
  | ret u=>exact I.after a
  | next=>exact False.elim a
  | brk=>exact False.elim a
  | cont=>exact False.elim a
theorem pe_call (F:FnOk X.prog X.w X.K X.mg X.base CX k f fd ps sp) (n:Room k X.A) (j:Gl X x) (m:X.mg x=some (.ref f)) (l:PySem.W.keepIn X.K (.ref f)=true) (hb:Binds X.K fd ps ds) (g:Vals dvs ds) (o:qba CX X E)
  (d:PA X (e::es) t) (a:(x==("__debug__":Str))=false:=by decide) (i:starEach (e::es) X.env=(false,eval e X.env)::starEach es X.env:=by rfl) (b:(backTo pos (starEach es X.env)).any (·.1)=false:=by rfl) :
  PE X (.Call (.Name x p) (e::es) [] pos) (qfw sp dvs E t):=by
 intro pins s σ H Q I h;refine Xo (qcW I j m ?_ a);refine X8 (h₀:=X.base) I.ok.mod.kin l (thn (d pos pins s σ H _ I h) fun us v ⟨vs,u,c,r,q⟩=>⟨c.kIn,?_⟩) i b;exact qd7 F n hb g o c r q
theorem pe_meth (z:PE X o ta) (c:Cls X.K C) (j:Meth X.K C m f) (F:FnOk X.prog X.w X.K X.mg X.base CX k f fd ps sp) (B:Room k X.A) (hb:Binds X.K fd ps ds) (y:Vals dvs ds) (G:qba CX X E) (v:PA X (e::es) t)
  (d:starEach (e::es) X.env=(false,eval e X.env)::starEach es X.env:=by rfl) (b:(backTo pos (starEach es X.env)).any (·.1)=false:=by rfl)
  (D:eval (.Call (.Attribute o m apos) (e::es) [] pos) X.env=(do
   let ov <- eval o X.env
   standAt apos.atName
   let (f,first) <- holding [ov] (getMethod ov m pl)
   callWith pos f first (backTo pos (starEach (e::es) X.env)) (backToKw pos (keywordEach [] X.env))):=by rfl) :
  PE X (.Call (.Attribute o m apos) (e::es) [] pos) (qd6 C m sp dvs E ta t):=by
 intro pins s σ H Q I h;refine PySem.W.methodCall_KW (pl:=pl) (thn (z pins s σ H _ I h) fun u M ⟨x,n,g,L,a,dx,fs,ex,p,l,q⟩=>?_) D;subst ex;obtain rfl:u=Value.ref a:=L;refine qbP g p c j l ?_;refine X8 (first:=[.ref a]) (h₀:=X.base) I.ok.mod.kin j.kp (thn (v pos pins M σ n _ g q) fun us O ⟨vs,N,i,r,J⟩=>⟨i.kIn,?_⟩) d b;exact qd7 (us:=.ref a::us) (vs:=.ref a::vs) F B hb y G i (.cons rfl r) J
theorem pe_meth0 (i:PE X o ta) (c:Cls X.K C) (d:Meth X.K C m f) (F:FnOk X.prog X.w X.K X.mg X.base CX k f fd ps sp) (j:Room k X.A) (hb:Binds X.K fd ps ds) (g:Vals dvs ds) (p:qba CX X E)
  (n:eval (.Call (.Attribute o m apos) [] [] pos) X.env=(do
   let ov <- eval o X.env
   standAt apos.atName
   let (f,first) <- holding [ov] (getMethod ov m pl)
   callWith pos f first (backTo pos (starEach [] X.env)) (backToKw pos (keywordEach [] X.env))):=by rfl) :
  PE X (.Call (.Attribute o m apos) [] [] pos) (qd6 C m sp dvs E ta qgi):=by
 intro pins s σ H Q I h;refine PySem.W.methodCall_KW (pl:=pl) (thn (i pins s σ H _ I h) fun u y ⟨x,v,b,r,a,dx,fs,ex,e,l,q⟩=>?_) n;subst ex;obtain rfl:u=Value.ref a:=r;refine qbP b e c d l ?_;exact PySem.W.callWith_K0 (first:=[.ref a]) b.kIn d.kp (qd7 (us:=[.ref a]) (vs:=[.ref a]) F j hb g p b (.cons rfl .nil) q)
structure Mk (K:yg) (C f:Addr):Prop where
 makes:PySem.W.makesIn K C=true
 init:PySem.W.findIn K (.ref C) "__init__"=some (some (.ref f))
 fn:PySem.W.isFn K (.ref f)=true
 kp:PySem.W.keepIn K (.ref C)=true
theorem run_make {Q:VK} (M:Mk X.K C f) (F:FnOk X.prog X.w X.K X.mg X.base CX k f fd ps sp) (m:Room (k+1) X.A) (hb:Binds X.K fd ps ds) (l:Vals dvs ds)
  (n:qba CX X E) (I:Inv X pins σ H s) (r:Vals vs us)
  (h:∀ x dx,H x=none->H dx=none->dx≠x->sp (.ref x::(vs++dvs)) (upd (upd H dx (.own x)) x (.ins C dx [])) (fun v g=>v=.non/\Q (.ref x) g) E) :
  wpAny (model X.prog X.w) X.A (call (.ref C) us) (EP X pins σ Q) X.xe s:=by
 have c:=h (s.heap.objs.size+1) s.heap.objs.size (I.hok.fresh (Xa _)) (I.hok.fresh (yh _)) (yI (XB _));have b:=Inv.made (C:=C) I;have d:Vals (V.ref (s.heap.objs.size+1)::(vs++dvs)) (Value.ref (s.heap.objs.size+1)::(us++ds)):=.cons rfl (r.append l)
 have hl:(Value.ref (s.heap.objs.size+1)::us++ds).length=ps.length:=by
  have e:=d.length;rw [F.len _ _ _ _ c] at e;exact e.symm
 refine X7 (make_map (f:=f) I.kIn M.makes M.init (Ys.mp M.fn) (kN (F.run _ X.stack _ _ ⟨Value.ref (s.heap.objs.size+1)::us,[]⟩ (Value.ref (s.heap.objs.size+1)::(us++ds)) _ _ E (m.make C us [])
  (b.env0.make C us []) (hb _ (Value.ref (s.heap.objs.size+1)::us) b.kIn hl) d c) fun r s' a=>?_))
 cases r with
 | error e=>exact n pins σ _ _ e s' b a
 | ok fl =>
  cases fl with
  | ret u =>
   obtain ⟨v,H',i,p,j,o⟩:=b.after a;subst j;exact ⟨p,⟨V.ref (s.heap.objs.size+1),H',i,rfl,o⟩⟩
  | next=>exact False.elim a
  | brk=>exact False.elim a
  | cont=>exact False.elim a
theorem pe_make (M:Mk X.K C f) (F:FnOk X.prog X.w X.K X.mg X.base CX k f fd ps sp) (m:Room (k+1) X.A) (j:Gl X x) (l:X.mg x=some (.ref C)) (hb:Binds X.K fd ps ds) (g:Vals dvs ds) (n:qba CX X E)
  (d:PA X (e::es) t) (a:(x==("__debug__":Str))=false:=by decide) (i:starEach (e::es) X.env=(false,eval e X.env)::starEach es X.env:=by rfl) (b:(backTo pos (starEach es X.env)).any (·.1)=false:=by rfl) :
  PE X (.Call (.Name x p) (e::es) [] pos) (qfx C sp dvs E t):=by
 intro pins s σ H Q I h;refine Xo (qcW I j l ?_ a);refine X8 (h₀:=X.base) I.ok.mod.kin M.kp (thn (d pos pins s σ H _ I h) fun us u ⟨vs,o,c,r,q⟩=>⟨c.kIn,?_⟩) i b;exact run_make M F m hb g n c r q
end
section
variable {X:Cx} {CX:CXT} {k:Nat} {f C:Addr} {fd:FuncData} {ps ks:List Str} {sp:Sp} {E:XK} {x m:Str} {p pos apos kpos:Pos} {e o:Expr} {es:List Expr} {kws:List Keyword} {te ta:TE} {t tk:TA} {nm:Option Str}
structure KBinds (K:yg) (fd:FuncData) (ps ks:List Str) (g:List Value->List Value->List Value) (gV:List V->List V->List V):Prop where
 to:∀ (s:Shared) (us ws:List Value),K.In s.heap->(g us ws).length=ps.length->BindsTo s fd ⟨us,ks.zip ws⟩ (ps.zip (g us ws))
 rel:∀ {vs:List V} {us:List Value} {zs:List V} {ws:List Value},Vals vs us->Vals zs ws->Vals (gV vs zs) (g us ws)
variable {g:List Value->List Value->List Value} {gV:List V->List V->List V}
end
structure FnScope (N P:List Str) (sc:Scope):Prop where
 kind:sc.kind=.function
 co:sc.isCoroutine=false
 gen:sc.isGenerator=false
 nd:N.Nodup
 pre:N.take P.length=P
 par:∀ x∈P,sc.names.lookup x=some .local\/sc.names.lookup x=some .cell
 nofree:∀ y∈sc.names,y.2≠.free
theorem fS {P:List Str} (a:sc.kind=.function:=by rfl) (b:sc.isCoroutine=false:=by rfl) (c:sc.isGenerator=false:=by rfl) (d:N.Nodup:=by decide +kernel) (e:N.take P.length=P:=by rfl) (f:∀ x∈P,sc.names.lookup x=some .local\/sc.names.lookup x=some .cell:=by decide +kernel) (g:∀ y∈sc.names,y.2≠.free:=by decide +kernel):FnScope N P sc:=⟨a,b,c,d,e,f,g⟩
theorem qct:∀ {binds:List (Str×Value)} {m:Str->Option Value},(∀ v,(x,v)∉binds)->bindL kindOf binds m x=m x
 | [],_,_=>rfl
 | (n,v)::r,m,h=>by
  unfold bindL;rw [qct fun w hw=>h w (yz _ hw)];split
  .have:x≠n:=by rintro rfl;exact h v yN
   simp [this]
  .rfl
theorem qcu:∀ {binds:List (Str×Value)} {m:Str->Option Value},(∀ v,(x,v)∉binds)->bindC kindOf binds m x=m x
 | [],_,_=>rfl
 | (n,v)::r,m,h=>by
  unfold bindC;rw [qcu fun w hw=>h w (yz _ hw)];split
  .rfl
  .have:x≠n:=by rintro rfl;exact h v yN
   simp [this]
theorem qcv {v:Value}:∀ {P:List Str} {vs:List Value} {i:Nat} {m:Str->Option Value},P.Nodup->P[i]?=some x->vs[i]?=some v->kindOf x=some .local ->
  bindL kindOf (P.zip vs) m x=some v
 | [],_,_,_,_,h,_,_=>by simp at h
 | _::_,[],_,_,_,_,h,_=>by simp at h
 | p::P,w::vs,0,m,nd,h1,h2,hk=>by
  simp at h1 h2;subst h1;subst h2;show bindL kindOf ((p,w)::P.zip vs) m p=_;unfold bindL;rw [qct fun v hv=>(yo.mp nd).1 (kS hv).1,yD hk];simp
 | p::P,w::vs,i+1,m,nd,h1,h2,hk=>by
  show bindL kindOf ((p,w)::P.zip vs) m x=_;unfold bindL;exact qcv (i:=i) (yo.mp nd).2 (by simpa using h1) (by simpa using h2) hk
theorem qcw {v:Value}:∀ {P:List Str} {vs:List Value} {i:Nat} {m:Str->Option Value},P.Nodup->P[i]?=some x->vs[i]?=some v->kindOf x≠some .local ->
  bindC kindOf (P.zip vs) m x=some v
 | [],_,_,_,_,h,_,_=>by simp at h
 | _::_,[],_,_,_,_,h,_=>by simp at h
 | p::P,w::vs,0,m,nd,h1,h2,hk=>by
  simp at h1 h2;subst h1;subst h2;show bindC kindOf ((p,w)::P.zip vs) m p=_;unfold bindC;rw [qcu fun v hv=>(yo.mp nd).1 (kS hv).1,yy hk];simp
 | p::P,w::vs,i+1,m,nd,h1,h2,hk=>by
  show bindC kindOf ((p,w)::P.zip vs) m x=_;unfold bindC;exact qcw (i:=i) (yo.mp nd).2 (by simpa using h1) (by simpa using h2) hk
noncomputable def start (N:List Str) (vs:List V):St:=vs.map some++List.replicate (N.length-vs.length) none
noncomputable def qfM (CX:CXT) (P:Program) (w:World) (K:yg) (mg:Str->Option Value) (base:Heap) (N:List Str) (qual:Str) (scope:Scope) (f:Addr) (b:Value) (A:Around) (outer:List Env) (s:Shared) (H:Hp) (E:XK):Cx where
 prog:=P
 w:=w
 K:=K
 mg:=mg
 base:=base
 A:=A.deeper (envOfC qual scope s.heap.objs.size f b)
 N:=N
 s₀:=s
 H₀:=H
 env:=envOfC qual scope s.heap.objs.size f b
 outer:=outer
 stack:=envOfC qual scope s.heap.objs.size f b::outer
 ex:=[]
 calm:=true
 fn:=fun _=>true
 pn:=[]
 xe:=fun e s'=>wpAny (model P w) (A.deeper (envOfC qual scope s.heap.objs.size f b)) (leaving (envOfC qual scope s.heap.objs.size f b) e) (fun _ a=>CX outer H s E e a) (fun c a=>CX outer H s E c a) s'
theorem qdt (h:sc.names.lookup x=some .cell):∃ c,(cellsFrom n sc.names []).lookup x=some c:=by
 have q:=PySem.W.cellsFrom_some sc.names n [] (.inl h);exact Y1.mp q
theorem inv_start {K:yg} {f:Addr} {o:Value} {F:Shared} {E:XK}
  (S:FnScope N ps scope) (I:A.handled=none) (g:Env0 P w K mg base A outer s H) (hl:vs.length=ps.length) (r:Vals vs us)
  (x:InCallC s s.heap.objs.size (bindL (envOfC qual scope s.heap.objs.size f o).kindOf (ps.zip us) fun _=>none) (cellsFrom (s.heap.objs.size+1) scope.names []) (bindC (envOfC qual scope s.heap.objs.size f o).kindOf (ps.zip us) fun _=>none) F) :
  Inv (qfM CX P w K mg base N qual scope f o A outer s H E) [] (start N vs) H F:=by
 have J:ps.length<=N.length:=by have:=congrArg List.length S.pre;rw [yT] at this;omega
 obtain ⟨h1,tk,rfl,C⟩:=x.done;have j:∀ b:Addr,b∉(qfM CX P w K mg base N qual scope f o A outer s H E).ex:=fun b z=>absurd (show b∈([]:List Addr) from z) (by simp);refine ⟨⟨g.mod,S.kind,rfl,rfl,yh _,fun y z c h1 d=>?_,fun y hy=>?_,fun y c _ h=>?_,fun _=>I,Around.frames_deeper g.frames,.inr ⟨rfl,rfl⟩,fun b z=>absurd z (j b),g.bs,g.bsz,fun b _ _=>j b,fun b z=>absurd z (j b),g.funs,g.frf⟩,
  rfl,g.bare,Un.kept C,⟨_,x.toInCall.ns,fun i y v h1 d M=>?_⟩,fun y c h=>⟨_,x.cell y c h⟩,g.hok.fresh (yh _),fun y c h=>?_,fun p l=>absurd (show p∈([]:List (Addr×Obj)) from l) (by simp),g.hok.kept C,?_⟩
 .exact name_of_addr x.apart (xy h1) (xy d)
 .have hy:scope.names.lookup y=some .cell\/scope.names.lookup y=some .free:=hy;rcases hy with hy | hy
  .exact qdt hy
  .exact absurd rfl (S.nofree _ (xy hy))
 .exact yX (x.above y c (xy h))
 .have B:i<vs.length:=by
   unfold start at d;by_cases B:i<vs.length
   .exact B
   .rw [yG (by simpa using B)] at d;rw [Xq] at d;split at d<;>cases d
  have G:vs[i]?=some v:=by
   unfold start at d;rw [y8 (by simpa using B),yd] at d
   cases e:vs[i]? with
   | none=>rw [e] at d;cases d
   | some a=>rw [e] at d;cases d;rfl
  obtain ⟨u,D,L⟩:=r.get G
  have l:ps[i]?=some y:=by
   rw [<- S.pre,List.getElem?_take_of_lt (by omega)];exact h1
  have m:ps.Nodup:=by rw [<- S.pre];exact S.nd.sublist (xY _ _)
  refine ⟨u,L,?_⟩;rcases S.par y (ye l) with k | k
  .exact .inl ⟨k,qcv m l D k⟩
  .obtain ⟨c,e⟩:=qdt (n:=s.heap.objs.size+1) k;refine .inr ⟨.inl k,c,e,?_⟩;have q:=x.cell y c e;rw [qcw m l D (by show scope.names.lookup y≠_;rw [k];decide)] at q;exact q
 .exact g.hok.fresh (yX (x.above y c (xy h)))
 .unfold start;show _=N.length;rw [yt,ya,YM];omega
theorem fn_of {K:yg} {k:Nat} {f:Addr} {name:Str} {c:Arguments} {M kV j O a ct oc:Value} {L od:Option Addr}
  {D:Array (Option Value)} {sp:Sp} (lk:K.lookup f=some ⟨oc,od,.func (PySem.W.fnOf name qual c body scope M kV j O L a ct),D⟩) (z:PySem.W.codeIn K a qual=true) (S:FnScope N ps scope)
  (len:∀ vs H Q E,sp vs H Q E->vs.length=ps.length)
  (g:∀ (A:Around) (outer:List Env) (s:Shared) (H:Hp) (vs:List V) (Q:VK) (E:XK),Room k (A.deeper (envOfC qual scope s.heap.objs.size f a))->sp vs H Q E ->
   ∃ t,PSs (qfM CX P w K mg base N qual scope f a A outer s H E) body t/\t { nx:=fun _ H'=>Q .non H',rt:=Q } (start N vs) H) :
  FnOk P w K mg base CX (k+1) f (PySem.W.fnOf name qual c body scope M kV j O L a ct) ps sp:=by
 refine ⟨len,fun A outer s H args us vs Q E B l hb r p=>?_⟩;have hl:=len _ _ _ _ p;have G:K.In s.heap:=l.mod.kin.keeps fun b o e=>(l.bs b o e).1;have C:s.heap.NoLimit:=l.mod.nolimit.keeps fun b o e=>(l.bs b o e).1
 have h:∀ y∈ps.zip us,scope.names.lookup y.1=some .local\/(scope.names.lookup y.1=some .cell/\((cellsFrom (s.heap.objs.size+1) scope.names []).lookup y.1).isSome=true):=fun ⟨n,v⟩ Z=>by
  rcases S.par n (kS Z).1 with q | q
  .exact .inl q
  .exact .inr ⟨q,PySem.W.cellsFrom_some _ _ _ (.inl q)⟩
 refine codeAny_call_function B.depth (G _ _ lk) rfl S.co S.gen rfl (PySem.W.codeRec_of G z) (hb _ _ _ _ ?_);refine wpAny_newFunctionEnv_cells S.kind h fun env U R x=>?_;subst U;refine ⟨C.keeps x.toInCall.keep,codeAny_func ?_⟩;obtain ⟨t,Y,X⟩:=g A outer s H vs Q E (B.deeper _) p;have I:Inv (qfM CX P w K mg base N qual scope f a A outer s H E) [] (start N vs) H R:=inv_start S B.hd l hl r x;refine YU (Y [] R (start N vs) H _ I X) (fun T s' i=>?_) fun e s' i=>i
 have m:∀ {d:St} {H':Hp} {v:V} {u:Value},Inv (qfM CX P w K mg base N qual scope f a A outer s H E) [] d H' s'->RelV v u->Q v H'->CE outer P w H s Q u s':=
  fun {d H' v u} J F q=>⟨v,H',J.os,J.bare,J.base,J.hok,F,q⟩
 cases T with
 | ret u =>
  obtain ⟨v,d,H',J,F,q⟩:=i;exact m J F q
 | next =>
  obtain ⟨d,H',J,q⟩:=i;exact m (v:=V.non) (u:=Value.none) J rfl q
 | brk =>
  obtain ⟨_,_,_,q⟩:=i;exact False.elim q
 | cont =>
  obtain ⟨_,_,_,q⟩:=i;exact False.elim q
section
variable {X:Cx} {x:Str} {p pos:Pos} {e:Expr} {es:List Expr} {t:TA} {id T:String} {r:List V->Hp->VK->Prop}
def tCB (r:List V->Hp->VK->Prop) (t:TA):TE:=fun σ H Q=>t σ H fun vs a=>r vs a Q
theorem qk (hc:zv X (.builtin id) r) (i:Gl X x) (j:X.mg x=none) (hv:bootBuiltins x=some (.builtin id)) (f:PA X (e::es) t) (l:x≠"__name__":=by decide) (a:(x==("__debug__":Str))=false:=by decide)
  (g:starEach (e::es) X.env=(false,eval e X.env)::starEach es X.env:=by rfl) (b:(backTo pos (starEach es X.env)).any (·.1)=false:=by rfl):PE X (.Call (.Name x p) (e::es) [] pos) (tCB r t):=by
 intro pins s σ H Q I h;refine Xo (qaG I i j hv ?_ l a);exact PyProof.Rows.callWith_builtin1 (thn (f pos pins s σ H _ I h) fun us o ⟨vs,c,d,n,m⟩=>hc pins o σ c vs us Q d n m) g b
theorem jq (hc:zv X (.type T) r) (i:Gl X x) (j:X.mg x=none) (hv:bootBuiltins x=some (.type T)) (f:PA X (e::es) t) (l:x≠"__name__":=by decide) (a:(x==("__debug__":Str))=false:=by decide)
  (g:starEach (e::es) X.env=(false,eval e X.env)::starEach es X.env:=by rfl) (b:(backTo pos (starEach es X.env)).any (·.1)=false:=by rfl):PE X (.Call (.Name x p) (e::es) [] pos) (tCB r t):=by
 intro pins s σ H Q I h;refine Xo (qaG I i j hv ?_ l a);exact Yz (thn (f pos pins s σ H _ I h) fun us o ⟨vs,c,d,n,m⟩=>hc pins o σ c vs us Q d n m) g b
end
end L2
namespace HT
open PySem PyProof.Rows
variable {hi lo:Option Int} {sl:Addr} {vl vu:Value}
section
open PySem.SeqAt
open PySem.AutoSeq1 (wpAny_loadPart')
open PySem.MeetsSeq PySem.MeetsSeq2 PySem.MeetsSeq3
end
section
variable {prog:Program} {w:World} {A:Around} {E:Value->Shared->Prop} {s:Shared}
theorem cat_tup {t b:Addr} {vs a:List Value} {Q:Value->Shared->Prop} (r:IsTup s.heap t vs.toArray) (hb:IsTup s.heap b a.toArray) (hv:vs≠[])
  (h1:a=[]->Q (.ref t) s) (q:a≠[]->Q (.ref s.heap.objs.size) { s with heap:=s.heap.push { cls:=.type "tuple",data:=.seq (vs++a).toArray } })
  (hsz:vs.length+a.length<=sizeLine):wpAny (model prog w) A (binaryOp .Add (.ref t) (.ref b)) Q E s:=by
 obtain ⟨⟨cls,m,data,sl⟩,i,hc,n,o⟩:=id r;obtain ⟨⟨l,d,j,h⟩,c,f,p,g⟩:=id hb;simp only at hc o f g;subst hc o f g;have e:vs.toArray++a.toArray=(vs++a).toArray:=by simp
 by_cases hw:a=[]
 .exact concat_meets ⟨_,i,rfl⟩ ⟨_,c,rfl⟩ noFill_tuple_add seq_tuple_add PySem.F.slot_tuple_add PySem.F.entry_tuple_add (PySem.F.args_tuple_add_2 _ _)
   (tuple_addW1 t b vs.toArray a.toArray n p m d sl h (by simpa using hv) (by simp [hw])) ⟨i,c,h1 hw⟩
 .refine concat_meets ⟨_,i,rfl⟩ ⟨_,c,rfl⟩ noFill_tuple_add seq_tuple_add PySem.F.slot_tuple_add PySem.F.entry_tuple_add (PySem.F.args_tuple_add_2 _ _)
   (tuple_addW2 t b vs.toArray a.toArray n p m d sl h (by simpa using hv) (by simpa using hw) (by rw [yw,yw];exact hsz)) ⟨i,c,?_⟩
  rw [e];exact q hw
noncomputable def sIx (n d:Nat):Option Int->Nat
 | none=>d
 | some v=>if v<0 then (v+(n:Int)).toNat else min v.toNat n
theorem sIx_none (n d:Nat):sIx n d none=d:=rfl
theorem sIx_nat (n d k:Nat):sIx n d (some (k:Int))=min k n:=by
 show (if (k:Int)<0 then ((k:Int)+(n:Int)).toNat else min (k:Int).toNat n)=min k n;rw [yy (by omega),Ym]
theorem sIx_le (n d:Nat) (a:d<=n) (o:Option Int):sIx n d o<=n:=by
 cases o with
 | none=>exact a
 | some v =>
  show (if v<0 then (v+(n:Int)).toNat else min v.toNat n)<=n;by_cases hv:v<0
  .rw [yD hv];omega
  .rw [yy hv];exact Nat.min_le_right _ _
theorem qd8 (v:Int) (n d:Nat):(if v<0 then max (v+(n:Int)) 0 else min v (n:Int))=((sIx n d (some v):Nat):Int):=by
 show (if v<0 then max (v+(n:Int)) 0 else min v (n:Int))=(((if v<0 then (v+(n:Int)).toNat else min v.toNat n):Nat):Int);by_cases hv:v<0
 .simp only [yD hv];omega
 .simp only [yy hv];omega
theorem adjust_gen (lo hi:Option Int) (n:Nat):Builtin.Slice.sliceAdjust lo hi 1 (n:Int)=(((sIx n 0 lo:Nat):Int),((sIx n n hi:Nat):Int)):=by
 have h1:¬ ((1:Int)<0):=by omega
 unfold Builtin.Slice.sliceAdjust;simp only [h1,xu];refine xF ?_ ?_
 .cases lo with
  | none=>rfl
  | some v=>exact qd8 v n 0
 .cases hi with
  | none=>rfl
  | some v=>exact qd8 v n n
theorem places_gen (i j:Nat):Builtin.Slice.slicePlaces (i:Int) (j:Int) 1=j-i:=by
 unfold Builtin.Slice.slicePlaces;have h1:(1:Int)>0:=by omega
 simp only [h1,Xl,Int.ediv_one];split<;>omega
theorem qa2 {v:Value} {o:Option Int} {Q:Option Int->Shared->Prop} (p:IsPart v o) (h:Q o s):wpAny (model prog w) A (Builtin.Slice.slicePartIndex v) Q E s:=by
 cases p with
 | none=>exact X9 h
 | int i t=>exact slicePart_int h
theorem sliceApplied_gen {n:Nat} {Q:Int×Int×Nat->Shared->Prop} (d:s.heap.IsSliceOf sl vl vu .none) (pl:IsPart vl lo) (e:IsPart vu hi)
  (h:Q (((sIx n 0 lo:Nat):Int),1,sIx n n hi-sIx n 0 lo) s):wpAny (model prog w) A (Builtin.Slice.sliceApplied (.ref sl) (pure (n:Int))) Q E s:=by
 obtain ⟨f,b,c,a⟩:=id d;unfold Builtin.Slice.sliceApplied Builtin.Slice.sliceFields;refine yr (yr (Y4 b a (x:=vl) rfl (yr (Y4 b a (x:=vu) rfl (yr (Y4 b a (x:=.none) rfl (yu ?_)))))));refine yr (X9 ?_);show wpAny _ _ (if ((1:Int)==0)=true then _ else _) _ _ s;rw [yy (by decide)];refine yr (qa2 pl (yr (qa2 e (yr (yu ?_)))));show wpAny _ _ (match Builtin.Slice.sliceAdjust lo hi 1 (n:Int) with | (lo,hi)=>pure (lo,(1:Int),Builtin.Slice.slicePlaces lo hi 1)) _ _ s;rw [adjust_gen lo hi n];show wpAny _ _ (pure (((sIx n 0 lo:Nat):Int),(1:Int),Builtin.Slice.slicePlaces ((sIx n 0 lo:Nat):Int) ((sIx n n hi:Nat):Int) 1)) _ _ s;rw [places_gen];exact yu h
theorem pick_gen (xs:Array Value) (i k:Nat):((List.range k).filterMap fun (m:Nat)=>xs[((i:Int)+(m:Int)*1).toNat]?).toArray=((xs.toList.drop i).take k).toArray:=by
 have e:(fun (m:Nat)=>xs[((i:Int)+(m:Int)*1).toNat]?)=fun m=>xs[i+m]?:=by
  funext m;have:((i:Int)+(m:Int)*1).toNat=i+m:=by omega
  rw [this]
 rw [e];have:=pick_run xs i k;rw [List.filterMap_map] at this;have a:((fun x=>xs[x]?) ∘ fun x=>i+x)=fun m=>xs[i+m]?:=rfl;rw [a] at this;rw [this]
theorem getItem_tuple_cut {t:Addr} {a:Array Value} {Q:Value->Shared->Prop} (c:IsTup s.heap t a) (i:s.heap.IsSliceOf sl vl vu .none) (pl:IsPart vl lo) (n:IsPart vu hi)
  (hw:¬ (sIx a.size 0 lo=0/\sIx a.size a.size hi=a.size))
  (h:Q (.ref s.heap.objs.size) { s with heap:=s.heap.push { cls:=.type "tuple",data:=.seq ((a.toList.drop (sIx a.size 0 lo)).take (sIx a.size a.size hi-sIx a.size 0 lo)).toArray } })
  (hsz:a.size<=sizeLine):wpAny (model prog w) A (getItem (.ref t) (.ref sl)) Q E s:=by
 have b:sizeOk (.seq ((a.toList.drop (sIx a.size 0 lo)).take (sIx a.size a.size hi-sIx a.size 0 lo)).toArray):=by
  show ((a.toList.drop (sIx a.size 0 lo)).take (sIx a.size a.size hi-sIx a.size 0 lo)).toArray.size<=sizeLine;rw [yw,yT,XC,xx];omega
 have o:sIx a.size a.size hi<=a.size:=sIx_le _ _ (yh _) hi;obtain ⟨l,g,e,j⟩:=id i;have d:s.TypeIs (.ref sl) "slice":=⟨l,g,e⟩;unfold getItem
 try with_reducible refine Yk ?_
 first | refine yr (yu ?_) | skip
 refine yr (wpAny_sequenceKey c.typeIs (by decide) ?_);refine yr (xG (name:=Str.ofString "__getitem__") c.typeIs YA
  (xH YA c.typeIs entry_tuple_getitem ?_ (args_tuple_getitem _ _)))
 show wpAny _ _ (Builtin.Tuple.tupleItemsOf (.ref t)>>=_) _ _ s;refine yr (tupleItemsOf_ c ?_);refine yr (wpAny_typeOf d ?_);rw [yD (by decide)];refine yr (sliceApplied_gen i pl n ?_)
 have f:¬ ((((sIx a.size 0 lo:Nat):Int)==0&&(1:Int)==1&&(sIx a.size a.size hi-sIx a.size 0 lo)==a.size)=true):=by
  intro q;rw [yU,yU] at q;have p:((sIx a.size 0 lo:Nat):Int)=0:=eq_of_beq q.1.1;have r:sIx a.size a.size hi-sIx a.size 0 lo=a.size:=eq_of_beq q.2;exact hw ⟨by omega,by omega⟩
 show wpAny _ _ (if (((sIx a.size 0 lo:Nat):Int)==0&&(1:Int)==1&&(sIx a.size a.size hi-sIx a.size 0 lo)==a.size)=true then _ else _) _ _ s;rw [yy f,pick_gen]
 first
  | exact yr (m:=Builtin.Tuple.tupleExact _) (YL (yu ⟨_,rfl,yu h⟩) b)
  | exact yr (m:=Builtin.Tuple.tupleExact _) (YL (yr (yu (yu ⟨_,rfl,yu h⟩))) b)
  | exact yr (yr (m:=Builtin.Tuple.tupleExact _) (YL (yu (yu ⟨_,rfl,yu h⟩)) b))
  | exact yr (yr (m:=Builtin.Tuple.tupleExact _) (YL (yu ⟨_,rfl,yu h⟩) b))
end
end HT
namespace L2
open PySem PySem.Spec PyProof.Rows
variable {A:Around} {H H':Hp} {P:Program} {X:Cx} {a b p:Addr} {h':Heap} {i:Int} {its its' us:List Value} {j n t':Nat} {kvs:List (List Key×V)} {o:Option V} {pins:List (Addr×Obj)} {r:R2} {s:Shared} {u v:Value} {w:World} {x y:V} {xs:List V} {α:Type} {σ:St}
abbrev TO:=St->Hp->(Option Int->Hp->Prop)->Prop
def PO (X:Cx) (e:Option Expr) (t:TO):Prop:=
 ∀ (pins:List (Addr×Obj)) (s:Shared) (σ:St) (H:Hp) (Q:Option Int->Hp->Prop),Inv X pins σ H s->t σ H Q ->
  wpAny (model X.prog X.w) X.A (evalPart e X.env) (fun u a=>∃ o H',Inv X pins σ H' a/\IsPart u o/\Q o H') X.xe s
def qd9:TO:=fun _ H Q=>Q none H
def qfX (t:TE):TO:=fun σ H Q=>t σ H fun x a=>∃ i,x=.int i/\Q (some i) a
section
variable {X:Cx} {e:Expr} {te:TE} {lo hi:Option Expr} {tl th:TO} {pos p2:Pos}
theorem zU:PO X none qd9:=by
 intro pins s σ H Q I h;rw [ky];exact yu ⟨none,H,I,.none,h⟩
theorem j4 (h:PE X e te):PO X (some e) (qfX te):=by
 intro pins s σ H Q I hw;rw [evalPart_some];refine thn (h pins s σ H _ I hw) fun u f ⟨x,a,b,d,c⟩=>?_;obtain ⟨i,rfl,q⟩:=c;obtain ⟨t,rfl⟩:=d;exact ⟨some i,a,b,.int i t,q⟩
def SlR (X:Cx) (r:V->Option Int->Option Int->Hp->VK->Prop):Prop:=
 ∀ (pins:List (Addr×Obj)) (s:Shared) (σ:St) (H:Hp) (x:V) (v b c:Value) (lo hi:Option Int) (a:Addr) (Q:VK),Inv X pins σ H s->RelV x v->s.heap.IsSliceOf a b c .none->IsPart b lo->IsPart c hi->r x lo hi H Q ->
  ∃ T id,typeLookup (.type T) "__getitem__"=pure (some (.builtin id))/\s.TypeIs v T/\wpAny (model X.prog X.w) X.A (getItem v (.ref a)) (EP X pins σ Q) X.xe s
def tSl (r:V->Option Int->Option Int->Hp->VK->Prop) (te:TE) (tl th:TO):TE:=fun σ H Q=>te σ H fun x a=>tl σ a fun l b=>th σ b fun u c=>r x l u c Q
theorem zj {r:V->Option Int->Option Int->Hp->VK->Prop} (B:SlR X r) (y:PE X e te) (hl:PO X lo tl) (D:PO X hi th):PE X (.Subscript e (.Slice lo hi none p2) pos) (tSl r te tl th):=by
 intro pins s σ H Q I h;refine Subscript_ (thn (y pins s σ H _ I h) fun v L ⟨x,g,j,K,F⟩=>?_);refine wpAny_Slice (thn (hl pins L σ g _ j F) fun c M ⟨l,i,m,pl,G⟩=>thn (D pins M σ i _ m G) fun d a ⟨u,f,n,E,J⟩=>?_);rw [ky];refine yu ?_;have o:Inv X pins σ f { a with heap:=a.heap.push { cls:=.type "slice",data:=.fields #[c,d,.none] } }:=n.kept (t':=a.toks) fun b N q=>yv _ q;obtain ⟨T,id,p,C,z⟩:=B pins { a with heap:=a.heap.push { cls:=.type "slice",data:=.fields #[c,d,.none] } } σ f x v c d l u a.heap.objs.size Q o K (kc ..) pl E J;show wpAny (model X.prog X.w) X.A (subscriptTail e (.Slice lo hi none p2) v (.ref a.heap.objs.size)) (EP X pins σ Q) X.xe { a with heap:=a.heap.push { cls:=.type "slice",data:=.fields #[c,d,.none] } };exact tail_any (ops:=[.ref a.heap.objs.size,v]) C p z (by with_unfolding_all rfl)
noncomputable def qcx (xs:List V) (lo hi:Option Int):List V:=(xs.drop (HT.sIx xs.length 0 lo)).take (HT.sIx xs.length xs.length hi-HT.sIx xs.length 0 lo)
theorem qbu (xs:List V) (lo hi:Option Int):(qcx xs lo hi).length<=xs.length:=by
 unfold qcx;rw [yT,XC];omega
def qgJ (K:yg):V->Option Int->Option Int->Hp->VK->Prop:=fun x lo hi H Q=>∃ a xs,x=.ref a/\SqT K H a xs /\
 ¬ (HT.sIx xs.length 0 lo=0/\HT.sIx xs.length xs.length hi=xs.length)/\∀ p,H p=none->Q (.ref p) (upd H p (.tup (qcx xs lo hi)))
theorem sl_tup:SlR X (qgJ X.K):=by
 intro pins s σ H x v m n lo hi l Q I i e pl g h;obtain ⟨a,xs,rfl,f,hw,q⟩:=h;cases i;obtain ⟨its,r,d,hz⟩:=I.tuple f;have c:its.toArray.size=xs.length:=by rw [yw];exact r.length.symm
 refine ⟨"tuple",_,YA.lookup,d.typeIs,?_⟩;refine HT.getItem_tuple_cut d e pl g (by rw [c];exact hw) ?_ (by rw [c];exact hz);rw [c];refine ⟨.ref s.heap.objs.size,_,I.laid (t':=s.toks) (o:=.tup (qcx xs lo hi)) (fun b j q=>yv _ q) (yh _) ?_,rfl,q _ (I.hok.fresh (yh _))⟩;exact ⟨yi (qbu xs lo hi) hz,_,(r.drop (HT.sIx xs.length 0 lo)).take (HT.sIx xs.length xs.length hi-HT.sIx xs.length 0 lo),IsTup.new _ _⟩
def qfY (K:yg):R2:=fun x y H Q=>∃ a b xs ys,x=.ref a/\y=.ref b/\SqT K H a xs/\SqT K H b ys/\xs≠[]/\xs.length+ys.length<=sizeLine /\
 (ys=[]->Q (.ref a) H)/\(ys≠[]->∀ p,H p=none->Q (.ref p) (upd H p (.tup (xs++ys))))
theorem Vals.nil_iff (r:Vals xs us):us=[]↔xs=[]:=by
 cases r with
 | nil=>simp
 | cons _ _=>simp
theorem op_catT:OpR X (binaryOp .Add) (qfY X.K):=by
 intro pins s σ H x y v u Q I m n h;obtain ⟨a,b,xs,ys,rfl,rfl,f,hb,g,hz,j,l⟩:=h;cases m;cases n;obtain ⟨its,d,i,_⟩:=I.tuple f;obtain ⟨e,c,p2,_⟩:=I.tuple hb;refine HT.cat_tup i p2 (fun z=>g (d.nil_iff.mp z)) (fun z=>⟨.ref a,H,I,rfl,j (c.nil_iff.mp z)⟩) (fun z=>?_) (by rw [<- d.length,<- c.length];exact hz);refine ⟨.ref s.heap.objs.size,_,I.laid (t':=s.toks) (o:=.tup (xs++ys)) (fun b p q=>yv _ q) (yh _) ?_,rfl,l (fun w=>z (c.nil_iff.mpr w)) _ (I.hok.fresh (yh _))⟩;exact ⟨by rw [yt];exact hz,_,d.append c,IsTup.new _ _⟩
end
noncomputable def ixN (n:Nat) (i:Int):Option Nat:=if 0<=i then (if i<n then some i.toNat else none) else if -(n:Int)<=i then some (i+n).toNat else none
noncomputable def atI {α:Type} (xs:List α) (i:Int):Option α:=(ixN xs.length i).bind fun j=>xs[j]?
theorem qea (h:ixN n i=some j):seqIndex? i n=some j/\j<n/\-(n:Int)<=i/\i<n:=by
 unfold ixN at h;by_cases a:0<=i
 .rw [yD a] at h;by_cases h1:i<n
  .rw [yD h1] at h;have e:i.toNat=j:=ym h;exact ⟨by rw [seqIndex_of a h1,e],by omega,by omega,h1⟩
  .rw [yy h1] at h;cases h
 .rw [yy a] at h;by_cases h1:-(n:Int)<=i
  .rw [yD h1] at h;have e:(i+n).toNat=j:=ym h;exact ⟨by rw [seqIndex_neg (by omega) h1,e],by omega,h1,by omega⟩
  .rw [yy h1] at h;cases h
theorem qc2 {xs:List α} {v:α} (h:atI xs i=some v):∃ j,seqIndex? i xs.length=some j/\xs[j]?=some v/\j<xs.length/\-(xs.length:Int)<=i/\i<xs.length:=by
 unfold atI at h
 cases e:ixN xs.length i with
 | none=>rw [e] at h;cases h
 | some j =>
  rw [e] at h;obtain ⟨h1,a,b,c⟩:=qea e;exact ⟨j,h1,h,a,b,c⟩
theorem qy {xs:List α} {v:α} (h:xs[j]?=some v):atI xs (j:Int)=some v:=by
 have a:j<xs.length:=(yc.mp h).1
 have e:ixN xs.length (j:Int)=some j:=by
  unfold ixN;rw [yD (by omega),yD (by omega)];simp
 unfold atI;rw [e];exact h
theorem atI_last (xs:List α) (v:α):atI (xs++[v]) (-1)=some v:=by
 have hl:(xs++[v]).length=xs.length+1:=by simp
 have e:ixN (xs++[v]).length (-1)=some xs.length:=by
  unfold ixN;rw [hl,yy (by decide),yD (by omega)]
  congr 1
  omega
 unfold atI;rw [e];show (xs++[v])[xs.length]?=some v;simp
def PlainIx (b:Expr):Prop:=∀ o i,subscripted b false o i=operate [o,i] (getItem o i)
def IxR (X:Cx) (r:R2):Prop:=
 ∀ (b a:Expr) (pins:List (Addr×Obj)) (s:Shared) (σ:St) (H:Hp) (x y:V) (v u:Value) (Q:VK),Inv X pins σ H s->RelV x v->RelV y u->r x y H Q ->
  subscripted a false v u=operate [v,u] (getItem v u)->wpAny (model X.prog X.w) X.A (subscriptTail b a v u) (EP X pins σ Q) X.xe s
def MtR (X:Cx) (id:String) (r:V->List V->Hp->VK->Prop):Prop:=
 ∀ (pins:List (Addr×Obj)) (s:Shared) (σ:St) (H:Hp) (x:V) (xs:List V) (v:Value) (us:List Value) (Q:VK),Inv X pins σ H s->RelV x v->Vals xs us->r x xs H Q ->
  wpAny (model X.prog X.w) X.A (call (.builtin id) (v::us)) (EP X pins σ Q) X.xe s
section
variable {X:Cx} {a b:Expr} {ta tb:TE} {pos:Pos}
theorem IxR.or {d:R2} (h:IxR X r) (h':IxR X d):IxR X (fun x y H Q=>r x y H Q\/d x y H Q):=by
 intro b a pins s σ H x y v u Q I e f q c;rcases q with q | q
 .exact h b a pins s σ H x y v u Q I e f q c
 .exact h' b a pins s σ H x y v u Q I e f q c
theorem qt (f:IxR X r) (e:PE X a ta) (hb:PE X b tb) (g:PlainIx b):PE X (.Subscript a b pos) (tOp r ta tb):=by
 intro pins s σ H Q I h;exact Subscript_ (qgo e hb I h fun v u l x y c d i j q=>f a b pins l σ c x y v u Q d i j q (g _ _))
def qgK (K:yg):R2:=fun x y H Q=>∃ p xs i v,x=.ref p/\y=.int i/\SqL K H p xs/\atI xs i=some v/\Q v H
def qgL (K:yg):R2:=fun x y H Q=>∃ p xs i v,x=.ref p/\y=.int i/\SqT K H p xs/\atI xs i=some v/\Q v H
def qgM:R2:=fun x y H Q=>∃ z i c,x=.str z/\y=.int i/\z.length<=sizeLine/\atI z.cps.toList i=some c/\Q (.str ⟨#[c]⟩) H
theorem ix_list:IxR X (qgK X.K):=by
 intro e d pins s σ H x y v u Q I C D h l;obtain ⟨p,xs,i,z,rfl,rfl,B,A,q⟩:=h;cases C;obtain ⟨t,rfl⟩:=D;obtain ⟨its,r,pl,hz⟩:=I.list B;obtain ⟨j,h1,m,F,n,o⟩:=qc2 A;obtain ⟨w,f,c⟩:=r.get m;have hl:=r.length;have G:=qbO;have a:EP X pins σ Q w s:=⟨z,H,I,c,q⟩;by_cases g:0<=i
 .have b:i.toNat=j:=by
   rw [seqIndex_of g o] at h1;exact ym h1
  exact item_listR pl.isList g (by omega) (by rw [b];simpa using f) a l
 .have b:(i+(its.toArray.size:Int)).toNat=j:=by
   rw [seqIndex_neg (by omega) n] at h1;rw [yw,<- hl];exact ym h1
  exact subscriptTail_builtinR (x:=w) pl.isList.typeIs kh.lookup
   (wpAny_getItem_list_neg (Q:=fun r E=>r=w/\EP X pins σ Q r E) pl.isList (by omega) (by rw [yw]<;>omega) (by omega) (by rw [b];simpa using f) ⟨rfl,a⟩) l
theorem ix_tup:IxR X (qgL X.K):=by
 intro d c pins s σ H x y v u Q I n o h m;obtain ⟨p,xs,i,z,rfl,rfl,l,g,q⟩:=h;cases n;obtain ⟨t,rfl⟩:=o;obtain ⟨its,r,pl,hz⟩:=I.tuple l;obtain ⟨j,h1,f,B,C,D⟩:=qc2 g;obtain ⟨w,e,b⟩:=r.get f;have hl:=r.length;have E:=qbO;have a:EP X pins σ Q w s:=⟨z,H,I,b,q⟩;exact subscriptTail_builtinR (x:=w) pl.typeIs slot_tuple_getitem.lookup
  (getItem_tuple (j:=j) (Q:=fun r A=>r=w/\EP X pins σ Q r A) pl (by omega) (by omega) (by rw [yw,<- hl];exact h1) (by simpa using e) ⟨rfl,a⟩) m
theorem ix_str:IxR X qgM:=by
 intro b a pins s σ H x y v u Q I o p h n;obtain ⟨z,i,c,rfl,rfl,hz,m,q⟩:=h;obtain ⟨t,rfl⟩:=o;obtain ⟨t',rfl⟩:=p;obtain ⟨j,h1,f,r,g,l⟩:=qc2 m;have hl:z.cps.toList.length=z.length:=by simp [Str.length]
 rw [hl] at h1 g l;have w:=qbO
 exact tail_any (typeIs_str s z t) slot_str_getitem.lookup (getItem_str (c:=c) (by
  have d:decide (i < -(2 ^ 63:Int))=false:=yl (by omega);have e:decide (i ≥ 2 ^ 63)=false:=yl (by omega);rw [d,e,kz]) (by rw [h1];simpa using f) ⟨.str ⟨#[c]⟩,H,I.tok _,⟨_,rfl⟩,q⟩) n
def rIx (K:yg):R2:=fun x y H Q=>qgK K x y H Q\/qgL K x y H Q\/qgM x y H Q
theorem ix_seq:IxR X (rIx X.K):=ix_list.or (ix_tup.or ix_str)
theorem mapSeq_set (its:List Value) (n j:Nat) (u:Value):Obj.mapSeq (·.setIfInBounds j u) { cls:=.type "list",data:=.seq its.toArray n }={ cls:=.type "list",data:=.seq (its.set j u).toArray n }:=by
 simp [Obj.mapSeq]
theorem Inv.lst (I:Inv X pins σ H s) (h:H p=some (.lst xs)) :
  ∃ (its:List Value) (n:Nat),Vals xs its/\s.heap.get? p=some { cls:=.type "list",data:=.seq its.toArray n }/\xs.length<=sizeLine:=by
 obtain ⟨z,its,n,r,e⟩:=I.hok p _ h;exact ⟨its,n,r,e,z⟩
theorem Inv.lstUpd {ys:List V} {a:Nat} {f:Obj->Obj} (I:Inv X pins σ H s) (h:H p=some (.lst xs))
  (d:s.heap.get? p=some { cls:=.type "list",data:=.seq its.toArray n }) (c:f { cls:=.type "list",data:=.seq its.toArray n }={ cls:=.type "list",data:=.seq its'.toArray a }) (r:Vals ys its') (hz:ys.length<=sizeLine) (t:Nat) :
  Inv X pins σ (upd H p (.lst ys)) { s with heap:=s.heap.update p f,toks:=t }:=by
 have e:(s.heap.update p f).get? p=some { cls:=.type "list",data:=.seq its'.toArray a }:=by
  rw [YZ f d (by rw [c]<;>rfl),c]
 refine I.write (x:=p) (e:=p) (by rw [h];trivial) (.inl rfl) (fun b u hb q=>(Heap.get?_update_other _ _ (Yh hb)).trans q) ⟨_,e⟩ ?_;exact ⟨hz,its',a,r,e⟩
def qfy:V->V->V->Hp->(Hp->Prop)->Prop:=fun o i v H Q=>∃ p xs k j,o=.ref p/\i=.int k/\H p=some (.lst xs)/\ixN xs.length k=some j/\Q (upd H p (.lst (xs.set j v)))
theorem set_list:qgn X qfy:=by
 intro pins s σ H o i v B A u Q I w m x h;obtain ⟨p,xs,k,j,rfl,rfl,g,l,q⟩:=h;cases w;obtain ⟨t,rfl⟩:=m;obtain ⟨its,n,r,b,hz⟩:=I.lst g;obtain ⟨h1,y,e,f⟩:=qea l;have hl:=r.length;have z:=qbO
 have c:Inv X pins σ (upd H p (.lst (xs.set j v))) { s with heap:=s.heap.update p (Obj.mapSeq (·.setIfInBounds j u)) }:=
  I.lstUpd g b (mapSeq_set its n j u) (r.set x j) (by rw [XR];exact hz) s.toks
 by_cases d:0<=k
 .have a:k.toNat=j:=by
   rw [seqIndex_of d f] at h1;exact ym h1
  exact PySem.W.ki_setAt b d (by omega) (by rw [yw,<- hl];exact f) (by rw [a];exact ⟨_,c,q⟩)
 .have a:(k+(its.toArray.size:Int)).toNat=j:=by
   rw [seqIndex_neg (by omega) e] at h1;rw [yw,<- hl];exact ym h1
  exact PySem.W.ki_setBack b (by omega) (by rw [yw,<- hl];exact e) (by omega) (by rw [a];exact ⟨_,c,q⟩)
theorem slice_bounds (lo a:Option Int) (n:Nat):(sliceBounds lo a none n).1=((HT.sIx n 0 lo:Nat):Int)/\(sliceBounds lo a none n).2.1=((HT.sIx n n a:Nat):Int)/\(sliceBounds lo a none n).2.2=1:=by
 refine ⟨?_,?_,rfl⟩
 .cases lo with
  | none=>simp [sliceBounds,HT.sIx]
  | some i =>
   simp only [sliceBounds,HT.sIx,Option.getD_none,show (1:Int)>0 by decide,Xl];by_cases h:i<0
   .simp only [h,Xl]<;>omega
   .simp only [h,xu]<;>omega
 .cases a with
  | none=>simp [sliceBounds,HT.sIx]
  | some i =>
   simp only [sliceBounds,HT.sIx,Option.getD_none,show (1:Int)>0 by decide,Xl];by_cases h:i<0
   .simp only [h,Xl]<;>omega
   .simp only [h,xu]<;>omega
theorem slicePick_cut (its:List Value) (lo a:Option Int):slicePick its.toArray lo a none=((its.drop (HT.sIx its.length 0 lo)).take (HT.sIx its.length its.length a-HT.sIx its.length 0 lo)).toArray:=by
 obtain ⟨h1,b,c⟩:=slice_bounds lo a its.toArray.size;unfold slicePick;rw [h1,b,c];simp only [sliceRange_one,pick_run,yw]<;>rfl
def qgN (K:yg):V->Option Int->Option Int->Hp->VK->Prop:=fun x lo b H Q=>∃ a xs,x=.ref a/\SqL K H a xs/\∀ p,H p=none->Q (.ref p) (upd H p (.lst (qcx xs lo b)))
theorem sl_list:SlR X (qgN X.K):=by
 intro pins s σ H x v n p lo d m Q I j f pl i h;obtain ⟨a,xs,rfl,g,q⟩:=h;cases j;obtain ⟨its,r,e,hz⟩:=I.list g;have c:=r.length;refine ⟨"list",_,kh.lookup,e.isList.typeIs,?_⟩;refine wpAny_getItem_list_slice e.isList f pl i .none (by simp) ?_ (by rw [yw]<;>omega);rw [slicePick_cut,<- c];refine ⟨.ref s.heap.objs.size,_,I.laid (t':=s.toks) (o:=.lst (qcx xs lo d)) (fun b l q=>yv _ q) (yh _) ?_,rfl,q _ (I.hok.fresh (yh _))⟩;exact ⟨yi (qbu xs lo d) hz,_,0,(r.drop (HT.sIx xs.length 0 lo)).take (HT.sIx xs.length xs.length d-HT.sIx xs.length 0 lo),yW _ rfl⟩
noncomputable def zV:V->Bool
 | .non=>true
 | .bl _=>true
 | .int _=>true
 | .str _=>true
 | _=>false
noncomputable def eqV:V->V->Bool
 | .non,.non=>true
 | .bl a,.bl b=>a==b
 | .bl a,.int b=>(if a then 1 else 0)==b
 | .int a,.bl b=>a==(if b then 1 else 0)
 | .int a,.int b=>a==b
 | .str a,.str b=>a==b
 | _,_=>false
theorem qeb (e:RelV y u) (c:RelV x v) (f:zV y=true) (d:zV x=true):SeqAt.EqAt A s u v (eqV y x):=by
 cases y with
 | non =>
  cases e
  cases x with
  | non=>cases c;exact XS _
  | bl b=>cases c;exact SeqAt.EqAt.none_bool b
  | int b=>obtain ⟨t,rfl⟩:=c;exact SeqAt.EqAt.none_int b t
  | str b=>obtain ⟨t,rfl⟩:=c;exact SeqAt.EqAt.none_str b t
  | _=>exact absurd (show false=true from d) Yn
 | bl a =>
  cases e
  cases x with
  | non=>cases c;exact SeqAt.EqAt.bool_none a
  | bl b=>cases c;exact SeqAt.EqAt.bool_bool a b
  | int b=>obtain ⟨t,rfl⟩:=c;exact SeqAt.EqAt.bool_int a b t
  | str b=>obtain ⟨t,rfl⟩:=c;exact SeqAt.EqAt.bool_str a b t
  | _=>exact absurd (show false=true from d) Yn
 | int a =>
  obtain ⟨t',rfl⟩:=e
  cases x with
  | non=>cases c;exact SeqAt.EqAt.int_none a t'
  | bl b=>cases c;exact SeqAt.EqAt.int_bool a t' b
  | int b=>obtain ⟨t,rfl⟩:=c;exact SeqAt.EqAt.int_int a t' b t
  | str b=>obtain ⟨t,rfl⟩:=c;exact SeqAt.EqAt.int_str a t' b t
  | _=>exact absurd (show false=true from d) Yn
 | str a =>
  obtain ⟨t',rfl⟩:=e
  cases x with
  | non=>cases c;exact SeqAt.EqAt.str_none a t'
  | bl b=>cases c;exact SeqAt.EqAt.str_bool a t' b
  | int b=>obtain ⟨t,rfl⟩:=c;exact SeqAt.EqAt.str_int a t' b t
  | str b=>obtain ⟨t,rfl⟩:=c;exact SeqAt.EqAt.str_str a t' b t
  | _=>exact absurd (show false=true from d) Yn
 | _=>exact absurd (show false=true from f) Yn
noncomputable def eqU (x:V) (u:Value):Bool:=match u with
 | .none=>eqV .non x
 | .bool b=>eqV (.bl b) x
 | .int i _=>eqV (.int i) x
 | .str z _=>eqV (.str z) x
 | _=>false
theorem qec (r:RelV y u) (f:zV y=true):eqU x u=eqV y x:=by
 cases y with
 | non=>cases r;rfl
 | bl b=>cases r;rfl
 | int i=>obtain ⟨t,rfl⟩:=r;rfl
 | str z=>obtain ⟨t,rfl⟩:=r;rfl
 | _=>exact absurd (show false=true from f) Yn
theorem qbv:∀ {xs:List V} {us:List Value},Vals xs us->xs.all zV=true->us.any (eqU x)=xs.any fun y=>eqV y x
 | _,_,.nil,_=>rfl
 | y::xs,u::us,.cons r t,f=>by
  rw [XG,yU] at f;rw [XH,XH,qec r f.1,qbv t f.2]
theorem qai (b:RelV x v) (a:zV x=true):∀ {xs:List V} {us:List Value},Vals xs us->xs.all zV=true->∀ u∈us,SeqAt.EqAt A s u v (eqU x u)
 | _,_,.nil,_=>fun u hu=>by cases hu
 | y::xs,u::us,.cons r t,f=>fun c hu=>by
  rw [XG,yU] at f;rcases yB.mp hu with rfl | hu
  .rw [qec r f.1];exact qeb r b f.1 a
  .exact qai b a t f.2 c hu
noncomputable def inV (x:V) (xs:List V):Bool:=xs.any fun y=>eqV y x
def rIn (K:yg) (a:Bool):R2:=fun x y H Q=>∃ p xs,y=.ref p/\(SqL K H p xs\/SqT K H p xs)/\zV x=true/\xs.all zV=true/\Q (.bl (if a then !inV x xs else inV x xs)) H
theorem op_in_seq:OpR X (compareOp .In) (rIn X.K false):=by
 intro pins s σ H x y v u Q I b c h;obtain ⟨p,xs,rfl,hq,a,fs,q⟩:=h;cases c;rcases hq with hq | hq
 .obtain ⟨its,r,pl,hz⟩:=I.list hq;refine SeqAt.in_listAt (eqU x) pl.isList (fun w hw=>qai b a r fs w (by simpa using hw)) ⟨.bl _,H,I,rfl,?_⟩;rw [show its.toArray.any (eqU x)=its.any (eqU x) by simp,qbv r fs];exact q
 .obtain ⟨its,r,pl,hz⟩:=I.tuple hq;refine SeqAt.in_tupleAt (eqU x) pl (fun w hw=>qai b a r fs w (by simpa using hw)) ⟨.bl _,H,I,rfl,?_⟩;rw [show its.toArray.any (eqU x)=its.any (eqU x) by simp,qbv r fs];exact q
theorem op_notIn_seq:OpR X (compareOp .NotIn) (rIn X.K true):=by
 intro pins s σ H x y v u Q I b c h;obtain ⟨p,xs,rfl,hq,a,fs,q⟩:=h;cases c;rcases hq with hq | hq
 .obtain ⟨its,r,pl,hz⟩:=I.list hq;refine SeqAt.notIn_listAt (eqU x) pl.isList (fun w hw=>qai b a r fs w (by simpa using hw)) ⟨.bl _,H,I,rfl,?_⟩;rw [show its.toArray.any (eqU x)=its.any (eqU x) by simp,qbv r fs];exact q
 .obtain ⟨its,r,pl,hz⟩:=I.tuple hq;refine SeqAt.notIn_tupleAt (eqU x) pl (fun w hw=>qai b a r fs w (by simpa using hw)) ⟨.bl _,H,I,rfl,?_⟩;rw [show its.toArray.any (eqU x)=its.any (eqU x) by simp,qbv r fs];exact q
theorem call_len_seq:zv X (.builtin "len") (fun xs H Q=>∃ p ys,xs=[.ref p]/\(SqL X.K H p ys\/SqT X.K H p ys)/\Q (.int ys.length) H):=by
 intro pins s σ H xs us Q I r h;obtain ⟨p,ys,rfl,hq,q⟩:=h;obtain ⟨u,rfl,c⟩:=qbd r;cases c;have d:=qbO;rcases hq with hq | hq
 .obtain ⟨its,b,pl,hz⟩:=I.list hq;have a:=b.length;exact Calls.call_len_list pl.isList (by simp only [yw]<;>omega) ⟨.int ys.length,H,I.tok _,⟨s.toks+1,by rw [yw,a]⟩,q⟩
 .obtain ⟨its,b,pl,hz⟩:=I.tuple hq;have a:=b.length;exact len_tuple pl (by simp only [yw]<;>omega) ⟨.int ys.length,H,I.tok _,⟨s.toks+1,by rw [yw,a]⟩,q⟩
theorem call_len_str:zv X (.builtin "len") (fun xs H Q=>∃ z,xs=[.str z]/\z.length<=sizeLine/\Q (.int z.length) H):=by
 intro pins s σ H xs us Q I r h;obtain ⟨z,rfl,hz,q⟩:=h;obtain ⟨u,rfl,t,rfl⟩:=qbd r;have a:=qbO;exact len_str (by omega) ⟨.int z.length,H,I.tok _,⟨_,rfl⟩,q⟩
theorem call_list_of:zv X (.type "list") (fun xs H Q=>∃ p ys,xs=[.ref p]/\(SqL X.K H p ys\/SqT X.K H p ys)/\∀ l,H l=none->Q (.ref l) (upd H l (.lst ys))):=by
 intro pins s σ H xs us Q I r h;obtain ⟨p,ys,rfl,hq,q⟩:=h;obtain ⟨u,rfl,v⟩:=qbd r;cases v;have d:∀ (its:List Value),Vals ys its->ys.length<=sizeLine->∀ (h':Heap) (a:Nat),(∀ b m,s.heap.get? b=some m->h'.get? b=some m) ->
   h'.get? s.heap.objs.size=some { cls:=.type "list",dict:=none,data:=.seq its.toArray a,slots:=#[] }->EP X pins σ Q (.ref s.heap.objs.size) { s with heap:=h' }:=fun its c hz h' a g e =>
  ⟨.ref s.heap.objs.size,_,I.laid (t':=s.toks) g (yh _) (show ObjOk X.prog X.w _ h' _ (.lst ys) from ⟨hz,its,a,c,e⟩),rfl,q _ (I.hok.fresh (yh _))⟩
 rcases hq with hq | hq
 .obtain ⟨its,c,pl,hz⟩:=I.list hq;have f:=c.length;obtain ⟨o,j,hc,n,i⟩:=pl.isList;exact call_list_seq p (.inl rfl) j hc i (fun h' a g e=>d its c hz h' a g e) (by simp only [yw]<;>omega)
 .obtain ⟨its,c,pl,hz⟩:=I.tuple hq;have f:=c.length;obtain ⟨o,j,hc,n,i⟩:=pl;exact call_list_seq p (.inr rfl) j hc i (fun h' a g e=>d its c hz h' a g e) (by simp only [yw]<;>omega)
theorem call_tuple_of:zv X (.type "tuple") (fun xs H Q=>∃ p ys,xs=[.ref p]/\((SqL X.K H p ys/\∀ l,H l=none->Q (.ref l) (upd H l (.tup ys)))\/(SqT X.K H p ys/\Q (.ref p) H))):=by
 intro pins s σ H xs us Q I r h;obtain ⟨p,ys,rfl,h⟩:=h;obtain ⟨u,rfl,j⟩:=qbd r;cases j;rcases h with ⟨a,q⟩ | ⟨a,q⟩
 .obtain ⟨its,c,pl,hz⟩:=I.list a;have f:=c.length;refine call_tuple_list pl.isList (fun h' i=>?_) (by simp only [yw]<;>omega);have d:Inv X pins σ H { s with heap:=h' }:=I.kept (t':=s.toks) i
  have g:Inv X pins σ (upd H h'.objs.size (.tup ys)) { s with heap:=h'.push { cls:=.type "tuple",data:=.seq its.toArray } }:=
   d.laid (t':=s.toks) (fun b o e=>yv _ e) (yh _) (show ObjOk X.prog X.w _ _ _ (.tup ys) from ⟨hz,its,c,IsTup.new _ _⟩)
  exact ⟨.ref h'.objs.size,_,g,rfl,q _ (d.hok.fresh (yh _))⟩
 .obtain ⟨its,c,pl,hz⟩:=I.tuple a;exact call_tuple_same pl ⟨.ref p,H,I,rfl,q⟩
def tyV (K:yg) (T:String) (x:V) (H:Hp):Prop:=match x with
 | .str _=>T="str"
 | .int _=>T="int"
 | .ref p=>(T="list"/\∃ xs,SqL K H p xs)\/(T="tuple"/\∃ o,K.lookup p=some o/\o.cls=.type "tuple"/\o.dict=none) \/
   (T="dict"/\((∃ kvs,H p=some (.dK kvs))\/∃ kvs,H p=some (.dT kvs)))\/(T="set"/\∃ S n,H p=some (.set S n))
 | _=>False
theorem qe5 {T:String} (I:Inv X pins σ H s) (r:RelV x v) (ty:tyV X.K T x H) :
  s.TypeIs v T/\∀ a,v=.ref a->∃ g,s.heap.get? a=some g/\g.dict=none:=by
 cases x with
 | str z =>
  obtain ⟨t,rfl⟩:=r;cases (show T="str" from ty);exact ⟨typeIs_str s z t,fun _ e=>nomatch e⟩
 | int i =>
  obtain ⟨t,rfl⟩:=r;cases (show T="int" from ty);exact ⟨typeIs_int s i t,fun _ e=>nomatch e⟩
 | ref p =>
  cases r;rcases ty with ⟨rfl,xs,h⟩ | ⟨rfl,o,b,hc,f⟩ | ⟨rfl,b⟩ | ⟨rfl,S,n,b⟩
  .obtain ⟨its,_,pl,_⟩:=I.list h;refine ⟨pl.isList.typeIs,fun a e=>?_⟩;cases e;obtain ⟨o,n,e,c,f,_⟩:=pl;exact ⟨o,e,f⟩
  .refine ⟨⟨o,I.kIn p o b,hc⟩,fun a e=>?_⟩;cases e;exact ⟨o,I.kIn _ o b,f⟩
  .have z:∃ o,s.heap.get? p=some o/\o.ExactDict:=by
    rcases b with ⟨kvs,b⟩ | ⟨kvs,b⟩
    .obtain ⟨_,_,_,_,o,_,_,e,ex,_⟩:=I.hok p _ b;exact ⟨o,e,ex⟩
    .obtain ⟨_,_,_,_,o,_,_,e,ex,_⟩:=I.hok p _ b;exact ⟨o,e,ex⟩
   obtain ⟨o,e,ex⟩:=z;refine ⟨⟨o,e,ex.1⟩,fun a d=>?_⟩;cases d;exact ⟨o,e,ex.2.1⟩
  .obtain ⟨o,_,_,_,e,ex,_⟩:=I.hok p _ b;refine ⟨⟨o,e,ex.1⟩,fun a d=>?_⟩;cases d;exact ⟨o,e,ex.2.1⟩
 | _=>exact False.elim ty
def qgq (K:yg) (T:String) (r:V->List V->Hp->VK->Prop) (to:TE):TE:=fun σ H Q=>to σ H fun x a=>tyV K T x a/\r x [] a Q
def tBM (K:yg) (T:String) (r:V->List V->Hp->VK->Prop) (to:TE) (t:TA):TE:=fun σ H Q=>to σ H fun x a=>tyV K T x a/\t σ a fun xs b=>r x xs b Q
variable {o e:Expr} {es:List Expr} {to:TE} {t:TA} {name:Str} {apos cpos:Pos} {T id:String} {r:V->List V->Hp->VK->Prop}
theorem pe_bm0 (m:PlainAttrs T) (c:Slot T name id) (d:typeOf (.builtin id)=pure (.type "method_descriptor")) (j:MtR X id r) (l:PE X o to)
  (a:attributeBase o name X.env (eval o X.env)=eval o X.env:=by rfl) (b:(apos.endLine==cpos.line)=true:=by rfl):PE X (.Call (.Attribute o name apos) [] [] cpos) (qgq X.K T r to):=by
 intro pins s σ H Q I h;refine wpAny_Call_method0_late a b (thn (l pins s σ H _ I h) fun v p ⟨x,g,e,f,ty,n⟩=>?_);obtain ⟨h1,i⟩:=qe5 e f ty;exact ⟨T,id,m,c,d,h1,i,Xs rfl (PySem.evalArgs_none (j pins p σ g x [] v [] Q e f .nil n))⟩
theorem pe_bm (A:PlainAttrs T) (f:Slot T name id) (g:typeOf (.builtin id)=pure (.type "method_descriptor")) (w:MtR X id r) (y:PE X o to) (u:PA X (e::es) t)
  (b:attributeBase o name X.env (eval o X.env)=eval o X.env:=by rfl)
  (d:((backTo cpos (starEach (e::es) X.env)).all (fun x=>!x.1)&&(backToKw cpos (keywordEach [] X.env)).all (fun x=>x.1.isSome)
   && decide ((e::es).length+([]:List Keyword).length+(if ([]:List Keyword).isEmpty then 0 else 1)<30))=true:=by rfl)
  (c:(apos.endLine==cpos.line)=true:=by rfl) (z:starEach (e::es) X.env=(false,eval e X.env)::starEach es X.env:=by rfl) (a:(backTo cpos (starEach es X.env)).any (·.1)=false:=by rfl) :
  PE X (.Call (.Attribute o name apos) (e::es) [] cpos) (tBM X.K T r to t):=by
 intro pins s σ H Q I h;refine wpAny_Call_method_late b d c rfl (thn (y pins s σ H _ I h) fun v E ⟨x,m,i,l,ty,B⟩=>?_);obtain ⟨h1,q⟩:=qe5 i l ty;refine ⟨T,id,A,f,g,h1,q,?_⟩;have j:=u cpos pins E σ m _ i B;rw [z] at j ⊢;refine Xs (by show (false||(backTo cpos (starEach es X.env)).any (·.1))=false;rw [a]<;>rfl) (Calls.evalArgs_plain ?_);exact thn j fun us F ⟨vs,n,p,D,C⟩=>w pins F σ n x vs v us Q p l D C
end
def MtM (X:Cx) (id:String) (r:V->List V->Hp->VK->Prop):Prop:=
 ∀ (pins:List (Addr×Obj)) (s:Shared) (σ:St) (H:Hp) (x:V) (xs:List V) (v:Value) (us:List Value) (Q:VK),Inv X pins σ H s->RelV x v->Vals xs us->r x xs H Q ->
  wpAny (model X.prog X.w) X.A (call (.builtin id) (v::us)) (EP X pins σ Q) X.xe s
theorem Vals.one:∀ {x:V} {us:List Value},Vals [x] us->∃ u,us=[u]/\RelV x u
 | _,_,.cons r .nil=>⟨_,rfl,r⟩
theorem Vals.zero:∀ {us:List Value},Vals [] us->us=[]
 | _,.nil=>rfl
theorem Vals.dropLast (h:Vals xs us):Vals xs.dropLast us.dropLast:=by
 induction h with
 | nil=>exact .nil
 | cons r t ih =>
  cases t with
  | nil=>exact .nil
  | cons q t'=>exact .cons r ih
theorem Vals.eraseIdx:∀ {xs:List V} {us:List Value} (i:Nat),Vals xs us->Vals (xs.eraseIdx i) (us.eraseIdx i)
 | _,_,_,.nil=>.nil
 | _,_,0,.cons _ t=>t
 | _,_,i+1,.cons r t=>.cons r (Vals.eraseIdx i t)
theorem Vals.rep (h:Vals xs us):∀ k:Nat,Vals (List.replicate k xs).flatten (List.replicate k us).flatten
 | 0=>.nil
 | k+1=>by
  rw [Y7,Y7,xZ,xZ];exact Vals.append h (Vals.rep h k)
theorem erase_last (l:List α):l.eraseIdx (l.length-1)=l.dropLast:=by
 induction l with
 | nil=>rfl
 | cons a r ih =>
  cases r with
  | nil=>rfl
  | cons b r =>
   have e:(a::b::r).length-1=((b::r).length-1)+1:=by
    have h1:(a::b::r).length=r.length+2:=rfl;have c:(b::r).length=r.length+1:=rfl;omega
   rw [e,List.eraseIdx_cons_succ,ih]
   all_goals rfl
theorem qcy:∀ (l:List α) (i:Nat),(l.eraseIdx i).length<=l.length
 | [],_=>yh _
 | _::_,0=>Xa _
 | _::r,i+1=>Nat.succ_le_succ (qcy r i)
theorem qcz (its:List Value):∀ (k:Nat) (acc:List Value),
  List.foldl (fun b c=>b++c) acc.toArray (List.replicate k its.toArray)=(acc++(List.replicate k its).flatten).toArray
 | 0,acc=>by simp
 | k+1,acc=>by
  have e:acc.toArray++its.toArray=(acc++its).toArray:=by simp
  have a:(acc++its)++(List.replicate k its).flatten=acc++(List.replicate (k+1) its).flatten:=by
   rw [Y7,xZ,Yi]
  rw [<- a,<- qcz its k (acc++its),<- e,Y7,List.foldl_cons]
section
variable {X:Cx} {pins:List (Addr×Obj)} {σ:St} {H:Hp} {s:Shared} {l b:Addr} {xs ys zs:List V}
theorem Inv.lset {f:Array Value->Array Value} (I:Inv X pins σ H s) (a:H l=some (.lst xs))
  (e:s.heap.get? l=some { cls:=.type "list",data:=.seq its.toArray n }) (b:f its.toArray=its'.toArray) (hv:Vals ys its') (hz:ys.length<=sizeLine) :
  Inv X pins σ (upd H l (.lst ys)) { s with heap:=s.heap.update l (Obj.mapSeq f),toks:=t' }:=by
 have q:=PySem.IsL.update e f;rw [b] at q;refine I.write (x:=l) (e:=l) (by rw [a];exact trivial) (.inl rfl) (fun d u hb c=>(Heap.get?_update_other s.heap (Obj.mapSeq f) (Yh hb)).trans c) ⟨_,q⟩ ?_;exact ⟨hz,its',_,hv,q⟩
theorem Inv.lnew (I:Inv X pins σ H s) (hv:Vals ys its) (hz:ys.length<=sizeLine) :
  Inv X pins σ (upd H s.heap.objs.size (.lst ys)) { s with heap:=s.heap.push { cls:=.type "list",data:=.seq its.toArray },toks:=t' }:=
 I.laid (fun _ _ q=>yv _ q) (yh _) ⟨hz,its,0,hv,yW _ rfl⟩
theorem Inv.fresh (I:Inv X pins σ H s):H s.heap.objs.size=none:=I.hok.fresh (yh _)
theorem Inv.lstM (I:Inv X pins σ H s) (a:H l=some (.lst xs)):xs.length<=sizeLine/\∃ (its:List Value) (n:Nat),Vals xs its/\xs.length=its.length/\s.heap.get? l=some { cls:=.type "list",data:=.seq its.toArray n }:=by
 obtain ⟨z,its,n,r,e⟩:=I.hok l _ a;exact ⟨z,its,n,r,r.length,e⟩
theorem qdu (h:n<=sizeLine):Builtin.List.listTooLong n=false:=by
 unfold Builtin.List.listTooLong;exact yl (by omega)
end
section
variable {X:Cx}
def qed:V->List V->Hp->VK->Prop:=fun x vs H Q=>∃ l xs y,x=.ref l/\vs=[y]/\H l=some (.lst xs)/\xs.length<sizeLine/\Q .non (upd H l (.lst (xs++[y])))
theorem mt_append:MtM X "list.append" qed:=by
 intro pins s σ H x vs v us Q I d c h;obtain ⟨l,xs,y,rfl,rfl,a,hz,q⟩:=h;cases d;obtain ⟨u,rfl,b⟩:=c.one;obtain ⟨z,its,n,r,hl,e⟩:=I.lstM a;refine XD F.slot_list_append ⟨_,e,rfl⟩ F.entry_list_append (F.args_list_append_2 _ _) (PySem.list_append l its.toArray n u (by rw [yw];omega)) ⟨e,?_⟩;refine ⟨.non,_,I.lset (its':=its++[u]) a e (by simp) (r.append (.cons b .nil)) ?_,rfl,q⟩;rw [yt,List.length_singleton];omega
def qee:V->List V->Hp->VK->Prop:=fun x vs H Q=>∃ l b xs a,x=.ref l/\vs=[.ref b]/\H l=some (.lst xs)/\H b=some (.lst a)/\xs.length+a.length<=sizeLine/\Q .non (upd H l (.lst (xs++a)))
theorem mt_extend:MtM X "list.extend" qee:=by
 intro pins s σ H x vs v us Q I w p h;obtain ⟨l,b,xs,A,rfl,rfl,d,g,hz,q⟩:=h;cases w;obtain ⟨u,rfl,o⟩:=p.one;cases o;obtain ⟨z,its,n,r,hl,e⟩:=I.lstM d;obtain ⟨y,a,j,m,i,f⟩:=I.lstM g;have hsz:its.toArray.size+a.toArray.size<=sizeLine:=by rw [yw,yw];omega
 have c:¬ (!its.toArray.isEmpty&&Builtin.List.listTooLong (its.toArray.size+a.toArray.size))=true:=by
  rw [qdu hsz,Bool.and_false];exact Yn
 refine XD F.slot_list_extend ⟨_,e,rfl⟩ F.entry_list_extend (F.args_list_extend_2 _ _)
  (AutoSeq1.list_extend_list_list_0 l its.toArray n b a.toArray j c (by rw [yw];omega) (by omega)) ⟨e,f,?_⟩
 refine ⟨.non,_,I.lset (its':=its++a) d e (by simp) (r.append m) ?_,rfl,q⟩;rw [yt];omega
def qgO:V->List V->Hp->VK->Prop:=fun x vs H Q=>∃ l xs y,x=.ref l/\vs=[]/\H l=some (.lst xs)/\xs[xs.length-1]?=some y/\Q y (upd H l (.lst xs.dropLast))
theorem mt_pop:MtM X "list.pop" qgO:=by
 intro pins s σ H x vs v us Q I j i h;obtain ⟨l,xs,y,rfl,rfl,c,f,q⟩:=h;cases j;have a:=i.zero;subst a;obtain ⟨z,its,n,r,hl,e⟩:=I.lstM c;obtain ⟨u,d,g⟩:=r.get f
 have b:its.toArray[its.toArray.size-1]?=some u:=by
  show its.toArray[its.length-1]?=some u;rw [<- xV,<- hl];exact d
 refine XD F.slot_list_pop ⟨_,e,rfl⟩ F.entry_list_pop (F.args_list_pop_1 _) (MeetsSeq.list_pop_last l its.toArray n u b (by rw [yw];omega)) ⟨e,?_⟩;refine ⟨y,_,I.lset (its':=its.dropLast) c e ?_ r.dropLast ?_,g,q⟩
 .show its.toArray.eraseIdxIfInBounds (its.toArray.size-1)=its.dropLast.toArray;rw [yw,List.eraseIdxIfInBounds_toArray,erase_last]
 .rw [List.length_dropLast];omega
def qe6:V->List V->Hp->VK->Prop:=fun x vs H Q=>∃ l xs i k y,x=.ref l/\vs=[.int i]/\H l=some (.lst xs)/\-(2 ^ 63)<=i/\i<2 ^ 63/\seqIndex? i xs.length=some k/\xs[k]?=some y/\Q y (upd H l (.lst (xs.eraseIdx k)))
theorem mt_popAt:MtM X "list.pop" qe6:=by
 intro pins s σ H x vs v us Q I m j h;obtain ⟨l,xs,i,k,y,rfl,rfl,b,h1,c,d,f,q⟩:=h;cases m;obtain ⟨u,rfl,g⟩:=j.one;obtain ⟨t,rfl⟩:=g;obtain ⟨z,its,n,r,hl,e⟩:=I.lstM b;obtain ⟨w,hw,a⟩:=r.get f;refine XD F.slot_list_pop ⟨_,e,rfl⟩ F.entry_list_pop (F.args_list_pop_2 _ _)
  (MeetsSeq.list_pop_at l its.toArray n i t k w (fitsIndex_both h1 c) (by rw [yw,<- hl];exact d) (by rw [<- xV];exact hw) (by rw [yw];omega)) ⟨e,?_⟩
 refine ⟨y,_,I.lset (its':=its.eraseIdx k) b e ?_ (r.eraseIdx k) ?_,a,q⟩
 .show its.toArray.eraseIdxIfInBounds k=(its.eraseIdx k).toArray;rw [List.eraseIdxIfInBounds_toArray]
 .have:=qcy xs k;omega
def qgP:R2:=fun x y H Q=>∃ l b xs a,x=.ref l/\y=.ref b/\H l=some (.lst xs)/\H b=some (.lst a)/\xs.length+a.length<=sizeLine/\∀ p,H p=none->Q (.ref p) (upd H p (.lst (xs++a)))
theorem op_cat:OpR X (binaryOp .Add) qgP:=by
 intro pins s σ H x y v u Q I m o h;obtain ⟨l,b,xs,A,rfl,rfl,g,f,hz,q⟩:=h;cases m;cases o;obtain ⟨z,its,n,r,hl,e⟩:=I.lstM g;obtain ⟨w,a,p,j,i,c⟩:=I.lstM f;refine PySem.P.add_list e c ?_ (by rw [yw,yw];omega);have d:its.toArray++a.toArray=(its++a).toArray:=by simp
 rw [d];exact ⟨.ref _,_,I.lnew (t':=s.toks) (r.append j) (by rw [yt];omega),rfl,q _ I.fresh⟩
def qgQ:R2:=fun x y H Q=>∃ l k xs,x=.ref l/\y=.int k/\H l=some (.lst xs)/\-(2 ^ 63)<=k/\k<2 ^ 63/\xs.length*k.toNat<=sizeLine /\
 ∀ p,H p=none->Q (.ref p) (upd H p (.lst (List.replicate k.toNat xs).flatten))
theorem len_rep (xs:List α) (k:Nat):(List.replicate k xs).flatten.length=k*xs.length:=by
 induction k with
 | zero=>simp
 | succ k ih=>rw [Y7,xZ,yt,ih,Nat.succ_mul,Nat.add_comm]
theorem qe7:OpR X (binaryOp .Mult) qgQ:=by
 intro pins s σ H x y v u Q I A B h;obtain ⟨l,k,xs,rfl,rfl,w,h1,p,hz,q⟩:=h;cases A;obtain ⟨t,rfl⟩:=B;obtain ⟨z,its,n,r,hl,e⟩:=I.lstM w;have f:its.toArray.size*k.toNat<=sizeLine:=by rw [yw,<- hl];exact hz
 have c:¬ its.toArray.size*k.toNat>(2 ^ 63-1) / 8:=by
  have:(sizeLine:Nat)<=(2 ^ 63-1) / 8:=by decide
  omega
 have d:¬ (!Builtin.List.listFitsIndex k)=true:=by
  rw [fitsIndex_both h1 p];exact Yn
 have b:¬ Builtin.List.listTooLong (its.toArray.size*k.toNat)=true:=by
  rw [qdu f];exact Yn
 have g:List.foldl (fun i j=>i++j) #[] (List.replicate (if its.toArray.isEmpty=true then 0 else k.toNat) its.toArray)=(List.replicate k.toNat its).flatten.toArray:=by
  have o:∀ m:Nat,List.foldl (fun i j=>i++j) #[] (List.replicate m its.toArray)=(List.replicate m its).flatten.toArray:=fun m=>by
   have:=qcz its m [];rw [List.nil_append] at this;exact this
  rw [o]
  cases its with
  | nil=>simp
  | cons a r'=>rw [yy (by simp)]
 refine wpAny_binaryOp_repeat_ref (T:="list") (U:="int") (by decide) ⟨_,e,rfl⟩ (fun C=>typeIs_int C k t) noFill_list_mul F.fills_int_mul F.slot_int_rmul repeat_list F.slot_int_index.lookup
  (XD F.slot_int_rmul (typeIs_int s k t) F.entry_int_rmul (F.args_int_rmul_2 _ _) (int___rmul___int_list k t l its.toArray n)
   ⟨e,rfl,⟨_,e,rfl⟩,XD F.slot_list_mul ⟨_,e,rfl⟩ F.entry_list_mul (F.args_list_mul_2 _ _) (AutoListH.list___mul___list_int_3 l its.toArray n k t d c b) ⟨e,?_⟩⟩)
 rw [g];exact ⟨.ref _,_,I.lnew (t':=s.toks) (r.rep k.toNat) (by rw [len_rep,Nat.mul_comm];exact hz),rfl,q _ I.fresh⟩
end
section
variable {prog:Program} {w:World} {A:Around} {E:Value->Shared->Prop} {s:Shared}
set_option maxRecDepth 100000 in
end
section
variable {X:Cx}
end
section
variable {κ:Type} [DecidableEq κ]
noncomputable def jP (kvs:List (κ×V)) (k:κ):Option V:=(kvs.find? fun a=>decide (a.1=k)).map (·.2)
noncomputable def zr (kvs:List (κ×V)) (k:κ) (v:V):List (κ×V):=
 if (kvs.any fun a=>decide (a.1=k))=true then kvs.map (fun a=>if a.1=k then (a.1,v) else a) else kvs++[(k,v)]
noncomputable def dropK (kvs:List (κ×V)) (k:κ):List (κ×V):=kvs.filter fun a=>decide (a.1≠k)
theorem jm {p:κ×V} {r:List (κ×V)} {k:κ} (e:p.1=k):jP (p::r) k=some p.2:=by simp [jP,Y6,e]
theorem q8 {p:κ×V} {r:List (κ×V)} {k:κ} (e:¬ p.1=k):jP (p::r) k=jP r k:=by simp [jP,Y6,e]
theorem qaj (k:κ):∀ kvs:List (κ×V),(kvs.any fun a=>decide (a.1=k))=(jP kvs k).isSome
 | []=>rfl
 | p::r=>by
  rw [XH];by_cases e:p.1=k
  .simp only [jm e,yM e,Bool.true_or,Xp]
  .rw [q8 e,yl e,Bool.false_or];exact qaj k r
theorem qdv (k j:κ) (y:V):∀ kvs:List (κ×V),jP (kvs.map fun a=>if a.1=k then (a.1,y) else a) j=(jP kvs j).map fun x=>if j=k then y else x
 | []=>rfl
 | p::r=>by
  have b:=qdv k j y r;rw [Yt];by_cases h:p.1=k
  .rw [yD h];by_cases e:p.1=j
   .rw [jm (p:=(p.1,y)) e,jm e,XT,yD (e.symm.trans h)]
   .rw [q8 (p:=(p.1,y)) e,q8 e,b]
  .rw [yy h];by_cases e:p.1=j
   .rw [jm (p:=p) e,jm e,XT,yy (fun z=>h (e.trans z))]
   .rw [q8 (p:=p) e,q8 e,b]
theorem qcA (k j:κ) (y:V):∀ kvs:List (κ×V),jP kvs k=none->jP (kvs++[(k,y)]) j=if j=k then some y else jP kvs j
 | [],_=>by
  by_cases e:k=j
  .rw [yD e.symm];exact jm (p:=(k,y)) e
  .rw [yy (fun z=>e z.symm)];exact q8 (p:=(k,y)) e
 | p::r,hn=>by
  rw [kF];have a:¬ p.1=k:=fun z=>by rw [jm z] at hn;cases hn
  rw [q8 a] at hn;have b:=qcA k j y r hn;by_cases e:p.1=j
  .rw [jm e,jm e,yy (fun z=>a (e.trans z))]
  .rw [q8 e,q8 e,b]
theorem qak (kvs:List (κ×V)) (k j:κ) (y:V):jP (zr kvs k y) j=if j=k then some y else jP kvs j:=by
 unfold zr;by_cases a:(kvs.any fun c=>decide (c.1=k))=true
 .rw [yD a,qdv];rw [qaj] at a;by_cases e:j=k
  .obtain ⟨x,b⟩:=Y1.mp a;rw [yD e,e,b,XT,yD rfl]
  .rw [yy e]
   cases jP kvs j with
   | none=>rfl
   | some x=>rw [XT,yy e]
 .rw [yy a];refine qcA k j y kvs ?_;rw [qaj] at a
  cases q:jP kvs k with
  | none=>rfl
  | some x=>rw [q] at a;exact (a rfl).elim
theorem jr (kvs:List (κ×V)) (k:κ) (v:V):(zr kvs k v).length<=kvs.length+1:=by
 unfold zr;split
 .rw [ya];omega
 .rw [yt,yC,xo];omega
theorem qaL {kvs:List (κ×V)} {k:κ} (v:V) (h:jP kvs k=none):zr kvs k v=kvs++[(k,v)]:=by
 unfold zr;rw [qaj,h];exact yy (by decide)
theorem RelO.isSome_eq {u:Option Value} (r:RelO o u):o.isSome=u.isSome:=by
 cases o with
 | none=>cases u with
  | none=>rfl
  | some _=>exact (show False from r).elim
 | some _=>cases u with
  | none=>exact (show False from r).elim
  | some _=>rfl
theorem RelO.getD {u:Option Value} {d:V} {d':Value} (r:RelO o u) (rd:RelV d d'):RelV (o.getD d) (u.getD d'):=by
 cases o with
 | none=>cases u with
  | none=>exact rd
  | some _=>exact (show False from r).elim
 | some _=>cases u with
  | none=>exact (show False from r).elim
  | some _=>exact r
theorem KV.val {kvs:List (κ×V)} {vs:List (κ×Value)} (r:KV kvs vs) (k:κ):RelO (jP kvs k) (valueAt vs k):=by
 unfold KV at r
 induction r with
 | nil=>exact YV
 | @cons p q ps qs h t ih =>
  obtain ⟨h1,c⟩:=h;by_cases e:p.1=k
  .have a:q.1=k:=h1.symm.trans e;have b:valueAt (q::qs) k=some q.2:=by simp [valueAt,Y6,a]
   rw [jm e,b];exact c
  .have a:¬ q.1=k:=fun z=>e (h1.trans z);have b:valueAt (q::qs) k=valueAt qs k:=by simp [valueAt,Y6,a]
   rw [q8 e,b];exact ih
theorem KV.any {kvs:List (κ×V)} {vs:List (κ×Value)} (r:KV kvs vs) (k:κ):(kvs.any fun a=>decide (a.1=k))=vs.any fun a=>decide (a.1=k):=by
 unfold KV at r
 induction r with
 | nil=>rfl
 | cons h t ih=>rw [XH,XH,ih,h.1]
theorem KV.repl {kvs:List (κ×V)} {vs:List (κ×Value)} (r:KV kvs vs) (k:κ) (c:RelV y u) :
  KV (kvs.map fun a=>if a.1=k then (a.1,y) else a) (vs.map fun a=>if a.1=k then (a.1,u) else a):=by
 unfold KV at r ⊢
 induction r with
 | nil=>exact .nil
 | @cons p q ps qs h t ih =>
  rw [Yt,Yt];refine .cons ?_ ih;obtain ⟨h1,b⟩:=h;by_cases e:p.1=k
  .rw [yD e,yD (h1.symm.trans e)];exact ⟨h1,c⟩
  .rw [yy e,yy (fun z=>e (h1.trans z))];exact ⟨h1,b⟩
theorem KV.put {kvs:List (κ×V)} {vs:List (κ×Value)} (r:KV kvs vs) (k:κ) (a:RelV y u):KV (zr kvs k y) (stored vs k u):=by
 unfold zr stored;rw [r.any k];by_cases e:(vs.any fun b=>decide (b.1=k))=true
 .rw [yD e,yD e];exact r.repl k a
 .rw [yy e,yy e];exact Paired.snoc r ⟨rfl,a⟩
theorem KV.length {kvs:List (κ×V)} {vs:List (κ×Value)} (r:KV kvs vs):kvs.length=vs.length:=Paired.length r
end
theorem qdX {k:Key} (r:RelV (kV k) u):(jx P w).is k u=true:=by
 cases k with
 | inl i=>obtain ⟨t,e⟩:=(show ∃ t,u=Value.int i t from r);subst e;exact mixKind_int P w i t
 | inr x=>obtain ⟨t,e⟩:=(show ∃ t,u=Value.str x t from r);subst e;exact mixKind_str P w x t
theorem qcB:∀ {ks:List Key} {us:List Value},Vals (ks.map kV) us->ItemsAre (jx P w) ks us
 | [],_,r=>by rw [List.map_nil] at r;cases r;exact .nil
 | k::ks,_,r=>by
  rw [Yt] at r
  cases r with
  | cons h t=>exact .cons (qdX h) (qcB t)
abbrev KT (H:Hp):List (List Key×V)->List (List Key×Addr×Value)->Prop:=Paired fun p q=>p.1=q.1/\H q.2.1=some (.tup (p.1.map kV))/\RelV p.2 q.2.2
theorem KT.val {xs:List (List Key×Addr×Value)} (r:KT H kvs xs) (k:List Key):RelO (jP kvs k) ((atKey xs k).map (·.2)):=by
 induction r with
 | nil=>exact YV
 | @cons p q ps qs h t ih =>
  obtain ⟨h1,_,c⟩:=h;by_cases e:p.1=k
  .have a:q.1=k:=h1.symm.trans e;have b:atKey (q::qs) k=some q.2:=by simp [atKey,Y6,a]
   rw [jm e,b];exact c
  .have a:¬ q.1=k:=fun z=>e (h1.trans z);have b:atKey (q::qs) k=atKey qs k:=by simp [atKey,Y6,a]
   rw [q8 e,b];exact ih
theorem KT.repl {xs:List (List Key×Addr×Value)} (r:KT H kvs xs) (k:List Key) (d:RelV y u) :
  KT H (kvs.map fun a=>if a.1=k then (a.1,y) else a) (xs.map (putAt k u)):=by
 induction r with
 | nil=>exact .nil
 | @cons p q ps qs h t ih =>
  rw [Yt,Yt];refine .cons ?_ ih;obtain ⟨h1,b,c⟩:=h;unfold putAt;by_cases e:p.1=k
  .rw [yD e,yD (h1.symm.trans e)];exact ⟨h1,b,d⟩
  .rw [yy e,yy (fun z=>e (h1.trans z))];exact ⟨h1,b,c⟩
theorem KT.put {xs:List (List Key×Addr×Value)} (r:KT H kvs xs) (k:List Key) (hb:H b=some (.tup (k.map kV))) (a:RelV y u) :
  KT H (zr kvs k y) (storedH xs k b u):=by
 have e:(kvs.any fun c=>decide (c.1=k))=(atKey xs k).isSome:=by
  rw [qaj,(r.val k).isSome_eq,x0]
 unfold zr storedH;rw [e];by_cases q:(atKey xs k).isSome=true
 .rw [yD q,yD q];exact r.repl k a
 .rw [yy q,yy q];exact Paired.snoc r ⟨rfl,hb,a⟩
theorem KT.keeps {xs:List (List Key×Addr×Value)} (r:KT H kvs xs) (a:∀ b ys,H b=some (.tup ys)->H' b=some (.tup ys)):KT H' kvs xs:=
 Paired.mapP r fun _ _ z=>⟨z.1,a _ _ z.2.1,z.2.2⟩
section
variable {P:Program} {w:World} {H:Hp} {h:Heap} {a:Addr}
theorem qfZ {u:HO} (ok:HOk P w H h) (e:Rd H a u):ObjOk P w H h a u:=e.ok ok
theorem qcC {kvs:List (Key×V)} (ok:HOk P w H h) (e:Rd H a (.dK kvs)):kvs.length<=sizeLine/\(a==sysModules)=false/\∃ vs,KV kvs vs/\h.DictOf (jx P w) a vs:=
 show ObjOk P w H h a (.dK kvs) from qfZ ok e
theorem dk_of {kvs:List (Key×V)} (ok:HOk P w H h) (e:H a=some (.dK kvs)):kvs.length<=sizeLine/\(a==sysModules)=false/\∃ vs,KV kvs vs/\h.DictOf (jx P w) a vs:=qcC ok (.inl e)
theorem qbQ {ks:List Key} (ok:HOk P w H h) (e:H a=some (.tup (ks.map kV))):(tupleKind (jx P w)).is h ks a:=by
 obtain ⟨_,its,r,o,h1,b,n,c⟩:=(show ObjOk P w H h a (.tup (ks.map kV)) from ok a _ e);exact ⟨o,its.toArray,n,h1,b,c,by simpa using qcB r⟩
theorem qc3 (ok:HOk P w H h) (e:Rd H a (.dT kvs)):kvs.length<=sizeLine/\(a==sysModules)=false /\
  ∃ xs,KT H kvs xs/\h.DictOfH (tupleKind (jx P w)) a xs:=by
 obtain ⟨z,y,xs,r,o,b,ep,h1,c,d,f,g⟩:=(show ObjOk P w H h a (.dT kvs) from qfZ ok e);refine ⟨z,y,xs,r,o,b,ep,h1,c,d,f,fun x hx=>?_,g⟩
 have all:∀ {l:List (List Key×V)} {m:List (List Key×Addr×Value)},KT H l m->∀ x∈m,(tupleKind (jx P w)).is h x.1 x.2.1:=by
  intro l m q
  induction q with
  | nil=>intro x hx;exact nomatch hx
  | @cons p q ps qs hq t ih =>
   intro x hx;rcases yB.mp hx with e | hx
   .subst e;exact qbQ ok (by rw [<- hq.1];exact hq.2.1)
   .exact ih x hx
 exact all r x hx
theorem dt_of (ok:HOk P w H h) (e:H a=some (.dT kvs)):kvs.length<=sizeLine/\(a==sysModules)=false /\
  ∃ xs,KT H kvs xs/\h.DictOfH (tupleKind (jx P w)) a xs:=qc3 ok (.inl e)
end
def DGet (H:Hp) (a:Addr) (y:V) (r:Option V):Prop:=
 (∃ kvs k,Rd H a (.dK kvs)/\y=kV k/\r=jP kvs k)\/∃ kvs k b,Rd H a (.dT kvs)/\y=.ref b/\H b=some (.tup (k.map kV))/\r=jP kvs k
def DPut (H:Hp) (a:Addr) (y v:V) (H':Hp):Prop:=
 (∃ kvs k,H a=some (.dK kvs)/\y=kV k/\kvs.length<sizeLine/\H'=upd H a (.dK (zr kvs k v))) \/
 ∃ kvs k b,H a=some (.dT kvs)/\y=.ref b/\H b=some (.tup (k.map kV))/\kvs.length<sizeLine/\H'=upd H a (.dT (zr kvs k v))
theorem DGet.k {kvs:List (Key×V)} {k:Key} (e:H a=some (.dK kvs)):DGet H a (kV k) (jP kvs k):=.inl ⟨kvs,k,.inl e,rfl,rfl⟩
theorem DGet.t {k:List Key} (e:H a=some (.dT kvs)) (c:H b=some (.tup (k.map kV))):DGet H a (.ref b) (jP kvs k):=.inr ⟨kvs,k,b,.inl e,rfl,c,rfl⟩
theorem DPut.k {kvs:List (Key×V)} {k:Key} {v:V} (e:H a=some (.dK kvs)) (hl:kvs.length<sizeLine):DPut H a (kV k) v (upd H a (.dK (zr kvs k v))):=.inl ⟨kvs,k,e,rfl,hl,rfl⟩
theorem DPut.t {k:List Key} {v:V} (e:H a=some (.dT kvs)) (c:H b=some (.tup (k.map kV))) (hl:kvs.length<sizeLine) :
  DPut H a (.ref b) v (upd H a (.dT (zr kvs k v))):=.inr ⟨kvs,k,b,e,rfl,c,hl,rfl⟩
section
variable {X:Cx} {pins:List (Addr×Obj)} {σ:St} {H:Hp} {s:Shared} {a:Addr} {y v:V} {u r:Value} {o:Option V} {A:Around} {E:Value->Shared->Prop}
theorem Inv.big (I:Inv X pins σ H s):sysModules<s.heap.objs.size:=by
 have h:mainGlobals<s.heap.objs.size:=(I.mod.glob.keeps I.bk).lt;exact kO (by decide) h
theorem d_getItem {Q:Value->Shared->Prop} (C:A.units+1<cLine) (I:Inv X pins σ H s) (g:DGet H a y (some v)) (n:RelV y u) (h:∀ f q,Inv X pins σ H q->RelV v f->Q f q) :
  wpAny (model X.prog X.w) A (getItem (.ref a) u) Q E s:=by
 rcases g with ⟨kvs,k,e,j,l⟩ | ⟨kvs,k,b,e,j,r,l⟩
 .subst j;obtain ⟨z,x,vs,c,i⟩:=qcC I.hok e;obtain ⟨f,hw,d⟩:=RelO.some_of (v:=v) (o:=valueAt vs k) (by rw [l];exact c.val k);exact wpAny_getItem_of (qdX n) i.mapOf hw (h f _ (I.tok _) d)
 .subst j;cases (show u=Value.ref b from n);obtain ⟨z,x,xs,c,i⟩:=qc3 I.hok e;obtain ⟨f,hw,d⟩:=RelO.some_of (v:=v) (o:=(atKey xs k).map (·.2)) (by rw [l];exact c.val k);obtain ⟨p,B,m⟩:=yn.mp hw;refine wpAny_getItem_heap (xP C) (qbQ I.hok r) i B ?_;rw [m];exact h f _ (I.tok _) d
theorem d_in {Q:Value->Shared->Prop} (p:A.units+1<cLine) (I:Inv X pins σ H s) (g:DGet H a y o) (j:RelV y u) (h:∀ m,Inv X pins σ H m->Q (.bool o.isSome) m) :
  wpAny (model X.prog X.w) A (compareOp .In u (.ref a)) Q E s:=by
 rcases g with ⟨kvs,k,e,f,l⟩ | ⟨kvs,k,b,e,f,n,l⟩
 .subst f;obtain ⟨z,i,vs,c,d⟩:=qcC I.hok e;refine wpAny_in_of (qdX j) i d.mapOf ?_;rw [<- (c.val k).isSome_eq,<- l];exact h _ (I.tok _)
 .subst f;cases (show u=Value.ref b from j);obtain ⟨z,i,xs,c,d⟩:=qc3 I.hok e;refine wpAny_in_heap (xP p) (qbQ I.hok n) i d ?_;have q:=(c.val k).isSome_eq;rw [x0] at q;rw [<- q,<- l];exact h _ (I.tok _)
theorem d_notIn {Q:Value->Shared->Prop} (p:A.units+1<cLine) (I:Inv X pins σ H s) (g:DGet H a y o) (j:RelV y u) (h:∀ m,Inv X pins σ H m->Q (.bool (!o.isSome)) m) :
  wpAny (model X.prog X.w) A (compareOp .NotIn u (.ref a)) Q E s:=by
 rcases g with ⟨kvs,k,e,f,l⟩ | ⟨kvs,k,b,e,f,n,l⟩
 .subst f;obtain ⟨z,i,vs,c,d⟩:=qcC I.hok e;refine wpAny_notIn_of (qdX j) i d.mapOf ?_;rw [<- (c.val k).isSome_eq,<- l];exact h _ (I.tok _)
 .subst f;cases (show u=Value.ref b from j);obtain ⟨z,i,xs,c,d⟩:=qc3 I.hok e;refine wpAny_notIn_heap (xP p) (qbQ I.hok n) i d ?_;have q:=(c.val k).isSome_eq;rw [x0] at q;rw [<- q,<- l];exact h _ (I.tok _)
theorem qef {c:HO} (I:Inv X pins σ H s) (g:Mut (H a)) (f:Heap.SameBut a s.heap h') (d:∃ q,h'.get? a=some q) (new:ObjOk X.prog X.w (upd H a c) h' a c) :
  Inv X pins σ (upd H a c) { s with heap:=h',toks:=t' }:=
 I.write (x:=a) (e:=a) g (.inl rfl) (fun b q hb z=>(f.2 b hb).trans z) d new
theorem dk_new {kvs:List (Key×V)} {vs:List (Key×Value)} (z:kvs.length<=sizeLine) (d:(a==sysModules)=false) (b:KV kvs vs) (c:h'.DictOf (jx P w) a vs) :
  ObjOk P w H' h' a (.dK kvs):=⟨z,d,vs,b,c⟩
theorem d_setItem {Q:Unit->Shared->Prop} (O:A.units+1<cLine) (I:Inv X pins σ H s) (g:DPut H a y v H') (D:RelV y u) (C:RelV v r) (h:∀ F,Inv X pins σ H' F->Q () F) :
  wpAny (model X.prog X.w) A (setItem (.ref a) u r) Q E s:=by
 rcases g with ⟨kvs,k,e,n,l,m⟩ | ⟨kvs,k,b,e,n,x,l,m⟩
 .subst n m;obtain ⟨z,o,vs,d,j⟩:=dk_of I.hok e;have hz:vs.length<=sizeLine:=by rw [<- d.length];exact z
  have hl:(zr kvs k v).length<=sizeLine:=by have:=jr kvs k v;omega
  refine wpAny_setItem_pairs (hsz:=hz) (qdX D) j fun h' f p=>h _ ?_;have N:∃ q,h'.get? a=some q:=let ⟨q,_,_,i,_⟩:=f;⟨q,i⟩;exact qef I (by rw [e];exact YV) p N (dk_new hl o (d.put k C) f)
 .subst n m;cases (show u=Value.ref b from D);obtain ⟨z,o,xs,d,j⟩:=dt_of I.hok e;have hz:xs.length<=sizeLine:=by rw [<- Paired.length d];exact z
  have hl:(zr kvs k v).length<=sizeLine:=by have:=jr kvs k v;omega
  refine wpAny_setItem_heap (hsz:=hz) (xP O) (qbQ I.hok x) j fun h' f p=>h _ ?_;obtain ⟨q,G,ep,i,J,K,L,_,M⟩:=f;refine qef I (by rw [e];exact YV) p ⟨q,i⟩ ⟨hl,o,_,(d.put k x C).keeps fun c ys B=>?_,q,G,ep,i,J,K,L,M⟩;rw [qe (jO B e (fun z=>nomatch z))];exact B
end
section
variable {X:Cx} {pins:List (Addr×Obj)} {σ:St} {H:Hp} {s:Shared} {a:Addr} {kvs:List (Key×V)} {k:Key} {u:Value} {A:Around} {E:Value->Shared->Prop}
theorem d_len {Q:Value->Shared->Prop} (I:Inv X pins σ H s) (e:Rd H a (.dK kvs)) (h:∀ t c,Inv X pins σ H c->Q (.int kvs.length t) c):wpAny (model X.prog X.w) A (call (.builtin "len") [.ref a]) Q E s:=by
 obtain ⟨z,f,vs,b,d⟩:=qcC I.hok e;refine call_len_dict f d (by rw [<- b.length];rw [YB] at z;omega) ?_;rw [<- b.length];exact h _ _ (I.tok _)
end
theorem dict_typeIs (I:Inv X pins σ H s) (g:DGet H a y o):s.TypeIs (.ref a) "dict":=by
 rcases g with ⟨kvs,k,e,_,_⟩ | ⟨kvs,k,b,e,_,_,_⟩
 .obtain ⟨_,_,vs,_,c⟩:=qcC I.hok e;exact c.typeIs
 .obtain ⟨_,_,xs,_,c⟩:=qc3 I.hok e;exact c.typeIs
section
variable {X:Cx} {o i e value:Expr} {pos pos' tpos:Pos} {td ty tv:TE}
end
theorem dk_empty (h:Heap) (hb:sysModules<h.objs.size):ObjOk P w H (h.push { cls:=.type "dict",data:=.dict #[] }) h.objs.size (.dK []):=
 ⟨YH _,YC.mpr (Yh (yI hb)),[],.nil,Heap.DictOf.new h⟩
theorem dt_empty (h:Heap) (hb:sysModules<h.objs.size):ObjOk P w H (h.push { cls:=.type "dict",data:=.dict #[] }) h.objs.size (.dT []):=
 ⟨YH _,YC.mpr (Yh (yI hb)),[],.nil,_,#[],0,yW _ rfl,⟨rfl,rfl,rfl⟩,rfl,rfl,kY⟩
def tDNewK:TE:=fun _ H Q=>∀ p,H p=none->Q (.ref p) (upd H p (.dK []))
def tDNewT:TE:=fun _ H Q=>∀ p,H p=none->Q (.ref p) (upd H p (.dT []))
section
variable {X:Cx} {pos:Pos}
theorem j6:PE X (.Dict [] [] pos) tDNewK:=fun pins s σ H Q I h =>
 wpAny_Dict_empty ⟨.ref s.heap.objs.size,_,I.laid (a:=s.heap.objs.size) (o:=.dK []) (t':=s.toks) (fun _ _ q=>yv _ q) (yh _) (dk_empty s.heap I.big),rfl,h _ (I.hok.fresh (yh _))⟩
theorem pe_dnewT:PE X (.Dict [] [] pos) tDNewT:=fun pins s σ H Q I h =>
 wpAny_Dict_empty ⟨.ref s.heap.objs.size,_,I.laid (a:=s.heap.objs.size) (o:=.dT []) (t':=s.toks) (fun _ _ q=>yv _ q) (yh _) (dt_empty s.heap I.big),rfl,h _ (I.hok.fresh (yh _))⟩
end
noncomputable def mergeK (kvs more:List (Key×V)):List (Key×V):=more.foldl (fun acc a=>zr acc a.1 a.2) kvs
structure M1 (X:Cx) (o:Expr) (m:Str) (apos:Pos) (e:Expr) (cpos:Pos):Prop where
 base:attributeBase o m X.env (eval o X.env)=eval o X.env
 few:((backTo cpos (starEach [e] X.env)).all (fun x=>!x.1)&&(backToKw cpos (keywordEach [] X.env)).all (fun x=>x.1.isSome)
  && decide (([e]:List Expr).length+([]:List Keyword).length+(if ([]:List Keyword).isEmpty then 0 else 1)<30))=true
 line:(apos.endLine==cpos.line)=true
 trees:backTo cpos (starEach [e] X.env)=[(false,eval e X.env)]
structure M2 (X:Cx) (o:Expr) (m:Str) (apos:Pos) (e f:Expr) (cpos:Pos):Prop where
 base:attributeBase o m X.env (eval o X.env)=eval o X.env
 few:((backTo cpos (starEach [e,f] X.env)).all (fun x=>!x.1)&&(backToKw cpos (keywordEach [] X.env)).all (fun x=>x.1.isSome)
  && decide (([e,f]:List Expr).length+([]:List Keyword).length+(if ([]:List Keyword).isEmpty then 0 else 1)<30))=true
 line:(apos.endLine==cpos.line)=true
 trees:backTo cpos (starEach [e,f] X.env)=[(false,eval e X.env),(false,eval f X.env)]
def IsD (H:Hp) (a:Addr):Prop:=(∃ kvs,Rd H a (.dK kvs))\/∃ kvs,Rd H a (.dT kvs)
theorem isD_at (I:Inv X pins σ H s) (d:IsD H a) :
  s.TypeIs (.ref a) "dict"/\(∀ b,Value.ref a=.ref b->∃ c,s.heap.get? b=some c/\c.dict=none)/\(a==sysModules)=false:=by
 rcases d with ⟨kvs,e⟩ | ⟨kvs,e⟩
 .obtain ⟨_,h,vs,_,f⟩:=qcC I.hok e;refine ⟨f.typeIs,fun b q=>?_,h⟩;cases q;obtain ⟨c,_,_,h1,g,_⟩:=f;exact ⟨c,h1,g.2.1⟩
 .obtain ⟨_,h,xs,_,f⟩:=qc3 I.hok e;refine ⟨f.typeIs,fun b q=>?_,h⟩;cases q;obtain ⟨c,_,_,h1,g,_⟩:=f;exact ⟨c,h1,g.2.1⟩
section
variable {X:Cx} {pins:List (Addr×Obj)} {σ:St} {H:Hp} {s:Shared} {a:Addr} {y d:V} {u r:Value} {o:Option V} {A:Around} {E:Value->Shared->Prop}
theorem d_get1 {Q:Value->Shared->Prop} (q:A.units+1<cLine) (I:Inv X pins σ H s) (g:DGet H a y o) (j:RelV y u) (h:∀ n m,Inv X pins σ H m->RelV (o.getD .non) n->Q n m) :
  wpAny (model X.prog X.w) A (call (.builtin "dict.get") [.ref a,u]) Q E s:=by
 rcases g with ⟨kvs,k,e,f,l⟩ | ⟨kvs,k,b,e,f,p,l⟩
 .subst f;obtain ⟨z,i,vs,c,d⟩:=qcC I.hok e;refine call_meetsIn Xy d.typeIs PySem.F.entry_dict_get (PySem.F.args_dict_get_2 _ _) (meets_dict_get (jx X.prog X.w) a (qdX j) i) ⟨_,d.mapOf,h _ _ (I.tok _) ?_⟩;rw [l];exact (c.val k).getD rfl
 .subst f;cases (show u=Value.ref b from j);obtain ⟨z,i,xs,c,d⟩:=qc3 I.hok e;refine call_meetsIn Xy d.typeIs PySem.F.entry_dict_get (PySem.F.args_dict_get_2 _ _) (meetsH_dict_get (tupleKind (jx X.prog X.w)) a b i) ⟨xP q,k,xs,qbQ I.hok p,d,h _ _ (I.tok _) ?_⟩;rw [l];exact (c.val k).getD rfl
end
def qe8 (d ty:TE):TE:=fun σ H Q=>d σ H fun x b=>∃ a,x=.ref a/\IsD b a/\ty σ b fun y c=>∃ o,DGet c a y o/\Q (o.getD .non) c
def tDGet2 (e ty f:TE):TE:=fun σ H Q=>e σ H fun x b=>∃ a,x=.ref a/\IsD b a/\ty σ b fun y d=>f σ d fun z c=>∃ o,DGet c a y o/\Q (o.getD z) c
section
variable {X:Cx} {o e f:Expr} {apos cpos:Pos} {td ty tx:TE}
theorem qaM (q:X.A.units+1<cLine) (p:PE X o td) (n:PE X e ty) (m:M1 X o "get" apos e cpos):PE X (.Call (.Attribute o "get" apos) [e] [] cpos) (qe8 td ty):=by
 intro pins s σ H Q I h;refine wpAny_Call_method m.base m.few m.line PySem.F.plainAttrs_dict Xy PySem.F.type_dict_get (thn (p pins s σ H _ I h) fun u B ⟨x,f,c,w,a,ex,d,r⟩=>?_);subst ex;obtain rfl:u=Value.ref a:=w;obtain ⟨C,D,_⟩:=isD_at c d;refine ⟨C,D,?_⟩;rw [m.trees];refine Xs rfl (Calls.evalArgs_plain (X6 (thn (n pins B σ f _ c r) fun E J ⟨y,i,j,z,G,g,v⟩=>kg ?_)));exact d_get1 q j g z fun L K l b=>⟨_,i,l,b,v⟩
end
section
variable {X:Cx} {pins:List (Addr×Obj)} {σ:St} {H:Hp} {s:Shared} {a:Addr} {kvs:List (Key×V)} {A:Around} {E:Value->Shared->Prop}
end
section
variable {X:Cx} {pins:List (Addr×Obj)} {σ:St} {H:Hp} {s:Shared} {a:Addr} {y:V} {u:Value} {A:Around} {E:Value->Shared->Prop}
end
end L2
namespace Att
open PySem PySem.W PySem.Calls PyProof.Rows
variable {P:Params} {h:Heap} {l:OpenLaw} {n:Nat}
theorem ints_of_wellAll:∀ (ns:List Int) (vs:List Value),WellAll P h vs (ns.map WData.int)->IntsAre vs ns:=by
 intro ns
 induction ns with
 | nil =>
  intro vs w;rw [List.map_nil] at w;cases w;exact .nil
 | cons n ns ih =>
  intro vs w;rw [Yt] at w
  cases w with
  | cons a b =>
   cases a;exact .cons _ _ (ih _ b)
theorem script_of (p:l.most=some n) {args:List WData} {c:List Value}
  (b:l.row.toRowW.claim.pre args=true) (j:WellAll P h c args) :
  ∃ a vs ns,c=[Value.ref a]/\args=[WData.list (ns.map WData.int)]/\h.get? a=some { cls:=.type "list",data:=.seq vs.toArray }/\IntsAre vs ns/\ns.length<=n:=by
 have i:WShape.hasAll [] args [.list .int]=true:=(pre_splitW b).1;have hc:l.pre.holds [] { args:=args }=true:=(pre_splitW b).2;obtain ⟨d,r,rfl,h1,m⟩:=hasAllW_cons i;obtain rfl:=hasAllW_nil m;obtain ⟨xs,rfl,o⟩:=hasW_list h1;obtain ⟨ns,rfl⟩:=items_int o
 have e:ns.length<=n:=by
  unfold OpenLaw.pre at hc
  have f:(WTm.not (.lt (.lit (.int (n:Int))) (.len (.arg 0)))).holds [] { args:=[.list (ns.map .int)] }=true:=by
   have f:=(holds_andW hc).1;rw [p] at f;exact f
  have g:=condW_of f (w_not (w_lt w_lit (w_len_list (w_arg rfl))));rw [ya] at g;refine Nat.le_of_not_lt fun q=>?_;have s:(n:Int)<((ns.length:Nat):Int):=by omega
  first
   | (rw [yM s] at g;exact absurd g (by decide))
   | (simp at g;omega)
 cases j with
 | cons w1 w2 =>
  cases w2
  cases w1 with
  | list ho hall=>exact ⟨_,_,ns,rfl,rfl,ho,ints_of_wellAll ns _ hall,e⟩
theorem post_true (l:OpenLaw) (args:List WData):l.row.toRowW.claim.post args (.bool true) args=true:=
 postW_of (r:=l.row.toRowW) (X:=(true==true))
  (show WShape.has [] (.bool true) .bool=true by first | rfl | decide | simp [WShape.has,WShape.arms,WShape.armsAll])
  (show (WTm.eq .res (.lit (.bool true))).value [] { args:=args,res:=some (.bool true),after:=args }=some (.bool (true==true)) from w_eq_bool (w_res rfl) w_lit) rfl
theorem attach_call {q:Program} {loose:List Str} {XP:(Str->Option Value)->Heap->Prop} {YP:World->Heap->Prop} {d:DefRec}
  (O:l.most=some n) (x:d.params.defaults=[])
  (call:∀ (w:World) (c b:Shared) (s A:Str->Option Value) (h:Addr) (o:Obj) (B p e:Value) (a:Addr) (vs:List Value) (ns:List Int),
   Ground q loose [] XP w c s A b.heap->YP w b.heap ->
   b.heap.get? h=some o->o.data=.func (docDef d.name d.params d.body d.scope B p e)->b.heap.CodeRec p d.name->s d.name=some (.ref h) ->
   b.heap.get? a=some { cls:=.type "list",data:=.seq vs.toArray }->IntsAre vs ns->ns.length<=n->b.gens=#[] ->
   codeAny (model l.prog w) callerA (.call (.ref h) ⟨[.ref a],[]⟩) (fun r u=>r=.ok (.ret (.bool true))/\OldK b.heap u.heap/\u.os=b.os/\AllBare u.gens) b) :
  WalkO q loose XP YP l.row.toRowW d [] (fun f vs=>PySem.call f vs):=by
 intro w c b s A G Y h o B p e F kV P K v C y L args E as m D S z M;obtain rfl:F=.none:=Dflts.none C x;obtain rfl:kV=.none:=Dflts.noKw C;obtain ⟨a,vs,ns,rfl,rfl,j,g,i⟩:=script_of O m z;refine enter_call (kN (call w c b s A h o B p e a vs ns G Y P (fd_plain K) v y j g i L) fun r u R=>?_);obtain ⟨rfl,H,I,J⟩:=R;exact ⟨.inl ⟨.bool true,.bool true,[],rfl,fun _=>rfl,.bool true,post_true l _,fun _=>⟨List.Pairwise.nil,fun _ N=>(nomatch N)⟩⟩,H,I,J⟩
section
variable {prog:Program} {w:World} {A:Around} {E:Value->Shared->Prop} {s:Shared} {K:Frag}
noncomputable def ledger (h:Heap) (L d:Addr):List (Addr×Obj):=(List.range h.objs.size).filterMap fun a=>if a=L\/a=d then none else (h.get? a).map fun o=>(a,o)
end
end Att
namespace L2
open PySem PySem.Spec PyProof.Rows
variable {A B:Prop} {H H':Hp} {a f:Addr} {fd:FuncData} {n:Nat} {ps:List Str} {qual x:Str} {sp:Sp} {st:Stmt}
theorem qcD:∀ {vs:List Value} {ns:List Int},IntsAre vs ns->Vals (ns.map V.int) vs
 | _,_,.nil=>.nil
 | _,_,.cons n t h=>.cons ⟨t,rfl⟩ (qcD h)
def qgr (H:Hp):Prop:=∀ b,H b=none\/∃ o xs,H b=some (.frz o (.lst xs))
theorem law_call {P:Program} {w:World} {K:yg} {G T:Str->Option Value} {CX:CXT} {k:Nat} {M:Addr} {c:Shared} {vs:List Value} {ns:List Int}
  (W:K.In c.heap) (C:c.heap.Ns mainGlobals G) (hb:c.heap.Ns builtinsNs T) (O:∀ x:Str,x≠"__name__"->T x=bootBuiltins x) (B:c.heap.NoLimit) (hg:c.gens=#[])
  (J:c.heap.get? a=some { cls:=.type "list",data:=.seq vs.toArray }) (hi:IntsAre vs ns) (hl:ns.length<=sizeLine) (hr:Room k callerA)
  (F:∀ f:Heap,K.In f->f.Ns mainGlobals G->FnOk P w K G f CX k M fd [x] sp) (l:∀ (s:Shared) (u:Value),BindsTo s fd ⟨[u],[]⟩ [(x,u)])
  (S:∀ H:Hp,qgr H->SqL K H a (ns.map V.int)->sp [.ref a] H (fun v _=>v=.bl true) fun _ _ _=>False)
  (N:∀ H e g,CX [] H c (fun _ _ _=>False) e g->False) :
  codeAny (model P w) callerA (.call (.ref M) ⟨[.ref a],[]⟩) (fun r g=>r=.ok (.ret (.bool true))/\OldK c.heap g.heap/\g.os=c.os/\AllBare g.gens) c:=by
 have rv:=qcD hi;have lenV:=hi.length;have j:∀ H:Hp,qgr H->SqL K H a (ns.map V.int)->HOk P w H c.heap->(∀ b,H b≠none->b=a)->(H a≠none->K.lookup a=none) ->
   codeAny (model P w) callerA (.call (.ref M) ⟨[.ref a],[]⟩) (fun r g=>r=.ok (.ret (.bool true))/\OldK c.heap g.heap/\g.os=c.os/\AllBare g.gens) c:=by
  intro H Z hS D Y hK;have base_of:∀ {b:Addr} {o:Obj},c.heap.get? b=some o->H b=none->(qeU c.heap H).get? b=some o:=fun e n=>hidT_get e n
  have U:∀ {b:Addr} {o:Obj} {y:Array DictEntry} {ep:Nat},c.heap.get? b=some o->o.data=.dict y ep->H b=none:=fun {b o y ep} e d=>by
   cases q:H b with
   | none=>rfl
   | some u =>
    have L:b=a:=Y b (by rw [q];simp);subst L;rw [J] at e;cases e;have d':Data.seq vs.toArray _=Data.dict y ep:=d;cases d'
  have i:∀ {b:Addr} {m:Str->Option Value},c.heap.Ns b m->(qeU c.heap H).Ns b m:=fun {b m} ⟨o,y,ep,e,d,r⟩=>⟨o,y,ep,base_of e (U e d),d,r⟩
  have A:K.In (qeU c.heap H):=fun b o e=>base_of (W b o e) (by
   cases q:H b with
   | none=>rfl
   | some u =>
    have L:b=a:=Y b (by rw [q];simp);subst L;rw [hK (by rw [q];simp)] at e;cases e)
  have hM:Mod K G (qeU c.heap H):=⟨A,i C,⟨T,i hb,O⟩,let ⟨mc,h1,h2⟩:=B;⟨mc,i h1,h2⟩⟩;have e0:Env0 P w K G (qeU c.heap H) callerA [] c H:=⟨rfl,hM,fun b o e=>of_hidT e,Nat.le_of_eq (hidT_size _ _),trivial,fun b hb=>absurd (show b∈([]:List Addr) from hb) (by simp),D,.of_eq hg⟩;refine kN ((F _ A (i C)).run callerA [] c H ⟨[.ref a],[]⟩ [.ref a] [.ref a] _ _ hr e0 (l c (.ref a)) (.cons rfl .nil) (S H Z hS)) fun r g h=>?_
  cases r with
  | error e=>exact (N H e g h).elim
  | ok fl =>
   cases fl with
   | next=>exact False.elim h
   | brk=>exact False.elim h
   | cont=>exact False.elim h
   | ret u =>
    obtain ⟨v,H',os,p,un,E,r',q⟩:=h;have q':v=.bl true:=q;subst q';obtain rfl:u=Value.bool true:=r';refine ⟨rfl,OldK.of_keep fun b o e=>?_,os,p⟩
    cases q:H b with
    | none=>exact un.keep b o e q (by intro z;exact absurd (show b∈([]:List Addr) from z) (by simp)) (by simp)
    | some u =>
     rcases Z b with z | ⟨ob,xs,z⟩
     .rw [q] at z;cases z
     .have z2:=un.frzs b ob _ z;obtain ⟨X,_⟩:=D b _ z;obtain ⟨e2,_⟩:=E b _ z2;rw [e] at X;cases X;exact e2
 cases R:K.lookup a with
 | some o =>
  have e:=W a o R;rw [J] at e;cases e;refine j (fun _=>none) (fun _=>.inl rfl) (.inr ⟨_,vs.toArray,_,R,rfl,rfl,rfl,by rw [yw,lenV];exact hl,by simpa using rv⟩) (fun b u z=>by have I:(none:Option HO)=some u:=z;cases I) (fun b z=>absurd rfl z) fun z=>absurd rfl z
 | none =>
  refine j (fun b=>if b=a then some (.frz { cls:=.type "list",data:=.seq vs.toArray } (.lst (ns.map V.int))) else none) (fun b=>?_) (.inl (.inr ⟨{ cls:=.type "list",data:=.seq vs.toArray },yD rfl⟩)) (fun b u z=>?_) (fun b z=>?_) fun _=>R
  .by_cases hb:b=a
   .exact .inr ⟨_,_,yD hb⟩
   .exact .inl (yy hb)
  .by_cases hb:b=a
   .have I:=(yD hb).symm.trans z;cases I;subst hb;exact ⟨J,by rw [ya];exact hl,vs,_,rv,J⟩
   .have I:=(yy hb).symm.trans z;cases I
  .by_cases hb:b=a
   .exact hb
   .exact absurd (yy hb) z
noncomputable abbrev KOf {K:yg} {h:Heap} (_:K.In h):yg:=K
theorem walk_of {l:PySem.W.OpenLaw} {k:Nat} {q:Program} {loose:List Str} {XP:(Str->Option Value)->Heap->Prop} {YP:World->Heap->Prop} {d:DefRec} {K:Params->yg} {CX:World->CXT} {sp:World->Sp}
  (U:l.most=some n) (C:n<=sizeLine) (A:d.params.defaults=[]) (X:Room k callerA)
  (P:∀ (w:World) (h:Heap),YP w h->(K w.params).In h)
  (F:∀ (w:World) (m:Str->Option Value) (y:Addr) (h:Heap),(K w.params).In h->h.Ns mainGlobals m->m d.name=some (.ref y) ->
   ∃ fd:FuncData,(∀ (s:Shared) (u:Value),BindsTo s fd ⟨[u],[]⟩ [(x,u)]) /\
    ∀ c:Heap,(K w.params).In c->c.Ns mainGlobals m->FnOk l.prog w (K w.params) m c (CX w) k y fd [x] (sp w))
  (D:∀ (w:World) (H:Hp) (a:Addr) (ns:List Int),ns.length<=n->qgr H->SqL (K w.params) H a (ns.map V.int)->sp w [.ref a] H (fun v _=>v=.bl true) fun _ _ _=>False)
  (z:∀ (w:World) (H:Hp) (s:Shared) (e:Value) (E:Shared),CX w [] H s (fun _ _ _=>False) e E->False) :
  PySem.W.WalkO q loose XP YP l.row.toRowW d [] (fun f vs=>PySem.call f vs):=by
 refine Att.attach_call U A fun w J r m mb y o pm Z L a vs ns G Y ho hd R B p j i S=>?_;have I:=P w _ Y;obtain ⟨fd,hb,M⟩:=F w m y _ I G.T.g B;exact law_call I G.T.g G.T.b G.T.builtins G.T.nolimit S p j (yi i C) X M hb (fun H N O=>D w H a ns i N O) fun H e E=>z w H r e E
abbrev CX0:CXT:=fun _ _ _ _ _ _=>False
abbrev E0:XK:=fun _ _ _=>False
theorem qH {X:Cx}:qba CX0 X E0:=fun _ _ _ _ _ _ _ h=>h.elim
structure Fun (K:yg) (x qual:Str) (st:Stmt) (f:Addr) (fd:FuncData):Prop where
 ex:∃ (oc:Value) (od:Option Addr) (kV doc pm:Value) (an:Option Addr) (cdv ct:Value) (osl:Array (Option Value)),
  fd=PySem.W.fnOf x qual (qaB st) (zW st) (qh st) .none kV doc pm an cdv ct/\K.lookup f=some ⟨oc,od,.func fd,osl⟩/\PySem.W.codeIn K cdv qual=true
 kp:PySem.W.keepIn K (.ref f)=true
section
variable {P:Program} {w:World} {K:yg} {mg:Str->Option Value} {base:Heap}
theorem Fun.ok {N:List Str} {k:Nat} (F:Fun K x qual st f fd) (S:FnScope N ps (qh st)) (c:∀ (b:Value) (A:Around) (a:List Env) (s:Shared) (H:Hp) (vs:List V) (Q:VK) (E:XK),Room k (A.deeper (envOfC qual (qh st) s.heap.objs.size f b))->sp vs H Q E ->
   ∃ t,PSs (qfM CX0 P w K mg base N qual (qh st) f b A a s H E).nox (zW st) t/\t { nx:=fun _ H'=>Q .non H',rt:=Q } (start N vs) H) (len:∀ vs H Q E,sp vs H Q E->vs.length=ps.length:=by intro _ _ _ _ h;cases h;subst_vars;rfl):FnOk P w K mg base CX0 (k+1) f fd ps sp:=by
 obtain ⟨n,od,kV,g,o,m,b,ct,l,rfl,j,d⟩:=F.ex;refine fn_of j d S len fun A a s H vs Q E i e=>?_;obtain ⟨t,h,q⟩:=c b A a s H vs Q E i e;exact ⟨t,h.nox,q⟩
theorem Fun.binds (F:Fun K x qual st f fd)
  (h:∀ (kV b d:Value) (c:Option Addr) (a ct:Value) (us:List Value),us.length=ps.length->bindArgs (PySem.W.fnOf x qual (qaB st) (zW st) (qh st) .none kV b d c a ct) ⟨us,[]⟩=pure (ps.zip us)):Binds K fd ps []:=by
 obtain ⟨j,od,kV,b,d,c,a,ct,g,rfl,i,e⟩:=F.ex;exact .all (h kV b d c a ct)
theorem fun_mk {h:Value} {od e:Option Addr} {d:Array (Option Value)} {kV b g a ct:Value} (l:K.lookup f=some ⟨h,od,.func (PySem.W.fnOf x qual (qaB st) (zW st) (qh st) .none kV b g e a ct),d⟩)
  (c:PySem.W.codeIn K a qual=true) (k:PySem.W.keepIn K (.ref f)=true):Fun K x qual st f (PySem.W.fnOf x qual (qaB st) (zW st) (qh st) .none kV b g e a ct):=⟨⟨h,od,kV,b,g,e,a,ct,d,rfl,l,c⟩,k⟩
end
theorem qi (h:n<=1000):n<sizeLine:=Yu h (by decide)
section
variable {X:Cx}
theorem pv (i:Nat) {b:Pos} (c:X.N[i]?=some x:=by rfl) (hv:Vis X.env.scope x:=by first | exact yO rfl | exact Xi (yO rfl) | exact Xi (Xi rfl)) (d:(x==("__debug__":Str))=false:=by decide)
  (a:(x==("__classdict__":Str))=false:=by decide):PE X (.Name x b) (qgl i):=pe_var c hv d a
theorem call_lenD:zv X (.builtin "len") (fun xs H Q=>∃ a kvs,xs=[V.ref a]/\H a=some (.dK kvs)/\Q (.int kvs.length) H):=by
 intro b s g H xs us Q I r h;obtain ⟨a,kvs,rfl,d,q⟩:=h;obtain ⟨u,rfl,e⟩:=qbd r;cases e;exact d_len I (.inl d) fun t f c=>⟨.int kvs.length,H,c,⟨t,rfl⟩,q⟩
end
theorem qal (h:A):if true=true then A else B:=by
 rw [yD rfl];exact h
theorem qW {c:Prop} [Decidable c] (h1:c->A) (a:¬ c->B):if c then A else B:=by
 by_cases h:c
 .rw [yD h];exact h1 h
 .rw [yy h];exact a h
def Same (H H':Hp):Prop:=∀ b o,H b=some o->H' b=some o
theorem Same.refl (H:Hp):Same H H:=fun _ _ h=>h
theorem Same.trans {d e:Hp} (a:Same H d) (b:Same d e):Same H e:=fun c o h=>b c o (a c o h)
theorem Same.free (e:Same H H') {l:Addr} (h:H' l=Option.none):H l=Option.none:=by
 cases q:H l with
 | none=>rfl
 | some o =>
  rw [e l o q] at h;cases h
theorem Same.seq {K:yg} {xs:List V} (e:Same H H') (h:SqL K H a xs):SqL K H' a xs:=by
 rcases h with (h | ⟨o,h⟩) | h
 .exact .inl (.inl (e _ _ h))
 .exact .inl (.inr ⟨o,e _ _ h⟩)
 .exact .inr h
section
variable {κ:Type} [DecidableEq κ]
end
end L2
set_option maxHeartbeats 4000000
namespace L2
open PySem PySem.Spec PyProof.Rows
variable {C D c e it p:Addr} {E:Value->Shared->Prop} {H:Hp} {N:List Str} {P:Program} {QO:Option Int->Hp->Prop} {R:It->Hp->Prop} {T:String} {X:Cx} {acc:List (Str×Addr)} {dx:Option Addr} {elt iter tg:Expr} {env:Env} {expr:Bool} {f:V->List V->Hp->VK->Prop} {fp:List Addr} {g:TG} {h:Heap} {i j:Int} {ifs:List Expr} {its:List Value} {ixs:List Nat} {n nl:Nat} {names:List (Str×NameKind)} {od:Option Obj} {ox:Obj} {pins:List (Addr×Obj)} {pl:Sem Bool} {pos:Pos} {s:Shared} {sc scope:Scope} {tc:TT} {te:TE} {tk:Tok} {u:Value} {v y:V} {w:World} {wi:TI} {x z:Str} {xs ys:List V} {α:Type} {σ:St}
section
variable {prog:Program} {w:World} {A:Around} {R:Result->Shared->Prop} {s:Shared}
theorem compLoop_own {a:Expr} {it acc:Value} (I:Nat->Shared->Prop)
  (turn:∀ n s,I n s->wpAny (model prog w) A (pyNext it) (fun r e=>match r with
   | none=>R (.ok .next) e
   | some v=>wpAny (model prog w) A (letOwnedTupleGo a it v) (fun _ b=>wpAny (model prog w) A (assign a env v) (fun _ i =>
     wpAny (model prog w) A (forIn ifs true fun c r=>if r=true then do let ok <- isTrue c env (eval c env);pure (ForInStep.yield ok) else pure (ForInStep.yield r)) (fun ok f =>
      if ok=true then wpAny (model prog w) A (eval elt env) (fun x j =>
       wpAny (model prog w) A (call (.builtin "list.append") [acc,x]) (fun _ l=>∃ m,m<n/\I m l) (fun _ _=>False) j) (fun _ _=>False) f
      else ∃ m,m<n/\I m f) (fun _ _=>False) i) (fun _ _=>False) b) (fun _ _=>False) e) (fun _ _=>False) s)
  (n:Nat) (h:I n s) :
  codeAny (model prog w) A (.compLoop (.ListComp elt [⟨a,iter,ifs,0⟩] scope pos) 0 it acc env) R s:=by
 refine codeAny_loop rfl I (fun n s u=>?_) n h;show wpAny _ A ((compTurn (.ListComp elt [⟨a,iter,ifs,0⟩] scope pos) 0 it acc env).onRaise (fun x=>do noteFrame x env;theTreesLotGoes x)) _ _ s;refine wpAny_noted ?_;rw [compTurn_list];refine yr (kx (yr (YU (turn n s u) (fun r e h1=>?_) fun _ _ h'=>h'.elim)))
 cases r with
 | none=>exact yu h1
 | some v =>
  refine yr (YU h1 (fun _ b d=>?_) fun _ _ h'=>h'.elim);refine yr (YU d (fun _ i o=>yr (YU o (fun ok f g=>?_) fun _ _ h'=>h'.elim)) fun _ _ h'=>h'.elim)
  cases ok with
  | false=>exact yu ⟨rfl,g⟩
  | true =>
   exact yr (yr (YU g (fun x j p=>yr (YU p (fun _ l q=>yu (yu ⟨rfl,q⟩)) fun _ _ h'=>h'.elim)) fun _ _ h'=>h'.elim))
end
noncomputable def qQ (env:Env):List (Str×NameKind)->List (Str×Addr)->List (Str×Addr)
 | [],acc=>acc
 | (n,k)::r,acc=>qQ env r (if (k==.free)=true then (n,(env.cells.lookup n).getD 0)::acc else acc)
theorem zE:∀ {names:List (Str×NameKind)} {acc:List (Str×Addr)} {x:Str} {c:Addr},(qQ env names acc).lookup x=some c ->
  ((x,NameKind.free)∈names/\c=(env.cells.lookup x).getD 0)\/acc.lookup x=some c
 | [],_,_,_,h=>.inr h
 | (n,k)::r,acc,x,c,h=>by
  unfold qQ at h;rcases zE h with ⟨h1,f⟩ | h1
  .exact .inl ⟨yz _ h1,f⟩
  .by_cases a:(k==NameKind.free)=true
   .rw [yD a,xI] at h1
    cases b:x==n with
    | true =>
     rw [b] at h1;have e:x=n:=Ys.mp b;have d:k=.free:=Ys.mp a;subst e d;exact .inl ⟨yN,(ym h1).symm⟩
    | false =>
     rw [b] at h1;exact .inr h1
   .rw [yy a] at h1;exact .inr h1
theorem qaN:∀ {names:List (Str×NameKind)} {acc:List (Str×Addr)} {x:Str},(∃ c,acc.lookup x=some c)->∃ c,(qQ env names acc).lookup x=some c
 | [],_,_,h=>h
 | (n,k)::r,acc,x,h=>by
  unfold qQ;apply qaN;by_cases a:(k==NameKind.free)=true
  .rw [yD a,xI]
   cases b:x==n with
   | true=>exact ⟨_,rfl⟩
   | false=>exact h
  .rw [yy a];exact h
theorem zF:∀ {names:List (Str×NameKind)} {acc:List (Str×Addr)} {x:Str},(x,NameKind.free)∈names->∃ c,(qQ env names acc).lookup x=some c
 | [],_,_,h=>by cases h
 | (n,k)::r,acc,x,h=>by
  unfold qQ;rcases yB.mp h with e | e
  .cases e;apply qaN;rw [show (NameKind.free==NameKind.free)=true from rfl,yD rfl,xI,xi];exact ⟨_,rfl⟩
  .exact zF e
theorem qaO (h:∀ n,(n,NameKind.free)∈scope.names->∃ c,env.cells.lookup n=some c):closureFor scope env=pure (qQ env scope.names []):=by
 have key:∀ (names:List (Str×NameKind)) (acc:List (Str×Addr)),(∀ n,(n,NameKind.free)∈names->∃ c,env.cells.lookup n=some c) ->
   (forIn names acc (fun (x:Str×NameKind) (r:List (Str×Addr))=>(if (x.2==NameKind.free)=true then (cellOf env x.1>>=fun c=>pure (ForInStep.yield ((x.1,c)::r))) else pure (ForInStep.yield r):Sem (ForInStep (List (Str×Addr))))))=(pure (qQ env names acc):Sem (List (Str×Addr))):=by
  intro names
  induction names with
  | nil=>intro acc _;rfl
  | cons x r ih =>
   intro acc d;obtain ⟨n,k⟩:=x;rw [kU];unfold qQ;by_cases a:(k==NameKind.free)=true
   .have f:k=.free:=Ys.mp a;subst f;obtain ⟨c,hc⟩:=d n yN;have g:cellOf env n=pure c:=by unfold cellOf;rw [hc]
    simp only [a,Xl,g,hc,Option.getD_some];exact ih _ fun m b=>d m (yz _ b)
   .simp only [a,xu];exact ih _ fun m b=>d m (yz _ b)
 have e:=key scope.names [] h;unfold closureFor;exact Eq.trans (congrArg (fun m=>m>>=pure) e) rfl
@[reducible] noncomputable def Cx.comp (X:Cx) (N:List Str) (scope:Scope) (C:Addr) (s0:Shared) (H0:Hp) (ex:List Addr):Cx where
 prog:=X.prog
 w:=X.w
 K:=X.K
 mg:=X.mg
 base:=X.base
 A:=X.A
 N:=N
 s₀:=s0
 H₀:=H0
 env:=compEnvC scope (cellsFrom (C+1) scope.names (qQ X.env scope.names [])) C X.env
 outer:=X.stack
 stack:=X.stack
 ex:=ex
 fn:=fun x=>scope.names.lookup x==some NameKind.cell
 calm:=X.calm
 pn:=[]
 xe:=fun _ _=>False
theorem jy:∀ (names:List (Str×NameKind)) (n:Nat) (acc:List (Str×Addr)),cellsFrom n names acc=cellsFrom n names []++acc
 | [],_,_=>rfl
 | (m,k)::r,n,acc=>by
  unfold cellsFrom;split
  .rw [jy r (n+1) ((m,n)::acc),jy r (n+1) [(m,n)],Yi];rfl
  .exact jy r n acc
theorem qaP:∀ {names:List (Str×NameKind)} {n:Nat} {x:Str},(x,NameKind.cell)∈names->∃ c,(cellsFrom n names []).lookup x=some c
 | (m,k)::r,n,x,h=>by
  unfold cellsFrom;rcases yB.mp h with e | e
  .cases e;rw [yD (show (NameKind.cell==NameKind.cell)=true from rfl),jy,xk]
   cases q:(cellsFrom (n+1) r []).lookup m with
   | some c=>exact ⟨c,rfl⟩
   | none=>exact ⟨n,by show List.lookup m [(m,n)]=some n;rw [xI,xi]⟩
  .split
   .rw [jy,xk];obtain ⟨c,hc⟩:=qaP (n:=n+1) e;exact ⟨c,by rw [hc];rfl⟩
   .exact qaP e
theorem qbw:∀ {names:List (Str×NameKind)} {n:Nat} {x:Str} {c:Addr},(x,c)∈cellsFrom n names []->(x,NameKind.cell)∈names
 | (m,k)::r,n,x,c,h=>by
  unfold cellsFrom at h;split at h
  .rename_i hk
   rw [jy] at h;rcases yE.mp h with z | z
   .exact yz _ (qbw z)
   .have e:(x,c)=(m,n):=yx.mp z;cases e;rw [Ys.mp hk];exact yN
  .exact yz _ (qbw h)
theorem qbx (h:(cellsFrom n names acc).lookup x=some c):(x,c)∈cellsFrom n names []\/acc.lookup x=some c:=by
 rw [jy,xk] at h
 cases e:(cellsFrom n names []).lookup x with
 | some d=>rw [e] at h;cases h;exact .inl (mem_of_lookup e)
 | none=>rw [e] at h;exact .inr h
theorem cells_some (h:(x,NameKind.cell)∈names\/∃ c,acc.lookup x=some c):∃ c,(cellsFrom n names acc).lookup x=some c:=by
 rw [jy,xk]
 cases e:(cellsFrom n names []).lookup x with
 | some d=>exact ⟨d,rfl⟩
 | none =>
  rcases h with z | ⟨c,hc⟩
  .obtain ⟨d,a⟩:=qaP (n:=n) z;rw [e] at a;cases a
  .exact ⟨c,hc⟩
section
variable {M:Model} {A:Around} {E:Value->Shared->Prop} {s:Shared}
theorem newEnvK {c:Addr} {b:List (Str×Addr)} {g:Str} {f:Option Addr} {e:Value} {d:Env} {a:Addr} {Q:Env->Shared->Prop}
  (j:Q (newEnv scope s.heap.objs.size c (cellsFrom (s.heap.objs.size+1) scope.names b) g f e (some d) a) { s with heap:=pushCells (s.heap.push { cls:=.type "dict",data:=.dict #[] }) scope.names }) :
  wpAny M A (newFunctionEnv scope c b [] g f e (some d) a) Q E s:=by
 simp only [newFunctionEnv,Xp,Xl];refine yr (wpAny_alloc ?_);refine yr (wpAny_layCells _ (fun name kind h=>by cases i:kind==NameKind.cell<;>simp [i]) _ _ _ _ ?_);rw [show ({ s with heap:=s.heap.push { cls:=.type "dict",data:=.dict #[] } }:Shared).heap.objs.size=s.heap.objs.size+1 from xj ..];rw [kZ];exact yr (yu (yu j))
end
structure CompOk (sc scope:Scope):Prop where
 kind:scope.kind=.function
 cel:∀ y∈scope.names,y.2=.cell->scope.names.lookup y.1=some .cell
 loc:∀ y∈scope.names,y.2=.local->scope.names.lookup y.1=some .local
 free:∀ y∈scope.names,y.2=.free->sc.names.lookup y.1=some .cell\/sc.names.lookup y.1=some .free
 once:∀ y∈scope.names,y.2=.free->scope.names.lookup y.1=some .free
noncomputable def qeX (sc scope:Scope):Bool:=decide (scope.kind=.function)&&scope.names.all fun y=>match y.2 with
 | .local=>scope.names.lookup y.1==some .local
 | .free=>(sc.names.lookup y.1==some .cell||sc.names.lookup y.1==some .free)&&scope.names.lookup y.1==some .free
 | .cell=>scope.names.lookup y.1==some .cell
 | _=>true
theorem qdw (h:qeX sc scope=true):CompOk sc scope:=by
 unfold qeX at h;rw [yU] at h;have b:=YS.mp h.2;refine ⟨yk h.1,fun y a e=>?_,fun y a e=>?_,fun y a e=>?_,fun y a e=>?_⟩
 .have:=b y a;rw [e] at this;exact Ys.mp this
 .have:=b y a;rw [e] at this;exact Ys.mp this
 .have:=b y a;rw [e,yU,XU] at this;exact this.1.imp Ys.mp Ys.mp
 .have:=b y a;rw [e,yU] at this;exact Ys.mp this.2
noncomputable def qgs (nl:Nat) (ixs:List Nat) (N XN:List Str) (names:List (Str×NameKind)):Bool:=(List.range ixs.length).all fun k=>match ixs[k]?,N[nl+k]? with
 | some j,some x=>XN[j]?==some x&&names.any fun y=>y.1==x&&y.2==.free
 | _,_=>true
theorem qeg {XN:List Str} (h:qgs nl ixs N XN names=true) (k j:Nat) (x:Str) (h1:ixs[k]?=some j) (c:N[nl+k]?=some x):XN[j]?=some x/\(x,NameKind.free)∈names:=by
 have d:k<ixs.length:=(yc.mp h1).1;have:=YS.mp h k (YJ.mpr d);rw [h1,c] at this;simp only [yU] at this;refine ⟨Ys.mp this.1,?_⟩;obtain ⟨⟨n,g⟩,f,e⟩:=Yo.mp this.2;rw [yU] at e;have a:n=x:=Ys.mp e.1;have b:g=.free:=Ys.mp e.2;subst a b;exact f
noncomputable def qd0 (nl:Nat) (ixs:List Nat) (σ:St):St:=List.replicate nl none++ixs.map fun j=>(σ[j]?).getD none
theorem capS_len (nl:Nat) (ixs:List Nat) (σ:St):(qd0 nl ixs σ).length=nl+ixs.length:=by
 unfold qd0;rw [yt,YM,ya]
theorem qdx {i:Nat} (h:(qd0 nl ixs σ)[i]?=some (some v)):nl<=i/\∃ j,ixs[i-nl]?=some j/\σ[j]?=some (some v):=by
 unfold qd0 at h;by_cases a:i<nl
 .rw [y8 (by rw [YM];exact a),Xq] at h;split at h<;>cases h
 .rw [yG (by rw [YM];omega),YM,yd] at h;refine ⟨by omega,?_⟩
  cases e:ixs[i-nl]? with
  | none=>rw [e] at h;cases h
  | some j =>
   rw [e] at h;have h':(σ[j]?).getD none=some v:=ym h
   cases q:σ[j]? with
   | none=>rw [q] at h';cases h'
   | some u =>
    rw [q] at h';exact ⟨j,rfl,by rw [q];exact congrArg some h'⟩
noncomputable def qeY (env:Env) (y:Str×NameKind):Str×NameKind:=if (y.2==NameKind.free&&env.scope.kind==.function&&env.kindOf y.1==some .cell)=true then (y.1,NameKind.cell) else (y.1,y.2)
theorem relF_fst (env:Env) (y:Str×NameKind):(qeY env y).1=y.1:=by unfold qeY;split<;>rfl
theorem relF_snd (env:Env) (y:Str×NameKind):(qeY env y).2=y.2\/((qeY env y).2=.cell/\y.2=.free):=by
 unfold qeY;split
 .rename_i h
  rw [yU,yU] at h;exact .inr ⟨rfl,Ys.mp h.1.1⟩
 .exact .inl rfl
theorem zk:∀ {names:List (Str×NameKind)} {x:Str} {k:NameKind},(names.map (qeY env)).lookup x=some k->∃ b,names.lookup x=some b/\(x,b)∈names/\(k=b\/(k=.cell/\b=.free))
 | [],_,_,h=>by cases h
 | (n,k1)::r,x,k,h=>by
  rw [Yt,show qeY env (n,k1)=((qeY env (n,k1)).1,(qeY env (n,k1)).2) from rfl,xI,relF_fst] at h;rw [xI]
  cases c:x==n with
  | true =>
   have e:x=n:=Ys.mp c;subst e;have a:(x==(x,k1).1)=true:=c;rw [a] at h;have h':=ym h;refine ⟨k1,rfl,yN,?_⟩;rcases relF_snd env (x,k1) with z | ⟨z1,z2⟩
   .exact .inl (h'.symm.trans z)
   .exact .inr ⟨h'.symm.trans z1,z2⟩
  | false =>
   have a:(x==(n,k1).1)=false:=c;rw [a] at h;obtain ⟨b,d,f,g⟩:=zk h;exact ⟨b,d,yz _ f,g⟩
section
variable {X:Cx} {pins:List (Addr×Obj)} {σ:St} {H:Hp} {s:Shared}
theorem comp_free_of {b:List (Str×Addr)} (h:(compEnvC scope b C X.env).kindOf x=some .cell\/(compEnvC scope b C X.env).kindOf x=some .free):(x,NameKind.cell)∈scope.names\/(x,NameKind.free)∈scope.names:=by
 rcases h with h | h
 .obtain ⟨c,_,a,e | ⟨_,e⟩⟩:=zk (env:=X.env) (names:=scope.names) h
  .rw [<- e] at a;exact .inl a
  .rw [e] at a;exact .inr a
 .obtain ⟨c,_,a,e | ⟨e,_⟩⟩:=zk (env:=X.env) (names:=scope.names) h
  .rw [<- e] at a;exact .inr a
  .cases e
theorem Inv.comp {T:Obj} {h1:Heap} {tk:Nat} (I:Inv X pins σ H s) (O:CompOk X.env.scope scope)
  (hN:N.length=nl+ixs.length) (J:∀ (k j:Nat) (x:Str),ixs[k]?=some j->N[nl+k]?=some x->X.N[j]?=some x/\(x,NameKind.free)∈scope.names)
  (R:∀ b∈fp,qcY X pins H b) (K:∀ b∈fp,b<s.heap.objs.size) (M:s.heap.objs.size<=C) (Y:s.heap.objs.size<=D) (Z:D≠C) (ad:h1.Ns C fun _=>none) (k:∀ b o,s.heap.get? b=some o->h1.get? b=some o)
  (ae:h1.get? D=some T) (ab:∀ v,T.data≠.cell v) (E:CellsOk h1 (C+1) (cellsFrom (C+1) scope.names [])):Inv (X.comp N scope C s H fp) [(D,T)] (qd0 nl ixs σ) H { s with heap:=h1,toks:=tk }:=by
 have a:∀ x c,(qQ X.env scope.names []).lookup x=some c->X.env.cells.lookup x=some c/\(x,NameKind.free)∈scope.names:=fun x c h=>by
  rcases zE h with ⟨h1,L⟩ | h1
  .obtain ⟨G,l⟩:=I.ok.has x (by
    rcases O.free _ h1 rfl with z | z
    .exact .inl z
    .exact .inr z)
   rw [l] at L;exact ⟨by rw [l,L];rfl,h1⟩
  .cases h1
 have big:∀ c:Addr,C+1<=c->s.heap.objs.size<=c:=fun c h=>yi M (Nat.le_of_succ_le h);have S:∀ {P:Prop} {c:Addr},C+1<=c->c<s.heap.objs.size->P:=fun h g=>absurd (yj g (big _ h)) (Yw _)
 have all:∀ x c,(cellsFrom (C+1) scope.names (qQ X.env scope.names [])).lookup x=some c->((x,c)∈cellsFrom (C+1) scope.names []/\C+1<=c/\h1.IsCell c none)\/(X.env.cells.lookup x=some c/\c<s.heap.objs.size):=fun x c h=>by
  rcases qbx h with z | z
  .exact .inl ⟨z,(E.empty _ _ z).2,(E.empty _ _ z).1⟩
  .obtain ⟨_,q⟩:=I.cell x c (a x c z).1;exact .inr ⟨(a x c z).1,q.lt⟩
 refine ⟨⟨I.ok.mod,O.kind,I.ok.glob,I.ok.blt,M,fun x y c h1 L=>?inj,fun x hx=>cells_some ((comp_free_of hx).imp id zF),fun x c z h=>?cab,I.ok.hd,I.ok.frames,.inl rfl,
   fun b hb=>⟨yI (yj (K b hb) M),fun x c e=>?exf⟩,I.bs,yi I.ok.bsz I.sz,fun b o e hb=>?_,fun b hb z=>?_,I.stack,I.stkFree⟩,
  rfl,I.bare,Un.kept k,⟨_,ad,fun i x v e1 e2 e3=>?_⟩,fun x c e=>?_,I.hok.fresh M,fun x c e=>?fre,fun p hp=>?_,I.hok.kept k,?_⟩
 case inj =>
  rcases all x c h1 with ⟨r,f,_⟩ | ⟨r,f⟩<;>rcases all y c L with ⟨U,W,_⟩ | ⟨U,W⟩
  .exact name_of_addr E.apart r U
  .exact S f W
  .exact S W f
  .exact I.ok.inj x y c r U
 case cab =>
  rcases all x c h with ⟨_,f,_⟩ | ⟨r,f⟩
  .exact big _ f
  .exfalso;obtain ⟨d,F⟩:=qaP (n:=C+1) (mem_of_lookup (Ys.mp z));have h:(cellsFrom (C+1) scope.names (qQ X.env scope.names [])).lookup x=some c:=h;rw [jy,xk,F] at h;cases h;exact S (E.empty _ _ (mem_of_lookup F)).2 f
 case exf =>
  rcases all x c e with ⟨_,f,_⟩ | ⟨r,_⟩
  .exact fun z=>S f (by rw [z];exact K b hb)
  .exact (R b hb).2.2.2.2.1 x c r
 case fre =>
  rcases all x c e with ⟨_,f,_⟩ | ⟨r,_⟩
  .exact I.hok.fresh (big _ f)
  .exact I.freeC x c r
 .rcases (R b hb).2.2.2.1 with z | z
  .exact I.ok.noex b o e z
  .have:=(I.ok.bs b o e).1;exact absurd (yj (yQ this) z) (Yw _)
 .rcases yB.mp (I.stkSub b z) with e | e
  .exact (R b hb).2.1 e
  .exact (R b hb).2.2.1 e
 .obtain ⟨hi,j,hj,hv⟩:=qdx e2;obtain ⟨hx,w⟩:=J (i-nl) j x hj (by rw [Nat.add_sub_cancel' hi];exact e1);obtain ⟨m,hn,hl⟩:=I.loc;have E:=O.free _ w rfl
  obtain ⟨u,ru,lk⟩:=hl j x v hx hv (by
   rcases E with z | z
   .exact .inr (.inl z)
   .exact .inr (.inr z))
  refine ⟨u,ru,?_⟩;rcases lk with ⟨ac,_⟩ | ⟨_,c,hc,B⟩
  .have A:X.env.scope.names.lookup x=some .local:=ac;rcases E with z | z<;>· rw [z] at A;cases A
  .obtain ⟨G,l⟩:=zF (env:=X.env) (acc:=[]) w
   have e:G=c:=by
    have:=(a x G l).1;rw [hc] at this;exact (ym this).symm
   subst e
   have aa:(cellsFrom (C+1) scope.names (qQ X.env scope.names [])).lookup x=some G:=by
    rw [jy,xk]
    cases q:(cellsFrom (C+1) scope.names []).lookup x with
    | none=>exact l
    | some d=>have:=O.cel _ (qbw (mem_of_lookup q)) rfl;rw [O.once _ w rfl] at this;cases this
   refine .inr ⟨?_,G,aa,?_⟩
   .rcases e3 with z | z | z
    .obtain ⟨k0,z3,_,e | ⟨e,_⟩⟩:=zk (env:=X.env) (names:=scope.names) z
     .rw [O.once _ w rfl] at z3;cases z3;cases e
     .cases e
    .exact .inl z
    .exact .inr z
   .obtain ⟨o,ho,F⟩:=B;exact ⟨o,k _ _ ho,F⟩
 .rcases all x c e with ⟨_,_,a3⟩ | ⟨r,_⟩
  .exact ⟨none,a3⟩
  .obtain ⟨v,o,ho,F⟩:=I.cell x c r;exact ⟨v,o,k _ _ ho,F⟩
 .have e:p=(D,T):=by simpa using hp
  subst e;refine ⟨ae,I.hok.fresh Y,Z,fun z=>?_,ab⟩;rcases yB.mp (I.stkSub D z) with e | e
  .exact absurd (show X.env.locals<D from yj I.lt Y) (by rw [e];exact Yw _)
  .exact I.nofs Y e
 .show (qd0 nl ixs σ).length=N.length;rw [capS_len,hN]
theorem Inv.compBack {i:Shared} {H':Hp} {h:St} (I:Inv X pins σ H s) (f:∀ b∈fp,qcY X pins H b) (w:s.heap.objs.size<=C) (j:s.heap.objs.size<=D)
  (J:Inv (X.comp N scope C s H fp) [(D,{ cls:=.type "list",data:=.seq its.toArray n })] h H' i) (hv:Vals ys its) (hz:ys.length<=sizeLine):Inv X pins σ (upd H' D (.lst ys)) i:=by
 obtain ⟨p,d,m,_,_⟩:=J.pin (D,{ cls:=.type "list",data:=.seq its.toArray n }) (yP _ (yx.mpr rfl));have g:∀ b o,s.heap.get? b=some o->b≠D:=fun b o e=>yI (yj (yQ e) j);have a:=J.base;refine I.call' (ch:=fp) J.os ⟨a.keep,a.slot,fun b o e n l=>?_,a.there,fun b xs e=>?_,fun b o u e=>?_,fun b r e=>?_⟩ (fun b u e=>?_) J.bare fun b hb=>⟨(f b hb).2.2.2.1,(f b hb).2.1,(f b hb).2.2.2.2.1,(f b hb).2.2.2.2.2⟩
 .rw [qe (g b o e)];exact a.free b o e n l
 .have q:=a.tups b xs e;rw [qe (qm q d)];exact q
 .have q:=a.frzs b o u e;rw [qe (qm q d)];exact q
 .obtain ⟨more,q⟩:=a.tbls b r e;exact ⟨more,by rw [qe (qm q d)];exact q⟩
 .by_cases hb:b=D
  .subst hb;rw [qb] at e;cases e;exact ⟨hz,its,n,hv,p⟩
  .rw [qe hb] at e;exact (J.hok b u e).stay (fun c v _ q=>q) (fun c q=>by rw [qe (qm q d)];exact q) fun c xs q=>by rw [qe (qm q d)];exact q
end
def qgR:TT:=fun _ H Q=>Q true H
def qfz (wi:TI) (g:TG) (tc:TT) (te:TE) (nl:Nat) (ixs:List Nat):TE:=fun σ H Q=>wi σ H fun J e =>
 ∃ W:Nat->Nat->List V->Hp->Prop,(∃ m,W 0 m [] e)/\∀ i m ys H,W i m ys H ->
  (J.stop i H/\ys.length<=sizeLine/\∀ p,H p=none->Q (.ref p) (upd H p (.lst ys))) \/
  (J.go i H/\∃ M:List V->Hp->Prop,(∀ ys' H',M ys' H'->∃ d,d<m/\W (i+1) d ys' H')/\∀ x H',J.yld i H x H'->g x (qd0 nl ixs σ) H' fun a f=>tc a f fun b c =>
   if b=true then te a c fun v h=>ys.length<sizeLine/\M (ys++[v]) h else M ys c)
def qeh (nl:Nat) (g:TG):Prop:=∀ x σ H Q,g x σ H Q->g x σ H fun a b=>Q a b/\a.length=σ.length/\∀ i,nl<=i->a[i]?=σ[i]?
theorem qR {i:Nat} (h:i<nl:=by decide):qeh nl (qbZ i):=fun x σ H Q q=>⟨q,XR ..,fun j a=>xr (by omega)⟩
def qf0 (X:Cx) (ifs:List Expr) (tc:TT):Prop:=
 ∀ (pins:List (Addr×Obj)) (s:Shared) (σ:St) (H:Hp) (Q:Bool->Hp->Prop),Inv X pins σ H s->tc σ H Q ->
  wpAny (model X.prog X.w) X.A (forIn ifs true fun c r=>if r=true then do let ok <- isTrue c X.env (eval c X.env);pure (ForInStep.yield ok) else pure (ForInStep.yield r)) (TP X pins σ Q) X.xe s
theorem jG:qf0 X [] qgR:=fun pins s σ H Q I h=>wpAny_tests_nil ⟨H,I,h⟩
theorem q9 {c:Expr} (h:PT X c tc):qf0 X [c] tc:=fun pins s σ H Q I q=>wpAny_tests_one (h pins s σ H Q I q)
section
variable {X:Cx} {pins:List (Addr×Obj)} {σ:St} {H:Hp} {s:Shared}
theorem qbR {tn:Nat->Heap->Prop} {J:It} {Q:V->Hp->Prop}
  {RR:Value->Addr->Result->Shared->Prop} (I:Inv X pins σ H s) (hc:X.calm=true) (O:CompOk X.env.scope scope)
  (hN:N.length=nl+ixs.length) (aj:∀ (k j:Nat) (x:Str),ixs[k]?=some j->N[nl+k]?=some x->X.N[j]?=some x/\(x,NameKind.free)∈scope.names)
  (T:Turn X.prog X.w X.K tg J fp it tn) (st:tn 0 s.heap) (hf:∀ b∈fp,qcY X pins H b)
  (hg:∀ C s0 H0 ex,PG (X.comp N scope C s0 H0 ex) tg g) (gk:qeh nl g) (hi:∀ C s0 H0 ex,qf0 (X.comp N scope C s0 H0 ex) ifs tc) (he:∀ C s0 H0 ex,PE (X.comp N scope C s0 H0 ex) elt te)
  (h:∃ W:Nat->Nat->List V->Hp->Prop,(∃ m,W 0 m [] H)/\∀ i m ys H,W i m ys H ->
   (J.stop i H/\ys.length<=sizeLine/\∀ p,H p=none->Q (.ref p) (upd H p (.lst ys))) \/
   (J.go i H/\∃ M:List V->Hp->Prop,(∀ ys' H',M ys' H'->∃ m',m'<m/\W (i+1) m' ys' H')/\∀ x H',J.yld i H x H'->g x (qd0 nl ixs σ) H' fun ap a=>tc ap a fun b H3 =>
    if b=true then te ap H3 fun v H4=>ys.length<sizeLine/\M (ys++[v]) H4 else M ys H3))
  (aw:∀ (D C:Addr) (l:Shared) (H':Hp) (S:St) (ys:List V) (its:List Value) (n:Nat),s.heap.objs.size<=C->s.heap.objs.size<=D->Inv (X.comp N scope C s H fp) [(D,{ cls:=.type "list",data:=.seq its.toArray n })] S H' l->Vals ys its->ys.length<=sizeLine ->
   (∀ p,H' p=none->Q (.ref p) (upd H' p (.lst ys)))->RR (.ref D) C (.ok .next) l) :
  wpAny (model X.prog X.w) X.A (newList []) (fun acc s3=>wpAny (model X.prog X.w) X.A (newFunctionEnv scope X.env.globals (qQ X.env scope.names []) [] X.env.qual none .none (some X.env)) (fun Y s4 =>
   codeAny (model X.prog X.w) X.A (.compStart (.ListComp elt [⟨tg,iter,ifs,0⟩] scope pos) 0 (.ref it) acc { Y with scope:=relabel scope X.env }) (RR acc Y.locals) s4) E s3) E s:=by
 obtain ⟨W,⟨m0,w0⟩,turn⟩:=h;refine YL (newEnvK ?_);dsimp only;generalize ac:s.heap.push { cls:=.type "list",dict:=none,data:=.seq ([]:List Value).toArray }=a;have aa:(pushCells (a.push { cls:=.type "dict",data:=.dict #[] }) scope.names).Ns a.objs.size fun _=>none:=(Heap.Ns.new a (.type "dict")).keeps (pushCells_keeps _ _);have G:=cellsFrom_ok scope.names (a.push { cls:=.type "dict",data:=.dict #[] }) (a.objs.size+1) [] ⟨fun _ _ hm=>(nomatch hm),List.Pairwise.nil⟩ (by rw [xj];exact yh _);rw [xj] at G;have ad:∀ b o,a.get? b=some o->(pushCells (a.push { cls:=.type "dict",data:=.dict #[] }) scope.names).get? b=some o:=fun b o e=>pushCells_keeps _ _ b o (yv _ e);generalize pushCells (a.push { cls:=.type "dict",data:=.dict #[] }) scope.names=h1 at aa G ad ⊢;have hC:a.objs.size=s.heap.objs.size+1:=by rw [<- ac,xj]
 have av:s.heap.objs.size≠a.objs.size:=by rw [hC];exact yI (XB _)
 have Z:s.heap.objs.size<=a.objs.size:=by rw [hC];exact Xa _
 have f:∀ b,b<s.heap.objs.size->b≠a.objs.size/\b≠s.heap.objs.size:=fun b hb=>⟨by rw [hC];exact yI (ki hb),yI hb⟩;have ae:∀ b o,s.heap.get? b=some o->h1.get? b=some o:=fun b o e=>ad b o (ac ▸ yv _ e);have ah:h1.get? s.heap.objs.size=some { cls:=.type "list",data:=.seq ([]:List Value).toArray }:=ad _ _ (ac ▸ yW _ rfl)
 have F:∀ b∈fp,b<s.heap.objs.size:=fun b hb=>by
  obtain ⟨o,ho,_⟩:=T.obj 0 _ st b hb;exact yQ ho
 have ab:∀ s3:Shared,s3={ s with heap:=h1 } ->
   codeAny (model X.prog X.w) X.A (.compLoop (.ListComp elt [⟨tg,iter,ifs,0⟩] scope pos) 0 (.ref it) (.ref s.heap.objs.size) (compEnvC scope (cellsFrom (a.objs.size+1) scope.names (qQ X.env scope.names [])) a.objs.size X.env)) (RR (.ref s.heap.objs.size) a.objs.size) s3:=by
  rintro s3 rfl;have I0:=I.comp (N:=N) (C:=a.objs.size) (D:=s.heap.objs.size) (h1:=h1) (tk:=s.toks) O hN aj hf F Z (yh _) av aa ae ah (fun v z=>by cases z) G
  have B:∀ {H':Hp} {S:St} {l:Shared} {pl:List (Addr×Obj)},Inv (X.comp N scope a.objs.size s H fp) pl S H' l->(∀ p∈pl,p.1=s.heap.objs.size)->(∀ b∈fp,H' b=none)->∀ b∈fp,qcY (X.comp N scope a.objs.size s H fp) pl H' b:=fun {H' S l pl} J ay hn b hb =>
   ⟨hn b hb,(f b (F b hb)).1,fun z=>(by
     rcases yB.mp (I.stkSub b z) with e | e
     .exact (hf b hb).2.1 e
     .exact (hf b hb).2.2.1 e),.inl hb,J.ok.exf b hb |>.2,fun p P z=>by
    have e:=ay p (by simpa using P);rw [e] at z;exact (f b (F b hb)).2 z.symm⟩
  refine compLoop_own (fun k l=>∃ i H' ys its n,Inv (X.comp N scope a.objs.size s H fp) [(s.heap.objs.size,{ cls:=.type "list",data:=.seq its.toArray n })] (qd0 nl ixs σ) H' l/\tn i l.heap/\(∀ b∈fp,H' b=none)/\Vals ys its/\W i k ys H') ?_ m0
   ⟨0,H,[],[],0,I0,T.keep _ _ _ st fun b _ o e=>ae b o e,fun b hb=>(hf b hb).1,.nil,w0⟩
  rintro k l ⟨i,H',ys,its,n,J1,an,ag,v1,w1⟩
  have one:∀ p∈[((s.heap.objs.size,{ cls:=.type "list",data:=.seq its.toArray n }):Addr×Obj)],p.1=s.heap.objs.size:=fun p P=>by
   have e:p=_:=yx.mp P;rw [e]
  rcases turn i k ys H' w1 with ⟨ao,hz,q⟩ | ⟨go,M,hM,step⟩
  .refine thn (T.done (X.comp N scope a.objs.size s H fp) rfl rfl rfl hc i _ l _ H' _ J1 (B J1 one ag) an ao) fun r s4 ⟨hr,J4⟩=>?_;subst hr;exact aw _ _ s4 H' _ ys its n Z (yh _) J4 v1 hz q
  .refine thn (T.item (X.comp N scope a.objs.size s H fp) rfl rfl rfl hc i _ l _ H' _ J1 (B J1 one ag) an go) fun r s4 ⟨u,hr,h4⟩=>?_;subst hr;refine thn h4 fun _ s5 ⟨x,H5,J5,r5,y5,af,ar⟩=>?_;have aq:=J5.pinned (B J5 one ar) (T.obj _ _ af);refine thn (hg _ _ _ _ _ s5 _ H5 x u _ aq r5 (gk _ _ _ _ (step x H5 y5))) fun _ s6 ⟨U,H6,J6,q6,l6,k6⟩=>?_;refine thn (hi _ _ _ _ _ s6 U H6 _ J6 q6) fun ok s7 ⟨H7,J7,q7⟩=>?_;have again:∀ {R:Shared} {H8:Hp} {ys':List V} {k':Nat},Inv (X.comp N scope a.objs.size s H fp) ([((s.heap.objs.size,{ cls:=.type "list",data:=.seq its.toArray n }):Addr×Obj)]++qcq fp s5.heap) U H8 R ->
     (∀ b o,b≠s.heap.objs.size->R.heap.get? b=some o->R.heap.get? b=some o)->tn (i+1) R.heap/\∀ b∈fp,H8 b=none:=fun {R H8 ys' k'} J8 _=>by
    refine ⟨T.keep _ _ _ af fun b hb o e=>(J8.pin (b,o) (yP _ (yP _ (qah hb e)))).1,fun b hb=>?_⟩;obtain ⟨o,e,d⟩:=T.obj _ _ af b hb;exact (J8.pin (b,o) (yP _ (yP _ (qah hb e)))).2.1
   have wk:∀ (j:Nat) v,(qd0 nl ixs σ)[j]?=some (some v)->U[j]?=some (some v):=fun j v e=>by
    obtain ⟨hj,_⟩:=qdx e;rw [k6 j hj];exact e
   cases ok with
   | false =>
    rw [yy Yn] at q7 ⊢;obtain ⟨m',hm,w7⟩:=hM _ _ q7;obtain ⟨ba,as⟩:=again (ys':=ys) (k':=0) J7 (fun _ _ _ e=>e);exact ⟨m',hm,i+1,H7,ys,its,n,J7.unpinned.weak l6.symm wk,ba,as,v1,w7⟩
   | true =>
    rw [yD rfl] at q7 ⊢;refine thn (he _ _ _ _ _ s7 U H7 _ J7 q7) fun y R ⟨v,H8,J8,r8,bd,mq⟩=>?_;obtain ⟨m',hm,w8⟩:=hM _ _ mq;obtain ⟨bc,au⟩:=again (ys':=ys) (k':=0) J8 (fun _ _ _ e=>e);have J9:=J8.unpinned;obtain ⟨pD,nD,am,az,_⟩:=J9.pin (s.heap.objs.size,{ cls:=.type "list",data:=.seq its.toArray n }) (yP _ (yx.mpr rfl));refine wpAny_list_append_plain (hsz:=by rw [yw,<- v1.length];omega) ⟨n,pD⟩ fun h9 L al=>?_;obtain ⟨n9,L⟩:=L;have e9:(its.toArray.push y)=(its++[y]).toArray:=by simp
    rw [e9] at L
    have Ja:Inv (X.comp N scope a.objs.size s H fp) [] (qd0 nl ixs σ) H8 { R with heap:=h9,toks:=R.toks }:=
     ((J9.pins_of (pins':=[]) fun p P=>absurd P (by simp)).turned (it:=s.heap.objs.size) (h':=h9) (t':=R.toks) (fun b o hb e=>(al.2 b hb).trans e) nD am (.inr (yh _))
      (fun x c e z=>by
       rcases qbx e with w | e
       .have:=(G.empty _ _ w).2;rw [z,hC] at this;exact absurd (yi (Xa _) this) (Nat.not_succ_le_self _)
       have:=zE e;rcases this with ⟨ax,hcc⟩ | hcc
       .obtain ⟨c',ai⟩:=I.ok.has x (by
         rcases O.free _ ax rfl with q | q
         .exact .inl q
         .exact .inr q)
        rw [ai] at hcc;have ak:c=c':=hcc;obtain ⟨_,q⟩:=I.cell x c' ai;rw [<- ak,z] at q;exact absurd q.lt (Yw _)
       .cases hcc) (fun p P=>absurd P (by simp))).weak l6.symm wk
    refine ⟨m',hm,i+1,H8,ys++[v],its++[y],n9,Ja.pins_of fun p P=>?_,?_,au,v1.append (.cons r8 .nil),w8⟩
    .have e:p=_:=yx.mp P;subst e;exact ⟨L,nD,am,az,fun v z=>by cases z⟩
    .exact T.keep _ _ _ bc fun b hb o e=>(al.2 b (f b (F b hb)).2).trans e
 exact codeAny_compStart_list (ab _ rfl) (T.self _ 0 _ _ _ (T.keep _ _ _ st fun b _ o e=>ae b o e) (ab _ rfl))
end
section
variable {X:Cx} {tg elt iter:Expr} {ifs:List Expr} {scope:Scope} {pos:Pos} {N:List Str} {nl:Nat} {ixs:List Nat} {wi:TI} {g:TG} {tc:TT} {te:TE}
theorem jh {XN:List Str} (N:List Str) (nl:Nat) (ixs:List Nat) (G:X.env.scope=sc) (y:X.N=XN) (hc:X.calm=true) (P:qeX sc scope=true) (W:N.length=nl+ixs.length) (d:qgs nl ixs N XN scope.names=true)
  (hi:PI X tg iter wi) (hg:∀ C r i ex,PG (X.comp N scope C r i ex) tg g) (R:qeh nl g) (ht:∀ C r i ex,qf0 (X.comp N scope C r i ex) ifs tc) (Z:∀ C r i ex,PE (X.comp N scope C r i ex) elt te)
  (hs:∀ x,foldedSetIterable iter X.env x=pure x:=by intro _;rfl):PE X (.ListComp elt [⟨tg,iter,ifs,0⟩] scope pos) (qfz wi g tc te nl ixs):=by
 intro pins s σ H Q I h;subst G y;have O:=qdw P;have l:=qeg d;rw [eval_ListComp]
 have E:=qaO (scope:=scope) (env:=X.env) fun n F=>I.ok.has n (by
  rcases O.free _ F rfl with z | z
  .exact .inl z
  .exact .inr z)
 refine wpAny_comprehension_free (use:=none) rfl hs E O.kind O.loc (thn (hi pins s σ H _ I h) fun v s1 h1=>thn h1 fun aa s2 S=>?_);obtain ⟨it,fp,tn,J,H2,e,f,T,L,M,Y⟩:=S;subst e;refine qbR (Q:=Q) (RR:=fun acc C=>compPost (model X.prog X.w) X.A X.xe none (EP X pins σ Q) acc C) f hc O W l T L M hg R ht Z Y ?_;intro D C s' H' ab ys its n j U u hv hz q;obtain ⟨m,F,_⟩:=id u.loc;have B:=f.compBack M j U u hv hz;obtain ⟨_,nD,K,_,_⟩:=u.pin (D,{ cls:=.type "list",data:=.seq its.toArray n }) (yP _ (yx.mpr rfl));refine ⟨m,F,fun h' sb=>⟨.ref D,_,?_,rfl,q D nD⟩⟩;refine B.turned (it:=C) (h':=h') (t':=s'.toks) (fun b o hb e=>(sb.2 b hb).trans e) ((qe (H:=H') (a:=D) (b:=C) (o:=.lst ys) (Yh K)).trans u.free) (Yl (yj f.lt j)) (.inr (yi f.sz j)) (fun x c e z=>?_) (fun p hp z=>?_)
 .obtain ⟨_,q⟩:=f.cell x c e;exact absurd (yj q.lt (by rw [z];exact j)) (Yw _)
 .exact absurd (yj (yQ (f.pin p hp).1) (by rw [z];exact j)) (Yw _)
theorem zX {i:Nat} {y:Str} {r f:Pos} {XN:List Str} (N:List Str) (nl:Nat) (ixs:List Nat) (Z:X.env.scope=sc) (E:X.N=XN) (hc:X.calm=true) (O':qeX sc scope=true) (hN:N.length=nl+ixs.length) (l:qgs nl ixs N XN scope.names=true)
  (R:X.N.Nodup) (U:X.N[i]?=some y) (hy:X.env.scope.names.lookup y=some .local)
  (hi:PI X tg iter wi) (hg:∀ C K u ex,PG (X.comp N scope C K u ex) tg g) (gk:qeh nl g) (ht:∀ C K u ex,qf0 (X.comp N scope C K u ex) ifs tc) (he:∀ C K u ex,PE (X.comp N scope C K u ex) elt te)
  (aa:swapsWith (.ListComp elt [⟨tg,iter,ifs,0⟩] scope pos) (some (.Name y r)) f.line X.env=pure true:=by rfl)
  (hs:∀ x,foldedSetIterable iter X.env x=pure x:=by intro _;rfl):PS X (.Assign [.Name y r] (.ListComp elt [⟨tg,iter,ifs,0⟩] scope pos) f) (qfL (qfz wi g tc te nl ixs) (qbZ i)):=by
 intro pins s σ H M I h;subst Z E;have O:=qdw O';have F:=qeg l
 have S:=qaO (scope:=scope) (env:=X.env) fun n W=>I.ok.has n (by
  rcases O.free _ W rfl with z | z
  .exact .inl z
  .exact .inr z)
 rw [exec_Assign_Name_used _ _ _ _ aa];refine yr (kx (yr ?_));show wpAny _ X.A (do let _ <- comprehension (.ListComp elt [⟨tg,iter,ifs,0⟩] scope pos) scope X.env _ (newList []) false (eval iter X.env) (some (assign (.Name y r) X.env))) _ _ s;refine yr (YU (wpAny_comprehension_free (use:=some (assign (.Name y r) X.env)) (Q:=fun _ G=>SP X pins M .next G) rfl hs S O.kind O.loc
  (thn (hi pins s σ H _ I h) fun v s1 h1=>thn h1 fun ae s2 h2=>?_)) (fun _ G hq=>yu (yu hq)) fun _ _ e=>e)
 obtain ⟨it,fp,tn,J,H2,e,d,T,ad,f2,hW⟩:=h2;subst e;refine qbR (Q:=fun v H'=>qbZ i v σ H' M.nx) (RR:=fun acc C=>compPost (model X.prog X.w) X.A X.xe (some (assign (.Name y r) X.env)) (fun _ G=>SP X pins M .next G) acc C) d hc O hN F T ad f2 hg gk ht he hW ?_;intro D C G H' af ys its n j hD L hv hz q;obtain ⟨m,W,_⟩:=id L.loc;have B:=d.compBack f2 j hD L hv hz;obtain ⟨_,nD,ab,_,_⟩:=L.pin (D,{ cls:=.type "list",data:=.seq its.toArray n }) (yP _ (yx.mpr rfl));show wpAny _ X.A (assign (.Name y r) X.env (.ref D)) _ _ _;refine wpAny_assign_Name (qck (i:=i) (x:=y) (v:=.ref D) B R U (.inl hy) rfl (fun ac B' Y=>?_) (.inr hy));obtain ⟨a,sa,ha⟩:=Y
 have P:C≠a:=by
  rintro rfl;rcases ha with z | z
  .exact absurd (show X.env.locals<C from yj d.lt j) (by rw [z];exact Yw _)
  .obtain ⟨_,q⟩:=d.cell y C z;exact absurd (yj q.lt j) (Yw _)
 refine ⟨m,W.sameBut sa P,fun h' sb=>⟨_,_,?_,q D nD⟩⟩;refine B'.turned (it:=C) (h':=h') (t':=ac.toks) (fun b o hb e=>(sb.2 b hb).trans e) ((qe (H:=H') (a:=D) (b:=C) (o:=.lst ys) (Yh ab)).trans L.free) (Yl (yj d.lt j)) (.inr (yi d.sz j)) (fun x c e z=>?_) (fun p hp z=>?_)
 .obtain ⟨_,q⟩:=d.cell x c e;exact absurd (yj q.lt (by rw [z];exact j)) (Yw _)
 .exact absurd (yj (yQ (d.pin p hp).1) (by rw [z];exact j)) (Yw _)
end
noncomputable def Its (x:Str):It:=⟨fun i _=>i<x.cps.size,fun i H v H'=>H'=H/\∃ c,x.cps[i]?=some c/\v=.str ⟨#[c]⟩,fun i _=>i=x.cps.size⟩
theorem qdy {K:yg} {t:Tok} (W:∀ A:Around,A.handled=none->Walks P w A it [it] [it] x.cps.size (SignAt x) fun i h=>h.IsStrIter it T x t i)
  (J:∀ (A:Around) (i:Nat) (s:Shared) (Q:Value->Shared->Prop) (E:Value->Shared->Prop),s.heap.IsStrIter it T x t i->Q (.ref it) s->wpAny (model P w) A (pyIter (.ref it)) Q E s)
  (B:∀ v,letOwnedTupleGo tg (.ref it) v=pure ()):Turn P w K tg (Its x) [it] it (fun i h=>h.IsStrIter it T x t i) where
 mem:=by simp
 obj:=fun i h st b hb=>by
  have e:b=it:=by simpa using hb
  subst e;obtain ⟨o,e,c,d⟩:=st;exact ⟨o,e,fun v z=>by rw [d] at z;cases z⟩
 keep:=fun i h h' st k=>by
  obtain ⟨o,e,r⟩:=st;exact ⟨o,k it (by simp) o e,r⟩
 item:=by
  intro X p hw n hc i pins s σ H E I a st y;subst p hw n;obtain ⟨f,g,G,j,l,m⟩:=a it (by simp);refine (W X.A (I.ok.hd hc)).item i s _ _ y st fun v h' tk hv D C=>?_;obtain ⟨c,u,q,rfl⟩:=hv;have F:Inv X pins σ H { s with heap:=h',toks:=tk }:=I.turned (fun b o hb e=>C b o (by simpa using hb) e) f g j l m;refine ⟨_,rfl,YX (B _) ⟨.str ⟨#[c]⟩,H,F,⟨u,rfl⟩,⟨rfl,c,q,rfl⟩,D,fun b hb=>(a b hb).1⟩⟩
 done:=by
  intro X p hw n hc i pins s σ H E I a st y;subst p hw n;obtain ⟨f,g,G,j,l,m⟩:=a it (by simp);have e:i=x.cps.size:=y;subst e;exact (W X.A (I.ok.hd hc)).done s _ _ st fun h' tk C=>⟨rfl,I.turned (fun b o hb e=>C b o (by simpa using hb) e) f g j l m⟩
 self:=J
section
variable {X:Cx} {tg:Expr}
end
section
variable {K:yg} {a:Addr} {xs:List V} {g:TG} {tc:TT} {te:TE} {σ':St} {H1:Hp} {Q:V->Hp->Prop}
def qei (J:It) (g:TG) (tc:TT) (te:TE) (σ':St) (H1:Hp) (Q:V->Hp->Prop):Prop:=
 ∃ W:Nat->Nat->List V->Hp->Prop,(∃ m,W 0 m [] H1)/\∀ i m ys H,W i m ys H ->
   (J.stop i H/\ys.length<=sizeLine/\∀ p,H p=none->Q (.ref p) (upd H p (.lst ys))) \/
   (J.go i H/\∃ M:List V->Hp->Prop,(∀ ys' H',M ys' H'->∃ d,d<m/\W (i+1) d ys' H')/\∀ x H',J.yld i H x H'->g x σ' H' fun a e=>tc a e fun b c =>
    if b=true then te a c fun v f=>ys.length<sizeLine/\M (ys++[v]) f else M ys c)
theorem qK (c:Nat->List V->Hp->Prop) (n:c 0 [] H1) (hl:∀ i ys H,i<=xs.length->c i ys H->SqL K H a xs)
  (s:∀ i x ys H,xs[i]?=some x->c i ys H->g x σ' H fun f j=>tc f j fun b h=>if b=true then te f h fun v l=>ys.length<sizeLine/\c (i+1) (ys++[v]) l else c (i+1) ys h)
  (o:∀ ys H,c xs.length ys H->ys.length<=sizeLine/\∀ p,H p=none->Q (.ref p) (upd H p (.lst ys))):qei (Itl K a) g tc te σ' H1 Q:=by
 refine ⟨fun i m ys H=>m=xs.length-i/\i<=xs.length/\c i ys H,⟨xs.length,by simp,YH _,n⟩,?_⟩;rintro i m ys H ⟨rfl,r,p⟩;have q:=hl i ys H r p;by_cases d:i<xs.length
 .refine .inr ⟨⟨xs,xs[i],q,by simp [d]⟩,c (i+1),fun ys' H' u=>⟨xs.length-(i+1),by omega,rfl,d,u⟩,fun x H' y=>?_⟩;obtain ⟨e,y⟩:=y;subst e;exact s i x ys _ (y xs q) p
 .have e:i=xs.length:=by omega
  subst e;exact .inl ⟨⟨xs,q,yh _⟩,o ys H p⟩
theorem zx {lo:Int} (a:Nat->List V->Hp->Prop) (l:a 0 [] H1)
  (q:∀ i ys H,i<n->a i ys H->g (.int (lo+i)) σ' H fun d h=>tc d h fun b f=>if b=true then te d f fun v j=>ys.length<sizeLine/\a (i+1) (ys++[v]) j else a (i+1) ys f)
  (o:∀ ys H,a n ys H->ys.length<=sizeLine/\∀ p,H p=none->Q (.ref p) (upd H p (.lst ys))):qei (Itr lo n) g tc te σ' H1 Q:=by
 refine ⟨fun i m ys H=>m=n-i/\i<=n/\a i ys H,⟨n,by simp,YH _,l⟩,?_⟩;rintro i m ys H ⟨rfl,s,p⟩;by_cases c:i<n
 .refine .inr ⟨c,a (i+1),fun ys' H' r=>⟨n-(i+1),by omega,rfl,c,r⟩,fun x H' y=>?_⟩;obtain ⟨e,y⟩:=y;subst e y;exact q i ys _ c p
 .have e:i=n:=by omega
  subst e;exact .inl ⟨yh _,o ys H p⟩
theorem comp_str (a:Nat->List V->Hp->Prop) (n:a 0 [] H1)
  (q:∀ i c ys H,x.cps[i]?=some c->a i ys H->g (.str ⟨#[c]⟩) σ' H fun f j=>tc f j fun b h=>if b=true then te f h fun v l=>ys.length<sizeLine/\a (i+1) (ys++[v]) l else a (i+1) ys h)
  (o:∀ ys H,a x.cps.size ys H->ys.length<=sizeLine/\∀ p,H p=none->Q (.ref p) (upd H p (.lst ys))):qei (Its x) g tc te σ' H1 Q:=by
 refine ⟨fun i m ys H=>m=x.cps.size-i/\i<=x.cps.size/\a i ys H,⟨x.cps.size,by simp,YH _,n⟩,?_⟩;rintro i m ys H ⟨rfl,s,p⟩;by_cases d:i<x.cps.size
 .refine .inr ⟨d,a (i+1),fun ys' H' r=>⟨x.cps.size-(i+1),by omega,rfl,d,r⟩,fun v H' y=>?_⟩;obtain ⟨e,c,hc,y⟩:=y;subst e y;exact q i c ys _ hc p
 .have e:i=x.cps.size:=by omega
  subst e;exact .inl ⟨rfl,o ys H p⟩
end
noncomputable def qcE:V->Option Value
 | .ty n=>some (.type n)
 | .ref a=>some (.ref a)
 | _=>none
theorem qbS {c:Value} (h:qcE y=some c) (r:RelV y u):u=c:=by
 cases y with
 | ty n=>cases h;exact r
 | ref a=>cases h;exact r
 | _=>cases h
section
variable {X:Cx} {pins:List (Addr×Obj)} {σ:St} {H:Hp} {s:Shared}
theorem TyOf.kit {x:V} {t:Value} (I:Inv X pins σ H s) (b:RelV x u) (ty:TyOf X.K H x t):∃ P:Heap->Prop,PySem.W.KitX X.K u t P/\P s.heap/\u≠.builtin "__main__.__loader__#opaque":=by
 cases ty with
 | non=>cases (show u=Value.none from b);exact ⟨_,PySem.W.kitx_none,YV,(fun z=>nomatch z)⟩
 | bl y=>cases (show u=Value.bool y from b);exact ⟨_,PySem.W.kitx_bool,YV,(fun z=>nomatch z)⟩
 | int i=>obtain ⟨t,q⟩:=(show ∃ t,u=Value.int i t from b);cases q;exact ⟨_,PySem.W.kitx_int,YV,(fun z=>nomatch z)⟩
 | str y=>obtain ⟨t,q⟩:=(show ∃ t,u=Value.str y t from b);cases q;exact ⟨_,PySem.W.kitx_str,YV,(fun z=>nomatch z)⟩
 | flt y=>obtain ⟨t,q⟩:=(show ∃ t,u=Value.float y t from b);cases q;exact ⟨_,PySem.W.kitx_float,YV,(fun z=>nomatch z)⟩
 | @lst a xs ea =>
  cases (show u=Value.ref a from b);obtain ⟨_,_,n,_,h1⟩:=(show ObjOk X.prog X.w H s.heap a (.lst xs) from I.hok a _ ea);exact ⟨_,PySem.W.kitx_list,⟨_,h1,rfl⟩,(fun z=>nomatch z)⟩
 | @frz a ob xs ea =>
  cases (show u=Value.ref a from b);obtain ⟨_,_,_,n,_,h1⟩:=(show ObjOk X.prog X.w H s.heap a (.frz ob (.lst xs)) from I.hok a _ ea);exact ⟨_,PySem.W.kitx_list,⟨_,h1,rfl⟩,(fun z=>nomatch z)⟩
 | @tup a xs ea =>
  cases (show u=Value.ref a from b);obtain ⟨_,_,_,p⟩:=(show ObjOk X.prog X.w H s.heap a (.tup xs) from I.hok a _ ea);obtain ⟨o,h1,c,_⟩:=p;exact ⟨_,PySem.W.kitx_tuple,⟨o,h1,c⟩,(fun z=>nomatch z)⟩
 | @dK a kvs ea =>
  cases (show u=Value.ref a from b);obtain ⟨_,_,vs,_,p⟩:=(show ObjOk X.prog X.w H s.heap a (.dK kvs) from I.hok a _ ea);obtain ⟨o,d,ep,h1,c,_⟩:=p;exact ⟨_,PySem.W.kitx_dict,⟨o,h1,c.1⟩,(fun z=>nomatch z)⟩
 | @dT a kvs ea =>
  cases (show u=Value.ref a from b);obtain ⟨_,_,xs,_,o,d,ep,h1,c,_⟩:=(show ObjOk X.prog X.w H s.heap a (.dT kvs) from I.hok a _ ea);exact ⟨_,PySem.W.kitx_dict,⟨o,h1,c.1⟩,(fun z=>nomatch z)⟩
 | @ins a C dx fs ea cl ha hn htk hm =>
  cases (show u=Value.ref a from b);obtain ⟨e,O,_⟩:=qa1 I.hok ea;obtain ⟨od,J,_⟩:=O.look;exact ⟨_,PySem.W.kitx_own (cl.get _) cl.hd ha hn htk hm,J,(fun z=>nomatch z)⟩
end
section
variable {X:Cx}
theorem qby:∀ {ys:List V} {a us:List Value},ys.map qcE=a.map some->Vals ys us->us=a
 | [],[],_,_,.nil=>rfl
 | [],_::_,_,h,_=>by cases h
 | y::ys,[],_,h,_=>by cases h
 | y::ys,c::a,_,h,.cons r t=>by
  rw [Yt,Yt] at h
  injection h with h1 h2
  rw [qbS h1 r,qby h2 t]
theorem qdz:∀ {bs:List Bool} {us:List Value},Vals (bs.map V.bl) us->us=bs.map Value.bool
 | [],_,.nil=>rfl
 | b::bs,_,.cons r t=>by
  have e:=qdz t;rw [e];cases r;rfl
def qgS (K:yg):List V->Hp->VK->Prop:=fun xs H Q=>∃ (p:Addr) (bs:List Bool),xs=[.ref p]/\SqL K H p (bs.map V.bl)/\Q (.bl (bs.all id)) H
theorem call_all (hc:X.calm=true):zv X (.builtin "all") (qgS X.K):=by
 intro pins s σ H xs us Q I r h;obtain ⟨p,bs,rfl,n,q⟩:=h;obtain ⟨u,rfl,x⟩:=qbd r;cases x;obtain ⟨its,y,pl,hz⟩:=I.list n;have e:=qdz y;subst e;have j:X.A.in1.handled=none:=I.ok.hd hc;refine call_all_walk (kj pl.isList ?_)
 have f:p≠s.heap.objs.size:=by
  obtain ⟨o,m,_⟩:=pl.isList;exact yI (yQ m)
 refine ⟨s.heap.objs.size,_,_,_,_,_,fun i=>(bs[i]?).getD false,rfl,Walks.list j s.heap.objs.size p f (bs.map Value.bool).toArray,⟨⟨_,yW _ rfl,rfl,rfl⟩,pl.isList.at fun o e=>yv _ e⟩,fun i v s Q E hv w=>?_,fun h' tk l=>?_⟩
 .have a:(bs.map Value.bool)[i]?=some v:=by simpa using hv
  rw [yd] at a
  cases e:bs[i]? with
  | none=>rw [e] at a;cases a
  | some b =>
   rw [e] at a;cases a;have c:Q ((bs[i]?).getD false) s:=w;rw [e] at c;exact yu c
 .have e:((List.range (bs.map Value.bool).toArray.size).all fun i=>(bs[i]?).getD false)=bs.all id:=by
   rw [yw,ya]
   have key:∀ bs:List Bool,((List.range bs.length).all fun i=>(bs[i]?).getD false)=bs.all id:=by
    intro bs
    induction bs with
    | nil=>rfl
    | cons b r ih =>
     rw [yC,List.range_succ_eq_map,XG,kP,XG,<- ih];rfl
   exact key bs
  rw [e];refine ⟨.bl _,H,?_,rfl,q⟩;have g:Inv X pins σ H { s with heap:=s.heap.push { cls:=.type "list_iterator",data:=.fields #[.ref p,.int 0 0] } }:=I.kept (t':=s.toks) fun b o e=>yv _ e;have d:=I.fpOk (b:=s.heap.objs.size) (yh _) (I.hok.fresh (yh _));exact g.turned (it:=s.heap.objs.size) (h':=h') (t':=tk) (fun b o hb e=>l b o (by simpa using hb) e) d.1 d.2.1 d.2.2.2.1 d.2.2.2.2.1 d.2.2.2.2.2
theorem op_le_str:OpR X (compareOp .LtE) (fun x y H Q=>∃ i j,x=.str i/\y=.str j/\Q (.bl (!decide (j.cps.toList<i.cps.toList))) H):=by
 intro pins s σ H x y v u Q I a b h;obtain ⟨i,j,rfl,rfl,q⟩:=h;obtain ⟨t,rfl⟩:=a;obtain ⟨t',rfl⟩:=b;exact PySem.P.le_str (qds I q (by rfl))
def qgt:R2:=fun x y H Q=>match x,y with
 | .int i,.int j=>Q (.bl (decide (i<=j))) H
 | .str i,.str j=>Q (.bl (!decide (j.cps.toList<i.cps.toList))) H
 | _,_=>False
theorem qgj:OpR X (compareOp .LtE) qgt:=by
 intro pins s σ H x y v u Q I a b h
 cases x with
 | int i=>cases y with
  | int j=>exact op_le pins s σ H _ _ v u Q I a b ⟨i,j,rfl,rfl,h⟩
  | _=>exact False.elim h
 | str i=>cases y with
  | str j=>exact op_le_str pins s σ H _ _ v u Q I a b ⟨i,j,rfl,rfl,h⟩
  | _=>exact False.elim h
 | _=>exact False.elim h
theorem op_is_bl:OpR X (compareOp .Is) (fun x y H Q=>∃ i j,x=.bl i/\y=.bl j/\Q (.bl (i==j)) H):=by
 intro pins s σ H x y v u Q I a b h;obtain ⟨i,j,rfl,rfl,q⟩:=h;cases a;cases b;exact wpAny_is_plain (by cases i<;>cases j<;>rfl) (qds I q (by cases i<;>cases j<;>rfl))
def qgT:R2:=fun x y H Q=>match x,y with
 | .bl i,.bl j=>Q (.bl (i==j)) H
 | x,.non=>Q (.bl (decide (x=.non))) H
 | _,_=>False
theorem qgU:OpR X (compareOp .Is) qgT:=by
 intro pins s σ H x y v u Q I a b h
 cases y with
 | non=>exact op_isN pins s σ H x _ v u Q I a b ⟨rfl,by cases x<;>exact h⟩
 | bl j=>cases x with
  | bl i=>exact op_is_bl pins s σ H _ _ v u Q I a b ⟨i,j,rfl,rfl,h⟩
  | _=>exact False.elim h
 | _=>cases x<;>exact False.elim h
theorem op_rep_str:OpR X (binaryOp .Mult) (fun x y H Q=>∃ z k,x=.str z/\y=.int k/\MulOk z k/\Q (.str (Txt.mul z k)) H):=by
 intro pins s σ H x y v u Q I b c h;obtain ⟨z,k,rfl,rfl,a,q⟩:=h;obtain ⟨t,rfl⟩:=b;obtain ⟨t',rfl⟩:=c;exact SB.mul a fun t' k'=>⟨.str _,H,I.tok _,⟨_,rfl⟩,q⟩
def qf1:R2:=fun x y H Q=>match x,y with
 | .int i,.int j=>CMul i j/\Q (.int (i*j)) H
 | .str z,.int k=>MulOk z k/\Q (.str (Txt.mul z k)) H
 | .ref a,.int k=>qgQ (.ref a) (.int k) H Q
 | _,_=>False
theorem qb1:OpR X (binaryOp .Mult) qf1:=by
 intro pins s σ H x y v u Q I b c h
 cases y with
 | int j=>cases x with
  | int i=>exact op_mul pins s σ H _ _ v u Q I b c ⟨i,j,rfl,rfl,h.1,h.2⟩
  | str i=>exact op_rep_str pins s σ H _ _ v u Q I b c ⟨i,j,rfl,rfl,h.1,h.2⟩
  | ref a=>exact qe7 pins s σ H _ _ v u Q I b c h
  | _=>exact False.elim h
 | _=>cases x<;>exact False.elim h
def qc4 (K:yg):R2:=fun x y H Q=>match x,y with
 | .int i,.int j=>Q (.int (i+j)) H
 | .str i,.str j=>i.length+j.length<=sizeLine/\Q (.str (i++j)) H
 | .ref a,.ref b=>qgP (.ref a) (.ref b) H Q\/qfY K (.ref a) (.ref b) H Q
 | _,_=>False
theorem u_add:OpR X (binaryOp .Add) (qc4 X.K):=by
 intro pins s σ H x y v u Q I c d h
 cases x with
 | int i=>cases y with
  | int j=>exact op_add pins s σ H _ _ v u Q I c d ⟨i,j,rfl,rfl,h⟩
  | _=>exact False.elim h
 | str i=>cases y with
  | str j=>exact op_add_str pins s σ H _ _ v u Q I c d ⟨i,j,rfl,rfl,h.1,h.2⟩
  | _=>exact False.elim h
 | ref a=>cases y with
  | ref b=>exact h.elim (fun h=>op_cat pins s σ H _ _ v u Q I c d h) fun h=>op_catT pins s σ H _ _ v u Q I c d h
  | _=>exact False.elim h
 | _=>exact False.elim h
def qc5 (K:yg):List V->Hp->VK->Prop:=fun xs H Q=>match xs with
 | [.str z]=>z.length<=sizeLine/\Q (.int z.length) H
 | [.ref p]=>(∃ ys,(SqL K H p ys\/SqT K H p ys)/\Q (.int ys.length) H)\/∃ kvs,H p=some (.dK kvs)/\Q (.int kvs.length) H
 | _=>False
theorem call_lenU:zv X (.builtin "len") (qc5 X.K):=by
 intro pins s σ H xs us Q I r h
 match xs,h with
 | [.str z],h=>exact call_len_str pins s σ H _ us Q I r ⟨z,rfl,h.1,h.2⟩
 | [.ref p],.inl ⟨ys,h,q⟩=>exact call_len_seq pins s σ H _ us Q I r ⟨p,ys,rfl,h,q⟩
 | [.ref p],.inr ⟨kvs,h,q⟩=>exact call_lenD pins s σ H _ us Q I r ⟨p,kvs,rfl,h,q⟩
theorem sl_str:SlR X (fun x lo b H Q=>∃ z,x=.str z/\z.length<=sizeLine/\Q (.str (Txt.slice z lo b)) H):=by
 intro pins s σ H x v f g lo b e Q I d a pl c h;obtain ⟨z,rfl,hz,q⟩:=h;obtain ⟨t,rfl⟩:=d;refine ⟨"str",_,F.slot_str_getitem.lookup,typeIs_str _ _ _,?_⟩
 cases pl with
 | none =>
  cases c with
  | none=>exact xJ (l:=none) (u:=none) (st:=none) a rfl (XV ⟨yi (kQ z _ _) hz,fun t' k=>⟨.str _,H,I.tok _,⟨_,rfl⟩,q⟩⟩)
  | int j uj=>exact xJ (l:=none) (u:=some (j,uj)) (st:=none) a rfl (XV ⟨yi (kQ z _ _) hz,fun t' k=>⟨.str _,H,I.tok _,⟨_,rfl⟩,q⟩⟩)
 | int i ui =>
  cases c with
  | none=>exact xJ (l:=some (i,ui)) (u:=none) (st:=none) a rfl (XV ⟨yi (kQ z _ _) hz,fun t' k=>⟨.str _,H,I.tok _,⟨_,rfl⟩,q⟩⟩)
  | int j uj=>exact xJ (l:=some (i,ui)) (u:=some (j,uj)) (st:=none) a rfl (XV ⟨yi (kQ z _ _) hz,fun t' k=>⟨.str _,H,I.tok _,⟨_,rfl⟩,q⟩⟩)
def qgV (K:yg):V->Option Int->Option Int->Hp->VK->Prop:=fun x lo b H Q=>match x with
 | .str z=>z.length<=sizeLine/\Q (.str (Txt.slice z lo b)) H
 | .ref a=>qgN K (.ref a) lo b H Q\/qgJ K (.ref a) lo b H Q
 | _=>False
theorem u_sl:SlR X (qgV X.K):=by
 intro pins s σ H x v g i lo b f Q I e c pl d h
 cases x with
 | str z=>exact sl_str pins s σ H _ v g i lo b f Q I e c pl d ⟨z,rfl,h.1,h.2⟩
 | ref a=>exact h.elim (fun h=>sl_list pins s σ H _ v g i lo b f Q I e c pl d h) fun h=>sl_tup pins s σ H _ v g i lo b f Q I e c pl d h
 | _=>exact False.elim h
theorem qej:∀ {ys:List Str} {us:List Value},Vals (ys.map V.str) us->StrsAre us ys
 | [],_,.nil=>.nil
 | y::ys,_,.cons r t=>by
  obtain ⟨tk,rfl⟩:=r;exact .cons y tk (qej t)
def qf2 (K:yg):V->List V->Hp->VK->Prop:=fun x vs H Q=>∃ (z:Str) (p:Addr) (ys:List Str),x=.str z/\vs=[.ref p]/\SqL K H p (ys.map V.str)/\(ys.map (·.length)).sum+ys.length*z.length<=16777216/\Q (.str (Txt.join z ys)) H
theorem mt_join:MtR X "str.join" (qf2 X.K):=by
 intro pins s σ H x vs v us Q I d c h;obtain ⟨z,p,ys,rfl,rfl,a,hz,q⟩:=h;obtain ⟨t,rfl⟩:=d;obtain ⟨u,rfl,b⟩:=c.one;cases b;obtain ⟨its,r,pl,_⟩:=I.list a;exact join_list pl.isList (by simpa using qej r) hz fun t' k=>⟨.str _,H,I.tok _,⟨_,rfl⟩,q⟩
def qgu (K:yg) (te:TE):TI:=fun σ H R=>te σ H fun v b=>match v with
 | .str x=>R (Its x) b
 | .ref a=>((∃ xs,SqL K b a xs)/\R (Itl K a) b)\/((∃ xs,SqT K b a xs)/\R (Itt K a) b)
 | _=>False
theorem pi_any {e:Expr} (u:PE X e te) (g:∀ it v,letOwnedTupleGo tg it v=pure ():=by intro _ _;rfl):PI X tg e (qgu X.K te):=by
 intro pins s σ H R I h;refine thn (u pins s σ H _ I h) fun v c ⟨y,f,d,r,j⟩=>?_
 cases y with
 | str x =>
  obtain ⟨t,rfl⟩:=r
  have fp:∀ b∈[c.heap.objs.size],qcY X pins f b:=fun b hb=>by
   have e:b=c.heap.objs.size:=by simpa using hb
   subst e;exact d.fpOk (yh _) (d.hok.fresh (yh _))
  cases n:x.cps.all (· < 128)
  .exact wpAny_pyIter_wide n ⟨c.heap.objs.size,[c.heap.objs.size],_,_,f,rfl,d.kept (t':=c.toks) fun b o e=>yv _ e,
    qdy (T:="str_iterator") (fun A l=>Walks.strWide l _ x t) (fun A i s Q E st h=>wpAny_pyIter_striter_wide st h) (g _),⟨_,yW _ rfl,rfl,rfl⟩,fp,j⟩
  .exact wpAny_pyIter_ascii n ⟨c.heap.objs.size,[c.heap.objs.size],_,_,f,rfl,d.kept (t':=c.toks) fun b o e=>yv _ e,
    qdy (T:="str_ascii_iterator") (fun A l=>Walks.strAscii l _ x t) (fun A i s Q E st h=>wpAny_pyIter_striter_ascii st h) (g _),⟨_,yW _ rfl,rfl,rfl⟩,fp,j⟩
 | ref a =>
  cases r
  have fp:∀ b∈[c.heap.objs.size],qcY X pins f b:=fun b hb=>by
   have e:b=c.heap.objs.size:=by simpa using hb
   subst e;exact d.fpOk (yh _) (d.hok.fresh (yh _))
  rcases j with ⟨⟨xs,m⟩,q⟩ | ⟨⟨xs,m⟩,q⟩
  .obtain ⟨its,w,p,hz⟩:=d.list m;exact kj p.isList ⟨c.heap.objs.size,[c.heap.objs.size],_,_,f,rfl,d.kept (t':=c.toks) fun b o e=>yv _ e,qco a _,⟨_,yW _ rfl,rfl,rfl⟩,fp,q⟩
  .obtain ⟨its,w,p,hz⟩:=d.tuple m;exact wpAny_pyIter_tuple (show c.heap.IsTuple a its.toArray from p) ⟨c.heap.objs.size,[c.heap.objs.size],_,_,f,rfl,d.kept (t':=c.toks) fun b o e=>yv _ e,turn_tuple a _,⟨_,yW _ rfl,rfl,rfl⟩,fp,q⟩
 | _=>exact False.elim j
end
section
variable {D:Ends} {σ:St} {H:Hp} {Q:VK} {QT:Bool->Hp->Prop} {QA:List V->Hp->Prop} {t u:TS} {te ta tb tc:TE} {c c':TT} {tr tas:TA} {r r':R2} {K:yg}
theorem vSeq (h:t { D with nx:=u D } σ H):qgm t u D σ H:=h
theorem vAsg {i:Nat} (h:te σ H fun x a=>D.nx (σ.set i (some x)) a):qfL te (qbZ i) D σ H:=h
theorem vAsgS {to a:TE} {s:qfT} (h:te σ H fun x b=>to σ b fun o c=>a σ c fun i d=>s o i x d fun e=>D.nx σ e):qfL te (qgE to a s) D σ H:=h
theorem vIfS (h:c σ H fun b a=>if b=true then t D σ a else u D σ a):qgB c t u D σ H:=h
theorem vRet (h:te σ H D.rt):qgA te D σ H:=h
theorem vRetN (h:D.rt .non H):qfS D σ H:=h
theorem vDrop (h:te σ H fun _ a=>D.nx σ a):qfR te D σ H:=h
theorem vNext (h:D.nx σ H):qfQ D σ H:=h
theorem vC (h:Q v H):tC v σ H Q:=h
theorem vVar {i:Nat} (e:σ[i]?=some (some v)) (h:Q v H):qgl i σ H Q:=⟨v,e,h⟩
theorem vOp (h:ta σ H fun x a=>tb σ a fun y b=>r x y b Q):tOp r ta tb σ H Q:=h
theorem vUn {f:V->Hp->VK->Prop} (h:ta σ H fun x a=>f x a Q):tUn f ta σ H Q:=h
theorem vChain (h:ta σ H fun x b=>tb σ b fun y c=>r x y c fun z a=>∃ k,z=.bl k/\if k=true then tc σ a fun e d=>r' y e d Q else Q (.bl false) a):qd4 r r' ta tb tc σ H Q:=h
theorem vNil (h:QA [] H):qgi σ H QA:=h
theorem vCons (h:ta σ H fun x a=>tr σ a fun xs b=>QA (x::xs) b):qfW ta tr σ H QA:=h
theorem vCB {f:List V->Hp->VK->Prop} (h:tas σ H fun vs a=>f vs a Q):tCB f tas σ H Q:=h
theorem vCall {sp:Sp} {E:XK} (h:tas σ H fun vs a=>sp (vs++[]) a Q E):qfw sp [] E tas σ H Q:=h
theorem vLst (h:tas σ H fun xs a=>xs.length<=sizeLine/\∀ p,a p=none->Q (.ref p) (upd a p (.lst xs))):qgI tas σ H Q:=h
theorem vTup (h:tas σ H fun xs a=>xs.length<=sizeLine/\∀ p,a p=none->Q (.ref p) (upd a p (.tup xs))):qgH tas σ H Q:=h
theorem vTest (h:te σ H fun x H'=>∃ k,x=.bl k/\QT k H'):qfv te σ H QT:=h
theorem vB (h:te σ H fun x H'=>∃ k,x=.bl k/\QT k H'):tB te σ H QT:=h
theorem vNot (h:c σ H fun b a=>QT (!b) a):qgz c σ H QT:=h
theorem vAnd (h:c σ H fun b a=>if b=true then c' σ a QT else QT false a):qgy c c' σ H QT:=h
theorem vOr (h:c σ H fun b a=>if b=true then QT true a else c' σ a QT):tOr c c' σ H QT:=h
theorem vAndV (h:ta σ H fun x a=>∃ k,x=.bl k/\if k=true then tb σ a Q else Q (.bl false) a):qfP ta tb σ H Q:=h
theorem vOrV (h:ta σ H fun x a=>∃ k,x=.bl k/\if k=true then Q (.bl true) a else tb σ a Q):tOrV ta tb σ H Q:=h
theorem vNotV (h:ta σ H fun x a=>∃ k,x=.bl k/\Q (.bl (!k)) a):tNotV ta σ H Q:=h
theorem vIf (h:c σ H fun b a=>if b=true then ta σ a Q else tb σ a Q):tIf c ta tb σ H Q:=h
theorem vYes (h:QT true H):qgR σ H QT:=h
theorem vI0 {g:Int->Int->V} (h:Q (g i j) H):rI0 g (.int i) (.int j) H Q:=⟨i,j,rfl,rfl,h⟩
theorem vI {C:Int->Int->Prop} {g:Int->Int->V} (hc:C i j) (h:Q (g i j) H):rI C g (.int i) (.int j) H Q:=⟨i,j,rfl,rfl,hc,h⟩
theorem vU {g:Int->V} (h:Q (g i) H):rU g (.int i) H Q:=⟨i,rfl,h⟩
theorem vEqI (h:Q (.bl (decide (i=j))) H):rEq (.int i) (.int j) H Q:=⟨rfl,by
 have e:decide (V.int i=V.int j)=decide (i=j):=by
  by_cases h:i=j
  .subst h;simp
  .rw [yl h,yl (fun e=>h (V.int.inj e))]
 rw [e];exact h⟩
theorem vEqB {i j:Bool} (h:Q (.bl (i==j)) H):rEq (.bl i) (.bl j) H Q:=⟨rfl,by rw [dec_bl];exact h⟩
theorem zc (b:H p=some (.lst xs)) (a:atI xs i=some v) (h:Q v H):rIx K (.ref p) (.int i) H Q:=.inl ⟨p,xs,i,v,rfl,rfl,SqL.of b,a,h⟩
theorem vIxLs (b:SqL K H p xs) (a:atI xs i=some v) (h:Q v H):rIx K (.ref p) (.int i) H Q:=.inl ⟨p,xs,i,v,rfl,rfl,b,a,h⟩
theorem qaw (b:H p=some (.tup xs)) (a:atI xs i=some v) (h:Q v H):rIx K (.ref p) (.int i) H Q:=.inr (.inl ⟨p,xs,i,v,rfl,rfl,SqT.of b,a,h⟩)
theorem vIxS {ch:Nat} (hz:z.length<=sizeLine) (a:atI z.cps.toList i=some ch) (h:Q (.str ⟨#[ch]⟩) H):rIx K (.str z) (.int i) H Q:=.inr (.inr ⟨z,i,ch,rfl,rfl,hz,a,h⟩)
theorem qeZ {k:Int} {j:Nat} {a:Hp->Prop} (c:H p=some (.lst xs)) (b:ixN xs.length k=some j) (h:a (upd H p (.lst (xs.set j v)))):qfy (.ref p) (.int k) v H a:=⟨p,xs,k,j,rfl,rfl,c,b,h⟩
theorem vEx {k:Bool} {P:Bool->Prop} (h:P k):∃ k',V.bl k=.bl k'/\P k':=⟨k,rfl,h⟩
theorem vLeI (h:Q (.bl (decide (i<=j))) H):qgt (.int i) (.int j) H Q:=h
theorem vLeS {i j:Str} (h:Q (.bl (!decide (j.cps.toList<i.cps.toList))) H):qgt (.str i) (.str j) H Q:=h
theorem vIsB {i j:Bool} (h:Q (.bl (i==j)) H):qgT (.bl i) (.bl j) H Q:=h
theorem vAddI (h:Q (.int (i+j)) H):qc4 K (.int i) (.int j) H Q:=h
theorem qf3 {i j:Str} (hz:i.length+j.length<=sizeLine) (h:Q (.str (i++j)) H):qc4 K (.str i) (.str j) H Q:=⟨hz,h⟩
theorem qb2 (hc:CMul i j) (h:Q (.int (i*j)) H):qf1 (.int i) (.int j) H Q:=⟨hc,h⟩
theorem vLenS (hz:z.length<=sizeLine) (h:Q (.int z.length) H):qc5 K [.str z] H Q:=⟨hz,h⟩
theorem qek (a:H p=some (.lst ys)) (h:Q (.int ys.length) H):qc5 K [.ref p] H Q:=.inl ⟨ys,.inl (SqL.of a),h⟩
theorem zY (a:SqL K H p ys) (h:Q (.int ys.length) H):qc5 K [.ref p] H Q:=.inl ⟨ys,.inl a,h⟩
theorem qfA (a:H p=some (.tup ys)) (h:Q (.int ys.length) H):qc5 K [.ref p] H Q:=.inl ⟨ys,.inr (SqT.of a),h⟩
theorem vSl {f:V->Option Int->Option Int->Hp->VK->Prop} {tl a:TO} (h:te σ H fun x b=>tl σ b fun l c=>a σ c fun u d=>f x l u d Q):tSl f te tl a σ H Q:=h
theorem vNoPart (h:QO none H):qd9 σ H QO:=h
theorem vPart (h:te σ H fun x a=>∃ i,x=.int i/\QO (some i) a):qfX te σ H QO:=h
theorem vExI {P:Int->Prop} (h:P i):∃ j,V.int i=.int j/\P j:=⟨i,rfl,h⟩
theorem vBM (h:te σ H fun x a=>tyV K T x a/\tas σ a fun xs b=>f x xs b Q):tBM K T f te tas σ H Q:=h
theorem vBM0 (h:te σ H fun x a=>tyV K T x a/\f x [] a Q):qgq K T f te σ H Q:=h
theorem vComp (h:wi σ H fun J a=>qei J g c te (qd0 nl ixs σ) a Q):qfz wi g c te nl ixs σ H Q:=h
theorem vFor (h:wi σ H fun J d=>∃ W:Nat->Nat->St->Hp->Prop,(∃ m,W 0 m σ d)/\∀ i m σ H,W i m σ H ->
 (J.stop i H/\D.nx σ H)\/(J.go i H/\∃ N:St->Hp->Prop,(∀ a H',N a H'->∃ c,c<m/\W (i+1) c a H')/\∀ x H',J.yld i H x H'->g x σ H' fun b e=>t { D with nx:=N,ct:=N,bk:=D.nx } b e)):qgF wi g t D σ H:=h
theorem vRng1 (h:tas σ H fun vs a=>∃ j:Int,vs=[.int j]/\-(2 ^ 62)<=j/\j<2 ^ 62/\R (Itr 0 j.toNat) a):qfU tas σ H R:=h
theorem vAny (h:te σ H fun v b=>match v with
 | .str x=>R (Its x) b
 | .ref a=>((∃ xs,SqL K b a xs)/\R (Itl K a) b)\/((∃ xs,SqT K b a xs)/\R (Itt K a) b)
 | _=>False):qgu K te σ H R:=h
theorem vGN {i:Nat} {a:St->Hp->Prop} (h:a (σ.set i (some v)) H):qbZ i v σ H a:=h
theorem atI_lt {xs:List α} (b:0<=i) (h1:i<xs.length):∃ v,atI xs i=some v/\xs[i.toNat]?=some v:=by
 obtain ⟨n,rfl⟩:=Yv b;have a:n<xs.length:=by omega
 exact ⟨xs[n],qy (by simp [a]),by simp [a]⟩
end
section
variable {X:Cx} {K:yg} {o e:Expr} {es:List Expr} {to ta:TE} {t:TA} {name f:Str} {apos cpos pos:Pos} {T id:String} {r:V->List V->Hp->VK->Prop} {tg:Expr}
theorem zh (a:X.K=K):zv X (.builtin "len") (qc5 K):=by subst a;exact call_lenU
theorem qfB (a:X.K=K) (hc:X.calm=true):zv X (.builtin "all") (qgS K):=by subst a;exact call_all hc
theorem qe9 (a:X.K=K):SlR X (qgV K):=by subst a;exact u_sl
theorem zy (a:X.K=K):OpR X (binaryOp .Add) (qc4 K):=by subst a;exact u_add
theorem qfa (a:X.K=K):MtR X "str.join" (qf2 K):=by subst a;exact mt_join
theorem qT (b:X.K=K) (c:PE X e ta) (a:∀ it v,letOwnedTupleGo tg it v=pure ():=by intro _ _;rfl):PI X tg e (qgu K ta):=by subst b;exact pi_any c a
theorem qf4 (e:X.K=K) (h:PlainAttrs T) (c:Slot T name id) (d:typeOf (.builtin id)=pure (.type "method_descriptor")) (f:MtR X id r) (g:PE X o to)
  (a:attributeBase o name X.env (eval o X.env)=eval o X.env:=by rfl) (b:(apos.endLine==cpos.line)=true:=by rfl):PE X (.Call (.Attribute o name apos) [] [] cpos) (qgq K T r to):=by
 subst e;exact pe_bm0 h c d f g a b
theorem qbf (h:X.K=K) (n:PlainAttrs T) (f:Slot T name id) (g:typeOf (.builtin id)=pure (.type "method_descriptor")) (j:MtR X id r) (l:PE X o to) (i:PA X (e::es) t)
  (b:attributeBase o name X.env (eval o X.env)=eval o X.env:=by rfl)
  (d:((backTo cpos (starEach (e::es) X.env)).all (fun x=>!x.1)&&(backToKw cpos (keywordEach [] X.env)).all (fun x=>x.1.isSome)
   && decide ((e::es).length+([]:List Keyword).length+(if ([]:List Keyword).isEmpty then 0 else 1)<30))=true:=by rfl)
  (c:(apos.endLine==cpos.line)=true:=by rfl) (m:starEach (e::es) X.env=(false,eval e X.env)::starEach es X.env:=by rfl) (a:(backTo cpos (starEach es X.env)).any (·.1)=false:=by rfl) :
  PE X (.Call (.Attribute o name apos) (e::es) [] cpos) (tBM K T r to t):=by
 subst h;exact pe_bm n f g j l i b d c m a
end
structure DefOk (P:Program) (w:World) (K:yg) (mg:Str->Option Value) (base:Heap) (CX:CXT) (k:Nat) (x:Str) (ps:List Str) (sp:Sp):Prop where
 ex:∃ f fd,FnOk P w K mg base CX k f fd ps sp/\mg x=some (.ref f)/\PySem.W.keepIn K (.ref f)=true/\Binds K fd ps []
section
variable {X:Cx} {CX:CXT} {k:Nat} {ps:List Str} {sp:Sp} {E:XK} {x:Str} {p pos:Pos} {e:Expr} {es:List Expr} {t:TA}
theorem qv (D:DefOk X.prog X.w X.K X.mg X.base CX k x ps sp) (j:Room k X.A) (l:qba CX X E) (c:PA X (e::es) t) (g:Gl X x:=by rfl) (a:(x==("__debug__":Str))=false:=by decide)
  (d:starEach (e::es) X.env=(false,eval e X.env)::starEach es X.env:=by rfl) (b:(backTo pos (starEach es X.env)).any (·.1)=false:=by rfl):PE X (.Call (.Name x p) (e::es) [] pos) (qfw sp [] E t):=by
 obtain ⟨f,m,F,i,h,hb⟩:=D.ex;exact pe_call F j g i h hb .nil l c a d b
theorem qb3 (c:Gl X x) (a:∃ tk,X.mg x=some (.int i tk)) (b:(x==("__debug__":Str))=false:=by decide):PE X (.Name x pos) (tC (.int i)):=by
 obtain ⟨tk,a⟩:=a;exact pe_glob c a ⟨tk,rfl⟩ b
end
noncomputable def isaT (t c:String):Bool:=t==c||(t=="bool"&&c=="int")
theorem zG (K:yg):∀ t∈["NoneType","bool","int","str","list","tuple","dict"],∀ c∈["bool","int","str","list","tuple","dict"],PySem.W.kitOne K (.type t) (.type c)=some (isaT t c):=by
 intro t a c hc;simp only [yB,Yd,Y0] at a hc;rcases a with rfl | rfl | rfl | rfl | rfl | rfl | rfl<;>rcases hc with rfl | rfl | rfl | rfl | rfl | rfl<;>rfl
noncomputable def qfb:List Value->Bool
 | [.type a,.type b,.type c,.type d]=>a=="ValueError"&&b=="Exception"&&c=="BaseException"&&d=="object"
 | .ref _::r=>qfb r
 | _=>false
noncomputable def xcIn (K:yg) (C:Addr):Bool:=match K.lookup C with
 | some ⟨.type "type",_,.cls cd,sl⟩=>(match cd.mro,sl.toList with
  | .ref D::bm,[_,_,_,_,some (.builtin n),_]=>D==C&&!cd.hasDel&&qfb bm&&n=="ValueError.__new__"
  | _,_=>false)
 | _=>false
structure XAt (K:yg) (C:Addr):Prop where
 ga:PySem.W.findIn K (.ref C) "__getattribute__"=some (some (.builtin "BaseException.__getattribute__"))
 gn:PySem.W.findIn K (.ref C) "__getattr__"=some none
 bx:PySem.W.mroIn K C (.type "BaseException")=some true
 ob:PySem.W.mroIn K C (.type "object")=some true
 hd:PySem.W.hasDictIn K C=true
 cl:PySem.W.findIn K (.ref C) "__class__"=some (some (.builtin "object.__class__"))
 cg:PySem.W.specialIn K (.builtin "object.__class__") "__get__"=some (some (.builtin "getset_descriptor.__get__"))
 ct:PySem.W.takesIn K (.builtin "object.__class__")=some true
 sa:PySem.W.findIn K (.ref C) "__setattr__"=some (some (.builtin "object.__setattr__"))
 mr:(PySem.W.clsIn K C).any (fun cd=>qfb cd.mro)=true
 xc:xcIn K C=true
theorem bexc_ga_slot:Slot "ValueError" "__getattribute__" "BaseException.__getattribute__":=PySem.F.attr_ValueError.ga
section
variable {prog:Program} {w:World} {A:Around} {E:Value->Shared->Prop} {s:Shared} {K:yg} {x C:Addr} {ox:Obj} {od:Option Obj} {name:Str} {v:Value}
theorem xga_value {Q:Fin->Shared->Prop} (X:K.In s.heap) (I:PySem.W.InstAt s.heap x ox C od) (a:PySem.W.findObj K C od name=some (.value v)) (h:Q (.done (.ret v)) s) :
  wpAny (model prog w) A (Builtin.«object.__getattribute__» ⟨[.ref x,.str name tk],[]⟩) Q E s:=by
 have F:=PySem.W.looks_find (M:=model prog w) X I a;refine yr (yu (yr (yu (yr (I.type.here (yr (F.here ?_)))))));exact yu h
theorem xga_call {R:Result->Shared->Prop} (X:K.In s.heap) (I:PySem.W.InstAt s.heap x ox C od) (hb:PySem.W.mroIn K C (.type "BaseException")=some true)
  (h:wpAny (model prog w) A.in1 (Builtin.«object.__getattribute__» ⟨[.ref x,.str name tk],[]⟩) (fun b a=>match b with | .done f=>R (.ok f) a | .again c'=>c'.quiet=true/\codeAny (model prog w) A c' R a) (fun e a=>R (.error e) a) s) :
  codeAny (model prog w) A (.call (.builtin "BaseException.__getattribute__") ⟨[.ref x,.str name tk],[]⟩) R s:=by
 refine Xb bexc_ga_slot.plain PySem.F.entry_bexc_ga ?_;exact @PySem.W.check_slot (model prog w) _ _ s "BaseException.__getattribute__" "BaseException" "__getattribute__" (.ref x) [.str name tk] [] _ (by decide +kernel) (by decide +kernel) (I.type.andThen (xz X hb)) (PySem.F.args_bexc_ga _ _) h
theorem qel {b:Bool} {Q:Value->Shared->Prop} (X:K.In s.heap) (I:PySem.W.InstAt s.heap x ox C od) (c:XAt K C)
  (h:wpAny (model prog w) A.in1 (Builtin.«object.__getattribute__» ⟨[.ref x,.str name tk],[]⟩) (fun a d=>match a with | .done (.ret v)=>wpAny (model prog w) A (handedOut v) Q E d | _=>False) (fun _ _=>False) s) :
  wpAny (model prog w) A (getAttrBy (.ref x) (.str name tk) b expr) Q E s:=by
 unfold getAttrBy;refine Yk (yr (I.type.here (yr ((Y3 X c.ga).here ?_))))
 have e:(onTheHeap (Value.ref C)&&Value.builtin "BaseException.__getattribute__"==Value.builtin "object.__getattribute__")=false:=by
  rw [show (Value.builtin "BaseException.__getattribute__"==Value.builtin "object.__getattribute__")=false by decide +kernel];rfl
 dsimp only;rw [e,yy (by decide)];unfold getAttrByItsOwn hookBefore;rw [yD (show onTheHeap (Value.ref C)=true from rfl)];refine yr ((Y3 X c.gn).here (yr (kC (Yk ?_))));have f:(expr&&onTheHeap (Value.builtin "BaseException.__getattribute__"))=false:=by cases expr<;>rfl
 unfold callGetattribute;rw [f,yy (by decide)];unfold boundAndCalled;rw [bexc_ga_slot.bind];refine yr (yu ?_);show wpAny _ _ (call (.builtin "BaseException.__getattribute__") [.ref x,.str name tk]) _ _ _;refine X7 (xga_call X I c.bx (YU h (fun a d z=>?_) fun _ _ z=>z.elim));rcases a with (_ | _ | _ | _) | _<;>first | exact z | exact z.elim
theorem xget {Q:Value->Shared->Prop} (X:K.In s.heap) (I:PySem.W.InstAt s.heap x ox C od) (c:XAt K C) (a:PySem.W.findObj K C od name=some (.value v)) (b:PySem.W.handedIn v=true)
  (h:Q v { s with toks:=s.toks+1 }):wpAny (model prog w) A (getAttr (.ref x) name expr) Q E s:=by
 unfold getAttr;refine yr (wpAny_mkText (qel (s:={ s with toks:=s.toks+1 }) X I c (xga_value (s:={ s with toks:=s.toks+1 }) X I a ?_)));show wpAny _ _ (handedOut v) _ _ _;rw [PySem.W.handedOut_of b];exact yu h
theorem xclass {Q:Option Value->Shared->Prop} (X:K.In s.heap) (I:PySem.W.InstAt s.heap x ox C od) (c:XAt K C) (a:PySem.W.findObj K C od "__class__"=some (.bind (.builtin "getset_descriptor.__get__") (.builtin "object.__class__")))
  (h:Q (some (.ref C)) { s with toks:=s.toks+1 }):wpAny (model prog w) A (getAttr? (.ref x) "__class__") Q E s:=by
 unfold getAttr? getAttrBy?;refine yr (wpAny_mkText (yr (kC (qel (s:={ s with toks:=s.toks+1 }) X I c ?_))));have F:=PySem.W.looks_find (M:=model prog w) X I a;refine yr (yu (yr (yu (yr (I.type.here (s:={ s with toks:=s.toks+1 }) (yr (F.here (s:={ s with toks:=s.toks+1 }) ?_)))))));show wpAny _ _ (holding [Value.builtin "object.__class__"] (call (.builtin "getset_descriptor.__get__") [.builtin "object.__class__",.ref x,.ref C])>>=ret) _ _ _;refine yr (Yk (X7 (PySem.W.class_get (s:={ s with toks:=s.toks+1 }) X I c.ob ?_)));refine yu ?_;show wpAny _ _ (handedOut (.ref C)) _ _ _;exact yu (yu h)
theorem findObj_class (c:XAt K C):PySem.W.findObj K C od "__class__"=some (.bind (.builtin "getset_descriptor.__get__") (.builtin "object.__class__")):=by
 obtain ⟨a,hc,_⟩:=xE c.hd;unfold PySem.W.findObj;rw [hc,Option.bind_some,c.cl,Option.bind_some];simp [c.cg,c.ct]
theorem qdA (c:XAt K C):PySem.W.KitX K (.ref x) (.ref C) (fun h=>PySem.W.InstAt h x ox C od) where
 ty:=fun _ _ _ I=>I.type
 it:=fun _ _ X _=>by
  obtain ⟨b,hc,_⟩:=xE c.hd;unfold PySem.W.clsIn at hc;split at hc
  .rename_i c1 d1 cd1 sl1 ho
   intro f i g l k q;unfold isType loadHead;exact yr (wpAny_loadPart (k _ _ (X _ _ ho)) (yu q))
  .cases hc
 ne:=fun h d j its n m X a=>by
  obtain ⟨b,hc,_⟩:=xE c.hd;refine Bool.eq_false_iff.mpr fun q=>?_;have e:C=d:=Value.ref.inj (Ys.mp q);subst e;unfold PySem.W.clsIn at hc;split at hc
  .rename_i c1 d1 cd1 sl1 ho
   have z:=(X _ _ ho).symm.trans a;cases z
  .cases hc
 ca:=fun X I k=>xclass X I c (findObj_class c) k
end
theorem qcF {r:List Value} (e:qfb (.ref c::r)=true):qfb r=true:=by
 cases r with
 | nil=>cases e
 | cons a r=>exact e
theorem qcG:∀ {l:List Value},qfb l=true->∃ f:List Addr,l=f.map Value.ref++[.type "ValueError",.type "Exception",.type "BaseException",.type "object"]
 | [],e=>by cases e
 | .ref c::r,e=>by
  obtain ⟨f,q⟩:=qcG (qcF e);exact ⟨c::f,by rw [q];rfl⟩
 | .type a::r,e=>by
  match r,e with
  | [.type b,.type c,.type d],e =>
   simp only [qfb,yU,Ys] at e;obtain ⟨⟨⟨rfl,rfl⟩,rfl⟩,rfl⟩:=e;exact ⟨[],rfl⟩
theorem refuse_exc (self:Value) {l:List Value} (e:qfb l=true):refuseLoop self "__setattr__" l=pure ():=by
 obtain ⟨a,rfl⟩:=qcG e
 induction a with
 | nil=>exact PySem.F.store_ValueError.passes self
 | cons c a ih=>rw [Yt,kF,refuseLoop_ref];exact ih (qcF e)
section
variable {prog:Program} {w:World} {A:Around} {E:Value->Shared->Prop} {s:Shared} {K:yg} {x C:Addr} {name:Str} {v:Value} {R:Result->Shared->Prop}
theorem xosa (X:K.In s.heap) (I:PySem.W.InstAt s.heap x ox C od) (c:XAt K C) (n:NoAttr K C name)
  (h:wpAny (model prog w) A.in1 (Builtin.ObjectAttr.storeInOwnDict (.ref x) (.ref C) (.str name tk) name v false)
   (fun d b=>match d with | .done f=>R (.ok f) b | .again c'=>c'.quiet=true/\codeAny (model prog w) A c' R b) (fun e b=>R (.error e) b) s) :
  codeAny (model prog w) A (.call (.builtin "object.__setattr__") ⟨[.ref x,.str name tk,v],[]⟩) R s:=by
 have a:=PySem.F.store_object;obtain ⟨g,hc,j⟩:=xE c.mr;have i:PySem.W.Looks (model prog w) s.heap (mroOf (.ref C)) g.mro:=(X1 X hc).andThen .now;refine Xb a.slot.plain a.entry (@PySem.W.check_slot (model prog w) _ _ s "object.__setattr__" "object" "__setattr__" (.ref x) [.str name tk,v] [] _ a.kind a.split (I.type.andThen (xz X c.ob)) (a.args (.ref x) (.str name tk) v) ?_);rw [PySem.W.osa_eq,refuse_eq];refine yr (yr (I.type.here (yr (i.here ?_))));rw [refuse_exc _ j];refine yu (yr (I.type.here (yr ((Y3 X n).here (yr (yu ?_))))));exact h
theorem xset {vs:Array Value} (X:K.In s.heap) (m:s.heap.get? x=some ⟨.ref C,none,.fields vs,#[]⟩) (c:XAt K C) (n:NoAttr K C name) {Q:Unit->Shared->Prop}
  (h:∀ h',h'.get? x=some ⟨.ref C,some s.heap.objs.size,.fields vs,#[]⟩->h'.Ns1 s.heap.objs.size (fun y=>if y=name then some v else none)->(∀ b o,b≠x->s.heap.get? b=some o->h'.get? b=some o) ->
   Q () { s with heap:=h',toks:=s.toks+2 }):wpAny (model prog w) A (setAttr (.ref x) name v) Q E s:=by
 have I:PySem.W.InstAt s.heap x ⟨.ref C,none,.fields vs,#[]⟩ C none:=⟨m,rfl,rfl,YV⟩;obtain ⟨J,hc,F⟩:=xE c.hd;refine PySem.W.set_plain X I c.sa (xosa (s:={ s with toks:=s.toks+1 }) X I c n ?_);refine yr (yu (yr (yr (wpAny_loadPart m (yr ((X1 X hc).here (s:={ s with toks:=s.toks+1 }) ?_))))));rw [F];obtain ⟨a,g,L,tk,N⟩:=s;show wpAny _ _ (alloc { cls:=.type "dict",data:=.dict #[] }>>=fun d=>update x (fun o=>{ cls:=o.cls,dict:=some d,data:=o.data,slots:=o.slots })>>=fun _=>pure (some d)) _ _ _;have l:x≠a.objs.size:=yI (yQ m);have i:=yv { cls:=.type "dict",data:=.dict #[] } m;refine yr (wpAny_alloc' (yr (wpAny_update' i (yu ?_))));have j:=YZ (fun o:Obj=>{ cls:=o.cls,dict:=some a.objs.size,data:=o.data,slots:=o.slots }) i rfl;have f:=(X2 (a.push { cls:=.type "dict",data:=.dict #[] }) a.objs.size x (fun o:Obj=>{ cls:=o.cls,dict:=some a.objs.size,data:=o.data,slots:=o.slots }) l.symm).trans (Heap.get?_push_at rfl rfl);generalize H:(a.push { cls:=.type "dict",data:=.dict #[] }).update x (fun o:Obj=>{ cls:=o.cls,dict:=some a.objs.size,data:=o.data,slots:=o.slots })=h2 at j f ⊢;have nd:h2.Ns a.objs.size (fun _=>none):=⟨_,#[],_,f,rfl,fun e G=>absurd G (by simp),fun _=>rfl⟩;show wpAny _ _ (Builtin.ObjectAttr.storeInDict a.objs.size (.str name tk) name v) _ _ _;unfold Builtin.ObjectAttr.storeInDict Builtin.ObjectAttr.newKeyGuard;refine yr (yu (yr (wpAny_nsSet1 (Heap.Ns1.of_empty nd) fun h' z B=>?_)));obtain ⟨M,p,D,u,r,q⟩:=z.count (PySem.Within.cons name v PySem.Within.nil);have hz:p.size<=sizeLine:=yi q (by rw [yC,xo,YB];omega);refine yr (wpAny_lookBehind u (by rw [r];exact pastItsLine_dict (km hz)) ?_);refine yu (h h' ((B.2 x l).trans j) z fun b o hb e=>(B.2 b (yI (yQ e))).trans ?_);rw [<- H];exact (X2 _ _ _ _ hb).trans (yv _ e)
noncomputable abbrev xfs (a:Addr):Array Value:=#[.ref a,.none,.none,.none,.bool false,.none]
end
section
variable {prog:Program} {w:World} {A:Around} {R:Result->Shared->Prop} {E:Value->Shared->Prop} {h:Heap} {g:Array GenState} {d:Drawn} {t:Nat} {os:OsState}
variable {nm q:Str} {C N:Addr} {bs bm:List Value} {hdct:Bool} {sn:List Str} {sub:List Value} {ab:Bool} {col:Option Bool} {dd:Option Addr} {k0 k1 k2 k3 k5:Option Value}
end
noncomputable def XN (e C:Addr) (dx:Option Addr):HO:=.ext fun h=>∃ a,h.get? e=some ⟨.ref C,dx,.fields (xfs a),#[]⟩
noncomputable def XO (e C:Addr) (dx:Option Addr):HO:=.ext fun h=>∃ vs,h.get? e=some ⟨.ref C,dx,.fields vs,#[]⟩
theorem XN.ok {b:Addr} (q:h.get? e=some ⟨.ref C,dx,.fields (xfs b),#[]⟩):ObjOk P w H h e (XN e C dx):=
 ⟨⟨b,q⟩,⟨_,q⟩,fun _ _ ⟨a,x⟩ k=>⟨a,k _ x⟩⟩
def IsX (H:Hp) (e C:Addr) (dx:Option Addr):Prop:=H e=some (XN e C dx)\/H e=some (XO e C dx)
theorem IsX.get (q:IsX H e C dx) (b:HOk P w H h):∃ vs,h.get? e=some ⟨.ref C,dx,.fields vs,#[]⟩:=by
 rcases q with q | q
 .obtain ⟨⟨a,x⟩,_⟩:=(show ObjOk P w H h e (XN e C dx) from b e _ q);exact ⟨_,x⟩
 .obtain ⟨⟨a,x⟩,_⟩:=(show ObjOk P w H h e (XO e C dx) from b e _ q);exact ⟨_,x⟩
section
variable {X:Cx} {pins:List (Addr×Obj)} {σ:St} {H:Hp} {s:Shared} {e C:Addr} {dx:Option Addr}
theorem qfc (I:Inv X pins σ H s) {d:Addr} {fs:List (Str×V)} (h:H d=some (.xd fs)):∃ (od:Obj) (a:Str->Option Value),s.heap.get? d=some od/\(∀ name,PySem.W.lookIn name od=some (a name))/\∀ f,RelO (fs.lookup f) (a f):=by
 obtain ⟨a,n,r⟩:=(show ObjOk X.prog X.w H s.heap d (.xd fs) from I.hok d _ h);obtain ⟨od,h1,b⟩:=qcr n;exact ⟨od,a,h1,b,r⟩
end
section
variable {X:Cx} {pins:List (Addr×Obj)} {σ:St} {H:Hp} {s:Shared} {a d:Addr} {h':Heap} {o u:HO} {t':Nat}
theorem Inv.both (I:Inv X pins σ H s) (h:Mut (H a)) (j:s.heap.objs.size<=d) (k:∀ b v,b≠a->s.heap.get? b=some v->h'.get? b=some v) (l:∃ v,h'.get? a=some v)
  (m:ObjOk X.prog X.w (upd (upd H d u) a o) h' a o) (p:ObjOk X.prog X.w (upd (upd H d u) a o) h' d u) (ne:d≠a):Inv X pins σ (upd (upd H d u) a o) { s with heap:=h',toks:=t' }:=by
 have nd:H d=none:=I.hok.fresh j;have f:∀ b q,H b=some q->¬ Mut (some q)->b≠a:=fun b q e x z=>by subst z;rw [e] at h;exact x h
 have i:∀ b,H b=none->b≠a:=fun b e z=>by subst z;rw [e] at h;exact h
 have big:∀ b v,s.heap.get? b=some v->b≠d:=fun b v e=>yI (yj (yQ e) j);have up:∀ b q,H b=some q->b≠a->upd (upd H d u) a o b=some q:=fun b q e n=>by rw [qe n,qe (qm e nd)];exact e
 refine I.un ⟨fun b v e n _ _=>k b v (i b n) e,fun b v e n _ _=>⟨v.slots,k b v (i b n) e⟩,fun b v e n _=>by rw [qe (i b n),qe (big b v e)];exact n,fun b v e _=>?_,fun b xs e=>up b _ e (f b _ e fun z=>z),fun b q xs e=>up b _ e (f b _ e fun z=>z),
  fun b y e=>⟨#[],by rw [up b _ e (f b _ e fun z=>z)];simp⟩⟩ fun b q e=>?_
 .by_cases hb:b=a
  .subst hb;exact l
  .exact ⟨v,k b v hb e⟩
 .by_cases hb:b=a
  .subst hb;rw [qb] at e;cases e;exact m
  .rw [qe hb] at e;by_cases g:b=d
   .subst g;rw [qb] at e;cases e;exact p
   .rw [qe g] at e;refine (I.hok b q e).stay (fun c v hc r=>k c v ?_ r) (fun c r=>up c _ r (f c _ r fun z=>z)) fun c xs r=>up c _ r (f c _ r fun z=>z);rcases hc with rfl | hc
    .exact hb
    .exact f c _ hc fun z=>z
end
def qf5 (K:yg) (c:TE) (f:Str):TE:=fun σ H Q=>c σ H fun x b=>(∃ a C dx fs v,x=.ref a/\b a=some (.ins C dx fs)/\Cls K C/\NoAttr K C f/\fs.lookup f=some v/\Q v b) \/
 (∃ a C dx fs v,x=.ref a/\IsX b a C (some dx)/\XAt K C/\NoAttr K C f/\b dx=some (.xd fs)/\fs.lookup f=some v/\Q v b)
def qf6 (K:yg) (d e:TE) (f:Str):TS:=fun D σ H=>e σ H fun y c=>d σ c fun x b=>(∃ a C dx fs,x=.ref a/\b a=some (.ins C dx fs)/\Cls K C/\NoAttr K C f/\fs.length<1000 /\
  D.nx σ (upd b a (.ins C dx (qG f y fs)))) \/
 (∃ a C,x=.ref a/\b a=some (XN a C none)/\XAt K C/\NoAttr K C f/\∀ dx,b dx=none->D.nx σ (upd (upd b dx (.xd [(f,y)])) a (XN a C (some dx))))
section
variable {X:Cx} {o e value:Expr} {f:Str} {pos pos':Pos} {ta tv:TE} {K:yg}
theorem qA (y:X.K=K) (A:PE X e ta) (hb:attributeBase e f X.env (eval e X.env)=eval e X.env):PE X (.Attribute e f pos) (qf5 K ta f):=by
 subst y;intro pins s σ H Q I h;refine attr_of hb (thn (A pins s σ H _ I h) fun u F ⟨x,j,b,m,i⟩=>?_);rcases i with ⟨a,C,dx,fs,v,rfl,g,c,n,l,q⟩ | ⟨a,C,dx,fs,v,rfl,g,c,n,z,l,q⟩
 .obtain rfl:u=Value.ref a:=m;exact getattr_ok b g c n l fun E G p d=>⟨v,j,p,d,q⟩
 .obtain rfl:u=Value.ref a:=m;obtain ⟨vs,i⟩:=g.get b.hok;obtain ⟨od,D,h1,w,r⟩:=qfc b z;obtain ⟨E,B,d⟩:=RelO.some_of (v:=v) (o:=D f) (by rw [<- l];exact r f);exact xget b.kIn (od:=some od) ⟨i,rfl,rfl,h1⟩ c (PySem.W.findObj_own c.hd n rfl (by rw [w,B])) (qcs d) ⟨v,j,b.tok _,d,q⟩
theorem jH (L:X.K=K) (M:PE X o ta) (hv:PE X value tv) (N:swapsWith value (some (.Attribute o f pos')) pos.line X.env=pure false):PS X (.Assign [.Attribute o f pos'] value pos) (qf6 K ta tv f):=by
 subst L;intro pins s σ H D I h;refine plainObj_wpAny_Assign_Attribute (thn (hv pins s σ H _ I h) fun u O ⟨y,B,E,A,q⟩=>thn (M pins O σ B _ E q) fun v i ⟨x,p,b,z,e⟩=>?_) N;rcases e with ⟨a,C,dx,fs,rfl,d,c,n,l,m⟩ | ⟨a,C,rfl,d,c,n,m⟩
 .obtain rfl:v=Value.ref a:=z;exact setattr_ok b d c n l A fun R F=>⟨σ,_,F,m⟩
 .obtain rfl:v=Value.ref a:=z;obtain ⟨⟨P,e⟩,_⟩:=(show ObjOk X.prog X.w p i.heap a (XN a C none) from b.hok a _ d);refine xset b.kIn e c n fun h' r G J=>?_;have nd:p i.heap.objs.size=none:=b.hok.fresh (yh _);have ne:i.heap.objs.size≠a:=Yl (yQ e);refine ⟨σ,_,b.both (o:=XN a C (some i.heap.objs.size)) (u:=.xd [(f,y)]) (by rw [d];exact YV) (yh _) J ⟨_,r⟩ (XN.ok r) ⟨_,G,fun g=>?_⟩ ne,m _ nd⟩;by_cases j:g=f
  .subst j;simp only [List.lookup,xi,Xl];exact A
  .have hb:(g==f)=false:=YC.mpr j;simp only [List.lookup,hb,yy j];exact YV
end
def tXMake (C:Addr) (sp:Sp) (E:XK) (t:TA):TE:=fun σ H Q=>t σ H fun vs a=>vs.length<=1000/\∀ x,a x=none->sp (.ref x::vs) (upd a x (XN x C none)) (fun v b=>v=.non/\Q (.ref x) b) E
structure XMk (K:yg) (C f:Addr):Prop where
 at_:XAt K C
 init:PySem.W.findIn K (.ref C) "__init__"=some (some (.ref f))
 fn:PySem.W.isFn K (.ref f)=true
 kp:PySem.W.keepIn K (.ref C)=true
section
variable {X:Cx} {CX:CXT} {k:Nat} {f C:Addr} {fd:FuncData} {ps:List Str} {sp:Sp} {E:XK} {x m:Str} {p pos apos:Pos} {e o:Expr} {es:List Expr} {ta:TE} {t:TA}
structure CMeth (K:yg) (C:Addr) (m:Str) (f:Addr):Prop where
 rd:PySem.W.readsIn K C (.type "type")=true
 at_:PySem.W.findCls K (.ref C) (.type "type") m=some (.val (.ref f))
 ga:PySem.W.specialIn K (.ref C) "__getattribute__"=some (some (.builtin "type.__getattribute__"))
 kp:PySem.W.keepIn K (.ref f)=true
end
def tVinit (K:yg) (t:TA):TE:=fun σ H Q=>t σ H fun vs b=>∃ a C y,vs=[.ref a,y]/\b a=some (XN a C none)/\XAt K C/\Q .non b
structure VInit (K:yg):Prop where
 ga:PySem.W.findIn K (.type "type") "__getattribute__"=some (some (.builtin "type.__getattribute__"))
 su:PySem.W.subIn K (.type "type") (.type "type")=some true
 at_:PySem.W.findCls K (.type "ValueError") (.type "type") "__init__"=some (.val (.builtin "ValueError.__init__"))
section
variable {X:Cx} {p pos apos:Pos} {e:Expr} {es:List Expr} {t:TA} {K:yg}
end
structure Keep (fs zs:List Addr) (h h':Heap):Prop where
 keep:∀ b o,h.get? b=some o->b∉zs->b∉fs->h'.get? b=some o
 slot:∀ b o,h.get? b=some o->b∉zs->b∈fs->∃ sl,h'.get? b=some { o with slots:=sl }
structure Trc (h:Heap) (e:Addr) (C:Value) (dx:Option Addr) (T:Addr) (fl:Value):Prop where
 ex:∃ vs,h.get? e=some ⟨C,dx,.fields vs,#[]⟩/\vs[1]?=some (.ref T)/\vs[2]?=some .none
 tb:∃ ts,h.get? T=some ⟨.type "traceback",none,.fields ts,#[]⟩/\ts[3]?=some fl
 ne:T≠e
section
variable {M:Model} {A:Around} {E:Value->Shared->Prop} {s:Shared} {base:Heap} {env:Env} {outer:List Env} {L e:Addr} {C:Value} {dx:Option Addr} {vs:Array Value}
end
def CX1 (P:Program) (w:World):CXT:=fun b H s E d c=>∃ (a C:Addr) (dx:Option Addr) (T:Addr) (H':Hp),d=.ref a/\c.os=s.os/\AllBare c.gens/\Un (frs b) [] H H' s.heap c.heap/\HOk P w H' c.heap /\
 H' a=some (XO a C dx)/\Trc c.heap a (.ref C) dx T .none/\s.heap.objs.size<=T/\H' T=none/\E (.ref C) dx H'
section
variable {X:Cx} {pins:List (Addr×Obj)} {σ:St} {H:Hp} {s:Shared}
end
structure XOk (X:Cx) (EK:St->XK):Prop where
 pass:∀ (pins:List (Addr×Obj)) (σ:St) (H:Hp) (s:Shared) (e:Value) (s':Shared),Inv X pins σ H s->CX1 X.prog X.w X.stack H s (EK σ) e s'->X.xe e s'
 rais:∀ (pins:List (Addr×Obj)) (σ:St) (H:Hp) (s:Shared) (a C:Addr) (dx:Option Addr),Inv X pins σ H s->H a=some (XN a C dx)->EK σ (.ref C) dx (upd H a (XO a C dx))->X.xe (.ref a) s
 calm:X.calm=true
section
variable {P:Program} {w:World} {K:yg} {mg:Str->Option Value} {base:Heap} {N:List Str} {qual:Str} {scope:Scope} {f:Addr} {cd:Value} {A:Around} {outer:List Env} {s0:Shared} {H0:Hp} {E:XK}
end
def tRaise (K:yg) (c:St->XK) (te:TE):TS:=fun _ σ H=>te σ H fun x b=>∃ a C dx,x=.ref a/\b a=some (XN a C dx)/\XAt K C/\c σ (.ref C) dx (upd b a (XO a C dx))
section
variable {X:Cx} {EK:St->XK} {e:Expr} {te:TE} {pos:Pos} {K:yg}
end
def tCallS (sp:Sp) (a:St->XK) (t:TA):TE:=fun σ H Q=>t σ H fun vs b=>sp vs b Q (a σ)
def tMethS (C:Addr) (m:Str) (sp:Sp) (c:St->XK) (e:TE) (t:TA):TE:=fun σ H Q=>e σ H fun x b=>∃ a dx fs,x=.ref a/\b a=some (.ins C dx fs)/\fs.lookup m=none/\t σ b fun vs d=>sp (x::vs) d Q (c σ)
def tMakeS (C:Addr) (sp:Sp) (b:St->XK) (t:TA):TE:=fun σ H Q=>t σ H fun vs a=>∀ x dx,a x=none->a dx=none->dx≠x ->
 sp (.ref x::vs) (upd (upd a dx (.own x)) x (.ins C dx [])) (fun v c=>v=.non/\Q (.ref x) c) (b σ)
structure MethOk (P:Program) (w:World) (K:yg) (mg:Str->Option Value) (base:Heap) (CX:CXT) (k:Nat) (C:Addr) (m:Str) (ps:List Str) (sp:Sp):Prop where
 ex:∃ f fd,FnOk P w K mg base CX k f fd ps sp/\Meth K C m f/\Binds K fd ps []
 cl:Cls K C
structure MakeOk (P:Program) (w:World) (K:yg) (mg:Str->Option Value) (base:Heap) (CX:CXT) (k:Nat) (C:Addr) (x:Str) (ps:List Str) (sp:Sp):Prop where
 ex:∃ f fd,FnOk P w K mg base CX k f fd ps sp/\Mk K C f/\Binds K fd ps []
 mg_:mg x=some (.ref C)
structure XMakeOk (P:Program) (w:World) (K:yg) (mg:Str->Option Value) (base:Heap) (k:Nat) (C:Addr) (x:Str) (ps:List Str) (sp:Sp):Prop where
 ex:∃ f fd,FnOk P w K mg base CX0 k f fd ps sp/\XMk K C f/\Binds K fd ps []
 mg_:mg x=some (.ref C)
section
variable {X:Cx} {EK:St->XK} {k:Nat} {f C:Addr} {fd:FuncData} {ps:List Str} {sp:Sp} {x m:Str} {p pos apos:Pos} {e o:Expr} {es:List Expr} {ta:TE} {t:TA}
theorem qD (D:MethOk X.prog X.w X.K X.mg X.base CX0 k C m ps sp) (h:Room k X.A) (d:PE X o ta) (c:PA X (e::es) t)
  (b:starEach (e::es) X.env=(false,eval e X.env)::starEach es X.env:=by rfl) (a:(backTo pos (starEach es X.env)).any (·.1)=false:=by rfl)
  (i:eval (.Call (.Attribute o m apos) (e::es) [] pos) X.env=(do
   let ov <- eval o X.env
   standAt apos.atName
   let (f,first) <- holding [ov] (getMethod ov m pl)
   callWith pos f first (backTo pos (starEach (e::es) X.env)) (backToKw pos (keywordEach [] X.env))):=by rfl) :
  PE X (.Call (.Attribute o m apos) (e::es) [] pos) (qd6 C m sp [] E0 ta t):=by
 obtain ⟨f,fd,F,g,hb⟩:=D.ex;exact pe_meth (pl:=pl) d D.cl g F h hb .nil qH c b a i
theorem qF (D:MethOk X.prog X.w X.K X.mg X.base CX0 k C m ps sp) (c:Room k X.A) (a:PE X o ta)
  (d:eval (.Call (.Attribute o m apos) [] [] pos) X.env=(do
   let ov <- eval o X.env
   standAt apos.atName
   let (f,first) <- holding [ov] (getMethod ov m pl)
   callWith pos f first (backTo pos (starEach [] X.env)) (backToKw pos (keywordEach [] X.env))):=by rfl) :
  PE X (.Call (.Attribute o m apos) [] [] pos) (qd6 C m sp [] E0 ta qgi):=by
 obtain ⟨f,fd,F,b,hb⟩:=D.ex;exact pe_meth0 (pl:=pl) a D.cl b F c hb .nil qH d
end
section
variable {P:Program} {w:World} {K:yg} {mg:Str->Option Value} {base:Heap}
end
noncomputable abbrev Cx.tried (X:Cx) (pn:List (Addr×Obj)) (E:Value->Shared->Prop):Cx:={ X with pn:=pn,xe:=E }
noncomputable abbrev Cx.hand (X:Cx) (a:Addr):Cx:={ X with A:=X.A.mark (some (.ref a)),calm:=false,xe:=fun _ _=>False }
section
variable {X:Cx} {pins pins':List (Addr×Obj)} {σ:St} {H:Hp} {s:Shared} {E:Value->Shared->Prop} {a:Addr}
structure Loose (X:Cx) (pins:List (Addr×Obj)) (H:Hp) (T:Addr):Prop where
 hn:H T=none
 lo:X.s₀.heap.objs.size<=T
 nl:T≠X.env.locals
 nf:T∉X.fs
 nc:∀ x c,X.env.cells.lookup x=some c->c≠T
 np:∀ p∈X.pn++pins,p.1≠T
end
structure Held (X:Cx) (pins:List (Addr×Obj)) (H:Hp) (h:Heap) (a C:Addr) (dx:Option Addr):Prop where
 at_:H a=some (XO a C dx)
 tr:∃ T,Trc h a (.ref C) dx T .none/\Loose X pins H T
section
variable {X:Cx} {a C D:Addr} {dx:Option Addr} {c n:Str} {cp pos:Pos} {b0:Stmt} {body:List Stmt} {qd1:List ExceptHandler} {tb tr:TS} {i:Nat} {K:yg}
end
section
variable {X:Cx} {body orelse:List Stmt} {h0:ExceptHandler} {hs:List ExceptHandler} {pos:Pos} {te:TS}
end
def TyX (K:yg) (H:Hp) (x:V) (t:Value):Prop:=TyOf K H x t\/∃ a C dx,x=.ref a/\t=.ref C/\IsX H a C dx/\XAt K C/\∀ d,dx=some d->∃ fs,H d=some (.xd fs)
theorem TyX.kit {x:V} {t:Value} (I:Inv X pins σ H s) (e:RelV x u) (ty:TyX X.K H x t):∃ P:Heap->Prop,PySem.W.KitX X.K u t P/\P s.heap/\u≠.builtin "__main__.__loader__#opaque":=by
 rcases ty with ty | ⟨a,C,dx,rfl,rfl,hx,c,hd⟩
 .exact ty.kit I e
 .cases e;obtain ⟨vs,b⟩:=hx.get I.hok
  cases dx with
  | none=>exact ⟨_,qdA (od:=none) c,⟨b,rfl,rfl,YV⟩,fun z=>nomatch z⟩
  | some d =>
   obtain ⟨fs,f⟩:=hd d rfl;obtain ⟨od,g,h1,_⟩:=qfc I f;exact ⟨_,qdA (od:=some od) c,⟨b,rfl,rfl,h1⟩,fun z=>nomatch z⟩
def qf7 (K:yg):List V->Hp->VK->Prop:=fun xs H Q=>∃ x y t c b,xs=[x,y]/\TyX K H x t/\qcE y=some c/\PySem.W.kitOne K t c=some b/\Q (.bl b) H
def qem (K:yg):List V->Hp->VK->Prop:=fun xs H Q=>∃ x p ys t a b,xs=[x,.ref p]/\TyX K H x t/\H p=some (.tup ys)/\ys.map qcE=a.map some/\PySem.W.kitAny K t a=some b/\Q (.bl b) H
section
variable {X:Cx} {K:yg}
theorem qaQ (a:X.K=K):zv X (.builtin "isinstance") (qf7 K):=by
 subst a;intro pins s σ H xs us Q I r h;obtain ⟨x,y,t,c,b,rfl,ty,d,hb,q⟩:=h;obtain ⟨u,v,rfl,f,g⟩:=qd5 r;have e:=qbS d g;subst e;obtain ⟨P,Z,p,ne⟩:=ty.kit I f;exact PySem.W.kia_one Z I.kIn p hb ne fun tk=>⟨.bl b,H,I.tok tk,rfl,q⟩
theorem qc6 (i:X.K=K):zv X (.builtin "isinstance") (qem K):=by
 subst i;intro pins s σ H xs us Q I r h;obtain ⟨x,p,ys,t,B,b,rfl,ty,m,y,hb,q⟩:=h;obtain ⟨u,v,rfl,A,f⟩:=qd5 r;cases f;obtain ⟨P,Z,z,ne⟩:=ty.kit I A;obtain ⟨_,its,f,o,l,hc,n,j⟩:=(show ObjOk X.prog X.w H s.heap p (.tup ys) from I.hok p _ m);have e:=qby y f;subst e;obtain ⟨c,C,g,D⟩:=o;have a:c=.type "tuple":=hc;have d:g=.seq its.toArray n:=j;subst a d;exact PySem.W.kia_tup Z I.kIn z l hb ne fun tk=>⟨.bl b,H,I.tok tk,rfl,q⟩
end
mutual
inductive EqD (K:yg) (H:Hp):Nat->V->V->Bool->Prop
 | flat {n:Nat} {x y:V} (fx:zV x=true) (fy:zV y=true):EqD K H n x y (eqV x y)
 | self {n:Nat} {a:Addr}:EqD K H n (.ref a) (.ref a) true
 | deep {n:Nat} {a b:Addr} {k:Bool} (h:EqT K H n a b k) (ne:a≠b):EqD K H n (.ref a) (.ref b) k
inductive EqT (K:yg) (H:Hp):Nat->Addr->Addr->Bool->Prop
 | lst {n:Nat} {a b:Addr} {xs ys:List V} {e:Nat->Bool} (ha:SqL K H a xs) (hb:SqL K H b ys) (hl:xs.length=ys.length) (he:∀ j x y,xs[j]?=some x->ys[j]?=some y->EqD K H n x y (e j)):EqT K H (n+1) a b ((List.range xs.length).all e)
 | lstL {n:Nat} {a b:Addr} {xs ys:List V} (ha:SqL K H a xs) (hb:SqL K H b ys) (hl:xs.length≠ys.length):EqT K H (n+1) a b false
 | tup {n:Nat} {a b:Addr} {xs ys:List V} {e:Nat->Bool} (ha:SqT K H a xs) (hb:SqT K H b ys) (he:∀ j x y,xs[j]?=some x->ys[j]?=some y->EqD K H n x y (e j)):EqT K H (n+1) a b ((List.range (min xs.length ys.length)).all e&&xs.length==ys.length)
 | lt {n:Nat} {a b:Addr} {xs ys:List V} (ha:SqL K H a xs) (hb:SqT K H b ys):EqT K H (n+1) a b false
 | tl {n:Nat} {a b:Addr} {xs ys:List V} (ha:SqT K H a xs) (hb:SqL K H b ys):EqT K H (n+1) a b false
end
theorem jz:∀ {xs:List V} {us:List Value} {j:Nat} {u:Value},Vals xs us->us[j]?=some u->∃ x,xs[j]?=some x/\RelV x u
 | _,_,_,_,.nil,e=>by simp at e
 | _,_,0,_,.cons r _,e=>by simp at e;subst e;exact ⟨_,rfl,r⟩
 | _,_,j+1,u,.cons _ t,e=>by
  obtain ⟨x,h1,a⟩:=jz (j:=j) (u:=u) t (by simpa using e);exact ⟨x,by simpa using h1,a⟩
section
variable {X:Cx} {pins:List (Addr×Obj)} {σ:St} {H:Hp} {s:Shared}
theorem qc7 (I:Inv X pins σ H s):∀ n,(∀ (A:Around) (x y:V) (k:Bool) (u v:Value),EqD X.K H n x y k->RelV x u->RelV y v->A.units+n<cLine->SeqAt.EqAt A s u v k)/\(∀ (A:Around) (a b:Addr) (k:Bool),EqT X.K H n a b k->A.units+n<cLine->SeqAt.RcAt A s (.ref a) (.ref b) k):=by
 intro n
 induction n with
 | zero =>
  have G:∀ (A:Around) (a b:Addr) (k:Bool),EqT X.K H 0 a b k->A.units+0<cLine->SeqAt.RcAt A s (.ref a) (.ref b) k:=fun A a b k h=>by cases h
  refine ⟨fun A x y k u v h g i B=>?_,G⟩
  cases h with
  | flat fx fy=>exact qeb g i fx fy
  | self=>cases g;cases i;exact XS _
  | deep h ne=>cases h
 | succ n ih =>
  have E:∀ (A:Around) (a b:Addr) (k:Bool),EqT X.K H (n+1) a b k->A.units+(n+1)<cLine->SeqAt.RcAt A s (.ref a) (.ref b) k:=fun A a b k h B=>by
   have f:A.units<cLine:=by omega
   have o:A.in1.units+n<cLine:=by show A.units+1+n<cLine;omega
   cases h with
   | @lst _ _ _ xs ys e ha hb hl he =>
    obtain ⟨its,r,pl,hz⟩:=I.list ha;obtain ⟨c,m,d,l⟩:=I.list hb;have p:xs.length=its.toArray.size:=by rw [yw];exact r.length
    have q:ys.length=c.toArray.size:=by rw [yw];exact m.length
    rw [p];refine SeqAt.RcAt.lists pl.isList d.isList (by rw [<- p,<- q,hl]) f fun j h1 F=>?_;have w:its[j]?=some its.toArray[j]:=by simp
    have z:c[j]?=some c.toArray[j]:=by simp
    obtain ⟨x,C,g⟩:=jz r w;obtain ⟨y,D,i⟩:=jz m z;exact ih.1 A.in1 x y (e j) _ _ (he j x y C D) g i o
   | @lstL _ _ _ xs ys ha hb hl =>
    obtain ⟨its,r,pl,hz⟩:=I.list ha;obtain ⟨c,m,d,l⟩:=I.list hb;refine SeqAt.RcAt.lists_lengths pl.isList d.isList ?_ f;rw [yw,yw,<- r.length,<- m.length];simp [hl]
   | @tup _ _ _ xs ys e ha hb he =>
    obtain ⟨its,r,pl,hz⟩:=I.tuple ha;obtain ⟨c,m,d,l⟩:=I.tuple hb;have p:xs.length=its.toArray.size:=by rw [yw];exact r.length
    have q:ys.length=c.toArray.size:=by rw [yw];exact m.length
    rw [p,q];refine SeqAt.RcAt.tuples pl d f fun j h1 F=>?_;have w:its[j]?=some its.toArray[j]:=by simp
    have z:c[j]?=some c.toArray[j]:=by simp
    obtain ⟨x,C,g⟩:=jz r w;obtain ⟨y,D,i⟩:=jz m z;exact ih.1 A.in1 x y (e j) _ _ (he j x y C D) g i o
   | lt ha hb =>
    obtain ⟨its,r,pl,hz⟩:=I.list ha;obtain ⟨c,m,d,l⟩:=I.tuple hb;exact SeqAt.RcAt.list_tuple pl.isList d f
   | tl ha hb =>
    obtain ⟨its,r,pl,hz⟩:=I.tuple ha;obtain ⟨c,m,d,l⟩:=I.list hb;exact SeqAt.RcAt.tuple_list pl d.isList f
  refine ⟨fun A x y k u v h g i B=>?_,E⟩
  cases h with
  | flat fx fy=>exact qeb g i fx fy
  | self=>cases g;cases i;exact XS _
  | deep h ne=>cases g;cases i;exact SeqAt.EqAt.of_refs ne (E A _ _ k h B)
theorem ne_refs (I:Inv X pins σ H s) {n:Nat} {A:Around} {a b:Addr} {k:Bool} (h:EqT X.K H n a b k) (B:A.units+n<cLine):SeqAt.RcNeAt A s (.ref a) (.ref b) (!k):=by
 cases n with
 | zero=>cases h
 | succ n =>
  have w:=qc7 I n;have f:A.units<cLine:=by omega
  have l:A.in1.units+n<cLine:=by show A.units+1+n<cLine;omega
  cases h with
  | @lst _ _ _ xs ys e ha hb hl he =>
   obtain ⟨its,r,pl,hz⟩:=I.list ha;obtain ⟨c,i,d,g⟩:=I.list hb;have m:xs.length=its.toArray.size:=by rw [yw];exact r.length
   have o:ys.length=c.toArray.size:=by rw [yw];exact i.length
   rw [m];refine SeqAt.RcNeAt.lists pl.isList d.isList (by rw [<- m,<- o,hl]) f fun j h1 z=>?_;obtain ⟨x,p,u⟩:=jz r (show its[j]?=some its.toArray[j] by simp);obtain ⟨y,q,v⟩:=jz i (show c[j]?=some c.toArray[j] by simp);exact w.1 A.in1 x y (e j) _ _ (he j x y p q) u v l
  | @lstL _ _ _ xs ys ha hb hl =>
   obtain ⟨its,r,pl,hz⟩:=I.list ha;obtain ⟨c,i,d,g⟩:=I.list hb;refine SeqAt.RcNeAt.lists_lengths pl.isList d.isList ?_ f;rw [yw,yw,<- r.length,<- i.length];simp [hl]
  | @tup _ _ _ xs ys e ha hb he =>
   obtain ⟨its,r,pl,hz⟩:=I.tuple ha;obtain ⟨c,i,d,g⟩:=I.tuple hb;have m:xs.length=its.toArray.size:=by rw [yw];exact r.length
   have o:ys.length=c.toArray.size:=by rw [yw];exact i.length
   rw [m,o];refine SeqAt.RcNeAt.tuples pl d f fun j h1 z=>?_;obtain ⟨x,p,u⟩:=jz r (show its[j]?=some its.toArray[j] by simp);obtain ⟨y,q,v⟩:=jz i (show c[j]?=some c.toArray[j] by simp);exact w.1 A.in1 x y (e j) _ _ (he j x y p q) u v l
  | lt ha hb =>
   obtain ⟨its,r,pl,hz⟩:=I.list ha;obtain ⟨c,i,d,g⟩:=I.tuple hb;exact SeqAt.RcNeAt.list_tuple pl.isList d f
  | tl ha hb =>
   obtain ⟨its,r,pl,hz⟩:=I.tuple ha;obtain ⟨c,i,d,g⟩:=I.list hb;exact SeqAt.RcNeAt.tuple_list pl d.isList f
theorem qfd {A:Around} {x y:V} {u v:Value} (e:RelV x u) (c:RelV y v) (f:zV x=true) (d:zV y=true):SeqAt.RcAt A s u v (eqV x y)/\SeqAt.RcNeAt A s u v (!eqV x y):=by
 cases x with
 | non =>
  cases e
  cases y with
  | non=>cases c;exact ⟨SeqAt.RcAt.none_none,SeqAt.RcNeAt.none_none⟩
  | bl b=>cases c;exact ⟨SeqAt.RcAt.none_bool b,SeqAt.RcNeAt.none_bool b⟩
  | int b=>obtain ⟨t,rfl⟩:=c;exact ⟨SeqAt.RcAt.none_int b t,SeqAt.RcNeAt.none_int b t⟩
  | str b=>obtain ⟨t,rfl⟩:=c;exact ⟨SeqAt.RcAt.none_str b t,SeqAt.RcNeAt.none_str b t⟩
  | _=>cases d
 | bl a =>
  cases e
  cases y with
  | non=>cases c;exact ⟨SeqAt.RcAt.bool_none a,SeqAt.RcNeAt.bool_none a⟩
  | bl b=>cases c;exact ⟨SeqAt.RcAt.bool_bool a b,SeqAt.RcNeAt.bool_bool a b⟩
  | int b=>obtain ⟨t,rfl⟩:=c;exact ⟨SeqAt.RcAt.bool_int a b t,SeqAt.RcNeAt.bool_int a b t⟩
  | str b=>obtain ⟨t,rfl⟩:=c;exact ⟨SeqAt.RcAt.bool_str a b t,SeqAt.RcNeAt.bool_str a b t⟩
  | _=>cases d
 | int a =>
  obtain ⟨t',rfl⟩:=e
  cases y with
  | non=>cases c;exact ⟨SeqAt.RcAt.int_none a t',SeqAt.RcNeAt.int_none a t'⟩
  | bl b=>cases c;exact ⟨SeqAt.RcAt.int_bool a t' b,SeqAt.RcNeAt.int_bool a t' b⟩
  | int b=>obtain ⟨t,rfl⟩:=c;exact ⟨SeqAt.RcAt.int_int a t' b t,SeqAt.RcNeAt.int_int a t' b t⟩
  | str b=>obtain ⟨t,rfl⟩:=c;exact ⟨SeqAt.RcAt.int_str a t' b t,SeqAt.RcNeAt.int_str a t' b t⟩
  | _=>cases d
 | str a =>
  obtain ⟨t',rfl⟩:=e
  cases y with
  | non=>cases c;exact ⟨SeqAt.RcAt.str_none a t',SeqAt.RcNeAt.str_none a t'⟩
  | bl b=>cases c;exact ⟨SeqAt.RcAt.str_bool a t' b,SeqAt.RcNeAt.str_bool a t' b⟩
  | int b=>obtain ⟨t,rfl⟩:=c;exact ⟨SeqAt.RcAt.str_int a t' b t,SeqAt.RcNeAt.str_int a t' b t⟩
  | str b=>obtain ⟨t,rfl⟩:=c;exact ⟨SeqAt.RcAt.str_str a t' b t,SeqAt.RcNeAt.str_str a t' b t⟩
  | _=>cases d
 | _=>cases f
end
def qe0 (K:yg) (c:Bool):R2:=fun x y H Q=>(zV x=true/\zV y=true/\Q (.bl (if c then !eqV x y else eqV x y)) H) \/
 (∃ a b k n,x=.ref a/\y=.ref b/\n<=60/\EqT K H n a b k/\Q (.bl (if c then !k else k)) H) \/
 (∃ a kvs,x=.ref a/\y=.ref a/\H a=some (.dK kvs)/\Q (.bl (!c)) H)
theorem qbz {b:Type} [DecidableEq b]:∀ {a:List (b×Value)} {k:b} {v:Value},(a.map (·.1)).Nodup->(k,v)∈a->valueAt a k=some v
 | [],_,_,_,h=>by cases h
 | (k',v')::r,k,v,hn,h=>by
  obtain ⟨h1,c⟩:=yo.mp (show (k'::r.map (·.1)).Nodup from hn);unfold valueAt;rw [Y6];by_cases e:k'=k
  .subst e;simp only [decide_true];rcases yB.mp h with z | z
   .cases z;rfl
   .exact absurd (Ye.mpr ⟨(k',v),z,rfl⟩) h1
  .simp only [e,Ka];rcases yB.mp h with z | z
   .cases z;exact absurd rfl e
   .exact qbz c z
theorem qc8 {A:Around} {s:Shared} {c:Type} [DecidableEq c] (a:List (c×Value)) (d:(a.map (·.1)).Nodup):∀ f:List (c×Value),(∀ p∈f,p∈a)->PySem.W.KeqHits A s a f true
 | [],_=>.nil
 | (k,v)::r,h=>by
  have hv:valueAt a k=some v:=qbz d (h (k,v) yN);exact .hit (e:=true) (b:=true) hv (XS v) (qc8 a d r fun p g=>h p (yz _ g))
section
variable {X:Cx} {K:yg}
theorem k_eqU (m:X.K=K) (p:X.A.units+100<cLine):OpR X (compareOp .Eq) (qe0 K false):=by
 subst m;intro pins s σ H x y u v Q I c f h;rcases h with ⟨j,l,q⟩ | ⟨a,b,k,n,rfl,rfl,o,e,q⟩ | ⟨a,kvs,rfl,rfl,i,q⟩
 .exact (qfd c f j l).1 _ _ _ _ ⟨.bl _,H,I,rfl,q⟩
 .cases c;cases f;exact (qc7 I n).2 X.A a b k e (by omega) _ _ _ _ ⟨.bl _,H,I,rfl,q⟩
 .cases c;cases f;obtain ⟨_,g,vs,r,d⟩:=(show ObjOk X.prog X.w H s.heap a (.dK kvs) from I.hok a _ i);obtain ⟨_,_,_,_,_,_,_,_,nd⟩:=id d;refine PySem.W.keq_eq g g d d (by omega) (fun _=>qc8 vs nd vs fun _ h=>h) ?_;rw [xi];exact ⟨.bl true,H,I,rfl,q⟩
theorem zZ (m:X.K=K) (p:X.A.units+100<cLine):OpR X (compareOp .NotEq) (qe0 K true):=by
 subst m;intro pins s σ H x y u v Q I c f h;rcases h with ⟨j,l,q⟩ | ⟨a,b,k,n,rfl,rfl,o,e,q⟩ | ⟨a,kvs,rfl,rfl,i,q⟩
 .exact (qfd c f j l).2 _ _ _ _ ⟨.bl _,H,I,rfl,q⟩
 .cases c;cases f;exact ne_refs I e (by omega) _ _ _ _ ⟨.bl _,H,I,rfl,q⟩
 .cases c;cases f;obtain ⟨_,g,vs,r,d⟩:=(show ObjOk X.prog X.w H s.heap a (.dK kvs) from I.hok a _ i);obtain ⟨_,_,_,_,_,_,_,_,nd⟩:=id d;refine PySem.W.keq_ne g g d d (by omega) (fun _=>qc8 vs nd vs fun _ h=>h) ?_;rw [xi];exact ⟨.bl false,H,I,rfl,q⟩
end
section
variable {X:Cx} {K:yg}
def qgk (K:yg):R2:=fun x y H Q=>rIx K x y H Q\/∃ a v,x=.ref a/\DGet H a y (some v)/\Q v H
theorem qu (f:X.K=K) (m:X.A.units+100<cLine):IxR X (qgk K):=by
 subst f;refine IxR.or ix_seq ?_;intro d c pins s σ H x y v u Q I j l h i;obtain ⟨a,z,rfl,g,q⟩:=h;cases j;exact tail_any (dict_typeIs I g) PySem.F.slot_dict_getitem.lookup (d_getItem (by omega) I g l fun o n e b=>⟨z,H,e,b,q⟩) i
def rSetU:qfT:=fun o i v H Q=>qfy o i v H Q\/∃ a H',o=.ref a/\DPut H a i v H'/\Q H'
theorem jW (l:X.A.units+100<cLine):qgn X rSetU:=by
 intro pins s σ H o i v j f u Q I c b d h;rcases h with h | ⟨a,H',rfl,g,q⟩
 .exact set_list pins s σ H o i v j f u Q I c b d h
 .cases c;exact d_setItem (by omega) I g b d fun m e=>⟨H',e,q⟩
def qeR (K:yg) (b:Bool):R2:=fun x y H Q=>rIn K b x y H Q\/(∃ a o,y=.ref a/\DGet H a x o/\Q (.bl (if b then !o.isSome else o.isSome)) H) \/
 (∃ p xs e n,y=.ref p/\SqL K H p xs/\n<=60/\(∀ z∈xs,EqD K H n z x (e z))/\Q (.bl (if b then !xs.any e else xs.any e)) H)
theorem qfe {pins:List (Addr×Obj)} {σ:St} {H:Hp} {s:Shared} {xs:List V} {its:List Value} {x:V} {u:Value} {e:V->Bool} {n:Nat} {A:Around} (I:Inv X pins σ H s) (r:Vals xs its) (p:RelV x u) (o:A.units+n<cLine) (m:∀ z∈xs,EqD X.K H n z x (e z)) :
  ∃ g:Value->Bool,(∀ w,w∈its.toArray->SeqAt.EqAt A s w u (g w))/\its.toArray.any g=xs.any e:=by
 classical
 refine ⟨fun w=>decide (∃ z∈xs,RelV z w/\e z=true),fun w hw=>?_,?_⟩
 .have d:w∈its:=by simpa using hw
  obtain ⟨j,c⟩:=xW.mp d;obtain ⟨z,hz,a⟩:=jz r c;have i:=ye hz
  have eq:decide (∃ z∈xs,RelV z w/\e z=true)=e z:=by
   cases q:e z with
   | true=>exact yM ⟨z,i,a,q⟩
   | false =>
    refine yl fun ⟨v,_,f,l⟩=>?_;rw [RelV.inj f a,q] at l;cases l
  show SeqAt.EqAt A s w u (decide (∃ z∈xs,RelV z w/\e z=true));rw [eq];exact (qc7 I n).1 A z x (e z) w u (m z i) a p o
 .rw [Yb,Yo];constructor
  .intro h;have h':its.any (fun w=>decide (∃ z∈xs,RelV z w/\e z=true))=true:=by simpa using h
   obtain ⟨w,_,q⟩:=Yo.mp h';obtain ⟨z,hz,_,b⟩:=yk q;exact ⟨z,hz,b⟩
  .rintro ⟨z,hz,b⟩;obtain ⟨j,c⟩:=xW.mp hz;obtain ⟨w,hw,a⟩:=r.get c;have:its.any (fun w=>decide (∃ z∈xs,RelV z w/\e z=true))=true:=Yo.mpr ⟨w,ye hw,yM ⟨z,hz,a,b⟩⟩;simpa using this
theorem zT (j:X.K=K) (l:X.A.units+100<cLine):OpR X (compareOp .In) (qeR K false):=by
 subst j;intro pins s σ H x y u v Q I b c h;rcases h with h | ⟨a,o,rfl,g,q⟩ | ⟨p,xs,e,n,rfl,hl,hn,he,q⟩
 .exact op_in_seq pins s σ H x y u v Q I b c h
 .cases c;exact d_in (by omega) I g b fun m d=>⟨.bl _,H,d,rfl,q⟩
 .cases c;obtain ⟨its,r,pl,hz⟩:=I.list hl;obtain ⟨f,h1,i⟩:=qfe (A:=X.A.in1) I r b (by show X.A.units+1+n<cLine;omega) he;exact SeqAt.in_listAt f pl.isList h1 (by rw [i];exact ⟨.bl _,H,I,rfl,q⟩)
theorem zH (j:X.K=K) (l:X.A.units+100<cLine):OpR X (compareOp .NotIn) (qeR K true):=by
 subst j;intro pins s σ H x y u v Q I b c h;rcases h with h | ⟨a,o,rfl,g,q⟩ | ⟨p,xs,e,n,rfl,hl,hn,he,q⟩
 .exact op_notIn_seq pins s σ H x y u v Q I b c h
 .cases c;exact d_notIn (by omega) I g b fun m d=>⟨.bl _,H,d,rfl,q⟩
 .cases c;obtain ⟨its,r,pl,hz⟩:=I.list hl;obtain ⟨f,h1,i⟩:=qfe (A:=X.A.in1) I r b (by show X.A.units+1+n<cLine;omega) he;exact SeqAt.notIn_listAt f pl.isList h1 (by rw [i];exact ⟨.bl _,H,I,rfl,q⟩)
def rListU (K:yg):List V->Hp->VK->Prop:=fun xs H Q=>(∃ p ys,xs=[.ref p]/\(SqL K H p ys\/SqT K H p ys)/\∀ l,H l=none->Q (.ref l) (upd H l (.lst ys))) \/
 (∃ p kvs,xs=[.ref p]/\H p=some (.dK kvs)/\∀ l,H l=none->Q (.ref l) (upd H l (.lst (kvs.map fun a=>kV a.1)))) \/
 (∃ x,xs=[.str x]/\x.length<=1000/\∀ l,H l=none->Q (.ref l) (upd H l (.lst (x.cps.toList.map fun c=>.str ⟨#[c]⟩))))
theorem qbT {α c:Type} {F:α->c->Prop}:∀ {l:List α} {m:List c} {j:Nat} {a:α},Paired F l m->l[j]?=some a->∃ b,m[j]?=some b/\F a b
 | _,_,_,_,.nil,e=>by simp at e
 | _,_,0,_,.cons r _,e=>by simp at e;subst e;exact ⟨_,rfl,r⟩
 | _,_,j+1,a,.cons _ t,e=>by
  obtain ⟨b,h1,d⟩:=qbT (j:=j) (a:=a) t (by simpa using e);exact ⟨b,by simpa using h1,d⟩
theorem qam:∀ {ys:List V} {us:List Value},ys.length=us.length->(∀ (j:Nat) y u,ys[j]?=some y->us[j]?=some u->RelV y u)->Vals ys us
 | [],[],_,_=>.nil
 | [],_::_,h,_=>by cases h
 | _::_,[],h,_=>by cases h
 | y::ys,u::us,h,q=>.cons (q 0 y u rfl rfl) (qam (Nat.succ.inj h) fun j c b h1 a=>q (j+1) c b (by simpa using h1) (by simpa using a))
theorem qbA (J:X.K=K) (hc:X.calm=true):zv X (.type "list") (rListU K):=by
 subst J;intro pins s σ H xs us Q I r h;rcases h with h | ⟨p,kvs,rfl,ea,q⟩ | ⟨x,rfl,hx,q⟩
 .exact call_list_of pins s σ H xs us Q I r h
 .obtain ⟨u,rfl,M⟩:=qbd r;cases M;obtain ⟨hz,L,vs,D,d⟩:=(show ObjOk X.prog X.w H s.heap p (.dK kvs) from I.hok p _ ea);obtain ⟨ep,n⟩:=d.dictAt;have hl:kvs.length=vs.length:=D.length;refine PySem.W.kdl_call (PySem.W.kdl_dict (knd:=jx X.prog X.w) (kvs:=vs) (ep:=ep) L) (I.ok.hd hc) n (by rw [<- hl];exact hz) fun h' tk a f A e it=>?_;obtain ⟨o,v⟩:=it
  have hv:Vals (kvs.map fun b=>kV b.1) a.toList:=by
   refine qam (by rw [ya,hl,<- o];simp) fun j y u h1 g=>?_;obtain ⟨k,x,l,F⟩:=v j u (by simpa using g);rw [yd] at h1
   cases B:kvs[j]? with
   | none=>rw [B] at h1;cases h1
   | some b =>
    rw [B] at h1;cases h1;obtain ⟨O,C,G,N⟩:=qbT D B;rw [l] at C;cases C;have E:b.1=k:=G;show RelV (kV b.1) u;rw [E];rcases qY (show qcV k u=true from F) with ⟨i,t,rfl,rfl⟩ | ⟨z,t,rfl,rfl⟩
    .exact ⟨t,rfl⟩
    .exact ⟨t,rfl⟩
  refine ⟨.ref s.heap.objs.size,_,I.laid (t':=tk) A (yh _) (show ObjOk X.prog X.w _ h' _ (.lst (kvs.map fun b=>kV b.1)) from ⟨by rw [ya];exact hz,a.toList,f,hv,by simpa using e⟩),rfl,q _ (I.hok.fresh (yh _))⟩
 .obtain ⟨u,rfl,t,rfl⟩:=qbd r;have hsz:x.cps.size<=sizeLine:=yX (qi hx);refine call_list_str (I.ok.hd hc) x t (fun h' tk a f A e it=>?_) hsz;obtain ⟨o,v⟩:=it
  have hv:Vals (x.cps.toList.map fun c=>V.str ⟨#[c]⟩) a.toList:=by
   refine qam (by rw [ya];simp [o]) fun j y u h1 g=>?_;obtain ⟨c,t',l,rfl⟩:=v j u (by simpa using g);rw [yd] at h1;have m:x.cps.toList[j]?=some c:=by simpa using l
   rw [m] at h1;cases h1;exact ⟨t',rfl⟩
  refine ⟨.ref s.heap.objs.size,_,I.laid (t':=tk) A (yh _) (show ObjOk X.prog X.w _ h' _ (.lst (x.cps.toList.map fun c=>V.str ⟨#[c]⟩)) from ⟨by rw [ya];simpa using hsz,a.toList,f,hv,by simpa using e⟩),rfl,q _ (I.hok.fresh (yh _))⟩
end
structure CMethOk (P:Program) (w:World) (K:yg) (mg:Str->Option Value) (base:Heap) (CX:CXT) (k:Nat) (C:Addr) (x m:Str) (ps:List Str) (sp:Sp):Prop where
 ex:∃ f fd,FnOk P w K mg base CX k f fd ps sp/\CMeth K C m f/\Binds K fd ps []
 mg_:mg x=some (.ref C)
section
variable {X:Cx} {k:Nat} {C:Addr} {ps:List Str} {sp:Sp} {x m:Str} {p pos apos:Pos} {e:Expr} {es:List Expr} {t:TA}
theorem zI (D:MakeOk X.prog X.w X.K X.mg X.base CX0 k C x ps sp) (h:Room (k+1) X.A) (c:PA X (e::es) t) (g:Gl X x:=by rfl) (a:(x==("__debug__":Str))=false:=by decide)
  (d:starEach (e::es) X.env=(false,eval e X.env)::starEach es X.env:=by rfl) (b:(backTo pos (starEach es X.env)).any (·.1)=false:=by rfl):PE X (.Call (.Name x p) (e::es) [] pos) (qfx C sp [] E0 t):=by
 obtain ⟨f,i,F,M,hb⟩:=D.ex;exact pe_make M F h g D.mg_ hb .nil qH c a d b
end
theorem own_eq_same {prog:Program} {w:World} {A:Around} {E:Value->Shared->Prop} {s:Shared} {K:yg} {x C:Addr} {ox:Obj} {od:Option Obj} {Q:Value->Shared->Prop} (m:A.units<cLine) (X:K.In s.heap) (I:PySem.W.InstAt s.heap x ox C od)
  (l:PySem.W.findIn K (.ref C) "__eq__"=some (some (.builtin "object.__eq__"))) (i:PySem.W.mroIn K C (.type "object")=some true) (h:Q (.bool true) s):wpAny (model prog w) A (richCompare .Eq (.ref x) (.ref x)) Q E s:=by
 have a:∀ {g:Around} {f:Value->Shared->Prop},f (.bool true) s->wpAny (model prog w) g (call (.builtin "object.__eq__") [.ref x,.ref x]) f E s:=fun {g f} q=>by
  refine X7 (Xb PySem.F.slot_object_eq.plain PySem.F.entry_object_eq (@PySem.W.check_slot (model prog w) _ _ s "object.__eq__" "object" "__eq__" (.ref x) [.ref x] [] _ (by decide +kernel) (by decide +kernel) (I.type.andThen (xz X i)) (PySem.F.args_object_eq_2 _ _) ?_));refine yr (yu (yr (wpAny_isSame_ref_self ?_)));exact yu q
 have one:wpAny (model prog w) A (tryCompare (.ref x) "__eq__" (.ref x)) (fun r c=>∃ v,r=some v/\Q v c) E s:=by
  unfold tryCompare;refine yr ?_;simp only [callSpecialIfBound?,bindSpecialIfBound?];refine Yk (yr (yr (yr (I.type.here ((Y3 X l).here ?_)))));refine yr (kG (wpAny_ite ?_));have b:=PySem.F.slot_object_eq.bind (.ref x)
  have d:wpAny (model prog w) A (call (.builtin "object.__eq__") ([.ref x]++[.ref x])>>=fun v=>pure (some v)) (fun r c=>wpAny (model prog w) A (match r with | some .notImplemented | none=>pure none | some v=>pure (some v)) (fun r c=>∃ v,r=some v/\Q v c) E c) E s:=
   yr (a (yu (yu ⟨_,rfl,h⟩)))
  split
  .exact yr (YX b (yu d))
  .exact wpAny_tryCatch (yr (YX b (yu d)))
 unfold richCompare;simp only [oneThing_ref];refine Yk (yr (wpAny_cRoomFor m ?_));refine yr (I.type.here (yr (I.type.here ?_)));rw [yy (by simp)];refine yr (yu ?_);simp only [Yx,xu];refine yr (YU one (fun r c z=>?_) fun _ _ e=>e);obtain ⟨v,rfl,j⟩:=z;exact yu j
structure OEq (K:yg) (C:Addr):Prop where
 eq:PySem.W.findIn K (.ref C) "__eq__"=some (some (.builtin "object.__eq__"))
 ob:PySem.W.mroIn K C (.type "object")=some true
def qgW (K:yg):R2:=fun x y H Q=>qe0 K false x y H Q\/∃ a C dx fs,x=.ref a/\y=.ref a/\H a=some (.ins C dx fs)/\OEq K C/\Q (.bl true) H
theorem k_eqW {X:Cx} {K:yg} (d:X.K=K) (e:X.A.units+100<cLine):OpR X (compareOp .Eq) (qgW K):=by
 subst d;intro pins s σ H x y u v Q I b c h;rcases h with h | ⟨a,C,dx,fs,rfl,rfl,ea,oe,q⟩
 .exact k_eqU rfl e pins s σ H x y u v Q I b c h
 .cases b;cases c;obtain ⟨f,O,_⟩:=qa1 I.hok ea;obtain ⟨od,J,_⟩:=O.look;exact own_eq_same (by omega) I.kIn J oe.eq oe.ob ⟨.bl true,H,I,rfl,q⟩
theorem qN {X:Cx}:MtR X "list.append" qed:=mt_append
theorem qbU {X:Cx}:MtR X "list.extend" qee:=mt_extend
theorem qen {X:Cx}:MtR X "list.pop" qgO:=mt_pop
theorem mtR_popAt {X:Cx}:MtR X "list.pop" qe6:=mt_popAt
section
variable {D:Ends} {σ:St} {H:Hp} {Q:VK} {t u:TS} {te ta tb tc:TE} {tas:TA} {K:yg} {sp:Sp} {E:XK} {EK:St->XK} {C:Addr} {f m:Str}
theorem vFldU (h:ta σ H fun x b=>(∃ a C dx fs v,x=.ref a/\b a=some (.ins C dx fs)/\Cls K C/\NoAttr K C f/\fs.lookup f=some v/\Q v b) \/
 (∃ a C dx fs v,x=.ref a/\IsX b a C (some dx)/\XAt K C/\NoAttr K C f/\b dx=some (.xd fs)/\fs.lookup f=some v/\Q v b)):qf5 K ta f σ H Q:=h
theorem vSFldU (h:te σ H fun y c=>ta σ c fun x b=>(∃ a C dx fs,x=.ref a/\b a=some (.ins C dx fs)/\Cls K C/\NoAttr K C f/\fs.length<1000/\D.nx σ (upd b a (.ins C dx (qG f y fs)))) \/
 (∃ a C,x=.ref a/\b a=some (XN a C none)/\XAt K C/\NoAttr K C f/\∀ dx,b dx=none->D.nx σ (upd (upd b dx (.xd [(f,y)])) a (XN a C (some dx))))):qf6 K ta te f D σ H:=h
theorem vXMake (h:tas σ H fun vs a=>vs.length<=1000/\∀ x,a x=none->sp (.ref x::vs) (upd a x (XN x C none)) (fun v b=>v=.non/\Q (.ref x) b) E):tXMake C sp E tas σ H Q:=h
theorem vMake (h:tas σ H fun vs a=>∀ x dx,a x=none->a dx=none->dx≠x->sp (.ref x::(vs++[])) (upd (upd a dx (.own x)) x (.ins C dx [])) (fun v b=>v=.non/\Q (.ref x) b) E):qfx C sp [] E tas σ H Q:=h
theorem vMeth (h:ta σ H fun x b=>∃ a dx fs,x=.ref a/\b a=some (.ins C dx fs)/\fs.lookup m=none/\tas σ b fun vs c=>sp (x::(vs++[])) c Q E):qd6 C m sp [] E ta tas σ H Q:=h
theorem vVinit (h:tas σ H fun vs b=>∃ a C y,vs=[.ref a,y]/\b a=some (XN a C none)/\XAt K C/\Q .non b):tVinit K tas σ H Q:=h
theorem vCallS (h:tas σ H fun vs a=>sp vs a Q (EK σ)):tCallS sp EK tas σ H Q:=h
theorem vMethS (h:ta σ H fun x b=>∃ a dx fs,x=.ref a/\b a=some (.ins C dx fs)/\fs.lookup m=none/\tas σ b fun vs c=>sp (x::vs) c Q (EK σ)):tMethS C m sp EK ta tas σ H Q:=h
theorem vMakeS (h:tas σ H fun vs a=>∀ x dx,a x=none->a dx=none->dx≠x->sp (.ref x::vs) (upd (upd a dx (.own x)) x (.ins C dx [])) (fun v b=>v=.non/\Q (.ref x) b) (EK σ)):tMakeS C sp EK tas σ H Q:=h
theorem vRaise (h:te σ H fun x b=>∃ a C dx,x=.ref a/\b a=some (XN a C dx)/\XAt K C/\EK σ (.ref C) dx (upd b a (XO a C dx))):tRaise K EK te D σ H:=h
theorem qb4 {x y:V} {t a:Value} {b:Bool} (ty:TyX K H x t) (c:qcE y=some a) (hb:PySem.W.kitOne K t a=some b) (h:Q (.bl b) H):qf7 K [x,y] H Q:=⟨x,y,t,a,b,rfl,ty,c,hb,h⟩
end
section
variable {prog:Program} {w:World} {A:Around} {E:Value->Shared->Prop} {s:Shared}
theorem none_dict {a:Addr} {Q:Value->Shared->Prop} (d:s.TypeIs (.ref a) "dict") (e:A.units<cLine) (h:Q (.bool false) s):wpAny (model prog w) A (richCompare .Eq .none (.ref a)) Q E s:=by
 refine SeqAt.rc_eq_decline_or (k:=false) rfl d (by decide) PySem.F.sub_dict_NoneType YN PySem.F.slot_dict_eq_refl
  (fun _ c=>call_gives YN rfl PySem.F.entry_NoneType_eq (PySem.F.args_NoneType_eq_2 _ _) (SeqAt.NoneType___eq___none_ref_0 a) c) (fun f c=>?_) (fun _ c=>YX (rfl:isSame .none (.ref a)=pure false) c) (.inr e) h
 refine xH PySem.F.slot_dict_eq_refl d PySem.F.entry_dict_eq ?_ (PySem.F.args_dict_eq_2 _ _);show wpAny _ _ (Builtin.Dict.dictSlotArgs "__eq__" ⟨[.ref a,.none],[]⟩>>=_) _ _ s;refine yr ?_;unfold Builtin.Dict.dictSlotArgs;refine yr (wpAny_notOrdered_dict d ?_);show wpAny _ _ (pure (Value.ref a,Value.none)) _ _ s;refine yu ?_;refine yr (wpAny_isInstance (T:="NoneType") (b:=false) rfl PySem.F.sub_NoneType_dict ?_);simp only [Bool.not_false,Xl];exact yr (wpAny_rule (yu ⟨_,rfl,c⟩))
theorem none_own {K:yg} {x C:Addr} {ox:Obj} {od:Option Obj} {Q:Value->Shared->Prop} (j:A.units<cLine) (X:K.In s.heap) (I:PySem.W.InstAt s.heap x ox C od) (g:OEq K C) (i:PySem.W.mroIn K C (.type "NoneType")=some false)
  (h:Q (.bool false) s):wpAny (model prog w) A (richCompare .Eq .none (.ref x)) Q E s:=by
 have l:wpAny (model prog w) A (tryCompare .none "__eq__" (.ref x)) (fun r a=>r=none/\a=s) E s:=by
  unfold tryCompare;refine yr ?_;simp only [callSpecialIfBound?,bindSpecialIfBound?];refine Yk (yr (yr ?_));refine yr (YX (rfl:typeOf .none=pure (.type "NoneType")) ?_);refine YX YN.lookup ?_;refine yr (kG (wpAny_ite ?_))
  have d:wpAny (model prog w) A (call (.builtin "NoneType.__eq__") ([.none]++[.ref x])>>=fun v=>pure (some v)) (fun r a=>wpAny (model prog w) A (match r with | some .notImplemented | none=>pure none | some v=>pure (some v)) (fun r a=>r=none/\a=s) E a) E s:=
   yr (call_gives YN rfl PySem.F.entry_NoneType_eq (PySem.F.args_NoneType_eq_2 _ _) (SeqAt.NoneType___eq___none_ref_0 x) (yu (yu ⟨rfl,rfl⟩)))
  split
  .exact yr (YX (YN.bind .none) (yu d))
  .exact wpAny_tryCatch (yr (YX (YN.bind .none) (yu d)))
 have m:wpAny (model prog w) A (tryCompare (.ref x) "__eq__" .none) (fun r a=>r=none/\a=s) E s:=by
  unfold tryCompare;refine yr ?_;simp only [callSpecialIfBound?,bindSpecialIfBound?];refine Yk (yr (yr (yr (I.type.here ((Y3 X g.eq).here ?_)))));refine yr (kG (wpAny_ite ?_));have b:=PySem.F.slot_object_eq.bind (.ref x)
  have c:∀ {f:Value->Shared->Prop},f .notImplemented s->wpAny (model prog w) A (call (.builtin "object.__eq__") [.ref x,.none]) f E s:=fun {f} q=>by
   refine X7 (Xb PySem.F.slot_object_eq.plain PySem.F.entry_object_eq (@PySem.W.check_slot (model prog w) _ _ s "object.__eq__" "object" "__eq__" (.ref x) [.none] [] _ (by decide +kernel) (by decide +kernel) (I.type.andThen (xz X g.ob)) (PySem.F.args_object_eq_2 _ _) ?_));refine yr (yu (yr (YX (rfl:isSame (.ref x) .none=pure false) ?_)));exact yu q
  have d:wpAny (model prog w) A (call (.builtin "object.__eq__") ([.ref x]++[.none])>>=fun v=>pure (some v)) (fun r a=>wpAny (model prog w) A (match r with | some .notImplemented | none=>pure none | some v=>pure (some v)) (fun r a=>r=none/\a=s) E a) E s:=
   yr (c (yu (yu ⟨rfl,rfl⟩)))
  split
  .exact yr (YX b (yu d))
  .exact wpAny_tryCatch (yr (YX b (yu d)))
 unfold richCompare;refine Yk (yr (wpAny_cRoomFor j ?_));show wpAny _ _ (typeOf .none>>=_) _ _ _;refine yr (YX (rfl:typeOf .none=pure (.type "NoneType")) (yr (I.type.here ?_)));rw [yD (by rfl)];refine yr ((xz X i).here ?_);simp only [Yx,xu];refine yr (YU l (fun r a z=>?_) fun _ _ e=>e);obtain ⟨rfl,rfl⟩:=z;simp only [Bool.not_false,Xl];refine yr (YU m (fun r a z=>?_) fun _ _ e=>e);obtain ⟨rfl,rfl⟩:=z;refine yr (wpAny_rule (yr (YX (rfl:isSame .none (.ref x)=pure false) (yu h))))
end
def rNoneRef (K:yg):R2:=fun x y H Q=>∃ a,x=.non/\y=.ref a/\((∃ xs,SqL K H a xs\/SqT K H a xs)\/(∃ kvs,H a=some (.dK kvs))\/∃ C dx fs,H a=some (.ins C dx fs)/\OEq K C/\PySem.W.mroIn K C (.type "NoneType")=some false)/\Q (.bl false) H
def qfC (K:yg):R2:=fun x y H Q=>qgW K x y H Q\/rNoneRef K x y H Q
theorem zi {X:Cx} {K:yg} (e:X.K=K) (j:X.A.units+100<cLine):OpR X (compareOp .Eq) (qfC K):=by
 intro pins s σ H x y u v Q I f g h;rcases h with h | ⟨a,rfl,rfl,h,q⟩
 .exact k_eqW e j pins s σ H x y u v Q I f g h
 .subst e;cases f;cases g;have b:EP X pins σ Q (.bool false) s:=⟨.bl false,H,I,rfl,q⟩;rcases h with ⟨xs,hl | hl⟩ | ⟨kvs,c⟩ | ⟨C,dx,fs,c,l,i⟩
  .obtain ⟨its,r,pl,_⟩:=I.list hl;exact SeqAt.RcAt.none_list pl.isList (by omega) _ _ _ _ b
  .obtain ⟨its,r,pl,_⟩:=I.tuple hl;exact SeqAt.RcAt.none_tuple pl (by omega) _ _ _ _ b
  .obtain ⟨_,_,vs,_,d⟩:=(show ObjOk X.prog X.w H s.heap a (.dK kvs) from I.hok a _ c);exact none_dict d.typeIs (by omega) b
  .obtain ⟨m,O,_⟩:=qa1 I.hok c;obtain ⟨od,J,_⟩:=O.look;exact none_own (by omega) I.kIn J l i b
def XL (K:yg) (C:Addr) (d:List Value):Prop:=∃ l m N bs a sn sub c b e f g h i j,K.lookup C=some (excClassObj l m C N bs d a sn sub c b e f g h i j "ValueError.__new__")
section
variable {K:yg} {C D:Addr} {bm bn:List Value}
end
end L2
namespace HT
open PySem PySem.Spec PyProof.Rows
variable {sl:Addr} {vs:Value}
section
variable {prog:Program} {w:World} {A:Around} {E:Value->Shared->Prop} {s:Shared}
theorem sliceApplied_rev {Q:Int×Int×Nat->Shared->Prop} (d:s.heap.IsSliceOf sl .none .none vs) (e:IsPart vs (some (-1)))
  (h:Q (1,-1,2) s):wpAny (model prog w) A (Builtin.Slice.sliceApplied (.ref sl) (pure ((2:Nat):Int))) Q E s:=by
 obtain ⟨f,b,c,a⟩:=id d;unfold Builtin.Slice.sliceApplied Builtin.Slice.sliceFields;refine yr (yr (Y4 b a (x:=.none) rfl (yr (Y4 b a (x:=.none) rfl (yr (Y4 b a (x:=vs) rfl (yu ?_)))))));refine yr (qa2 e ?_);show wpAny _ _ (if ((-1:Int)==0)=true then _ else _) _ _ s;rw [yy (by decide)];refine yr (X9 (yr (X9 (yr (yu ?_)))));exact yu h
theorem getItem_pair_rev {t:Addr} {x y:Value} {Q:Value->Shared->Prop} (b:IsTup s.heap t #[x,y]) (f:s.heap.IsSliceOf sl .none .none vs) (j:IsPart vs (some (-1)))
  (h:Q (.ref s.heap.objs.size) { s with heap:=s.heap.push { cls:=.type "tuple",data:=.seq #[y,x] } }):wpAny (model prog w) A (getItem (.ref t) (.ref sl)) Q E s:=by
 have a:sizeOk (.seq #[y,x]):=by
  show 2<=sizeLine
  decide
 obtain ⟨i,e,d,g⟩:=id f;have c:s.TypeIs (.ref sl) "slice":=⟨i,e,d⟩;unfold getItem
 try with_reducible refine Yk ?_
 first | refine yr (yu ?_) | skip
 refine yr (wpAny_sequenceKey b.typeIs (by decide) ?_);refine yr (xG (name:=Str.ofString "__getitem__") b.typeIs YA
  (xH YA b.typeIs entry_tuple_getitem ?_ (args_tuple_getitem _ _)))
 show wpAny _ _ (Builtin.Tuple.tupleItemsOf (.ref t)>>=_) _ _ s;refine yr (tupleItemsOf_ b ?_);refine yr (wpAny_typeOf c ?_);rw [yD (by decide)];refine yr (sliceApplied_rev f j ?_);show wpAny _ _ (if ((1:Int)==0&&(-1:Int)==1&&2==2)=true then _ else _) _ _ s;rw [yy (by decide)]
 first
  | exact yr (m:=Builtin.Tuple.tupleExact _) (YL (yu ⟨_,rfl,yu h⟩) a)
  | exact yr (m:=Builtin.Tuple.tupleExact _) (YL (yr (yu (yu ⟨_,rfl,yu h⟩))) a)
  | exact yr (yr (m:=Builtin.Tuple.tupleExact _) (YL (yu (yu ⟨_,rfl,yu h⟩)) a))
  | exact yr (yr (m:=Builtin.Tuple.tupleExact _) (YL (yu ⟨_,rfl,yu h⟩) a))
end
end HT
namespace L2
open PySem PySem.Spec PyProof.Rows
variable {H:Hp} {σ:St}
def qgX (K:yg) (d:TE) (e:TO):TE:=fun σ H Q=>d σ H fun x c=>e σ c fun o b=>o=some (-1)/\∃ a y z,x=.ref a/\SqT K b a [y,z]/\∀ p,b p=none->Q (.ref p) (upd b p (.tup [z,y]))
theorem vRev {K:yg} {c:TE} {d:TO} {Q:VK} (h:c σ H fun x e=>d σ e fun o b=>o=some (-1)/\∃ a y z,x=.ref a/\SqT K b a [y,z]/\∀ p,b p=none->Q (.ref p) (upd b p (.tup [z,y]))):qgX K c d σ H Q:=h
section
variable {X:Cx} {K:yg} {e st:Expr} {te:TE} {ts:TO} {p2 pos:Pos}
theorem pe_rev (C:X.K=K) (D:PE X e te) (E:PO X (some st) ts):PE X (.Subscript e (.Slice none none (some st) p2) pos) (qgX K te ts):=by
 subst C;intro c s σ H Q I h;refine Subscript_ (thn (D c s σ H _ I h) fun v N ⟨x,m,p,M,L⟩=>?_);refine wpAny_Slice ?_;rw [ky];refine yu ?_;refine yu ?_;refine thn (E c N σ m _ p L) fun l d ⟨o,n,u,pt,B,a,y,z,ex,F,q⟩=>?_;subst B ex;cases M;have f:Inv X c σ n { d with heap:=d.heap.push { cls:=.type "slice",data:=.fields #[.none,.none,l] } }:=u.kept (t':=d.toks) fun b J q=>yv _ q;obtain ⟨G,r,j,hz⟩:=f.tuple F;obtain ⟨O,P,rfl,g,i⟩:=qd5 r;show wpAny (model X.prog X.w) X.A (subscriptTail e (.Slice none none (some st) p2) (.ref a) (.ref d.heap.objs.size)) (EP X c σ Q) X.xe { d with heap:=d.heap.push { cls:=.type "slice",data:=.fields #[.none,.none,l] } };refine tail_any (ops:=[.ref a,.ref d.heap.objs.size]) j.typeIs YA.lookup (HT.getItem_pair_rev j (kc ..) pt ?_) (by with_unfolding_all rfl);refine ⟨.ref _,_,f.laid (t':=d.toks) (o:=.tup [z,y]) (fun b J q=>yv _ q) (yh _) ?_,rfl,q _ (f.hok.fresh (yh _))⟩;exact ⟨by show 2<=sizeLine;decide,_,.cons i (.cons g .nil),IsTup.new _ _⟩
def rTupleU (K:yg):List V->Hp->VK->Prop:=fun xs H Q=>∃ p ys,xs=[.ref p]/\((SqL K H p ys/\∀ l,H l=none->Q (.ref l) (upd H l (.tup ys)))\/(SqT K H p ys/\Q (.ref p) H))
theorem qdB (a:X.K=K):zv X (.type "tuple") (rTupleU K):=by subst a;exact call_tuple_of
end
theorem Inv.turnedL {X:Cx} {a:List (Addr×Obj)} {s:Shared} {h':Heap} {t':Nat} {fp:List Addr} (I:Inv X a σ H s) (k:∀ b o,b∉fp->s.heap.get? b=some o->h'.get? b=some o) (f:∀ b∈fp,qcY X a H b):Inv X a σ H { s with heap:=h',toks:=t' }:=by
 have d:∀ b u,H b=some u->b∉fp:=fun b u e z=>by rw [(f b z).1] at e;cases e
 have p:X.env.locals∉fp:=fun z=>(f _ z).2.1 rfl;refine I.step (g':=s.gens) (d':=s.drawn) (ch:=fp) (fun b hb=>?_) (fun b o _ _ hc e _=>k b o hc e) (fun b o _ _ hc e _=>⟨o.slots,k b o hc e⟩) (fun _ _ _ _ n=>n)
  (fun b o hc e=>⟨o,k b o hc e⟩) (fun _ _ e=>e) (fun _ _ _ e=>e) (fun b B e=>⟨#[],by rw [e];simp⟩) (fun m w=>?_) (fun b u e=>?_) I.bare
 .obtain ⟨y,h,A,i,j,l⟩:=f b hb;exact ⟨i,h,j,l⟩
 .obtain ⟨o,g,ep,x,r⟩:=w;exact ⟨o,g,ep,k _ o p x,r⟩
 .refine (I.hok b u e).stay (fun c v hc q=>k c v ?_ q) (fun _ q=>q) fun _ _ q=>q;rcases hc with z | z
  .rw [z];exact d b u e
  .exact d c _ z
noncomputable def Ite (K:yg) (a:Addr):It:=
 ⟨fun i H=>∃ xs x,SqL K H a xs/\xs[i]?=some x,fun i H x H'=>∃ t y,x=.ref t/\H t=none/\H'=upd H t (.tup [.int i,y])/\∀ xs,SqL K H a xs->xs[i]?=some y,fun i H=>∃ xs,SqL K H a xs/\xs.length<=i⟩
theorem push_some {h:Heap} {o v:Obj} {b:Addr} (e:(h.push o).get? b=some v) (ne:b≠h.objs.size):h.get? b=some v:=(Heap.get?_push_cases e).elim (fun z=>absurd z.1 ne) fun z=>z
def iEnum (K:yg) (c:TA):TI:=fun σ H R=>c σ H fun vs b=>∃ a xs,vs=[.ref a]/\SqL K b a xs/\R (Ite K a) b
theorem vEnum {K:yg} {b:TA} {R:It->Hp->Prop} (h:b σ H fun vs c=>∃ a xs,vs=[.ref a]/\SqL K c a xs/\R (Ite K a) c):iEnum K b σ H R:=h
section
variable {X:Cx}
end
end L2
namespace L2
open PySem PySem.Spec PyProof.Rows PySem.Builtin PySem.Builtin.Str
theorem qf8 {a c:Nat} (h:a+100<c):a+1<c:=by omega
theorem vDGet2 {e ty f:TE} {b:St} {H:Hp} {Q:VK} (h:e b H fun x c=>∃ a,x=.ref a/\IsD c a/\ty b c fun y g=>f b g fun z d=>∃ o,DGet d a y o/\Q (o.getD z) d):tDGet2 e ty f b H Q:=h
end L2
namespace L2
open PySem PySem.Spec PyProof.Rows
theorem eqV_strD (a b:Str):eqV (.str a) (.str b)=decide (a=b):=by
 have e:eqV (.str a) (.str b)=(a==b):=by simp [eqV]
 rw [e,Yb,Ys,yJ]
theorem qcH:∀ (ys:List Str) (y:Str) (m:Nat) (b:m<ys.length),m<ys.idxOf y->ys[m]≠y
 | [],_,_,b,_=>by simp at b
 | a::r,y,m,b,h=>by
  rw [List.idxOf_cons] at h;by_cases e:a=y
  .subst e;simp at h
  .have hb:(a==y)=false:=YC.mpr e;rw [hb] at h
   cases m with
   | zero=>exact e
   | succ k =>
    have c:k<r.idxOf y:=by
     have h:k+1<r.idxOf y+1:=h;omega
    exact qcH r y k (by simpa using b) c
section
variable {X:Cx} {K:yg}
def rIndex (K:yg):V->List V->Hp->VK->Prop:=fun x vs H Q=>∃ (p:Addr) (ys:List Str) (y:Str),x=.ref p/\vs=[.str y]/\SqL K H p (ys.map V.str)/\y∈ys/\Q (.int (ys.idxOf y:Nat)) H
theorem qc9 (B:X.K=K):MtR X "list.index" (rIndex K):=by
 subst B;intro z s O H x vs v us Q I L J h;obtain ⟨p,ys,y,rfl,rfl,C,E,q⟩:=h;cases L;obtain ⟨u,rfl,G⟩:=J.one;obtain ⟨a,r,pl,hz⟩:=I.list C;obtain ⟨⟨cls,A,data,M⟩,o,hc,n,l⟩:=id pl.isList;simp only at hc l;subst hc l;have fs:(ys.map V.str).all zV=true:=by rw [kP];exact YS.mpr fun _ _=>rfl
 have b:(ys.map V.str).length=a.length:=r.length;rw [ya] at b;have d:ys.idxOf y<ys.length:=List.idxOf_lt_length_iff.mpr E
 have at_:∀ (m:Nat) (i:m<ys.length) (c:m<a.toArray.size),eqU (.str y) a.toArray[m]=decide (ys[m]=y):=fun m i c=>by
  have g:(ys.map V.str)[m]?=some (.str ys[m]):=by rw [yd,yb i];rfl
  obtain ⟨w,hw,j⟩:=r.get g
  have e:a.toArray[m]=w:=by
   have:a.toArray[m]?=some w:=by simpa using hw
   rw [Xg c] at this;exact ym this
  rw [e,qec j rfl,eqV_strD]
 have N:ys.length<=sizeLine:=by rw [ya] at hz;exact hz
 have D:sizeLine<2 ^ 63-1:=by decide
 refine XD xK ⟨_,o,rfl⟩ PySem.F.entry_list_index (PySem.F.args_list_index_2 _ _)
  (SeqAt.list_indexAt p a.toArray n A M u (eqU (.str y)) (ys.idxOf y) (by simpa [<- b] using d) (by omega) ?_ ?_) ⟨o,fun w hw=>qai G rfl r fs w (by simpa using hw),.int _,H,I.tok _,⟨_,rfl⟩,q⟩
 .rw [at_ _ d];exact yM (Yy d)
 .intro m i f;rw [at_ m (by omega)];exact yl fun e=>qcH ys y m (by omega) f e
end
theorem qcI (xs:List V) (k:Nat):qcx xs none (some (k:Int))=xs.take k:=by
 unfold qcx;rw [HT.sIx_none,HT.sIx_nat,List.drop_zero,kR];by_cases h:k<=xs.length
 .rw [XW h]
 .rw [XE (by omega),xQ (yh _),xQ (by omega)]
theorem qcJ (xs:List V) (k:Nat):qcx xs (some (k:Int)) none=xs.drop k:=by
 unfold qcx;rw [HT.sIx_none,HT.sIx_nat];by_cases h:k<=xs.length
 .rw [XW h,xQ (by rw [XC];omega)]
 .rw [XE (by omega),List.drop_length,List.drop_of_length_le (by omega)];simp
section
variable {X:Cx} {K:yg}
theorem qdC:∀ {ns:List Int} {us:List Value},Vals (ns.map V.int) us->IntsAre us ns
 | [],_,.nil=>.nil
 | n::ns,_,.cons r t=>by
  obtain ⟨tk,rfl⟩:=r;exact .cons n tk (qdC t)
def rSum (K:yg):List V->Hp->VK->Prop:=fun xs H Q=>∃ (p:Addr) (ns:List Int),xs=[.ref p]/\SqL K H p (ns.map V.int)/\Q (.int ns.sum) H
theorem k_sum (i:X.K=K) (hc:X.calm=true):zv X (.builtin "sum") (rSum K):=by
 subst i;intro e s o H xs us Q I r h;obtain ⟨p,ns,rfl,l,q⟩:=h;obtain ⟨u,rfl,m⟩:=qbd r;cases m;obtain ⟨b,n,pl,hz⟩:=I.list l;have c:=qdC n;obtain ⟨xs,d⟩:=c.allInts.items;have a:s.heap.IsList p (intItems xs):=d ▸ pl.isList;refine sum_intListG (I.ok.hd hc) a fun h' tk t' j=>?_
 have f:ns=xs.toList.map (·.1):=by
  rw [<- nums_intItems,<- d];exact (show numsOf b.toArray.toList=ns from c.numsOf).symm
 have g:preSum (numAt xs) xs.size=ns.sum:=by
  rw [preSum_eq,xQ (by simp),f]
 rw [g];exact ⟨.int _,H,I.kept j,⟨_,rfl⟩,q⟩
theorem boot_sum:bootBuiltins "sum"=some (.builtin "sum"):=by decide +kernel
end
end L2
namespace HT
open PySem PySem.Spec PyProof.Rows
section
variable {prog:Program} {w:World} {A:Around} {E:Value->Shared->Prop} {s:Shared}
end
end HT
namespace L2
open PySem PySem.Spec PyProof.Rows
def tStep (K:yg) (e:TE) (f:TO):TE:=fun c H Q=>e c H fun x d=>f c d fun o b=>∃ a y z,x=.ref a/\SqT K b a [y,z]/\((o=some (-1)/\∀ p,b p=none->Q (.ref p) (upd b p (.tup [z,y])))\/(o=some 1/\Q (.ref a) b))
theorem vStep {K:yg} {d:TE} {e:TO} {c:St} {H:Hp} {Q:VK} (h:d c H fun x f=>e c f fun o b=>∃ a y z,x=.ref a/\SqT K b a [y,z]/\((o=some (-1)/\∀ p,b p=none->Q (.ref p) (upd b p (.tup [z,y])))\/(o=some 1/\Q (.ref a) b))):tStep K d e c H Q:=h
section
variable {X:Cx} {K:yg} {e st:Expr} {te:TE} {ts:TO} {p2 pos:Pos}
end
def FG (K:yg) (a:Str) (st:Stmt):Prop:=∃ f b,PySem.W.nsIn K mainGlobals a=some (some (.ref f))/\Fun K a a st f b
def FM (K:yg) (C:Addr) (m b:Str) (st:Stmt):Prop:=∃ f a,PySem.W.findIn K (.ref C) m=some (some (.ref f))/\PySem.W.isFn K (.ref f)=true/\Fun K m b st f a
structure XQ (K:yg) (C:Addr):Prop where
 xa:PySem.W.findIn K (.ref C) "__getattribute__"=some (some (.builtin "BaseException.__getattribute__"))
 xb:PySem.W.findIn K (.ref C) "__getattr__"=some none
 xd:PySem.W.mroIn K C (.type "BaseException")=some true
 xe:PySem.W.mroIn K C (.type "object")=some true
 xf:PySem.W.hasDictIn K C=true
 xg:PySem.W.findIn K (.ref C) "__class__"=some (some (.builtin "object.__class__"))
 xh:PySem.W.findIn K (.ref C) "__setattr__"=some (some (.builtin "object.__setattr__"))
 p:PySem.W.keepIn K (.ref C)=true
section
variable {P:Program} {w:World} {K:yg} {mg:Str->Option Value} {base h:Heap} {CX:CXT} {k:Nat} {sp:Sp} {st:Stmt} {f:Addr} {fd:FuncData} {ps:List Str} {nm m ql x:Str} {C:Addr}
theorem lN0 {P:List Value->Prop} (h:P []):∀ us:List Value,us.length=0->P us:=fun us e=>by rw [List.eq_nil_of_length_eq_zero e];exact h
theorem lNs {P:List Value->Prop} {n:Nat} (h:∀ a r,r.length=n->P (a::r)):∀ us:List Value,us.length=n+1->P us:=fun us e=>by
 cases us with
 |nil=>cases e
 |cons a r=>exact h a r (Nat.succ.inj e)
theorem lN1 {P:List Value->Prop} (h:∀ a,P [a]):∀ us:List Value,us.length=1->P us:=lNs fun a=>lN0 (h a)
theorem lN2 {P:List Value->Prop} (h:∀ a b,P [a,b]):∀ us:List Value,us.length=2->P us:=lNs fun a=>lN1 (h a)
theorem lN3 {P:List Value->Prop} (h:∀ a b c,P [a,b,c]):∀ us:List Value,us.length=3->P us:=lNs fun a=>lN2 (h a)
theorem lN4 {P:List Value->Prop} (h:∀ a b c d,P [a,b,c,d]):∀ us:List Value,us.length=4->P us:=lNs fun a=>lN3 (h a)
theorem lN5 {P:List Value->Prop} (h:∀ a b c d e,P [a,b,c,d,e]):∀ us:List Value,us.length=5->P us:=lNs fun a=>lN4 (h a)
abbrev BA (x ql:Str) (st:Stmt) (ps:List Str):Prop:=∀ (kV b d:Value) (c:Option Addr) (a ct:Value) (us:List Value),us.length=ps.length->bindArgs (PySem.W.fnOf x ql (qaB st) (zW st) (qh st) .none kV b d c a ct) ⟨us,[]⟩=pure (ps.zip us)
theorem fg_mk (X:K.In h) (G:h.Ns mainGlobals mg) (a:PySem.W.nsIn K mainGlobals nm=some (some (.ref f))) (F:Fun K nm nm st f fd) (o:FnOk P w K mg base CX k f fd ps sp)
  (hb:BA nm nm st ps:=by first | (exact fun _ _ _ _ _ _=>lN1 fun _=>rfl) | (exact fun _ _ _ _ _ _=>lN2 fun _ _=>rfl) | (exact fun _ _ _ _ _ _=>lN3 fun _ _ _=>rfl) | (exact fun _ _ _ _ _ _=>lN4 fun _ _ _ _=>rfl)) :
  DefOk P w K mg base CX k nm ps sp:=⟨_,_,o,PySem.W.mg_of X G a,F.kp,F.binds hb⟩
theorem fm_mk (b:Cls K C) (a:PySem.W.findIn K (.ref C) m=some (some (.ref f))) (n:PySem.W.isFn K (.ref f)=true) (F:Fun K m ql st f fd) (o:FnOk P w K mg base CX k f fd ps sp)
  (hb:BA m ql st ps:=by first | (exact fun _ _ _ _ _ _=>lN1 fun _=>rfl) | (exact fun _ _ _ _ _ _=>lN2 fun _ _=>rfl) | (exact fun _ _ _ _ _ _=>lN3 fun _ _ _=>rfl) | (exact fun _ _ _ _ _ _=>lN4 fun _ _ _ _=>rfl)) :
  MethOk P w K mg base CX k C m ps sp:=⟨⟨_,_,o,⟨a,n,F.kp⟩,F.binds hb⟩,b⟩
theorem fw_mk (X:K.In h) (G:h.Ns mainGlobals mg) (c:PySem.W.nsIn K mainGlobals x=some (some (.ref C))) (b:PySem.W.makesIn K C=true) (d:PySem.W.keepIn K (.ref C)=true) (a:PySem.W.findIn K (.ref C) "__init__"=some (some (.ref f))) (n:PySem.W.isFn K (.ref f)=true) (F:Fun K "__init__" ql st f fd) (o:FnOk P w K mg base CX k f fd ps sp)
  (hb:BA "__init__" ql st ps:=by first | (exact fun _ _ _ _ _ _=>lN1 fun _=>rfl) | (exact fun _ _ _ _ _ _=>lN2 fun _ _=>rfl) | (exact fun _ _ _ _ _ _=>lN3 fun _ _ _=>rfl)) :
  MakeOk P w K mg base CX k C x ps sp:=⟨⟨_,_,o,⟨b,a,n,d⟩,F.binds hb⟩,PySem.W.mg_of X G c⟩
end
end L2
namespace HT
open PySem PySem.Spec PyProof.Rows
section
variable {prog:Program} {w:World} {A:Around} {E:Value->Shared->Prop} {s:Shared}
theorem assign_Tuple_list {env:Env} {b:List Expr} {x1} {d:Pos} {l:Addr} {a:Array Value} {Q:Unit->Shared->Prop} (e:A.handled=none) (hl:s.heap.IsList l a)
  (f:(assignEach b env).length=a.size) (c:(assignEach b env).findIdx? (·.1)=none)
  (h:∀ h',Heap.ExtBut s.heap.objs.size s.heap h'->wpAny (model prog w) A (assignInOrder ((assignEach b env).map (·.2)) a.toList) Q E { s with heap:=h' }) :
  wpAny (model prog w) A (assign (.Tuple b x1 d) env (.ref l)) Q E s:=by
 rw [assign_Tuple];refine yr (kx ?_);unfold unpack;rw [f,c];exact yr (Yk (PySem.W.kun_itemsOf e hl h))
end
end HT
namespace L2
open PySem PySem.Spec PyProof.Rows
variable {D:Ends} {H:Hp} {P:Program} {R:It->Hp->Prop} {X:Cx} {a b tg:Expr} {es:List Expr} {n:Nat} {p pos:Pos} {ta:TA} {te:TE} {w:World} {σ:St}
def qfD (K:yg) (n:Nat) (t:TGs):TG:=fun v σ H Q=>∃ a xs,v=.ref a/\(SqT K H a xs\/SqL K H a xs)/\xs.length=n/\t xs σ H Q
theorem vAsgU {K:yg} {a:TGs} (h:te σ H fun x b=>qfD K n a x σ b D.nx):qfL te (qfD K n a) D σ H:=h
section
variable {X:Cx} {K:yg} {pos p:Pos} {x:Str}
theorem pg_tupU {k:Nat} {t:TGs} (hc:X.calm=true) (h:PGs X es t)
  (g:(assignEach es X.env).length=n:=by rfl) (d:(assignEach es X.env).findIdx? (·.1)=none:=by rfl):PG X (.Tuple es k pos) (qfD X.K n t):=by
 intro c s σ H v u Q I r hw;obtain ⟨a,xs,f,hq,hl,hw⟩:=hw;rcases hq with hq | hq
 .exact qd2 hc h g d c s σ H v u Q I r ⟨a,xs,f,hq,hl,hw⟩
 .subst f;cases r;obtain ⟨p,i,l,hz⟩:=I.list hq;refine HT.assign_Tuple_list (I.ok.hd hc) l.isList (by simp [g,<- hl,i.length]) d fun h' m=>?_;have j:Inv X c σ H { s with heap:=h' }:=I.kept (t':=s.toks) fun b o e=>m b o (yI (yQ e)) e;exact h c _ σ H xs _ Q j (by simpa using i) hw
end
section
variable {X:Cx} {K:yg} {e lo st:Expr} {te:TE} {tl ts:TO} {p2 pos:Pos}
def qgY (K:yg) (te:TE):TI:=fun σ H R=>te σ H fun v b=>∃ a xs,v=.ref a/\SqL K b a xs/\R (Itl K a) b
theorem viLst {K:yg} (h:te σ H fun v b=>∃ a xs,v=.ref a/\SqL K b a xs/\R (Itl K a) b):qgY K te σ H R:=h
theorem ki_lst (j:X.K=K) (l:PE X e te):PI X tg e (qgY K te):=by
 subst j;intro c s σ H R I h;refine thn (l c s σ H _ I h) fun v d ⟨y,g,f,r,a,xs,i,m,q⟩=>?_;subst i;cases r
 have fp:∀ b∈[d.heap.objs.size],qcY X c g b:=fun b hb=>by
  have e:b=d.heap.objs.size:=by simpa using hb
  subst e;exact f.fpOk (yh _) (f.hok.fresh (yh _))
 obtain ⟨n,u,p,hz⟩:=f.list m;exact kj p.isList ⟨d.heap.objs.size,[d.heap.objs.size],_,_,g,rfl,f.kept (t':=d.toks) fun b o e=>yv _ e,qco a _,⟨_,yW _ rfl,rfl,rfl⟩,fp,q⟩
end
noncomputable def Itz (K:yg) (a b:Addr):It:=
 ⟨fun i H=>∃ xs ys x y,SqL K H a xs/\SqL K H b ys/\xs[i]?=some x/\ys[i]?=some y,fun i H v H'=>∃ t x y,v=.ref t/\H t=none/\H'=upd H t (.tup [x,y])/\(∀ xs,SqL K H a xs->xs[i]?=some x)/\∀ ys,SqL K H b ys->ys[i]?=some y,fun i H=>∃ xs ys,SqL K H a xs/\SqL K H b ys/\(xs.length<=i\/ys.length<=i)⟩
def tnZ (z TI TO c d a b:Addr) (i:Nat) (h:Heap):Prop:=IsZip h z TI TO .none/\IsPair h TI (.ref c) (.ref d)/\(∃ u v,IsPair h TO u v)/\h.IsListIter c a i/\h.IsListIter d b i
theorem turn_zip {K:yg} {x1} (a b z TI TO n q:Addr) (D:ZipApart z TI TO n q a b):Turn P w K (.Tuple es x1 pos) (Itz K a b) [z,TI,TO,n,q] z (tnZ z TI TO n q a b) where
 mem:=by simp
 obj:=fun i h st c hc=>by
  obtain ⟨hz,d,⟨u,v,g⟩,⟨o1,e1,c1,d1⟩,⟨o2,e2,c2,d2⟩⟩:=st;simp only [yB,Yd,Y0] at hc;rcases hc with rfl | rfl | rfl | rfl | rfl
  .exact ⟨_,hz,fun v z=>by have G:Data.fields _=Data.cell v:=z;cases G⟩
  .exact ⟨_,d,fun v z=>by have G:Data.seq _ _=Data.cell v:=z;cases G⟩
  .exact ⟨_,g,fun v z=>by have G:Data.seq _ _=Data.cell v:=z;cases G⟩
  .exact ⟨o1,e1,fun v z=>by rw [d1] at z;cases z⟩
  .exact ⟨o2,e2,fun v z=>by rw [d2] at z;cases z⟩
 keep:=fun i h h' st k=>by
  obtain ⟨hz,d,⟨u,v,g⟩,h1,A⟩:=st;exact ⟨k z (by simp) _ hz,k TI (by simp) _ d,⟨u,v,k TO (by simp) _ g⟩,h1.at fun o x=>k n (by simp) o x,A.at fun o x=>k q (by simp) o x⟩
 item:=by
  intro X T hw S hc i l s σ H E I U st W;subst T hw S;obtain ⟨hz,d,⟨u,v,g⟩,h1,A⟩:=st;obtain ⟨xs,ys,x,y,L,m,hx,hy⟩:=W;obtain ⟨ae,rv,p,_⟩:=I.list L;obtain ⟨F,r,p2,_⟩:=I.list m;obtain ⟨M,Y,ah⟩:=rv.get hx;obtain ⟨N,Z,ai⟩:=r.get hy;refine wpAny_pyNext_zip_item D hz d g h1 A p.isList p2.isList (x:=M) (y:=N) (by simpa using Y) (by simpa using Z) fun h' ac B O R hT hsz J=>?_;refine ⟨_,rfl,wpAny_letOwnedTupleGo_zip ac fun h3 ad j=>?_⟩;have fre:H s.heap.objs.size=none:=I.hok.fresh (yh _);have lt:∀ {c o},s.heap.get? c=some o->s.heap.objs.size≠c:=fun e=>Yl (yQ e);have nz:=lt hz;have af:=lt d;have ag:=lt g;have n1:s.heap.objs.size≠n:=by obtain ⟨_,e,_⟩:=h1;exact lt e
  have n2:s.heap.objs.size≠q:=by obtain ⟨_,e,_⟩:=A;exact lt e
  have I1:Inv X l σ (upd H s.heap.objs.size (.tup [x,y])) { s with heap:=s.heap.push { cls:=.type "tuple",data:=.seq #[M,N] },toks:=s.toks }:=
   I.laid (fun b u e=>yv _ e) (yh _) ⟨by show 2<=sizeLine;decide,[M,N],.cons ah (.cons ai .nil),⟨_,yW _ rfl,rfl,_,rfl⟩⟩
  have C:∀ c∈[z,TI,TO,n,q],qcY X l (upd H s.heap.objs.size (.tup [x,y])) c:=fun c hc=>by
   obtain ⟨f0,f⟩:=U c hc;refine ⟨?_,f⟩;rw [qe]
   .exact f0
   .simp only [yB,Yd,Y0] at hc;rcases hc with rfl | rfl | rfl | rfl | rfl
    .exact nz.symm
    .exact af.symm
    .exact ag.symm
    .exact n1.symm
    .exact n2.symm
  have kk:∀ c o,c∉[z,TI,TO,n,q]->(s.heap.push { cls:=.type "tuple",data:=.seq #[M,N] }).get? c=some o->h3.get? c=some o:=fun c o hc e=>by
   simp only [yB,Yd,Y0,not_or] at hc;refine j.extBut _ _ hc.1 ?_;by_cases hz:c=s.heap.objs.size
   .subst hz;rw [yW _ rfl] at e;cases e;exact hT
   .exact J c o hc.1 hc.2.2.1 hc.2.2.2.1 hc.2.2.2.2 (push_some e hz)
  have I2:=I1.turnedL (h':=h3) (t':=s.toks) (fp:=[z,TI,TO,n,q]) kk C;refine ⟨.ref s.heap.objs.size,_,I2,rfl,⟨_,x,y,rfl,fre,rfl,fun aj aa=>by rw [I.list_inj aa L];exact hx,fun ys' ab=>by rw [I.list_inj ab m];exact hy⟩,⟨ad,?_,⟨_,_,j.extBut _ _ D.TOz B⟩,O.extBut j.extBut D.i1z,R.extBut j.extBut D.i2z⟩,fun c hc=>(C c hc).1⟩;exact j.extBut _ _ D.TIz (J _ _ D.TIz D.TITO D.TIi1 D.TIi2 d)
 done:=by
  intro X T hw S hc i l s σ H E I U st W;subst T hw S;obtain ⟨hz,d,⟨u,v,g⟩,h1,A⟩:=st;obtain ⟨xs,ys,L,m,he⟩:=W;obtain ⟨ae,rv,p,_⟩:=I.list L;obtain ⟨F,r,p2,_⟩:=I.list m;have l1:=rv.length;have l2:=r.length;refine wpAny_pyNext_zip_end (I.ok.hd hc) D hz d g h1 A p.isList p2.isList (he.imp (fun e=>xR (by simp;omega)) fun e=>xR (by simp;omega)) fun h' J=>⟨rfl,I.turnedL (t':=s.toks) (fp:=[z,TI,TO,n,q]) (fun c o hc e=>?_) U⟩;simp only [yB,Yd,Y0,not_or] at hc;exact J c o hc.1 hc.2.2.1 hc.2.2.2.1 hc.2.2.2.2 e
 self:=fun _ _ _ _ _ st h=>kH st.1 h
theorem qdD:bootBuiltins "zip"=some (.type "zip"):=by decide +kernel
def qgZ (K:yg) (ta:TA):TI:=fun σ H R=>ta σ H fun vs c=>∃ a b xs ys,vs=[.ref a,.ref b]/\SqL K c a xs/\SqL K c b ys/\R (Itz K a b) c
theorem vZip {K:yg} {c:TA} (h:c σ H fun vs d=>∃ a b xs ys,vs=[.ref a,.ref b]/\SqL K d a xs/\SqL K d b ys/\R (Itz K a b) d):qgZ K c σ H R:=h
theorem pi_zip {K:yg} {x1} {N:Pos} (z:X.K=K) (B:Gl X "zip") (D:X.mg "zip"=none) (A:PA X [a,b] ta) (F:starEach [a,b] X.env=[(false,eval a X.env),(false,eval b X.env)]:=by rfl) (g:starEach [b] X.env=[(false,eval b X.env)]:=by rfl):PI X (.Tuple es x1 N) (.Call (.Name "zip" p) [a,b] [] pos) (qgZ K ta):=by
 subst z;intro i s σ H R I h;refine Call_ (qaG I B D qdD (Yz (thn (A pos i s σ H _ I h) fun us f ⟨vs,y,d,L,J⟩=>?_) (by rw [F,g]) (by rw [g];rfl)));obtain ⟨a,b,xs,ys,e,E,u,q⟩:=J;subst e
 cases L with
 | cons r rr =>
  cases rr with
  | cons r2 rr =>
   cases rr;cases r;cases r2;obtain ⟨G,O,pl,_⟩:=d.list E;obtain ⟨x,M,j,_⟩:=d.list u;have v:a<f.heap.objs.size:=by obtain ⟨_,e,_⟩:=pl.isList;exact yQ e
   have w:b<f.heap.objs.size:=by obtain ⟨_,e,_⟩:=j.isList;exact yQ e
   refine call_zip_2 pl.isList j.isList fun h' hz l m n o hsz C=>kH hz ?_;refine ⟨_,[f.heap.objs.size+4,f.heap.objs.size+2,f.heap.objs.size+3,f.heap.objs.size,f.heap.objs.size+1],_,_,y,rfl,d.kept (t':=f.toks) C,turn_zip a b _ _ _ _ _ (PySem.W.ktu_apart _ _ _ v w),⟨hz,l,⟨_,_,m⟩,n,o⟩,fun c hc=>?_,q⟩;simp only [yB,Yd,Y0] at hc;rcases hc with rfl | rfl | rfl | rfl | rfl
   .exact d.fpOk (xL _ _) (d.hok.fresh (xL _ _))
   .exact d.fpOk (xL _ _) (d.hok.fresh (xL _ _))
   .exact d.fpOk (xL _ _) (d.hok.fresh (xL _ _))
   .exact d.fpOk (yh _) (d.hok.fresh (yh _))
   .exact d.fpOk (Xa _) (d.hok.fresh (Xa _))
def qg0 (K:yg) (te:TE) (d:TO):TE:=fun σ H Q=>te σ H fun x c=>d σ c fun o b=>o=some (-1)/\∃ a xs,x=.ref a/\SqL K b a xs/\∀ p,b p=none->Q (.ref p) (upd b p (.lst xs.reverse))
theorem qgv {K:yg} {c:TO} {Q:VK} (h:te σ H fun x d=>c σ d fun o b=>o=some (-1)/\∃ a xs,x=.ref a/\SqL K b a xs/\∀ p,b p=none->Q (.ref p) (upd b p (.lst xs.reverse))):qg0 K te c σ H Q:=h
theorem qdE:∀ {xs:List V} {us:List Value},Vals xs us->Vals xs.reverse us.reverse
 | _,_,.nil=>.nil
 | _,_,.cons r t=>by
  rw [List.reverse_cons,List.reverse_cons];exact (qdE t).append (.cons r .nil)
section
variable {X:Cx} {K:yg} {e st:Expr} {te:TE} {ts:TO} {p2 pos:Pos}
theorem qeo (y:X.K=K) (z:PE X e te) (B:PO X (some st) ts):PE X (.Subscript e (.Slice none none (some st) p2) pos) (qg0 K te ts):=by
 subst y;intro c s σ H Q I h;refine Subscript_ (thn (z c s σ H _ I h) fun v J ⟨x,l,n,G,F⟩=>?_);refine wpAny_Slice ?_;rw [ky];refine yu ?_;refine yu ?_;refine thn (B c J σ l _ n F) fun j d ⟨o,m,p,pt,u,a,xs,ex,C,q⟩=>?_;subst u ex;cases G;have f:Inv X c σ m { d with heap:=d.heap.push { cls:=.type "slice",data:=.fields #[.none,.none,j] } }:=p.kept (t':=d.toks) fun b E q=>yv _ q;obtain ⟨D,r,i,hz⟩:=f.list C;have g:=r.length;show wpAny (model X.prog X.w) X.A (subscriptTail e (.Slice none none (some st) p2) (.ref a) (.ref d.heap.objs.size)) (EP X c σ Q) X.xe { d with heap:=d.heap.push { cls:=.type "slice",data:=.fields #[.none,.none,j] } };refine tail_any (ops:=[.ref a,.ref d.heap.objs.size]) i.isList.typeIs kh.lookup (wpAny_getItem_list_slice i.isList (kc ..) .none .none pt (by decide) ?_ (by rw [yw]<;>omega)) (by with_unfolding_all rfl);rw [PySem.W.krv_pick];refine ⟨.ref _,_,f.laid (t':=d.toks) (o:=.lst xs.reverse) (fun b E q=>yv _ q) (yh _) ?_,rfl,q _ (f.hok.fresh (yh _))⟩;exact ⟨by rw [Yq];exact hz,_,0,qdE r,yW _ rfl⟩
end
section
variable {X:Cx} {a:Expr} {ta:TA} {p p2 pos pos2:Pos}
end
noncomputable def Itd (n:Nat):It:=⟨fun i _=>i<n,fun i H x H'=>H'=H/\x=.int ((n:Int)-i),fun i _=>n<=i⟩
theorem turn_down {K:yg} (it:Addr) (n:Nat):Turn P w K tg (Itd n) [it] it (fun i h=>IsRangeIter h it ((n:Int)+(i:Nat)*(-1)) ((n:Int)-(i:Nat)) (-1)) where
 mem:=by simp
 obj:=fun i h st b hb=>by
  obtain rfl:b=it:=by simpa using hb
  exact ⟨_,st,fun v z=>by have y:Data.fields _=Data.cell v:=z;cases y⟩
 keep:=fun i h h' st k=>k it (by simp) _ st
 item:=by
  intro X q hw p hc i a s σ H E I d st r;subst q hw p;obtain ⟨f,g,_,j,l,m⟩:=d it (by simp);refine (Walks.range (prog:=X.prog) (w:=X.w) (I.ok.hd hc) it (n:Int) (-1) n).item i s _ _ r st fun v h' tk hv c x=>?_;obtain ⟨t,rfl⟩:=hv;have J:Inv X a σ H { s with heap:=h',toks:=tk }:=I.turned (fun b o hb e=>x b o (by simpa using hb) e) f g j l m;refine ⟨_,rfl,qeV (s:={ s with heap:=h',toks:=tk }) (n:="range_iterator") c rfl rfl (by decide) ⟨.int ((n:Int)-i),H,J,⟨t,?_⟩,⟨rfl,rfl⟩,c,fun b hb=>(d b hb).1⟩⟩
  congr 1
  omega
 done:=by
  intro X q hw p hc i a s σ H E I d st r;subst q hw p;obtain ⟨f,g,_,j,l,m⟩:=d it (by simp);exact wpAny_pyNext_range_end (I.ok.hd hc) st (by have:n<=i:=r;omega) fun h' u=>⟨rfl,I.turned (t':=s.toks) (fun b o hb e=>u b o hb e) f g j l m⟩
 self:=fun _ _ _ _ _ st h=>wpAny_pyIter_rangeiter st h
def qf9 (ta:TA):TI:=fun σ H R=>ta σ H fun vs a=>∃ n:Nat,vs=[.int n,.int 0,.int (-1)]/\n<=1000/\R (Itd n) a
theorem vDown (h:ta σ H fun vs a=>∃ n:Nat,vs=[.int n,.int 0,.int (-1)]/\n<=1000/\R (Itd n) a):qf9 ta σ H R:=h
theorem qcK (n:Nat):Builtin.Range.rangeSize (n:Int) 0 (-1)=n:=by
 unfold Builtin.Range.rangeSize;rw [yy (by decide)];split
 .rw [show (-(-1):Int)=1 by decide,Int.ediv_one];omega
 .omega
theorem small_down (h:n<=1000):Builtin.Range.small (n:Int) 0 (-1)=true:=by
 unfold Builtin.Range.small;rw [qcK];simp only [Builtin.Range.rangeFitsLong,yU,XU,xv,Ys];simp;omega
theorem pi_down {c:Expr} (x:Gl X "range") (y:X.mg "range"=none) (w:PA X [a,b,c] ta) (A:starEach [a,b,c] X.env=[(false,eval a X.env),(false,eval b X.env),(false,eval c X.env)]:=by rfl) (g:starEach [b,c] X.env=[(false,eval b X.env),(false,eval c X.env)]:=by rfl) :
  PI X tg (.Call (.Name "range" p) [a,b,c] [] pos) (qf9 ta):=by
 intro d s σ H R I h;refine Call_ (qaG I x y boot_range (Yz (thn (w pos d s σ H _ I h) fun us f ⟨vs,l,m,C,B⟩=>?_) (by rw [A,g]) (by rw [g];rfl)));obtain ⟨n,e,z,q⟩:=B;subst e
 cases C with
 | cons r rr =>
  cases rr with
  | cons r2 rr =>
   cases rr with
   | cons r3 rr =>
    cases rr;obtain ⟨t,rfl⟩:=r;obtain ⟨i,rfl⟩:=r2;obtain ⟨j,rfl⟩:=r3;refine call_range_3 (by decide) ?_ (.inl (PyProof.noPylong_small (by omega)));refine wpAny_pyIter_range (IsRange.new ..) (small_down z) ?_;have J:Inv X d σ l { f with heap:=f.heap.push { cls:=.type "range",data:=.fields #[.int n t,.int 0 i,.int (-1) j] },toks:=f.toks }:=m.kept fun b o e=>yv _ e;refine ⟨_,[(f.heap.push { cls:=.type "range",data:=.fields #[.int n t,.int 0 i,.int (-1) j] }).objs.size],_,_,l,rfl,J.kept (t':=f.toks) fun b o e=>yv _ e,turn_down _ n,?_,fun b hb=>?_,q⟩
    .have u:(n:Int)+((0:Nat):Int)*(-1)=n:=by simp
     have v:(n:Int)-((0:Nat):Int)=Builtin.Range.rangeSize (n:Int) 0 (-1):=by rw [qcK];simp
     show IsRangeIter _ _ ((n:Int)+((0:Nat):Int)*(-1)) ((n:Int)-((0:Nat):Int)) (-1);rw [u,v];exact yW _ rfl
    .obtain rfl:b=(f.heap.push { cls:=.type "range",data:=.fields #[.int n t,.int 0 i,.int (-1) j] }).objs.size:=by simpa using hb
     exact J.fpOk (yh _) (J.hok.fresh (yh _))
theorem for_down {g:TG} {h:TS} (a:Nat->St->Hp->Prop) (j:a 0 σ H)
  (o:∀ i σ H,i<n->a i σ H->g (.int ((n:Int)-i)) σ H fun d e=>h { D with nx:=a (i+1),ct:=a (i+1),bk:=D.nx } d e) (l:∀ σ H,a n σ H->D.nx σ H) :
  ∃ W:Nat->Nat->St->Hp->Prop,(∃ m,W 0 m σ H)/\∀ i m σ H,W i m σ H ->
   ((Itd n).stop i H/\D.nx σ H)\/((Itd n).go i H/\∃ N:St->Hp->Prop,(∀ c H',N c H'->∃ f,f<m/\W (i+1) f c H')/\∀ x H',(Itd n).yld i H x H'->g x σ H' fun d e=>h { D with nx:=N,ct:=N,bk:=D.nx } d e):=by
 refine ⟨fun i m σ H=>m=n-i/\i<=n/\a i σ H,⟨n,by simp,YH _,j⟩,?_⟩;rintro i m σ H ⟨rfl,r,p⟩;by_cases b:i<n
 .refine .inr ⟨b,a (i+1),fun c H' q=>⟨n-(i+1),by omega,rfl,b,q⟩,fun x H' y=>?_⟩;obtain ⟨rfl,rfl⟩:=y;exact o i σ _ b p
 .obtain rfl:i=n:=by omega
  exact .inl ⟨yh _,l σ H p⟩
end L2
namespace L2
structure Sb (V:Nat->Prop):Prop where
 z:V 0
 a:∀ x y,V x->V y->V (x ^^^ y)
def jn (V:Nat->Prop) (x:Nat):Nat->Prop:=fun y=>V y\/V (y ^^^ x)
def Spn:List Nat->Nat->Prop
 | []=>fun y=>y=0
 | a::L=>jn (Spn L) a
open Classical in
def Bnd (b n v:Nat):Prop:=∀ i,v.testBit i=true->b<=i/\i<b+n
open Classical in
noncomputable def swp:Nat->Nat->List Nat->Nat
 | 0,_,_=>0
 | n+1,b,L=>match L.filter (fun v=>v.testBit b) with
  | []=>swp n (b+1) L
  | p::t=>1+swp n (b+1) (L.filter (fun v=>!v.testBit b)++t.map fun v=>v ^^^ p)
open Classical in
noncomputable def rk (L:List Nat):Nat:=swp 30 0 L
open Classical in
noncomputable def les:Nat×Nat->List (Nat×Nat)->Nat×Nat
 | s,[]=>s
 | s,o::os=>if s.1 ^^^ o.1<s.1 then les (s.1 ^^^ o.1,s.2 ^^^ o.2) os else les s os
structure Ech (os:List (Nat×Nat)):Prop where
 nz:∀ o∈os,o.1≠0
 pw:os.Pairwise fun a b=>b.1.testBit a.1.log2=false
noncomputable def csm:List Nat->Nat->Nat->Nat
 | [],_,_=>0
 | a::L,k,c=>(if c.testBit k then a else 0) ^^^ csm L (k+1) c
noncomputable def stp (st:List (Nat×Nat)) (n v:Nat):List (Nat×Nat):=if (les (v,1 <<< n) st).1=0 then st else st++[les (v,1 <<< n) st]
structure Stp (L:List Nat) (n:Nat) (st:List (Nat×Nat)):Prop where
 ech:Ech st
 sum:∀ o∈st,csm L 0 o.2=o.1
 low:∀ o∈st,o.2<2 ^ n
 lt:∀ o∈st,o.1<2 ^ 30
 spn:∀ v,Spn (st.map (·.1)) v↔Spn (L.take n) v
 free:st.map (fun o=>o.2.log2)=(List.range n).filter fun i=>decide (rk (L.take i)<rk (L.take (i+1)))
 len:st.length<=n
end L2
namespace L2
open PySem PySem.Spec PyProof.Rows
variable {i j:Nat}
section
variable {X:Cx}
end
def Fl:V->Prop
 | .non=>True
 | .bl _=>True
 | .int i=>-999999999999<=i/\i<=999999999999
 | _=>False
noncomputable def fD:V->PyData
 | .non=>.none
 | .bl b=>.bool b
 | .int i=>.int i
 | .str x=>.str x
 | _=>.none
def FlS (xs:List V):Prop:=xs.length<=1000/\∀ x∈xs,Fl x
def ShwT (H:Hp) (v:V) (t:Str):Prop:=match v with
 | .non=>t="None"
 | .bl b=>t=if b then Str.ofString "True" else Str.ofString "False"
 | .int i=>i.natAbs.log2<1920/\t=toString i
 | .str x=>(reprText x).length<=sizeLine/\t=reprText x
 | .ref p=>(∃ xs,H p=some (.lst xs)/\FlS xs/\t=(PyData.list (xs.map fD)).shown)\/∃ xs,H p=some (.tup xs)/\FlS xs/\t=(PyData.tuple (xs.map fD)).shown
 | _=>False
section
variable {X:Cx} {K:yg}
end
theorem gk_two {b n:Nat} {K:yg} (o:i<b:=by decide) (p:j<b:=by decide):qeh b (qgD K n (qfu (qbZ i) (qfu (qbZ j) qgC))):=by
 intro x u H Q ⟨a,xs,e,h,g,v,r,c,m,l,d,q⟩;obtain ⟨f,q⟩:=q;refine ⟨a,xs,e,h,g,v,r,c,m,l,d,f,q,?_,fun k s=>?_⟩
 .rw [XR,XR]
 .rw [xr (by omega),xr (by omega)]
section
variable {K:yg} {a:Addr} {xs:List V} {g:TG} {tc:TT} {te:TE} {σ':St} {H1:Hp} {Q:V->Hp->Prop}
end
section
variable {K:yg} {a b:Addr} {xs ys:List V} {g:TG} {tc:TT} {te:TE} {σ':St} {H1:Hp} {Q:V->Hp->Prop}
theorem comp_zip (E:ys.length<=xs.length) (d:Nat->List V->Hp->Prop) (s:d 0 [] H1) (hl:∀ i c H,i<=ys.length->d i c H->SqL K H a xs/\SqL K H b ys)
  (A:∀ i x y t c H,xs[i]?=some x->ys[i]?=some y->H t=none->d i c H->g (.ref t) σ' (upd H t (.tup [x,y])) fun h o=>tc h o fun b n=>if b=true then te h n fun v r=>c.length<sizeLine/\d (i+1) (c++[v]) r else d (i+1) c n)
  (w:∀ c H,d ys.length c H->c.length<=sizeLine/\∀ p,H p=none->Q (.ref p) (upd H p (.lst c))):qei (Itz K a b) g tc te σ' H1 Q:=by
 refine ⟨fun i m c H=>m=ys.length-i/\i<=ys.length/\d i c H,⟨ys.length,by simp,YH _,s⟩,?_⟩;rintro i m c H ⟨rfl,z,p⟩;obtain ⟨q,l⟩:=hl i c H z p;by_cases f:i<ys.length
 .have j:i<xs.length:=by omega
  refine .inr ⟨⟨xs,ys,xs[i],ys[i],q,l,by simp [j],by simp [f]⟩,d (i+1),fun ys' H' C=>⟨ys.length-(i+1),by omega,rfl,f,C⟩,fun x H' y=>?_⟩;obtain ⟨t,v,u,rfl,B,rfl,y,D⟩:=y;exact A i v u t c _ (y xs q) (D ys l) B p
 .have e:i=ys.length:=by omega
  subst e;exact .inl ⟨⟨xs,ys,q,l,.inr (yh _)⟩,w c H p⟩
end
section
variable {X:Cx} {K:yg}
end
section
variable {X:Cx} {K:yg} {e st:Expr} {te:TE} {ts:TO} {p2 pos:Pos}
end
mutual
inductive Dat (H:Hp):V->PyData->Prop
 | non:Dat H .non .none
 | bl (b:Bool):Dat H (.bl b) (.bool b)
 | int (i:Int):Dat H (.int i) (.int i)
 | str (x:Str):Dat H (.str x) (.str x)
 | lst {a:Addr} {xs:List V} {ds:List PyData}:H a=some (.lst xs)->DatS H xs ds->Dat H (.ref a) (.list ds)
 | tup {a:Addr} {xs:List V} {ds:List PyData}:H a=some (.tup xs)->DatS H xs ds->Dat H (.ref a) (.tuple ds)
 | dnil {a:Addr}:H a=some (.dK [])->Dat H (.ref a) (.dict [])
inductive DatS (H:Hp):List V->List PyData->Prop
 | nil:DatS H [] []
 | cons {v:V} {vs:List V} {d:PyData} {ds:List PyData}:Dat H v d->DatS H vs ds->DatS H (v::vs) (d::ds)
end
structure Shw (d:PyData) (n m:Nat):Prop where
 s:d.showable=true
 l:d.leavesShort 13=true
 b:d.bulk<=n
 p:d.depth<=m
structure ShwS (ds:List PyData) (n m:Nat):Prop where
 s:PyData.showableAll ds=true
 l:PyData.leavesShortAll 13 ds=true
 b:PyData.bulkAll ds<=n
 p:PyData.depthAll ds<=m
section
variable {X:Cx} {K:yg} {pins:List (Addr×Obj)} {σ:List (Option V)} {H:Hp} {s:Shared}
end
section
variable {X:Cx} {tg elt iter:Expr} {ifs:List Expr} {scope sc1:Scope} {pos:Pos} {N N1:List Str} {nl:Nat} {ixs:List Nat} {wi:TI} {g:TG} {tc:TT} {te:TE} {C1:Addr} {s1:Shared} {H1:Hp} {ex1:List Addr}
end
section
variable {X:Cx} {K:yg}
theorem qcL {e ty:TE} {b:St} {H:Hp} {Q:VK} (h:e b H fun x c=>∃ a,x=.ref a/\IsD c a/\ty b c fun y d=>∃ o,DGet d a y o/\Q (o.getD .non) d):qe8 e ty b H Q:=h
end
noncomputable abbrev Cx.soft (X:Cx):Cx:={ X with calm:=false }
structure RoomW (k:Nat) (A:Around):Prop where
 dp:A.depth+3*k+5<recursionLimit
 un:A.units+16*k+200<cLine
 gd:A.guards=some []
theorem RoomW.deeper {k:Nat} {A:Around} (r:RoomW (k+1) A) (env:Env):RoomW k (A.deeper env):=
 ⟨by have:=r.dp;show A.depth+1+3*k+5<_;omega,by have:=r.un;show A.units+3+16*k+200<_;omega,r.gd⟩
theorem Room.soft {j k:Nat} {A:Around} {h:Option Value} (r:Room k A) (l:j<=k):RoomW j (A.mark h):=⟨by have:=r.dp;show A.depth+3*j+5<_;omega,by have:=r.un;show A.units+16*j+200<_;omega,r.gd⟩
structure FnOkW (P:Program) (w:World) (K:yg) (mg:Str->Option Value) (base:Heap) (k:Nat) (f:Addr) (fd:FuncData) (ps:List Str) (sp:Sp):Prop where
 len:∀ vs H Q E,sp vs H Q E->vs.length=ps.length
 run:∀ (A:Around) (outer:List Env) (s:Shared) (H:Hp) (args:Args) (us:List Value) (vs:List V) (Q:VK) (E:XK),RoomW k A->Env0 P w K mg base A outer s H->BindsTo s fd args (ps.zip us)->Vals vs us->sp vs H Q E ->
  codeAny (model P w) A (.call (.ref f) args) (CR CX0 outer P w H s Q E) s
structure DefOkW (P:Program) (w:World) (K:yg) (mg:Str->Option Value) (base:Heap) (k:Nat) (x:Str) (ps:List Str) (sp:Sp):Prop where
 ex:∃ f fd,FnOkW P w K mg base k f fd ps sp/\mg x=some (.ref f)/\PySem.W.keepIn K (.ref f)=true/\Binds K fd ps []
section
variable {X:Cx} {k:Nat} {f C:Addr} {fd:FuncData} {ps:List Str} {sp:Sp} {x m:Str} {p pos apos:Pos} {e o:Expr} {es:List Expr} {ta:TE} {t:TA}
end
section
variable {P:Program} {w:World} {K:yg} {mg:Str->Option Value} {base:Heap}
end
theorem Inv.laidM {X:Cx} {a:List (Addr×Obj)} {f:St} {H H':Hp} {s:Shared} {h':Heap} {t':Nat} (I:Inv X a f H s) (k:∀ b u,s.heap.get? b=some u->h'.get? b=some u)
  (d:∀ b,b<s.heap.objs.size->H' b=H b) (new:∀ b u,s.heap.objs.size<=b->H' b=some u->ObjOk X.prog X.w H' h' b u):Inv X a f H' { s with heap:=h',toks:=t' }:=by
 have lt:∀ b u,H b=some u->b<s.heap.objs.size:=fun b u e=>kI fun z=>by rw [I.hok.fresh z] at e;cases e
 have up:∀ b u,H b=some u->H' b=some u:=fun b u e=>(d b (lt b u e)).trans e;refine I.step (g':=s.gens) (d':=s.drawn) (ch:=[]) (fun b hb=>by simp at hb) (fun b o _ _ _ e _=>k b o e) (fun b o _ _ _ e _=>⟨o.slots,k b o e⟩) (fun b o _ e n=>(d b (yQ e)).trans n)
  (fun b o _ e=>⟨o,k b o e⟩) (fun b xs e=>up b _ e) (fun b _ _ e=>up b _ e) (fun b i e=>⟨#[],by rw [up b _ e];simp⟩) (fun m ⟨o,g,ep,h,r⟩=>⟨o,g,ep,k _ o h,r⟩) (fun b u e=>?_) I.bare
 by_cases hb:s.heap.objs.size<=b
 .exact new b u hb e
 .rw [d b (kI hb)] at e;exact (I.hok b u e).stay (fun c v _ q=>k c v q) (fun c q=>up c _ q) fun c xs q=>up c _ q
section
variable {prog:Program} {w:World} {A:Around} {E:Value->Shared->Prop} {s:Shared}
theorem alive_ {a:Addr} {Q:Option Obj->Shared->Prop} (h:Q (s.heap.get? a) s):wpAny (model prog w) A (loadIfAlive a) Q E s:=fun b p _=>by
 show Sem.wp _ _ (.loadIfAlive a .pure) _ _ _ _;rw [Sem.wp_loadIfAlive];simpa using h
abbrev qfN (h:Heap) (z TI TO:Addr) (b:Value) (a:Bool):Prop:=h.get? z=some { cls:=.type "zip",dict:=none,data:=.fields #[b,.bool a,.bool false,.ref TI,.ref TO],slots:=#[] }
theorem qga {z TI TO T:Addr} {a:Bool} {f:Obj} {Q:Bool->Shared->Prop} (hz:qfN s.heap z TI TO (rawInt T) a) (d:s.heap.get? T=some f)
  (b:∀ h',qfN h' z TI TO (rawInt T) true->Heap.SameBut z s.heap h'->Q false { s with heap:=h' }):wpAny (model prog w) A (Builtin.SmallTypes.ownedTupleIsFree (.ref z)) Q E s:=by
 unfold Builtin.SmallTypes.ownedTupleIsFree;refine yr (Y4 hz rfl (x:=rawInt T) rfl ?_);show wpAny _ _ (loadIfAlive T>>=_) _ _ _;refine yr (alive_ ?_);rw [d];show wpAny _ _ (field (.ref z) 1>>=_) _ _ _;refine yr (Y4 hz rfl (x:=.bool a) rfl ?_)
 cases a with
 | true=>exact yu (b _ hz ⟨rfl,fun _ _=>rfl⟩)
 | false =>
  show wpAny _ _ (setField (.ref z) 1 (.bool true)>>=_) _ _ _;exact yr (wpAny_setField_rec hz (by simp) fun h1 c e=>yu (b h1 c e))
theorem znx {z TI TO d f a b T:Addr} {G:Bool} {N:Obj} {r u:Nat} {xs ys:Array Value} {x y:Value} {Q:Value->Shared->Prop} (D:ZipApart z TI TO d f a b)
  (hz:qfN s.heap z TI TO (rawInt T) G) (J:s.heap.get? T=some N) (n:IsPair s.heap TI (.ref d) (.ref f))
  (h1:s.heap.IsListIter d a r) (H:s.heap.IsListIter f b u) (p:s.heap.IsList a xs) (q:s.heap.IsList b ys) (K:xs[r]?=some x) (L:ys[u]?=some y)
  (I:∀ h',qfN h' z TI TO (rawInt T) true->h'.IsListIter d a (r+1)->h'.IsListIter f b (u+1)->IsPair h' s.heap.objs.size x y->h'.objs.size=s.heap.objs.size+1 ->
   (∀ c o,c≠z->c≠d->c≠f->s.heap.get? c=some o->h'.get? c=some o)->Q (.ref s.heap.objs.size) { s with heap:=h' }) :
  wpAny (model prog w) A (Builtin.«zip.__next__» ⟨[.ref z],[]⟩) (fun l R=>∃ v,l=.done (.ret v)/\Q v R) E s:=by
 show wpAny _ _ (field (.ref z) 2>>=_) _ _ _;refine yr <| Y4 hz rfl (x:=.bool false) rfl ?_;show wpAny _ _ (field (.ref z) 3>>=_) _ _ _;refine yr <| Y4 hz rfl (x:=.ref TI) rfl ?_;refine yr <| wpAny_seqItems n rfl ?_;show wpAny _ _ (Builtin.SmallTypes.ownedTupleIsFree _>>=_) _ _ _;refine yr <| qga hz J fun U S g=>?_;simp only [Yx,xu];refine yr ?_;rw [<- Array.forIn_toList];simp only [kU,kZ];refine yr (yr (Yk ?_));show wpAny _ _ (Builtin.SmallTypes.nextOf (.ref d)>>=_) _ _ _;refine yr <| Xu (h1.extBut g.extBut D.i1z) (p.extBut g.extBut D.l1z) K fun W O h=>yu (yu ?_);refine yr (yr (Yk ?_));show wpAny _ _ (Builtin.SmallTypes.nextOf (.ref f)>>=_) _ _ _;refine yr <| Xu ((H.extBut g.extBut D.i2z).extBut h.extBut D.i12.symm) ((q.extBut g.extBut D.l2z).extBut h.extBut D.l2i1) L fun m P i=>yu (yu (yu ?_));refine yr (wpAny_newTuple (yu ⟨_,rfl,?_⟩) (by show 2<=sizeLine;decide));have j:m.objs.size=s.heap.objs.size:=by rw [i.1,h.1,g.1]
 have M:∀ c o,c≠z->c≠d->c≠f->s.heap.get? c=some o->m.get? c=some o:=fun c o B C F e=>i.extBut _ _ F (h.extBut _ _ C (g.extBut _ _ B e));rw [show (Value.ref m.objs.size)=.ref s.heap.objs.size by rw [j]];refine I _ (yv _ (i.extBut _ _ D.i2z.symm (h.extBut _ _ D.i1z.symm S))) ((O.extBut i.extBut D.i12).at fun o e=>yv _ e) (P.at fun o e=>yv _ e) ?_ (by rw [xj,j]) fun c o B C F e=>yv _ (M c o B C F e);rw [<- j];exact yW _ rfl
theorem zne {z TI TO h i a b T:Addr} {G:Bool} {M:Obj} {r u:Nat} {xs ys:Array Value} {Q:Fin->Shared->Prop} (F:A.handled=none) (D:ZipApart z TI TO h i a b)
  (hz:qfN s.heap z TI TO (rawInt T) G) (J:s.heap.get? T=some M) (l:IsPair s.heap TI (.ref h) (.ref i))
  (h1:s.heap.IsListIter h a r) (I:s.heap.IsListIter i b u) (g:s.heap.IsList a xs) (n:s.heap.IsList b ys) (f:xs[r]?=none\/ys[u]?=none)
  (C:∀ h' e,(∀ c o,c≠z->c≠h->c≠i->s.heap.get? c=some o->h'.get? c=some o)->(∃ o,h'.get? e=some o/\o.cls=.type "StopIteration")->E (.ref e) { s with heap:=h' }) :
  wpAny (model prog w) A (Builtin.«zip.__next__» ⟨[.ref z],[]⟩) Q E s:=by
 show wpAny _ _ (field (.ref z) 2>>=_) _ _ _;refine yr <| Y4 hz rfl (x:=.bool false) rfl ?_;show wpAny _ _ (field (.ref z) 3>>=_) _ _ _;refine yr <| Y4 hz rfl (x:=.ref TI) rfl ?_;refine yr <| wpAny_seqItems l rfl ?_;show wpAny _ _ (Builtin.SmallTypes.ownedTupleIsFree _>>=_) _ _ _;refine yr <| qga hz J fun O R d=>?_;simp only [Yx,xu];refine yr ?_;rw [<- Array.forIn_toList];simp only [kU,kZ];refine yr (yr (Yk ?_));show wpAny _ _ (Builtin.SmallTypes.nextOf (.ref h)>>=_) _ _ _
 cases p:xs[r]? with
 | none=>exact yr <| wpAny_nextOf_list_end F (h1.extBut d.extBut D.i1z) (g.extBut d.extBut D.l1z) p fun B e j m=>C B e (fun c o v y _ q=>j _ _ y (d.extBut _ _ v q)) m
 | some x =>
  have K:ys[u]?=none:=f.elim (fun z=>by rw [p] at z;cases z) id;refine yr <| Xu (h1.extBut d.extBut D.i1z) (g.extBut d.extBut D.l1z) p fun B P j=>yu (yu ?_);refine yr (yr (Yk ?_));show wpAny _ _ (Builtin.SmallTypes.nextOf (.ref i)>>=_) _ _ _;exact yr <| wpAny_nextOf_list_end F ((I.extBut d.extBut D.i2z).extBut j.extBut D.i12.symm) ((n.extBut d.extBut D.l2z).extBut j.extBut D.l2i1) K fun H e N m=>C H e (fun c o v y L q=>N _ _ L (j.extBut _ _ y (d.extBut _ _ v q))) m
def ZAt (z TI TO N:Nat) (h:Heap):Prop:=IsZip h z TI TO .none\/∃ T a o,N<=T/\qfN h z TI TO (rawInt (T:Nat)) a/\h.get? T=some o
theorem ZAt.typ {z TI TO N:Nat} (h:ZAt z TI TO N s.heap):s.TypeIs (.ref z) "zip":=by
 rcases h with e | ⟨_,_,_,_,e,_⟩<;>exact ⟨_,e,rfl⟩
theorem znx_any {z TI TO h i a b N:Addr} {H I:Nat} {xs ys:Array Value} {x y:Value} {Q:Option Value->Shared->Prop} (D:ZipApart z TI TO h i a b) (P:N<=s.heap.objs.size)
  (hz:ZAt z TI TO N s.heap) (l:IsPair s.heap TI (.ref h) (.ref i)) (d:∃ u v,IsPair s.heap TO u v)
  (h1:s.heap.IsListIter h a H) (J:s.heap.IsListIter i b I) (m:s.heap.IsList a xs) (n:s.heap.IsList b ys) (L:xs[H]?=some x) (M:ys[I]?=some y) (f:z<N/\h<N/\i<N)
  (K:∀ h',ZAt z TI TO N h'->(∃ u v,IsPair h' TO u v)->h'.IsListIter h a (H+1)->h'.IsListIter i b (I+1)->IsPair h' s.heap.objs.size x y->h'.objs.size=s.heap.objs.size+1 ->
   (∀ c o,c≠z->c≠TO->c≠h->c≠i->s.heap.get? c=some o->h'.get? c=some o)->Q (some (.ref s.heap.objs.size)) { s with heap:=h' }) :
  wpAny (model prog w) A (pyNext (.ref z)) Q E s:=by
 obtain ⟨u,v,d⟩:=d;have typ:=hz.typ;rcases hz with hz | ⟨T,b1,o,hT,hz,ho⟩
 .refine wpAny_pyNext_zip_item D hz l d h1 J m n L M fun g r O B C p G j=>K g (.inr ⟨s.heap.objs.size,false,_,P,r,p⟩) ⟨_,_,O⟩ B C p G j
 .unfold pyNext;refine yr (kC (xG (name:=Str.ofString "__next__") typ XX (xH XX typ F.entry_zip_next (znx D hz ho l h1 J m n L M fun g r B C p G j=>yu ?_) (F.args_zip_next_1 _))));exact K g (.inr ⟨T,true,o,hT,r,j _ _ (Yl (yj f.1 hT)) (Yl (yj f.2.1 hT)) (Yl (yj f.2.2 hT)) ho⟩) ⟨_,_,j _ _ D.TOz D.TOi1 D.TOi2 d⟩ B C p G fun c q R _ S U e=>j c q R S U e
theorem zne_any {z TI TO l m a b N:Addr} {x y:Nat} {xs ys:Array Value} {Q:Option Value->Shared->Prop} (r:A.handled=none) (D:ZipApart z TI TO l m a b)
  (hz:ZAt z TI TO N s.heap) (h:IsPair s.heap TI (.ref l) (.ref m)) (f:∃ u v,IsPair s.heap TO u v)
  (h1:s.heap.IsListIter l a x) (n:s.heap.IsListIter m b y) (i:s.heap.IsList a xs) (j:s.heap.IsList b ys) (d:xs[x]?=none\/ys[y]?=none)
  (p:∀ h',(∀ c o,c≠z->c≠TO->c≠l->c≠m->s.heap.get? c=some o->h'.get? c=some o)->Q none { s with heap:=h' }):wpAny (model prog w) A (pyNext (.ref z)) Q E s:=by
 obtain ⟨u,v,f⟩:=f;have typ:=hz.typ;rcases hz with hz | ⟨T,b1,o,hT,hz,ho⟩
 .exact wpAny_pyNext_zip_end r D hz h f h1 n i j d p
 .unfold pyNext;refine yr (kC (xG (name:=Str.ofString "__next__") typ XX (xH XX typ F.entry_zip_next (zne r D hz ho h h1 n i j d fun g e k B=>?_) (F.args_zip_next_1 _))));obtain ⟨q,C,hc⟩:=B;refine yr (wpAny_isInstance (T:="StopIteration") (b:=true) ⟨q,C,hc⟩ isSubtype_stop ?_);exact yu (p _ fun c o G _ H I e=>k c o G H I e)
end
structure LZ (z TI TO i1 i2 a b S N:Nat) (xs ys:Array Value) (h0:Heap) (i:Nat) (acc:Array Value) (c:Nat) (h:Heap):Prop where
 zp:ZAt z TI TO N h
 ti:IsPair h TI (.ref i1) (.ref i2)
 tO:∃ u v,IsPair h TO u v
 j1:h.IsListIter i1 a i
 j2:h.IsListIter i2 b i
 la:h.IsList a xs
 lb:h.IsList b ys
 ls:h.get? S=some { cls:=.type "list",dict:=none,data:=.seq acc c,slots:=#[] }
 sz:N<=h.objs.size
 len:acc.size=i
 its:∀ (j:Nat) v,acc[j]?=some v->∃ t x y,v=.ref t/\N<=t/\IsPair h t x y/\xs[j]?=some x/\ys[j]?=some y
 nd:∀ (j k:Nat) v,acc[j]?=some v->acc[k]?=some v->j=k
 kp:∀ q o,q<N->q≠z->q≠TO->q≠i1->q≠i2->q≠S->h0.get? q=some o->h.get? q=some o
structure LE (z TO i1 i2 S N:Nat) (xs ys:Array Value) (h0:Heap) (n:Nat) (acc:Array Value) (c:Nat) (h:Heap):Prop where
 ls:h.get? S=some { cls:=.type "list",dict:=none,data:=.seq acc c,slots:=#[] }
 len:acc.size=n
 its:∀ (j:Nat) v,acc[j]?=some v->∃ t x y,v=.ref t/\N<=t/\IsPair h t x y/\xs[j]?=some x/\ys[j]?=some y
 nd:∀ (j k:Nat) v,acc[j]?=some v->acc[k]?=some v->j=k
 kp:∀ q o,q<N->q≠z->q≠TO->q≠i1->q≠i2->q≠S->h0.get? q=some o->h.get? q=some o
structure LA (z TI TO i1 i2 a b S N:Nat):Prop where
 D:ZipApart z TI TO i1 i2 a b
 lt:z<S/\TI<S/\TO<S/\i1<S/\i2<S/\a<S/\b<S
 S:S<N
theorem LZ.at {z TI TO g l a b S N:Nat} {xs ys:Array Value} {w h h':Heap} {i c r:Nat} {acc d:Array Value} (L:LA z TI TO g l a b S N) (x:LZ z TI TO g l a b S N xs ys w i acc c h)
  (k:Heap.SameBut S h h') (R:h'.get? S=some { cls:=.type "list",dict:=none,data:=.seq d r,slots:=#[] }) (len:d.size=i) (m:∀ (j:Nat) v,d[j]?=some v->∃ t x y,v=.ref t/\N<=t/\IsPair h t x y/\xs[j]?=some x/\ys[j]?=some y) (nd:∀ (j k:Nat) v,d[j]?=some v->d[k]?=some v->j=k):LZ z TI TO g l a b S N xs ys w i d r h':=by
 obtain ⟨l1,l2,J,K,M,O,P⟩:=L.lt;have A:=L.S;have f:∀ {q o},q≠S->h.get? q=some o->h'.get? q=some o:=fun n e=>k.extBut _ _ n e;refine ⟨?_,f (yI l2) x.ti,?_,x.j1.at fun o e=>f (yI K) e,x.j2.at fun o e=>f (yI M) e,x.la.extBut k.extBut (yI O),x.lb.extBut k.extBut (yI P),R,by rw [k.1];exact x.sz,len,fun j v e=>?_,nd,fun q o B C D E F p e=>f p (x.kp q o B C D E F p e)⟩
 .rcases x.zp with e | ⟨T,b1,o,hT,e,eo⟩
  .exact .inl (f (yI l1) e)
  .exact .inr ⟨T,b1,o,hT,f (yI l1) e,f (Yl (yj A hT)) eo⟩
 .obtain ⟨u,v,e⟩:=x.tO;exact ⟨u,v,f (yI J) e⟩
 .obtain ⟨t,u,v,G,s,H,I⟩:=m j v e;exact ⟨t,u,v,G,s,f (Yl (yj A s)) H,I⟩
section
variable {prog:Program} {w:World} {A:Around} {R:Result->Shared->Prop} {z TI TO i1 i2 a b S N:Nat} {xs ys:Array Value} {h0:Heap}
theorem zloop (hh:A.handled=none) (L:LA z TI TO i1 i2 a b S N) (hn:min xs.size ys.size<=2 ^ 24) (res:Value):∀ (k i:Nat) (s:Shared) (acc:Array Value) (c:Nat),min xs.size ys.size-i=k->i<=min xs.size ys.size->LZ z TI TO i1 i2 a b S N xs ys h0 i acc c s.heap ->
  (∀ h' M O,LE z TO i1 i2 S N xs ys h0 (min xs.size ys.size) M O h'->R (.ok (.ret res)) { s with heap:=h' })->codeAny (model prog w) A (.builtin "list.extend.loop" ⟨[.ref S,.ref z,res],[]⟩) R s:=by
 have C:=L.S;obtain ⟨l1,l2,U,E,G,l6,l7⟩:=L.lt;have p:∀ {t q:Nat},N<=t->q<S->t≠q:=fun h1 h2=>by omega
 intro k
 induction k with
 | zero =>
  intro i s acc c hk hi x hR;refine codeAny_builtin F.entry_extend_loop ?_;rw [Around.under_plainId Xj _];show wpAny _ A.in1 (pyNext _>>=_) _ _ s
  have he:xs[i]?=none\/ys[i]?=none:=by
   rcases Kb xs.size ys.size with q | q
   .exact .inl (xR (by omega))
   .exact .inr (xR (by omega))
  refine yr (zne_any hh L.D x.zp x.ti x.tO x.j1 x.j2 x.la x.lb he fun h' l=>yu (hR h' acc c ⟨?_,by rw [x.len];omega,fun j v e=>?_,x.nd,fun q o H y I J K X e=>l q o y I J K (x.kp q o H y I J K X e)⟩))
  .exact l S _ (Yl l1) (Yl U) (Yl E) (Yl G) x.ls
  .obtain ⟨t,u,v,m,g,e3,e4⟩:=x.its j v e;exact ⟨t,u,v,m,g,l t _ (p g l1) (p g U) (p g E) (p g G) e3,e4⟩
 | succ k ih =>
  intro i s acc c hk hi x hR;refine codeAny_builtin F.entry_extend_loop ?_;rw [Around.under_plainId Xj _];show wpAny _ A.in1 (pyNext _>>=_) _ _ s;obtain ⟨u,hu⟩:∃ u,xs[i]?=some u:=⟨_,Xg (by omega)⟩;obtain ⟨v,hv⟩:∃ v,ys[i]?=some v:=⟨_,Xg (by omega)⟩;refine yr (znx_any L.D x.sz x.zp x.ti x.tO x.j1 x.j2 x.la x.lb hu hv ⟨kO l1 C,kO E C,kO G C⟩ fun h1 z1 ab m g eP Z l=>?_);have P:=l S _ (Yl l1) (Yl U) (Yl E) (Yl G) x.ls;show wpAny _ A.in1 (updateSeq S (·.push (.ref s.heap.objs.size))>>=_) _ _ _;have f:=x.len;have hN:=x.sz
  have W:∀ j:Nat,acc[j]?≠some (.ref s.heap.objs.size):=fun j e=>by
   obtain ⟨t,Y,w',q1,B,q3,_⟩:=x.its j _ e;cases q1;exact absurd (yQ q3) (Yw _)
  have aa:∀ (j k:Nat) r,(acc.push (.ref s.heap.objs.size))[j]?=some r->(acc.push (.ref s.heap.objs.size))[k]?=some r->j=k:=fun j k r m g=>by
   rw [Array.getElem?_push] at m g;split at m<;>split at g
   .rename_i H y;rw [H,y]
   .cases m;exact absurd g (W k)
   .cases g;exact absurd m (W j)
   .exact x.nd j k r m g
  obtain ⟨O,ac⟩:∃ O,(h1.update S (Obj.mapSeq (·.push (.ref s.heap.objs.size)))).get? S=some { cls:=.type "list",dict:=none,data:=.seq (acc.push (.ref s.heap.objs.size)) O,slots:=#[] }:=⟨_,YZ (Obj.mapSeq (·.push (.ref s.heap.objs.size))) P rfl⟩;refine yr (XY P rfl (yu ⟨plainId_quiet Xj _,ih (i+1) _ (acc.push (.ref s.heap.objs.size)) O (by omega) (by omega) ?_ hR⟩) ?_ ?_)
  .have sb:Heap.SameBut S h1 (h1.update S (Obj.mapSeq (·.push (.ref s.heap.objs.size)))):=xA ..;have h:∀ {q o},q≠S->h1.get? q=some o->(h1.update S (Obj.mapSeq (·.push (.ref s.heap.objs.size)))).get? q=some o:=fun n e=>sb.extBut _ _ n e;refine ⟨?_,h (yI l2) (l _ _ L.D.TIz L.D.TITO L.D.TIi1 L.D.TIi2 x.ti),?_,m.at fun o e=>h (yI E) e,g.at fun o e=>h (yI G) e,?_,?_,ac,by rw [sb.1,Z];omega,by rw [Array.size_push,f],fun j r e=>?_,aa,fun q o H y I J K X e=>h X (l q o y I J K (x.kp q o H y I J K X e))⟩
   .rcases z1 with e | ⟨T,b1,o,hT,e,eo⟩
    .exact .inl (h (yI l1) e)
    .exact .inr ⟨T,b1,o,hT,h (yI l1) e,h (Yl (yj C hT)) eo⟩
   .obtain ⟨Y,r,e⟩:=ab;exact ⟨Y,r,h (yI U) e⟩
   .obtain ⟨o,e,d⟩:=x.la;exact ⟨o,h (yI l6) (l _ _ L.D.l1z L.D.l1TO L.D.l1i1 L.D.l1i2 e),d⟩
   .obtain ⟨o,e,d⟩:=x.lb;exact ⟨o,h (yI l7) (l _ _ L.D.l2z L.D.l2TO L.D.l2i1 L.D.l2i2 e),d⟩
   .rw [Array.getElem?_push] at e;split at e
    .rename_i ej
     cases e;rw [ej,f];exact ⟨_,u,v,rfl,hN,h (Yl (yj C hN)) eP,hu,hv⟩
    .obtain ⟨t,Y,w',q1,B,q3,q4⟩:=x.its j r e;exact ⟨t,Y,w',q1,B,h (Yl (yj C B)) (l t _ (p B l1) (p B U) (p B E) (p B G) q3),q4⟩
  .rw [f,YB];omega
  .show (acc.push _).size<=sizeLine+1;rw [Array.size_push,f,YB];omega
theorem zip_len0:typeLookup (.type "zip") "__len__"=pure none:=by rw [typeLookup_type,builtinLookup_eq_fast];kernel_rfl
theorem zip_hint0:typeLookup (.type "zip") "__length_hint__"=pure none:=by rw [typeLookup_type,builtinLookup_eq_fast];kernel_rfl
theorem zext {s:Shared} {p:Nat} (y:A.handled=none) (L:LA z TI TO i1 i2 a b S N) (B:min xs.size ys.size<=2 ^ 24) (res:Value) (hz:IsZip s.heap z TI TO .none) (x:LZ z TI TO i1 i2 a b S N xs ys h0 0 #[] p s.heap)
  (u:∀ h' c d,LE z TO i1 i2 S N xs ys h0 (min xs.size ys.size) c d h'->R (.ok (.ret res)) { s with heap:=h' }) :
  wpAny (model prog w) A.in1 (Builtin.List.listExtendWith (.ref S) (.ref z) res) (fun h g=>match h with | .done f=>R (.ok f) g | .again d=>d.quiet=true/\codeAny (model prog w) A d R g) (fun e g=>R (.error e) g) s:=by
 obtain ⟨l1,_⟩:=L.lt;have typ:s.TypeIs (.ref z) "zip":=⟨_,hz,rfl⟩;unfold Builtin.List.listExtendWith;refine yr <| wpAny_typeOf typ ?_;have C:Builtin.List.listSameRef (.ref S) (.ref z)=false:=by simp [Builtin.List.listSameRef,Yl l1]
 have o:(Value.type "zip"==.type "list")=false/\(Value.type "zip"==.type "tuple")=false:=by decide
 simp only [C,o.1,o.2,kz,Yx,xu];refine yr <| kH hz <| yr <| Yk ?_;unfold Builtin.List.listLengthHint;refine yr <| wpAny_specialOf typ zip_len0 ?_;show wpAny _ _ (specialOf (Value.ref z) (Str.ofString "__length_hint__")>>=_) _ _ _;refine yr <| wpAny_specialOf typ zip_hint0 <| yu ?_;show wpAny _ _ (rule "list.extend.makes-room">>=fun _=>Builtin.List.listTouch (.ref S)>>=fun _=>again (.builtin "list.extend.loop" ⟨[.ref S,.ref z,res],[]⟩)) _ _ _;refine yr <| wpAny_rule <| yr ?_;show wpAny _ _ (updateSeq S (·.push .none)>>=fun _=>updateSeq S (·.pop)) _ _ _;refine yr <| XY x.ls rfl ?_;have i:=YZ (Obj.mapSeq (·.push Value.none)) x.ls rfl;refine XY (hz:=by seq_fits) i rfl ?_;have r:=YZ (Obj.mapSeq (·.pop)) i rfl
 have D:Heap.SameBut S s.heap ((s.heap.update S (Obj.mapSeq (·.push Value.none))).update S (Obj.mapSeq (·.pop))):=by
  have l:Heap.SameBut S s.heap (s.heap.update S (Obj.mapSeq (·.push Value.none))):=xA ..;have m:Heap.SameBut S (s.heap.update S (Obj.mapSeq (·.push Value.none))) ((s.heap.update S (Obj.mapSeq (·.push Value.none))).update S (Obj.mapSeq (·.pop))):=xA ..;exact ⟨m.1.trans l.1,fun q n=>(m.2 q n).trans (l.2 q n)⟩
 exact yu ⟨plainId_quiet Xj _,zloop y L B res _ 0 _ #[] _ rfl (YH _) (x.at L D r rfl (fun j v e=>by simp at e) fun j k v e=>by simp at e) u⟩
theorem zinit {s:Shared} {l:Nat} (o:A.handled=none) (L:LA z TI TO i1 i2 a b S N) (p:min xs.size ys.size<=2 ^ 24) (hz:IsZip s.heap z TI TO .none) (x:LZ z TI TO i1 i2 a b S N xs ys h0 0 #[] l s.heap)
  (n:∀ h' c d,LE z TO i1 i2 S N xs ys h0 (min xs.size ys.size) c d h'->R (.ok (.ret .none)) { s with heap:=h' }) :
  wpAny (model prog w) A.in1 (Builtin.«list.__init__» ⟨[.ref S,.ref z],[]⟩) (fun h g=>match h with | .done f=>R (.ok f) g | .again d=>d.quiet=true/\codeAny (model prog w) A d R g) (fun e g=>R (.error e) g) s:=by
 obtain ⟨l1,_⟩:=L.lt;show wpAny _ _ (do let old <- Builtin.List.listItems (.ref S);Builtin.List.listUpdate (.ref S) (fun _=>#[]);letGo old.toList.reverse;Builtin.List.listExtendWith (.ref S) (.ref z) .none) _ _ s;refine yr ?_;unfold Builtin.List.listItems;refine yr <| wpAny_seqItems x.ls rfl <| yu ?_;show wpAny _ _ (updateSeq S (fun _=>#[])>>=fun _=>letGo _>>=fun _=>Builtin.List.listExtendWith (.ref S) (.ref z) .none) _ _ s;refine yr <| XY x.ls rfl ?_;have m:=YZ (Obj.mapSeq (fun _=>(#[]:Array Value))) x.ls rfl;have i:Heap.SameBut S s.heap (s.heap.update S (Obj.mapSeq (fun _=>(#[]:Array Value)))):=xA ..;refine yr <| wpAny_letGo ?_;exact zext o L p .none (i.extBut _ _ (yI l1) hz) (x.at L i m rfl (fun j v e=>by simp at e) fun j k v e=>by simp at e) n
end
section
variable {prog:Program} {w:World} {A:Around} {E:Value->Shared->Prop} {s:Shared}
theorem call_list_zip {z TI TO h i a b:Nat} {xs ys:Array Value} {Q:Value->Shared->Prop} (I:A.handled=none) (D:ZipApart z TI TO h i a b) (J:min xs.size ys.size<=2 ^ 24) (hz:IsZip s.heap z TI TO .none) (l:IsPair s.heap TI (.ref h) (.ref i)) (f:∃ u v,IsPair s.heap TO u v)
  (h1:s.heap.IsListIter h a 0) (B:s.heap.IsListIter i b 0) (m:s.heap.IsList a xs) (n:s.heap.IsList b ys)
  (H:∀ h' c y,LE z TO h i s.heap.objs.size (s.heap.objs.size+1) xs ys s.heap (min xs.size ys.size) c y h'->Q (.ref s.heap.objs.size) { s with heap:=h' }):wpAny (model prog w) A (call (.type "list") [.ref z]) Q E s:=by
 refine callType_codes (Q₁:=fun r g=>r=.ref s.heap.objs.size/\g={ s with heap:=s.heap.push { cls:=.type "list",data:=.seq #[] } }) F.called_list (F.typeCall_list_1 _) F.entry_list_init (code_list_new _ ⟨rfl,rfl⟩) fun r g p=>?_;obtain ⟨rfl,rfl⟩:=p;have C:(s.heap.push { cls:=.type "list",data:=.seq #[] }).get? s.heap.objs.size=some { cls:=.type "list",data:=.seq #[] }:=yW _ rfl;have up:∀ {q o},s.heap.get? q=some o->(s.heap.push { cls:=.type "list",data:=.seq #[] }).get? q=some o:=fun e=>yv _ e;have lt:∀ {q o},s.heap.get? q=some o->q<s.heap.objs.size:=fun e=>yQ e;obtain ⟨u,v,f⟩:=f
 have L:LA z TI TO h i a b s.heap.objs.size (s.heap.objs.size+1):=by
  refine ⟨D,⟨lt hz,lt l,lt f,?_,?_,?_,?_⟩,XB _⟩
  .obtain ⟨_,e,_⟩:=h1;exact lt e
  .obtain ⟨_,e,_⟩:=B;exact lt e
  .obtain ⟨_,e,_⟩:=m;exact lt e
  .obtain ⟨_,e,_⟩:=n;exact lt e
 have x:LZ z TI TO h i a b s.heap.objs.size (s.heap.objs.size+1) xs ys s.heap 0 #[] 0 (s.heap.push { cls:=.type "list",data:=.seq #[] }):=by
  refine ⟨.inl (up hz),up l,⟨u,v,up f⟩,h1.at fun o e=>up e,B.at fun o e=>up e,?_,?_,C,by rw [xj];exact yh _,rfl,fun j v e=>by simp at e,fun j k v e=>by simp at e,fun q o _ _ _ _ _ _ e=>up e⟩
  .obtain ⟨o,e,d⟩:=m;exact ⟨o,up e,d⟩
  .obtain ⟨o,e,d⟩:=n;exact ⟨o,up e,d⟩
 exact ⟨⟨_,C,rfl⟩,F.args_list_init_2 _ _,zinit (A:=A.in1) I L J (up hz) x fun h' c y G=>⟨rfl,H h' c y G⟩⟩
end
structure Zl (H H':Hp) (l:Addr) (ts:List Addr) (xs ys:List V):Prop where
 sm:L2.Same H H'
 fl:H l=none
 ls:H' l=some (.lst (ts.map V.ref))
 len:ts.length=min xs.length ys.length
 tp:∀ (j:Nat) t,ts[j]?=some t->H t=none/\∃ x y,xs[j]?=some x/\ys[j]?=some y/\H' t=some (.tup [x,y])
theorem qgb (H:Hp):∀ (a:List Addr) (xs ys:List V),a.Nodup->a.length<=xs.length->a.length<=ys.length->∃ G:Hp,(∀ (j:Nat) t x y,a[j]?=some t->xs[j]?=some x->ys[j]?=some y->G t=some (.tup [x,y]))/\∀ q,q∉a->G q=H q
 | [],_,_,_,_,_=>⟨H,fun j t x y e=>by simp at e,fun _ _=>rfl⟩
 | t::a,[],_,_,h,_=>by simp at h
 | t::a,_::_,[],_,_,h=>by simp at h
 | t::a,x::xs,y::ys,nd,h1,h2=>by
  obtain ⟨m,n⟩:=yo.mp nd;obtain ⟨G,i,l⟩:=qgb H a xs ys n (by simpa using h1) (by simpa using h2);refine ⟨upd G t (.tup [x,y]),fun j t' o p c d f=>?_,fun q g=>?_⟩
  .cases j with
   | zero=>simp at c d f;subst c d f;exact qb
   | succ j =>
    have b:a[j]?=some t':=by simpa using c
    rw [qe fun z=>m (by rw [<- z];exact ye b)];exact i j t' o p b (by simpa using d) (by simpa using f)
  .rw [qe fun z=>g (by rw [z];exact yN)];exact l q fun z=>g (yz _ z)
noncomputable def refN:Value->Nat
 | .ref a=>a
 | _=>0
def tLZ (K:yg) (d:TA):TE:=fun f H Q=>d f H fun vs c=>∃ a b xs ys,vs=[.ref a,.ref b]/\SqL K c a xs/\SqL K c b ys/\xs.length<=1000/\∀ l e H',Zl c H' l e xs ys->Q (.ref l) H'
theorem vLZ {K:yg} {d:TA} {e:St} {H:Hp} {Q:VK} (h:d e H fun vs c=>∃ a b xs ys,vs=[.ref a,.ref b]/\SqL K c a xs/\SqL K c b ys/\xs.length<=1000/\∀ l f H',Zl c H' l f xs ys->Q (.ref l) H'):tLZ K d e H Q:=h
theorem qda {X:Cx} {K:yg} {a b:Expr} {ta:TA} {p p2 ao f:Pos} (hK:X.K=K) (hc:X.calm=true) (hg:Gl X "list") (ag:Gl X "zip") (F:X.mg "list"=none) (ak:X.mg "zip"=none) (ha:PA X [a,b] ta) (hs:starEach [a,b] X.env=[(false,eval a X.env),(false,eval b X.env)]:=by rfl) (P:starEach [b] X.env=[(false,eval b X.env)]:=by rfl)
  (he:starEach [.Call (.Name "zip" p2) [a,b] [] f] X.env=[(false,eval (.Call (.Name "zip" p2) [a,b] [] f) X.env)]:=by rfl):PE X (.Call (.Name "list" p) [.Call (.Name "zip" p2) [a,b] [] f] [] ao) (tLZ K ta):=by
 subst hK;intro Z s σ H Q I h;refine Call_ (qaG I hg F xp (Yz (T:="list") ?_ he rfl));rw [he];show wpAny _ _ (spliced ((false,eval (.Call (.Name "zip" p2) [a,b] [] f) X.env)::[])) _ _ s;refine X6 ?_;refine Call_ (qaG I ag ak qdD (Yz (thn (ha f Z s σ H _ I h) fun us w ⟨vs,H1,A,r1,q1⟩=>?_) (by rw [hs,P]) (by rw [P];rfl)));obtain ⟨a,b,xs,ys,e,hq,al,hx,q⟩:=q1;subst e
 cases r1 with
 | cons r rr =>
  cases rr with
  | cons r2 rr =>
   cases rr;cases r;cases r2;obtain ⟨C,rv,pl,_⟩:=A.list hq;obtain ⟨l,aa,D,_⟩:=A.list al;have am:a<w.heap.objs.size:=by obtain ⟨_,e,_⟩:=pl.isList;exact yQ e
   have an:b<w.heap.objs.size:=by obtain ⟨_,e,_⟩:=D.isList;exact yQ e
   have l1:=rv.length;have l2:=aa.length;refine call_zip_2 pl.isList D.isList fun h1 hz ae af ah ai hsz hk=>kg ?_;have la:h1.IsList a C.toArray:=by obtain ⟨o,e,d⟩:=pl.isList;exact ⟨o,hk _ _ e,d⟩
   have B:h1.IsList b l.toArray:=by obtain ⟨o,e,d⟩:=D.isList;exact ⟨o,hk _ _ e,d⟩
   refine call_list_zip (A.ok.hd hc) (PySem.W.ktu_apart _ _ _ am an) (by simp only [yw];omega) hz ae ⟨_,_,af⟩ ah ai la B fun h2 acc c L=>?_;have L:LE (w.heap.objs.size+4) (w.heap.objs.size+3) w.heap.objs.size (w.heap.objs.size+1) h1.objs.size (h1.objs.size+1) C.toArray l.toArray h1 (min C.toArray.size l.toArray.size) acc c h2:=L;have O:acc.size=min xs.length ys.length:=by rw [L.len,l1,l2,yw,yw]
   obtain ⟨g,R⟩:∃ g,g=acc.toList.map refN:=⟨_,rfl⟩;have n:g.length=min xs.length ys.length:=by rw [R,ya,xx,O]
   have J:∀ (j:Nat) t,g[j]?=some t->acc[j]?=some (.ref t)/\h1.objs.size+1<=t/\∃ x y,xs[j]?=some x/\ys[j]?=some y/\∃ u v,RelV x u/\RelV y v/\IsPair h2 t u v:=fun j t e=>by
    rw [R,yd,xV] at e;obtain ⟨v,ev,et⟩:=yn.mp e;obtain ⟨t',u1,u2,q1,q2,q3,q4,q5⟩:=L.its j v ev;subst q1;have ad:t'=t:=et;subst ad;have hj:j<acc.size:=(Array.getElem?_eq_some_iff.mp ev).1;obtain ⟨x,S⟩:∃ x,xs[j]?=some x:=⟨_,yb (by omega)⟩;obtain ⟨y,U⟩:∃ y,ys[j]?=some y:=⟨_,yb (by omega)⟩;obtain ⟨a1,ab,ap⟩:=rv.get S;obtain ⟨a2,ac,aq⟩:=aa.get U;have b1:a1=u1:=by rw [List.getElem?_toArray,ab] at q4;cases q4;rfl
    have b2:a2=u2:=by rw [List.getElem?_toArray,ac] at q5;cases q5;rfl
    subst b1 b2;exact ⟨ev,q2,x,y,S,U,a1,a2,ap,aq,q3⟩
   have nd:g.Nodup:=by
    refine YY.mpr fun i j hi hj aj e=>?_;have M:=(J i g[i] (yb hi)).1;have N:=(J j g[j] (yb hj)).1;rw [e] at M;exact absurd (L.nd i j _ M N) (yI aj)
   have mem:∀ t∈g,h1.objs.size+1<=t:=fun t ht=>by
    obtain ⟨j,e⟩:=xW.mp ht;exact (J j t e).2.1
   obtain ⟨G,g1,g2⟩:=qgb H1 g xs ys nd (by omega) (by omega)
   have Y:∀ q,q<w.heap.objs.size->upd G h1.objs.size (.lst (g.map V.ref)) q=H1 q:=fun q hq=>by
    rw [qe (yI (by omega))];exact g2 q fun z=>by have:=mem q z;omega
   have tl:∀ t∈g,t≠h1.objs.size:=fun t ht=>by have:=mem t ht;exact Yl this
   refine ⟨.ref _,_,A.laidM (t':=w.toks) (H':=upd G h1.objs.size (.lst (g.map V.ref))) (fun b u e=>?_) Y fun b u hb e=>?_,rfl,q _ g _ ⟨fun b o e=>?_,A.hok.fresh (by show (w.heap.objs.size:Nat)<=h1.objs.size;omega),qb,n,fun j t e=>?_⟩⟩
   .have B:∀ m:Nat,w.heap.objs.size<=m->b<m:=fun m F=>yj (yQ e) F;exact L.kp b u (B _ (by omega)) (yI (B _ (by omega))) (yI (B _ (by omega))) (yI (B _ (by omega))) (yI (B _ (by omega))) (yI (B _ (by omega))) (hk b u e)
   .by_cases hl:b=h1.objs.size
    .subst hl;rw [qb] at e;cases e;refine ⟨by rw [ya,n,YB];omega,acc.toList,c,qam (by rw [ya,n];exact O.symm) fun j y u M N=>?_,by rw [Array.toArray_toList];exact L.ls⟩;rw [yd] at M;obtain ⟨t,et,E⟩:=yn.mp M;subst E;rw [xV,(J j t et).1] at N;cases N;rfl
    .rw [qe hl] at e;by_cases F:b∈g
     .obtain ⟨j,ej⟩:=xW.mp F;obtain ⟨_,_,x,y,ex,E,u1,u2,r1,r2,ep⟩:=J j b ej;rw [g1 j b x y ej ex E] at e;cases e;exact ⟨by show 2<=sizeLine;decide,[u1,u2],.cons r1 (.cons r2 .nil),⟨_,ep,rfl,_,rfl⟩⟩
     .rw [g2 b F,A.hok.fresh hb] at e;cases e
   .rw [Y b (kI fun z=>by rw [A.hok.fresh z] at e;cases e)];exact e
   .obtain ⟨_,N,x,y,ex,E,_⟩:=J j t e;refine ⟨A.hok.fresh (by omega),x,y,ex,E,?_⟩;rw [qe (tl t (ye e))];exact g1 j t x y e ex E
section
variable {X:Cx}
end
end L2
namespace L2
open PySem PySem.Spec PySem.W PyProof.Rows
variable {h:Heap} {n:Nat} {p:Array Nat} {v:Value} {vs:List Value} {α:Type}
def KOk {α:Type} (n:Nat) (P:α->Prop):KasT α->Prop
 | .ret a=>P a
 | .ask i j k=>i<n/\j<n/\∀ b,KOk n P (k b)
theorem KOk.bind {c:Type} {P:α->Prop} {R:c->Prop} {f:α->KasT c}:∀ {t:KasT α},KOk n P t->(∀ a,P a->KOk n R (f a))->KOk n R (t.bind f)
 | .ret a,h,g=>g a h
 | .ask i j k,h,g=>⟨h.1,h.2.1,fun b=>KOk.bind (h.2.2 b) g⟩
theorem KOk.wp {P:α->Prop} {c:Nat->Nat->(Bool->Shared->Prop)->Shared->Prop} {Q:α->Shared->Prop} {s:Shared} (hc:∀ i j C,i<n->j<n->(∀ b,C b s)->c i j C s) (d:∀ a,P a->Q a s):∀ {t:KasT α},KOk n P t->t.kasWp c Q s
 | .ret a,h=>d a h
 | .ask i j k,h=>hc i j _ h.1 h.2.1 fun b=>KOk.wp hc d (h.2.2 b)
def PmA (n:Nat) (p:Array Nat):Prop:=p.toList.Perm (List.range n)
theorem PmA.of {q:Array Nat} (h:PmA n p) (e:q.Perm p):PmA n q:=(Array.perm_iff_toList_perm.mp e).trans h
theorem PmA.at_ (h:PmA n p) (c:0<n) (i:Nat):p.getD i 0<n:=by
 by_cases a:i<p.size
 .have b:p.getD i 0∈p.toList:=by
   have:p.getD i 0=p[i]:=by simp [Array.getD,a]
   rw [this];simp
  exact YJ.mp (h.mem_iff.mp b)
 .have:p.getD i 0=0:=by simp [Array.getD,a]
  omega
section
variable {n:Nat} (h0:0<n)
include h0
theorem qdb (h:PmA n p):∀ f k,KOk n (fun _=>True) (kas_asc p f k)
 | 0,k=>trivial
 | f+1,k=>by
  refine ⟨h.at_ h0 _,h.at_ h0 _,fun b=>?_⟩
  (try dsimp only)
  split
  .trivial
  .exact qdb h f (k+1)
theorem qbg:∀ f {p:Array Nat} (_:PmA n p) k q,KOk n (fun r=>PmA n r.1) (kas_desc f p k q)
 | 0,p,h,k,q=>h
 | f+1,p,h,k,q=>by
  refine ⟨h.at_ h0 _,h.at_ h0 _,fun b=>?_⟩
  (try dsimp only)
  split
  .split
   .exact qbg f (h.of (kn _ _ _ _)) _ _
   .exact qbg f h _ _
  .refine ⟨h.at_ h0 _,h.at_ h0 _,fun b=>?_⟩
   (try dsimp only)
   split
   .exact h
   .exact qbg f h _ _
theorem qdF (h:PmA n p) (k m:Nat):KOk n (fun r=>PmA n r.2) (kas_tail3 k m p):=(qdb h0 (h.of (kn _ _ _ _)) _ _).bind fun _ _=>h.of (kn _ _ _ _)
theorem qdG (h:PmA n p) (k m:Nat):KOk n (fun r=>PmA n r.2) (kas_descPart k m p):=(qbg h0 _ h _ _).bind fun r a=>by
 split
 .exact qdF h0 (a.of (kn _ _ _ _)) _ _
 .exact qdF h0 a _ _
theorem kok_count (h:PmA n p) (m:Nat):KOk n (fun r=>PmA n r.2) (kas_count m p):=(qdb h0 h _ _).bind fun k _=>by
 split
 .exact h
 .split
  .refine ⟨h.at_ h0 _,h.at_ h0 _,fun b=>?_⟩
   (try dsimp only)
   split
   .exact h
   .exact qdG h0 (h.of (kn _ _ _ _)) _ _
  .exact qdG h0 h _ _
theorem qbB (h:PmA n p) (k:Nat):∀ f l r,KOk n (fun _=>True) (kas_place p k f l r)
 | 0,l,r=>trivial
 | f+1,l,r=>by
  unfold kas_place;split
  .trivial
  .refine ⟨h.at_ h0 _,h.at_ h0 _,fun b=>?_⟩
   (try dsimp only)
   split
   .exact qbB h k f _ _
   .exact qbB h k f _ _
theorem qep:∀ f {p:Array Nat} (_:PmA n p) k,KOk n (PmA n) (kas_bin f p k)
 | 0,p,h,k=>h
 | f+1,p,h,k=>(qbB h0 h k _ _ _).bind fun l _=>qep f (h.of (bubble_perm _ _ _)) _
theorem kok_sort:KOk n (PmA n) (kas_sort n):=(kok_count h0 (p:=(List.range n).toArray) (List.Perm.refl _) n).bind fun r a=>by
 split
 .exact qep h0 _ a _
 .exact a
end
def Tw (h:Heap) (v:Value):Prop:=∃ (t:Addr) (o:Obj) (x y:Int) (a ty:Tok) (k:Nat),v=.ref t/\h.get? t=some o/\o.cls=.type "tuple"/\o.data=.seq #[.int x a,.int y ty] k
theorem Tw.keep {h':Heap} (w:Tw h v) (k:∀ b o,(∀ x n,o≠seqObj "list" x n)->h.get? b=some o->h'.get? b=some o):Tw h' v:=by
 obtain ⟨t,o,x,y,a,ty,m,e,g,c,d⟩:=w;exact ⟨t,o,x,y,a,ty,m,e,k _ _ (fun z n q=>by rw [q] at c;injection c with c;exact absurd c (by decide)) g,c,d⟩
section
variable {prog:Program} {w:World} {A:Around} {E:Value->Shared->Prop} {s:Shared}
theorem tw_lt {u:Value} {Q:Bool->Shared->Prop} (a:Tw s.heap u) (hv:Tw s.heap v) (h:∀ b,Q b s):wpAny (model prog w) A (keyLt' (tuples' true) u v) Q E s:=by
 obtain ⟨t,o,x,y,l,ty,k,rfl,g,c,d⟩:=a;obtain ⟨t',j,m,n,e,f,k',rfl,g',i,d'⟩:=hv;refine kat_lt g d g' d' ?_;refine kat_cons (kE (kat_go (fun _=>kat_yes ?_) fun _=>kat_no ?_))
 .refine kat_cons (kE (kat_go (fun _=>kat_yes (kat_nil (h _))) fun _=>kat_no ?_));exact kat_one _ _ (lt_int (show W.BoolBack Q (.bool _) s from h _))
 .exact oneLt_int (h _)
theorem qeq:∀ {vs:List Value},(∀ v∈vs,Tw h v)->∃ fs,KatTups h vs fs/\fs.length=vs.length/\∀ f∈fs,∃ x t,f=.int x t
 | [],_=>⟨[],.nil,rfl,fun _ z=>by cases z⟩
 | v::vs,hv=>by
  obtain ⟨fs,h1,b,e⟩:=qeq fun v i=>hv v (yz _ i);obtain ⟨t,o,x,y,a,ty,k,rfl,g,c,d⟩:=hv v yN;refine ⟨.int x a::fs,.cons g c d rfl h1,by rw [yC,yC,b],fun f hf=>?_⟩;rcases yB.mp hf with rfl | hf
  .exact ⟨x,a,rfl⟩
  .exact e f hf
theorem pick_perm (h:PmA vs.length p):(p.toList.map fun i=>vs.getD i Value.none).Perm vs:=by
 have e:(List.range vs.length).map (fun i=>vs.getD i Value.none)=vs:=by
  apply List.ext_getElem
  .simp
  .intro i h1 a;simp [a]
 have:=h.map fun i=>vs.getD i Value.none
 rwa [e] at this
theorem sort_tups {a:Addr} {P:PySem.Fin->Shared->Prop} (m:s.heap.get? a=some (seqObj "list" vs.toArray n)) (hv:∀ v∈vs,Tw s.heap v) (H:vs.length<64)
  (h:∀ out:Array Value,out.toList.Perm vs->P (.done (.ret .none)) { s with heap:=sortedHeap s.heap a vs out }) :
  wpAny (model prog w) A (Builtin.«list.sort» ⟨[.ref a],[]⟩) P E s:=by
 rw [list_sort_plain];have N:a<s.heap.objs.size:=yQ m;refine yr (listItems_at m rfl ?_);refine yr (listUpdate_at m rfl ?_);obtain ⟨F,q⟩:∃ F,(s.heap.update a (Obj.mapSeq fun _=>#[])).get? a=some (seqObj "list" #[] F):=⟨_,get?_update_seq m (fun _=>#[])⟩;refine yr (seqEpoch_at q rfl ?_);refine yr (wpAny_newTuple ?_);refine yr (wpAny_newList ?_);refine Yk ?_
 have c:(((s.heap.update a (Obj.mapSeq fun _=>#[])).push (seqObj "tuple" vs.toArray 0)).push (seqObj "list" #[] 0)).get? a=some (seqObj "list" #[] F):=by
  rw [Xv _ _ _ (by rw [size_push',kJ];exact yI (ki N)),Xv _ _ _ (by rw [kJ];exact yI N)];exact q
 have s1:=xA s.heap a (Obj.mapSeq fun _=>(#[]:Array Value));have g:∀ v∈vs,Tw (((s.heap.update a (Obj.mapSeq fun _=>#[])).push (seqObj "tuple" vs.toArray 0)).push (seqObj "list" #[] 0)) v:=fun v W=>(hv v W).keep fun b o nl e=>yv _ (yv _ ((s1.2 b (fun z=>by rw [z,m] at e;exact nl _ _ (ym e).symm)).trans e));show wpAny (model prog w) A _ P E { s with heap:=((s.heap.update a (Obj.mapSeq fun _=>#[])).push (seqObj "tuple" vs.toArray 0)).push (seqObj "list" #[] 0) };dsimp only;have hsz:vs.toArray.size=vs.length:=by simp
 have l:=h;by_cases y:vs.toArray.size<2
 .rw [yD y,yD y];refine yr (yu ?_);rw [StateT.run_pure];refine yr (yu ?_);dsimp only;refine yr (seqEpoch_at c rfl ?_);refine yr (listUpdate_at c rfl ?_ (hsz2:=by rw [Array.size_map];show (pairsOf vs).size<=_;rw [pairsOf_size,YB];omega));simp only [bne_self_eq_false,Yx,xu];refine yu (l _ ?_);show ((pairsOf vs).map (·.2)).toList.Perm vs
  have:((pairsOf vs).map (·.2)).toList=vs:=by
   rw [Array.toList_map];show (vs.toArray.zip vs.toArray).toList.map Prod.snd=vs;simp [List.map_snd_zip]
  rw [this]
 .rw [yy y,yy y];have X:2<=vs.length:=by omega
  obtain ⟨fs,Y,k2,Z⟩:=qeq g;refine yr (kat_kind (T:=.type "int") Y (by omega) (fun f J=>?_) (by decide +kernel) ?_)
  .obtain ⟨x,t,rfl⟩:=Z f J;exact Looks.of_pure rfl
  refine yr (YU (kat_run (ks:=vs) (Q:=fun d u=>u={ s with heap:=((s.heap.update a (Obj.mapSeq fun _=>#[])).push (seqObj "tuple" vs.toArray 0)).push (seqObj "list" #[] 0) }/\∃ p:Array Nat,PmA vs.length p/\arrOf d=p.map (kas_item (vs.toArray.zip vs.toArray))/\failedOf d=none)
   (G:=fun p u=>u={ s with heap:=((s.heap.update a (Obj.mapSeq fun _=>#[])).push (seqObj "tuple" vs.toArray 0)).push (seqObj "list" #[] 0) }/\PmA vs.length p) rfl X H (fun p' d u a1 O R L=>⟨L.1,p',L.2,O,R⟩) ((kok_sort (by omega)).wp (fun i j C B U S=>?_) fun p D=>⟨rfl,D⟩)) ?_ fun _ _ e=>e)
  .have M:∀ i,i<vs.length->vs.getD i Value.none∈vs:=fun i B=>by
    have:vs.getD i Value.none=vs[i]:=by simp [B]
    rw [this];exact YT B
   exact tw_lt (g _ (M i B)) (g _ (M j U)) S
  rintro ⟨⟨⟩,d⟩ u ⟨rfl,p,D,I,J⟩;dsimp only;have r:=kat_snds rfl I;have K:p.toList.length=vs.length:=by rw [D.length_eq,YI]
  refine yr (seqEpoch_at c rfl ?_);rw [r];refine yr (listUpdate_at c rfl ?_ (hsz2:=by rw [yw,ya,K,YB];omega));rw [J];simp only [bne_self_eq_false,Yx,xu];exact yu (l _ (pick_perm D))
theorem sorted_tups {l:Addr} {Q:Value->Shared->Prop} (hl:s.heap.IsList l vs.toArray) (hv:∀ v∈vs,Tw s.heap v) (d:vs.length<64)
  (h:∀ out:Array Value,out.toList.Perm vs->Q (.ref (s.heap.objs.size+1)) { s with heap:=sortedAll s.heap vs out }) :
  wpAny (model prog w) A (call (.builtin "sorted") [.ref l]) Q E s:=by
 refine Calls.call_function_entry kind_sorted plain_sorted entry_sorted (args_sorted1 _) ?_;unfold Builtin.«sorted»;refine yr (m:=checkCount "sorted" 1 1 _) (yu ?_);refine yr (collect_list hl ?_);refine yr (wpAny_newList ?_)
 have hsz:((s.heap.push (seqObj "list" #[] 0)).update s.heap.objs.size (Obj.mapSeq (·++vs.toArray))).objs.size=s.heap.objs.size+1:=by
  rw [kJ,size_push']
 have c:(((s.heap.push (seqObj "list" #[] 0)).update s.heap.objs.size (Obj.mapSeq (·++vs.toArray))).push (seqObj "list" vs.toArray 0)).get? (s.heap.objs.size+1)=some (seqObj "list" vs.toArray 0):=by
  rw [<- hsz];exact yW _ rfl
 have f:∀ v∈vs,Tw (((s.heap.push (seqObj "list" #[] 0)).update s.heap.objs.size (Obj.mapSeq (·++vs.toArray))).push (seqObj "list" vs.toArray 0)) v:=fun v g=>(hv v g).keep fun b o _ e=>by
  have a:b<s.heap.objs.size:=yQ e;rw [Xv _ _ _ (by rw [hsz];exact yI (ki a)),X2 _ _ _ _ (yI a),Xv _ _ _ (yI a)];exact e
 show wpAny _ _ _ _ _ { s with heap:=((s.heap.push (seqObj "list" #[] 0)).update s.heap.objs.size (Obj.mapSeq (·++vs.toArray))).push (seqObj "list" vs.toArray 0) };rw [hsz];refine yr (Yk (xH slot_list_sort ⟨_,c,rfl⟩ entry_list_sort (sort_tups c f d fun out i=>⟨_,rfl,?_⟩) (args_list_sort _)));exact yu ⟨_,rfl,h out i⟩
end
theorem qcM:∀ {a:List Addr} {us:List Value},Vals (a.map V.ref) us->us=a.map Value.ref
 | [],_,.nil=>rfl
 | t::a,_,.cons r h=>by
  have e:_=Value.ref t:=r;rw [e,qcM h];rfl
theorem qcN:∀ (a:List Addr),Vals (a.map V.ref) (a.map Value.ref)
 | []=>.nil
 | t::a=>.cons rfl (qcN a)
noncomputable def qe1:Value->Addr
 | .ref a=>a
 | _=>0
theorem perm_refs {b:List Addr} {out:List Value} (h:out.Perm (b.map Value.ref)):∃ us:List Addr,us.Perm b/\out=us.map Value.ref:=by
 refine ⟨out.map qe1,?_,?_⟩
 .have:=h.map qe1;rw [List.map_map] at this;have e:(qe1 ∘ Value.ref)=id:=by funext a;rfl
  rwa [e,List.map_id] at this
 .rw [List.map_map]
  have:out.map id=out.map (Value.ref ∘ qe1):=List.map_congr_left fun v hv=>by
   obtain ⟨t,_,rfl⟩:=Ye.mp (h.mem_iff.mp hv);rfl
  rwa [List.map_id] at this
section
variable {X:Cx} {K:yg}
def rSortT:List V->Hp->VK->Prop:=fun xs H Q=>∃ (p:Addr) (a:List Addr),xs=[.ref p]/\H p=some (.lst (a.map V.ref))/\a.length<64/\(∀ t∈a,∃ x y:Int,H t=some (.tup [.int x,.int y]))/\∀ (l:Addr) (us:List Addr),H l=none->us.Perm a->Q (.ref l) (upd H l (.lst (us.map V.ref)))
theorem k_sortT:zv X (.builtin "sorted") rSortT:=by
 intro z s L H xs us Q I r h;obtain ⟨p,l,rfl,E,f,F,q⟩:=h;obtain ⟨u,rfl,G⟩:=qbd r;cases G;obtain ⟨j,J,pl,hz⟩:=I.list (SqL.of E);have A:=qcM J;subst A;refine sorted_tups (vs:=l.map Value.ref) pl.isList (fun v hv=>?_) (by rw [ya];exact f) fun out a=>?_
 .obtain ⟨t,i,rfl⟩:=Ye.mp hv;obtain ⟨x,y,e⟩:=F t i;obtain ⟨_,j,rt,o,g,c,n,d⟩:=I.hok _ _ e
  cases rt with
  | cons r1 rt =>
   cases rt with
   | cons r2 rt =>
    cases rt;obtain ⟨K,rfl⟩:=r1;obtain ⟨ty,rfl⟩:=r2;exact ⟨t,o,x,y,K,ty,n,rfl,g,c,d⟩
 .obtain ⟨us,m,B⟩:=perm_refs a;obtain ⟨e,C⟩:=PyProof.Rows.sortedAll_at s.heap (l.map Value.ref) out;have D:H (s.heap.objs.size+1)=none:=I.hok.fresh (Xa _)
  have new:ObjOk X.prog X.w (upd H (s.heap.objs.size+1) (.lst (us.map V.ref))) (PyProof.Rows.sortedAll s.heap (l.map Value.ref) out) (s.heap.objs.size+1) (.lst (us.map V.ref)):=by
   refine ⟨?_,out.toList,e,by rw [B];exact qcN us,?_⟩
   .rw [ya,m.length_eq];exact yX (qi (by omega))
   .rw [C]
  exact ⟨.ref (s.heap.objs.size+1),_,I.laid (t':=s.toks) (fun b o e=>PyProof.Rows.sortedAll_old e) (Xa _) new,rfl,q _ us D m⟩
end
end L2
namespace K55
open PySem L2 PyProof.Rows
variable {A:Str->Str->Prop} {E:XK} {G H H' H0 H1 H2 J J':Hp} {K:W.Frag} {Pd:Str->Prop} {S S':FS} {a c s u v y z:Str} {ab:Str×Str} {b cp cw dx l ln lp p p1 p2 q t1 t2 tn x x1 x2:Addr} {cc:Nat->Addr} {d lo ol:V} {dn l' l1 l2 m1 r rs rv rw rz ss wt:List Str} {g:Str->Option Str} {i j m n:Nat} {is ns:List Nat} {kps qs tps:List (Str×Str)} {kvs:List (List Key×V)} {nb:Nat->List Nat} {o:HO} {q' q0:Nat×Nat} {ts us:List Addr} {xs ys:List V} {α β:Type} {σ:L2.St}
theorem Sr (H:Hp):L2.Same H H:=L2.Same.refl H
theorem jS {k:Nat} {A:Around} (a:Room k A):A.units+100<cLine:=by have:=a.un;omega
theorem hmR {k:Nat} {A:Around} (a:Room k A) (h:j<=k:=by decide):Room j A:=a.mono h
local macro_rules | `(tactic| walk_at "w")=>`(tactic| first
 | with_reducible refine vSeq ?_ | with_reducible refine vAsg ?_ | with_reducible refine vAsgS ?_ | with_reducible refine vIfS ?_ | with_reducible refine vRet ?_ | with_reducible refine vNext ?_ | with_reducible refine vC ?_
 | ((with_reducible refine' vVar ?hv ?_);(case hv=>rfl)) | with_reducible refine vOp ?_ | with_reducible refine vChain ?_ | with_reducible refine vNil ?_ | with_reducible refine vCons ?_ | with_reducible refine vCB ?_ | with_reducible refine vCall ?_
 | with_reducible refine vLst ?_ | with_reducible refine vTup ?_ | with_reducible refine vTest ?_ | with_reducible refine vB ?_ | with_reducible refine vNot ?_ | with_reducible refine vAnd ?_ | with_reducible refine vOr ?_
 | with_reducible refine vAndV ?_ | with_reducible refine vOrV ?_ | with_reducible refine vNotV ?_ | with_reducible refine vYes ?_ | with_reducible refine vLeI ?_ | with_reducible refine vLeS ?_ | with_reducible refine vIsB ?_ | with_reducible refine vAddI ?_ | with_reducible refine vSl ?_ | with_reducible refine vNoPart ?_ | with_reducible refine vPart ?_ | with_reducible refine vExI ?_ | with_reducible refine vBM ?_ | with_reducible refine vBM0 ?_ | with_reducible refine vComp ?_ | with_reducible refine vFor ?_ | with_reducible refine vRng1 ?_ | with_reducible refine vAny ?_ | with_reducible refine vGN ?_ | with_reducible refine vI0 ?_ | with_reducible refine vEqI ?_ | with_reducible refine vEqB ?_ | with_reducible refine vEx ?_ | with_reducible refine vDrop ?_ | with_reducible refine vRetN ?_ | with_reducible refine vFldU ?_ | with_reducible refine vSFldU ?_ | with_reducible refine vXMake ?_ | with_reducible refine vMake ?_ | with_reducible refine vMeth ?_ | with_reducible refine vVinit ?_ | with_reducible refine vCallS ?_ | with_reducible refine vRaise ?_ | with_reducible refine vMethS ?_ | with_reducible refine vMakeS ?_ | with_reducible refine vUn ?_ | with_reducible refine vIf ?_ | with_reducible refine vRev ?_ | with_reducible refine vEnum ?_ | with_reducible refine vDGet2 ?_ | with_reducible refine vStep ?_)
local macro_rules | `(tactic| walk_at "v")=>`(tactic| repeat walk_at "w")
local macro_rules | `(tactic| ext)=>`(tactic| walk_at "v")
noncomputable def fAtt:List Str:=["board","partners","rows","parents","bases","rings","waiting","longer"]
structure Txt (K:W.Frag) (mg:Str->Option Value) (cc:Nat->Addr) (cw:Addr):Prop where
 b_len:mg "len"=none
 b_int:mg "int"=none
 b_enumerate:mg "enumerate"=none
 b_all:mg "all"=none
 b_max:mg "max"=none
 b_min:mg "min"=none
 b_isinstance:mg "isinstance"=none
 b_bool:mg "bool"=none
 b_str:mg "str"=none
 b_range:mg "range"=none
 b_list:mg "list"=none
 b_tuple:mg "tuple"=none
 g_LONGEST_NAME:∃ tk,mg "LONGEST_NAME"=some (.int 6 tk)
 g_MOST_PLACES:∃ tk,mg "MOST_PLACES"=some (.int 14 tk)
 g_MOST_TIES:∃ tk,mg "MOST_TIES"=some (.int 30 tk)
 wcl:Cls K cw
 wn:NoAttr K cw "numbers"
 wo:NoAttr K cw "order"
 wr:NoAttr K cw "near"
 m_Web:mg "Web"=some (.ref cw)
 m_Forest:mg "Forest"=some (.ref (cc 9))
 fcl:Cls K (cc 9)
 fa:∀ a∈fAtt,NoAttr K (cc 9) a
 b_zip:mg "zip"=none
 b_sorted:mg "sorted"=none
 b_dict:mg "dict"=none
 b_sum:mg "sum"=none
 m_Play:mg "Play"=some (.ref (cc 8))
 pcl:Cls K (cc 8)
 pb:NoAttr K (cc 8) "board"
 pp:NoAttr K (cc 8) "path"
theorem u6:FnScope ["thing"] ["thing"] (qh qaa):=fS
theorem u7:FnScope ["bits","number"] ["bits","number"] (qh qaR):=fS
theorem uW:FnScope ["numbers","thing"] ["numbers","thing"] (qh qan):=fS
theorem KS:FnScope ["numbers","thing","both"] ["numbers","thing"] (qh jB):=fS
theorem qL (a:L2.Same H H1) (hl:H1 l=none):L2.Same H (upd H1 l o):=fun c u e=>by
 have q:=a c u e;rw [qe (qm q hl)];exact q
theorem qaz (a:L2.Same H H1) (hl:H l=none):L2.Same H (upd H1 l o):=fun c u e=>by
 rw [qe (qm e hl)];exact a c u e
noncomputable def sg (c:Nat):Bool:=if (!decide (([c]:List Nat)<("a":Str).cps.toList))=true then !decide (("z":Str).cps.toList < [c]) else false
noncomputable def zJ (x:Str):Bool:=if 1<=x.length/\x.length<=6 then x.cps.toList.all sg else false
theorem nameS_at {x:Str} (h:zJ x=true):1<=x.length/\x.length<=6/\x.cps.toList.all sg=true:=by
 unfold zJ at h;split at h
 .rename_i z;exact ⟨z.1,z.2,h⟩
 .cases h
structure All2 {α β:Type} (R:α->β->Prop) (l:List α) (m:List β):Prop where
 len:l.length=m.length
 at_:∀ (k:Nat) a b,l[k]?=some a->m[k]?=some b->R a b
theorem All2.nil {R:α->β->Prop}:All2 R [] []:=⟨rfl,fun k a b h=>by simp at h⟩
theorem All2.mono {R S:α->β->Prop} {l:List α} {m:List β} (h:All2 R l m) (f:∀ a b,R a b->S a b):All2 S l m:=⟨h.len,fun k a b x y=>f a b (h.at_ k a b x y)⟩
theorem All2.snoc {R:α->β->Prop} {l:List α} {m:List β} {x:α} {y:β} (h:All2 R l m) (r:R x y):All2 R (l++[x]) (m++[y]):=by
 refine ⟨by rw [yt,yt,h.len];rfl,fun k a b c hb=>?_⟩;by_cases d:k<l.length
 .rw [y8 d] at c;rw [y8 (by rw [<- h.len];exact d)] at hb;exact h.at_ k a b c hb
 .rw [yG (by omega)] at c;rw [yG (by rw [<- h.len];omega)] at hb
  have e:k-l.length=0:=by
   have:=(yc.mp c).1;simp at this;omega
  rw [<- h.len] at hb;rw [e] at c hb;cases c;cases hb;exact r
theorem All2.mem {R:α->β->Prop} {l:List α} {m:List β} (h:All2 R l m) {x:α} (c:x∈l):∃ y∈m,R x y:=by
 obtain ⟨k,b,e⟩:=xB c;have a:k<m.length:=by rw [<- h.len];exact b
 exact ⟨m[k],YT a,h.at_ k x m[k] (by rw [yb b,e]) (yb a)⟩
def PL (H:Hp) (l:Addr) (ts:List Addr) (tps:List (Str×Str)):Prop:=H l=some (.lst (ts.map V.ref))/\All2 (fun t ab=>H t=some (.tup [.str ab.1,.str ab.2])) ts tps
theorem PL.same (h:PL H l ts tps) (s:L2.Same H H'):PL H' l ts tps:=⟨s _ _ h.1,h.2.mono fun _ _ z=>s _ _ z⟩
section
variable {P:Program} {w:World} {K:W.Frag} {mg:Str->Option Value} {base:Heap} {cc:Nat->Addr} {cw:Addr} {f:Addr} {fd:FuncData}
inductive spName (vs:List V) (H:Hp) (Q:VK) (E:XK):Prop|mk (x:Str) (_:vs=[.str x]) (_:zJ x=true) (_:∀ H',L2.Same H H'->Q (.bl true) H')
theorem ok_name (F:Fun K "is_name" "is_name" qaa f fd) (T:Txt K mg cc cw):FnOk P w K mg base CX0 1 f fd ["thing"] spName:=by
 refine F.ok u6 fun _ _ _ _ H vs Q E r h=>?_
 .obtain ⟨x,rfl,j,q⟩:=h;obtain ⟨s,n,p⟩:=nameS_at j;refine ⟨_,(qc (qV (PW.pt (qaH (jf (qZ (qk (qaQ (K:=K) rfl) rfl T.b_isinstance YG (qa (pv 0) (qa (jD (v:=.ty "str") rfl T.b_str boot_str rfl) qd))))) (qay (jf (pt_chain qgj qgj qg (qk (zh (K:=K) rfl) rfl T.b_len YO (qa (pv 0) qd)) (qb3 rfl T.g_LONGEST_NAME)))))) (qf (qp zg)) qx)
 (qf (qp (qk (qfB (K:=K) rfl rfl) rfl T.b_all boot_all (qa (jh (sc:=qh qaa) (XN:=["thing"]) ["sign"] 1 [] rfl rfl rfl (by decide +kernel) rfl (by decide +kernel)
  (qT (K:=K) rfl (pv 0)) (fun _ _ _ _=>(qr (i:=0) (show (["sign"]:List Str).Nodup by decide +kernel) rfl (yO rfl))) qR
  (fun _ _ _ _=>jG)
  (fun _ _ _ _=>(pe_chain qgj qgj qbs (pv 0) qbs))) qd))))),?_⟩
  ext;refine qb4 (.inl (.str x)) rfl (zG K "str" (by simp) "str" (by simp)) ?_;ext;refine yq ?_;ext;refine vLenS (yi n (by decide)) ?_;ext;refine qW (fun h1=>?_) fun h1=>absurd (yM (by omega)) h1;ext;refine qW (fun e=>by simp only [Y5,xM] at e;omega) fun e=>?_;ext;refine comp_str (fun i ys H'=>H'=H/\ys=((x.cps.toList.take i).map sg).map V.bl) ⟨rfl,by simp⟩ (fun i c ys H' hc d=>?_) fun ys H' d=>?_
  .obtain ⟨rfl,rfl⟩:=d;ext;refine qal ?_;ext
   have hl:(List.map V.bl (List.map sg (List.take i x.cps.toList))).length<sizeLine:=by
    rw [ya,ya,yT];exact qi (yi (Nat.min_le_right _ _) (by simpa [Str.length] using (show x.length<=1000 by omega)))
   have key:∀ b,b=sg c->(List.map V.bl (List.map sg (List.take i x.cps.toList)))++[V.bl b]=List.map V.bl (List.map sg (List.take (i+1) x.cps.toList)):=by
    intro b hb;have g:x.cps.toList[i]?=some c:=by simpa using hc
    rw [hb,yK,g];simp
   refine qW (fun a=>?_) fun a=>⟨hl,rfl,key _ (by unfold sg;rw [yy a])⟩;ext;exact ⟨hl,rfl,key _ (by unfold sg;rw [yD a])⟩
  .obtain ⟨rfl,rfl⟩:=d;have m:x.cps.toList.take x.cps.size=x.cps.toList:=by rw [<- xx,yR]
   rw [m];refine ⟨?_,fun l hl=>?_⟩
   .rw [ya,ya];exact yX (qi (by simpa [Str.length] using (show x.length<=1000 by omega)))
   .ext;refine ⟨l,x.cps.toList.map sg,rfl,SqL.of qb,?_⟩;have z:=q _ (qL (Sr H') (o:=.lst ((x.cps.toList.map sg).map V.bl)) hl);rw [kP];rw [<- p] at z;exact z
inductive spBit (vs:List V) (H:Hp) (Q:VK) (E:XK):Prop|mk (b n:Int) (_:vs=[.int b,.int n]) (_:0<=n) (_:Q (.bl (decide (Builtin.bitAnd (b / 2 ^ n.toNat) 1=1))) H)
theorem ok_bit (F:Fun K "has_bit" "has_bit" qaR f fd):FnOk P w K mg base CX0 1 f fd ["bits","number"] spBit:=by
 refine F.ok u7 fun _ _ _ _ H vs Q E c h=>?_
 .obtain ⟨b,n,rfl,a,q⟩:=h;have d:=jS c;refine ⟨_,(qf (qp (jE (zi (K:=K) rfl d) (qE qdr (qE qdq (pv 0) (pv 1)) qg) qg (qC _)))),?_⟩;ext;refine vI a ?_;ext;refine .inl (.inl (.inl ⟨rfl,rfl,?_⟩));exact q
noncomputable def qbK:List Str->Nat->List (Key×V)
 | [],_=>[]
 | s::r,i=>(.inr s,.int i)::qbK r (i+1)
theorem qcO (y:Str):∀ (ss:List Str) (i:Nat),qbK (ss++[y]) i=qbK ss i++[(.inr y,.int (i+ss.length:Nat))]
 | [],i=>rfl
 | s::r,i=>by
  show (_::qbK (r++[y]) (i+1))=_::(qbK r (i+1)++_);rw [qcO y r (i+1)];have:i+1+r.length=i+(s::r).length:=by simp;omega
  rw [this]
theorem zK:∀ (ss:List Str) (i:Nat),(qbK ss i).length=ss.length
 | [],_=>rfl
 | _::r,i=>congrArg (· + 1) (zK r (i+1))
theorem qbC:∀ {ss:List Str} {i:Nat},y∉ss->jP (qbK ss i) (.inr y:Key)=none
 | [],_,_=>rfl
 | s::r,i,h=>by
  have h1:¬ s=y:=fun e=>h (by rw [e];exact yN);show jP ((.inr s,V.int i)::qbK r (i+1)) _=none;rw [q8 (p:=((.inr s:Key),V.int i)) (fun e=>h1 (Y8 e))];exact qbC fun m=>h (yz _ m)
theorem jX:∀ {ss:List Str} {i:Nat},y∈ss->∃ j,j<ss.length/\ss[j]?=some y/\jP (qbK ss i) (.inr y:Key)=some (.int (i+j:Nat))
 | [],_,h=>by cases h
 | s::r,i,h=>by
  by_cases e:s=y
  .subst e;exact ⟨0,by simp,rfl,jm (p:=((.inr s:Key),V.int i)) rfl⟩
  .rcases yB.mp h with z | z
   .exact absurd z.symm e
   .obtain ⟨j,h1,b,c⟩:=jX (i:=i+1) z;refine ⟨j+1,by simp;omega,by simpa using b,?_⟩;show jP ((.inr s,V.int i)::qbK r (i+1)) _=_;rw [q8 (p:=((.inr s:Key),V.int i)) (fun a=>e (Y8 a)),c];have:i+1+j=i+(j+1):=by omega
    rw [this]
theorem qbD (y:Str) (ss:List Str) (i:Nat):(jP (qbK ss i) (.inr y:Key)).isSome=decide (y∈ss):=by
 by_cases h:y∈ss
 .obtain ⟨j,_,_,e⟩:=jX (i:=i) h;rw [e,yM h];rfl
 .rw [qbC h,yl h];rfl
inductive spPlace (vs:List V) (H:Hp) (Q:VK) (E:XK):Prop|mk (d:Addr) (ss:List Str) (x:Str) (_:vs=[.ref d,.str x]) (_:H d=some (.dK (qbK ss 0))) (_:zJ x=true) (_:x∈ss) (_:∀ H',L2.Same H H'->Q (.bl true) H')
theorem ok_place (F:Fun K "is_place" "is_place" qan f fd) (c:DefOk P w K mg base CX0 1 "is_name" ["thing"] spName):FnOk P w K mg base CX0 2 f fd ["numbers","thing"] spPlace:=by
 refine F.ok uW fun _ _ _ _ H vs Q E a h=>?_
 .obtain ⟨d,ss,x,rfl,e,g,j,q⟩:=h;have i:=jS a;refine ⟨_,(qf (qp (qcn (qv c (hmR a) qH (qa (pv 1) qd)) (qcm (jE (zT (K:=K) rfl i) (pv 1) (pv 0) (by with_unfolding_all rfl)))))),?_⟩;ext;refine ⟨x,rfl,g,fun H1 b=>?_⟩;ext;refine qal ?_;ext;refine .inr (.inl ⟨d,_,rfl,DGet.k (k:=Sum.inr x) (b d _ e),?_⟩);rw [qbD,yM j];exact q H1 b
inductive spTwo (vs:List V) (H:Hp) (Q:VK) (E:XK):Prop|mk (d t:Addr) (ss:List Str) (a b:Str) (_:vs=[.ref d,.ref t]) (_:H d=some (.dK (qbK ss 0))) (_:H t=some (.tup [.str a,.str b])) (_:zJ a=true) (_:zJ b=true) (_:a∈ss) (_:b∈ss) (_:a≠b) (_:∀ H',L2.Same H H'->Q (.bl true) H')
theorem ok_two (F:Fun K "are_two_places" "are_two_places" jB f fd) (T:Txt K mg cc cw) (o:DefOk P w K mg base CX0 2 "is_place" ["numbers","thing"] spPlace):FnOk P w K mg base CX0 3 f fd ["numbers","thing"] spTwo:=by
 refine F.ok KS fun _ _ _ _ H vs Q E m h=>?_
 .obtain ⟨d,t,ss,a,b,rfl,p,c,s,nb,r,hb,l,q⟩:=h;have g:=jS m;refine ⟨_,(qc (qV (PW.pt (qaH (jf (qZ (qk (qaQ (K:=K) rfl) rfl T.b_isinstance YG (qa (pv 1) (qa (jD (v:=.ty "tuple") rfl T.b_tuple XF rfl) qd))))) (qay (qj (zZ (K:=K) rfl g) (qk (zh (K:=K) rfl) rfl T.b_len YO (qa (pv 1) qd)) qg (qC _))))) (qf (qp zg)) qx)
 (qc (qo (i:=2) KS.nd rfl (yO rfl) (qcn (qv o (hmR m) qH (qa (pv 0) (qa (qt (qu (K:=K) rfl g) (pv 1) qg (fun _ _=>rfl)) qd))) (qcm (qv o (hmR m) qH (qa (pv 0) (qa (qt (qu (K:=K) rfl g) (pv 1) qg (fun _ _=>rfl)) qd))))))
 (qf (qp (qcn (pv 2) (qcm (jE (zZ (K:=K) rfl g) (qt (qu (K:=K) rfl g) (pv 1) qg (fun _ _=>rfl)) (qt (qu (K:=K) rfl g) (pv 1) qg (fun _ _=>rfl)) (qC _)))))))),?_⟩
  ext;refine qb4 (.inl (.tup c)) rfl (zG K "tuple" (by simp) "tuple" (by simp)) ?_;ext;refine yq ?_;ext;refine qfA c ?_;ext;refine .inl ⟨rfl,rfl,?_⟩;ext;refine yq ?_;ext;refine .inl (qaw c rfl ?_);ext;refine ⟨d,ss,a,rfl,p,s,r,fun H1 j=>?_⟩;ext;refine qal ?_;ext;refine .inl (qaw (j _ _ c) rfl ?_);ext;refine ⟨d,ss,b,rfl,j _ _ p,nb,hb,fun H2 n=>?_⟩;ext;refine qal ?_;ext;refine .inl (qaw (n _ _ (j _ _ c)) rfl ?_);ext;refine .inl (qaw (n _ _ (j _ _ c)) rfl ?_);refine .inl ⟨rfl,rfl,?_⟩;have z:=q H2 (j.trans n);have e:(if true=true then !eqV (V.str a) (V.str b) else eqV (V.str a) (V.str b))=true:=by simp [eqV,l]
  rw [e];exact z
theorem KP:FnScope ["names","numbers","name"] ["names"] (qh zl):=fS
theorem qb5 (m j:Nat):decide (Builtin.bitAnd ((m:Int) / 2 ^ (j:Int).toNat) 1=1)=m.testBit j:=by
 rw [PyProof.Rows.bitAnd_m1,Nat.testBit_eq_decide_div_mod_eq];rw [Ym];have e:(m:Int) / 2 ^ j=((m / 2 ^ j:Nat):Int):=by rw [Int.natCast_ediv,Xm];rfl
 rw [e]
 congr 1
 apply propext;omega
theorem qdH (m j:Nat):Builtin.bitOr (m:Int) (1*2 ^ (j:Int).toNat)=((m ||| 2 ^ j:Nat):Int):=by
 have e:(1*2 ^ (j:Int).toNat:Int)=((2 ^ j:Nat):Int):=by rw [Ym,Int.one_mul,Xm];rfl
 rw [e];generalize 2 ^ j=k;have c:Builtin.bitNot (m:Int)=-(m:Int)-1:=rfl;have d:Builtin.bitNot (k:Int)=-(k:Int)-1:=rfl;unfold Builtin.bitOr Builtin.bitAnd;rw [c,d,yl (by omega),yl (by omega)];dsimp only;unfold Builtin.bitNot;have a:(-(-(m:Int)-1)-1).toNat=m:=by omega
 have b:(-(-(k:Int)-1)-1).toNat=k:=by omega
 rw [a,b];omega
def But (x:Addr) (H H':Hp):Prop:=∀ b o,b≠x->H b=some o->H' b=some o
theorem But.refl (x:Addr) (H:Hp):But x H H:=fun _ _ _ e=>e
theorem But.same (a:But x H H1) (b:L2.Same H1 H2):But x H H2:=fun c o n e=>b c o (a c o n e)
theorem But.put (a:But x H H1):But x H (upd H1 x o):=fun c u n e=>by rw [qe n];exact a c u n e
theorem But.new (a:But x H H1) (hl:H1 l=none):But x H (upd H1 l o):=a.same (qL (Sr H1) hl)
theorem qer {a:Addr} {Q:VK} (h:H a=some (.lst xs)) (b:H q=some (.tup [.ty "list",.ty "tuple"])) (k:Q (.bl true) H):qem K [.ref a,.ref q] H Q:=
 ⟨_,q,_,_,[.type "list",.type "tuple"],true,rfl,.inl (.lst h),b,rfl,rfl,k⟩
def qg1 (g:TG) (t:TS) (D:Ends) (σ:L2.St) (J:It) (H1:Hp):Prop:=∃ W:Nat->Nat->L2.St->Hp->Prop,(∃ m,W 0 m σ H1)/\∀ i m σ H,W i m σ H ->
 (J.stop i H/\D.nx σ H)\/(J.go i H/\∃ N:L2.St->Hp->Prop,(∀ a H',N a H'->∃ c,c<m/\W (i+1) c a H')/\∀ x H',J.yld i H x H'->g x σ H' fun b H2=>t { D with nx:=N,ct:=N,bk:=D.nx } b H2)
def LTu (H:Hp) (a:Addr) (xs:List V):Prop:=H a=some (.lst xs)\/H a=some (.tup xs)
theorem LTu.same {a:Addr} (h:LTu H a xs) (s:L2.Same H H'):LTu H' a xs:=h.imp (s _ _) (s _ _)
theorem qff {a:Addr} {Q:VK} (h:LTu H a xs) (b:H q=some (.tup [.ty "list",.ty "tuple"])) (k:Q (.bl true) H):qem K [.ref a,.ref q] H Q:=
 h.elim (fun h=>qer h b k) fun h=>⟨_,q,_,_,[.type "list",.type "tuple"],true,rfl,.inl (.tup h),b,rfl,rfl,k⟩
theorem qfg {a:Addr} {Q:VK} (h:LTu H a xs) (q:Q (.int xs.length) H):qc5 K [.ref a] H Q:=h.elim (fun e=>qek e q) fun e=>qfA e q
theorem qfh {a:Addr} {g:TG} {d:TS} {D:Ends} (h:LTu H a xs) (n:L2.Same H H1) (b:Nat->L2.St->Hp->Prop) (j:b 0 σ H1) (hl:∀ i σ H',b i σ H'->L2.Same H H')
  (m:∀ i x σ H,xs[i]?=some x->b i σ H->g x σ H fun f H2=>d { D with nx:=b (i+1),ct:=b (i+1),bk:=D.nx } f H2) (l:∀ σ H,b xs.length σ H->D.nx σ H) :
  ((∃ xs,SqL K H1 a xs)/\qg1 g d D σ (Itl K a) H1)\/((∃ xs,SqT K H1 a xs)/\qg1 g d D σ (Itt K a) H1):=by
 rcases h with e | e
 .exact .inl ⟨⟨_,SqL.of (n _ _ e)⟩,ju (K:=K) b j (fun i σ H' _ c=>SqL.of (hl i σ H' c _ _ e)) m l⟩
 .exact .inr ⟨⟨_,SqT.of (n _ _ e)⟩,for_tup (K:=K) b j (fun i σ H' _ c=>SqT.of (hl i σ H' c _ _ e)) m l⟩
inductive spNums (vs:List V) (H:Hp) (Q:VK) (E:XK):Prop|mk (a:Addr) (ss:List Str) (_:vs=[.ref a]) (_:LTu H a (ss.map V.str)) (_:ss.length<=14) (_:ss.Nodup) (_:(∀ s∈ss,zJ s=true)) (_:∀ d H',L2.Same H H'->H d=none->H' d=some (.dK (qbK ss 0))->Q (.ref d) H')
theorem ok_nums (F:Fun K "numbers_of" "numbers_of" zl f fd) (T:Txt K mg cc cw) (J:DefOk P w K mg base CX0 1 "is_name" ["thing"] spName) :
  FnOk P w K mg base CX0 4 f fd ["names"] spNums:=by
 refine F.ok KP fun _ _ _ _ H vs Q E C h=>?_
 .obtain ⟨a,ss,rfl,m,L,hnd,n,q⟩:=h;have D:=jS C;refine ⟨_,(qc (qV (jf (qZ (qk (qc6 (K:=K) rfl) rfl T.b_isinstance YG (qa (pv 0) (qa (jp (qa (jD (v:=.ty "list") rfl T.b_list xp rfl) (qa (jD (v:=.ty "tuple") rfl T.b_tuple XF rfl) qd))) qd))))) (qf jg) qx)
 (qc (qV (qj qc0 (qk (zh (K:=K) rfl) rfl T.b_len YO (qa (pv 0) qd)) (qb3 rfl T.g_MOST_PLACES) (qC _)) (qf jg) qx)
 (qc (qo (i:=1) KP.nd rfl (yO rfl) j6)
 (qc (jl y0 rfl (qT (K:=K) rfl (pv 0)) (qr (i:=2) KP.nd rfl (yO rfl))
 (qc (qV (jf (qZ (qv J (hmR C) qH (qa (pv 2) qd)))) (qf jg) qx)
 (qc (qV (qj (zT (K:=K) rfl D) (pv 2) (pv 1) (by with_unfolding_all rfl)) (qf jg) qx)
 (qf (jN (qk (zh (K:=K) rfl) rfl T.b_len YO (qa (pv 1) qd)) (jV (pv 1) (pv 2) (jW D)))))))
 (qf (qp (pv 1))))))),?_⟩
  ext;refine ⟨by show 2<=sizeLine;decide,fun g M=>?_⟩;have l:=qL (Sr H) (o:=.tup [.ty "list",.ty "tuple"]) M;ext;refine qff (m.same l) qb ?_;ext;refine yq ?_;ext;refine qfg (m.same l) ?_;rw [ya];ext;refine qW (fun h=>by have:=yk h;omega) fun _=>?_;ext;intro d A;have I:=qL l (o:=.dK []) A;have c:H d=none:=l.free A;ext;refine qfh (K:=K) m I (fun i σ H'=>∃ s,σ=[some (.ref a),some (.ref d),s]/\L2.Same H H'/\H' d=some (.dK (qbK (ss.take i) 0))) ⟨none,rfl,I,qb⟩ (fun i σ H' e=>by obtain ⟨_,_,z,_⟩:=e;exact z) (fun i y σ H' G e=>?_) fun σ H' e=>?_
  .obtain ⟨s,rfl,r,b⟩:=e;rw [yd] at G;obtain ⟨x,p,rfl⟩:=yn.mp G;have N:i<ss.length:=(yc.mp p).1;have j:ss.take (i+1)=ss.take i++[x]:=by rw [yK,p];rfl
   have B:x∉ss.take i:=fun z=>by
    have u:(ss.take (i+1)).Nodup:=hnd.sublist (xY _ _);rw [j] at u;exact (yV.mp u).2.2 _ z x (by simp) rfl
   ext;refine ⟨x,rfl,n x (ye p),fun H1 t1=>?_⟩;have O:=r.trans t1;ext;refine yq ?_;ext;refine .inr (.inl ⟨d,_,rfl,DGet.k (k:=Sum.inr x) (t1 _ _ b),?_⟩);rw [qbD,yl B];ext;refine yq ?_;ext;refine .inr ⟨_,t1 _ _ b,?_⟩;ext;refine .inr ⟨d,_,rfl,DPut.k (k:=Sum.inr x) (t1 _ _ b) (qi (by rw [zK,yT];omega)),?_⟩;refine ⟨_,rfl,qaz O c,?_⟩;rw [qb,qaL _ (qbC B),j,qcO,zK];simp only [xw]
  .obtain ⟨s,rfl,r,b⟩:=e;ext;rw [ya,yR] at b;exact q d H' r c b
theorem uX:FnScope ["self","names","ties"] ["self","names","ties"] (qh qao):=fS
theorem KE:FnScope ["numbers","ties","near","tie","one","other"] ["numbers","ties"] (qh qaS):=fS
def qbb (ss:List Str) (ns:List Nat) (c:List (Str×Str)):Prop:=ns.length=ss.length/\(∀ a,ns.getD a 0<2 ^ ss.length)/\∀ a b s t,ss[a]?=some s->ss[b]?=some t->(ns.getD a 0).testBit b=decide ((s,t)∈c\/(t,s)∈c)
theorem qw (h:ss.Nodup) {a b:Nat} (i:ss[a]?=some s) (hb:ss[b]?=some s):a=b:=by
 have e:=YY.mp h;obtain ⟨f,c⟩:=yc.mp i;obtain ⟨g,d⟩:=yc.mp hb;rcases ko a b with q | q | q
 .exact absurd (c.trans d.symm) (e a b f g q)
 .exact q
 .exact absurd (d.trans c.symm) (e b a g f q)
theorem bits_zero:qbb ss (List.replicate ss.length 0) []:=by
 have z:∀ a,(List.replicate ss.length 0).getD a 0=0:=fun a=>by
  simp only [List.getD,Xq];split<;>rfl
 refine ⟨by simp,fun a=>by rw [z a];exact Nat.two_pow_pos _,fun a b s t c hb=>?_⟩;rw [z a];simp
theorem qaT {v:Nat} (h:i<ns.length):(ns.set i v).getD j 0=if i=j then v else ns.getD j 0:=by
 simp only [List.getD,List.getElem?_set];by_cases e:i=j
 .subst e;simp [h]
 .simp [e]
theorem bits_step {f:List (Str×Str)} (hb:qbb ss ns f) (o:ss.Nodup) {t:Str} (d:ss[i]?=some s) (l:ss[j]?=some t) (n:s≠t) :
  qbb ss ((ns.set i (ns.getD i 0 ||| 2 ^ j)).set j (ns.getD j 0 ||| 2 ^ i)) (f++[(s,t)]):=by
 obtain ⟨hl,m,h⟩:=hb;have B:i<ns.length:=by rw [hl];exact (yc.mp d).1
 have C:j<ns.length:=by rw [hl];exact (yc.mp l).1
 have D:i≠j:=fun e=>by rw [e,l] at d;cases d;exact n rfl
 have y:i<ss.length:=(yc.mp d).1;have A:j<ss.length:=(yc.mp l).1;refine ⟨by simp [hl],fun a=>?_,fun a b u v g c=>?_⟩
 .rw [qaT (by simpa using C),qaT B];split
  .exact kq (m _) (XJ (by decide) y)
  .split
   .exact kq (m _) (XJ (by decide) A)
   .exact m _
 rw [qaT (by simpa using C),qaT B];have p:=h a b u v g c;have key:∀ P Q:Prop,(P↔Q)->∀ [Decidable P] [Decidable Q],decide P=decide Q:=fun P Q e=>by intro _ _;exact Yr.mpr e
 by_cases w:j=a
 .subst w;rw [l] at g;cases g;rw [yD rfl,Xc,p,xC];by_cases r:i=b
  .subst r;rw [d] at c;cases c;simp
  .have vs:v≠s:=fun e=>by subst e;exact r (qw o d c)
   simp only [r,Ka,kz];apply Yr.mpr;simp only [yE,yx,Xk];constructor
   .rintro (z | z)
    .exact .inl (.inl z)
    .exact .inr (.inl z)
   .rintro ((z | ⟨z,_⟩) | (z | ⟨z,_⟩))
    .exact .inl z
    .exact absurd z.symm n
    .exact .inr z
    .exact absurd z vs
 .rw [yy w];by_cases q:i=a
  .subst q;rw [d] at g;cases g;rw [yD rfl,Xc,p,xC];by_cases x:j=b
   .subst x;rw [l] at c;cases c;simp
   .have F:v≠t:=fun e=>by subst e;exact x (qw o l c)
    simp only [x,Ka,kz];apply Yr.mpr;simp only [yE,yx,Xk];constructor
    .rintro (z | z)
     .exact .inl (.inl z)
     .exact .inr (.inl z)
    .rintro ((z | ⟨_,z⟩) | (z | ⟨_,z⟩))
     .exact .inl z
     .exact absurd z F
     .exact .inr z
     .exact absurd z n
  .rw [yy q,p];have us:u≠s:=fun e=>by subst e;exact q (qw o d g)
   have E:u≠t:=fun e=>by subst e;exact w (qw o l g)
   apply Yr.mpr;simp only [yE,yx,Xk];constructor
   .rintro (z | z)
    .exact .inl (.inl z)
    .exact .inr (.inl z)
   .rintro ((z | ⟨z,_⟩) | (z | ⟨_,z⟩))
    .exact .inl z
    .exact absurd z us
    .exact .inr z
    .exact absurd z E
noncomputable def qdI (ns:List Nat):List V:=ns.map fun (n:Nat)=>.int (n:Int)
theorem qbh (h:i<ns.length):(qdI ns)[i]?=some (.int (ns.getD i 0:Nat)):=by
 unfold qdI;rw [yd,yb h];simp [List.getD,h]
theorem qdJ (ns:List Nat) (i m:Nat):(qdI ns).set i (.int m)=qdI (ns.set i m):=by
 unfold qdI;rw [List.map_set]
theorem natV_zero (k:Nat):(List.replicate k [V.int 0]).flatten=qdI (List.replicate k 0):=by
 induction k with
 | zero=>rfl
 | succ k ih=>rw [Y7,xZ,ih];rfl
theorem qes (h:j<n):ixN n (j:Int)=some j:=by
 unfold ixN;rw [yD (by omega),yD (by omega)];rfl
def UN (x y:Str×Str):Prop:=x≠y/\x≠(y.2,y.1)
structure TGo (ss:List Str) (tps:List (Str×Str)):Prop where
 few:tps.length<=30
 inn:∀ ab∈tps,ab.1∈ss/\ab.2∈ss/\ab.1≠ab.2
 un:tps.Pairwise UN
structure WOk (ss:List Str) (ns:List Nat):Prop where
 len:ns.length=ss.length
 few:ss.length<=14
 nd:ss.Nodup
 lt:∀ a,ns.getD a 0<2 ^ ss.length
 nm:∀ s∈ss,zJ s=true
inductive WebAt (cw:Addr) (H:Hp) (x:Addr) (ss:List Str) (ns:List Nat):Prop|mk (dx d ol n:_) (_:H x=some (.ins cw dx (qG "near" (.ref n) (qG "order" (.ref ol) (qG "numbers" (.ref d) []))))) (_:H d=some (.dK (qbK ss 0))) (_:H ol=some (.lst (ss.map V.str))) (_:H n=some (.lst (qdI ns))) (_:WOk ss ns)
theorem WebAt.same (h:WebAt cw H x ss ns) (s:L2.Same H H'):WebAt cw H' x ss ns:=by
 obtain ⟨dx,d,ol,n,h1,a,b,c,e⟩:=h;exact ⟨dx,d,ol,n,s _ _ h1,s _ _ a,s _ _ b,s _ _ c,e⟩
inductive WebN (H0:Hp) (cw:Addr) (H:Hp) (x:Addr) (ss:List Str) (ns:List Nat):Prop|mk (dx d ol n:_) (_:H x=some (.ins cw dx (qG "near" (.ref n) (qG "order" (.ref ol) (qG "numbers" (.ref d) []))))) (_:H d=some (.dK (qbK ss 0))) (_:H ol=some (.lst (ss.map V.str))) (_:H n=some (.lst (qdI ns))) (_:WOk ss ns) (_:H0 d=none) (_:H0 ol=none) (_:H0 n=none)
theorem WebN.web (h:WebN H0 cw H x ss ns):WebAt cw H x ss ns:=by
 obtain ⟨dx,d,ol,n,h1,a,b,c,e,_⟩:=h;exact ⟨dx,d,ol,n,h1,a,b,c,e⟩
inductive WebP (A:Addr->Prop) (cw:Addr) (H:Hp) (x:Addr) (ss:List Str) (ns:List Nat):Prop|mk (dx d ol n:_) (_:H x=some (.ins cw dx (qG "near" (.ref n) (qG "order" (.ref ol) (qG "numbers" (.ref d) []))))) (_:H d=some (.dK (qbK ss 0))) (_:H ol=some (.lst (ss.map V.str))) (_:H n=some (.lst (qdI ns))) (_:WOk ss ns) (_:¬ A x) (_:¬ A d) (_:¬ A ol) (_:¬ A n)
theorem qcP:∀ (ss:List Str) (i:Nat),(qbK ss i).map (fun a=>kV a.1)=ss.map V.str
 | [],_=>rfl
 | s::r,i=>congrArg (V.str s::·) (qcP r (i+1))
def PLT (H:Hp) (l:Addr) (ts:List Addr) (tps:List (Str×Str)):Prop:=LTu H l (ts.map V.ref)/\All2 (fun t ab=>H t=some (.tup [.str ab.1,.str ab.2])) ts tps
inductive spNear (vs:List V) (H:Hp) (Q:VK) (E:XK):Prop|mk (d l:Addr) (ss:List Str) (ts:List Addr) (tps:List (Str×Str)) (_:vs=[.ref d,.ref l]) (_:H d=some (.dK (qbK ss 0))) (_:ss.length<=14) (_:ss.Nodup) (_:(∀ s∈ss,zJ s=true)) (_:PLT H l ts tps) (_:TGo ss tps) (_:∀ n ns H',L2.Same H H'->H n=none->H' n=some (.lst (qdI ns))->qbb ss ns tps->Q (.ref n) H')
theorem ok_near (F:Fun K "near_of" "near_of" qaS f fd) (T:Txt K mg cc cw) (KC:DefOk P w K mg base CX0 3 "are_two_places" ["numbers","thing"] spTwo) (KN:DefOk P w K mg base CX0 1 "has_bit" ["bits","number"] spBit) :
  FnOk P w K mg base CX0 4 f fd ["numbers","ties"] spNear:=by
 refine F.ok KE fun _ _ _ _ H vs Q E hr h=>?_
 .obtain ⟨d,l,ss,ts,tps,rfl,W,ah,hnd,G,⟨hl,D⟩,Y,q⟩:=h;have j:=jS hr;have L:=D.len;have few:=Y.few;refine ⟨_,(qc (qV (jf (qZ (qk (qc6 (K:=K) rfl) rfl T.b_isinstance YG (qa (pv 1) (qa (jp (qa (jD (v:=.ty "list") rfl T.b_list xp rfl) (qa (jD (v:=.ty "tuple") rfl T.b_tuple XF rfl) qd))) qd))))) (qf jg) qx)
 (qc (qV (qj qc0 (qk (zh (K:=K) rfl) rfl T.b_len YO (qa (pv 1) qd)) (qb3 rfl T.g_MOST_TIES) (qC _)) (qf jg) qx)
 (qc (qo (i:=2) KE.nd rfl (yO rfl) (qE qe7 (qP (qa qg qd)) (qk (zh (K:=K) rfl) rfl T.b_len YO (qa (pv 0) qd))))
 (qc (jl y0 rfl (qT (K:=K) rfl (pv 1)) (qr (i:=3) KE.nd rfl (yO rfl))
 (qc (qV (jf (qZ (qv KC (hmR hr) qH (qa (pv 0) (qa (pv 3) qd))))) (qf jg) qx)
 (qc (qo (i:=4) KE.nd rfl (yO rfl) (qt (qu (K:=K) rfl j) (pv 0) (qt (qu (K:=K) rfl j) (pv 3) qg (fun _ _=>rfl)) (fun _ _=>rfl)))
 (qc (qo (i:=5) KE.nd rfl (yO rfl) (qt (qu (K:=K) rfl j) (pv 0) (qt (qu (K:=K) rfl j) (pv 3) qg (fun _ _=>rfl)) (fun _ _=>rfl)))
 (qc (qV (qZ (qv KN (hmR hr) qH (qa (qt (qu (K:=K) rfl j) (pv 2) (pv 4) (fun _ _=>rfl)) (qa (pv 5) qd)))) (qf jg) qx)
 (qc (jN (qE qeW (qt (qu (K:=K) rfl j) (pv 2) (pv 4) (fun _ _=>rfl)) (qE qbN qg (pv 5))) (jV (pv 2) (pv 4) (jW j)))
 (qf (jN (qE qeW (qt (qu (K:=K) rfl j) (pv 2) (pv 5) (fun _ _=>rfl)) (qE qbN qg (pv 4))) (jV (pv 2) (pv 5) (jW j))))))))))
 (qf (qp (pv 2))))))),?_⟩
  ext;refine ⟨by show 2<=sizeLine;decide,fun g Z=>?_⟩;have s0:=qL (Sr H) (o:=.tup [.ty "list",.ty "tuple"]) Z;ext;refine qff (hl.same s0) qb ?_;ext;refine yq ?_;ext;refine qfg (hl.same s0) ?_;rw [ya];ext;refine qW (fun h=>by have:=yk h;omega) fun _=>?_;ext;refine ⟨by show 1<=sizeLine;decide,fun z af=>?_⟩;have s1:=qL s0 (o:=.lst [.int 0]) af;ext;refine .inr ⟨_,s1 _ _ W,?_⟩;ext;rw [zK];refine ⟨z,_,_,rfl,rfl,qb,by omega,by omega,by show 1*_<=sizeLine;rw [Ym];exact yX (qi (by omega)),fun n hn=>?_⟩;rw [Ym,natV_zero];have s2:=qL s1 (o:=.lst (qdI (List.replicate ss.length 0))) hn;have n0:H n=none:=s1.free hn;ext;refine qfh (K:=K) hl s2 (fun i σ H'=>∃ v3 v4 v5 ns,σ=[some (.ref d),some (.ref l),some (.ref n),v3,v4,v5]/\L2.Same H H'/\H' n=some (.lst (qdI ns))/\qbb ss ns (tps.take i))
   ⟨none,none,none,_,rfl,s2,qb,bits_zero⟩ (fun i σ H' I=>by obtain ⟨_,_,_,_,_,z,_⟩:=I;exact z) (fun i y σ H' hy I=>?_) fun σ H' I=>?_
  .obtain ⟨v3,v4,v5,ns,rfl,N,A,a⟩:=I;rw [yd] at hy;obtain ⟨t,ht,rfl⟩:=yn.mp hy;have aa:i<ts.length:=(yc.mp ht).1;obtain ⟨⟨p,r⟩,u⟩:∃ ab,tps[i]?=some ab:=⟨_,yb (by rw [<- L];exact aa)⟩;have U:=D.at_ i t _ ht u;obtain ⟨m1,X,c⟩:=Y.inn _ (ye u);dsimp only at U m1 X c;have J:tps.take (i+1)=tps.take i++[(p,r)]:=by rw [yK,u];rfl
   have ae:¬ ((p,r)∈tps.take i\/(r,p)∈tps.take i):=fun z=>by
    have h3:(tps.take (i+1)).Pairwise UN:=Y.un.sublist (xY _ _);rw [J] at h3;have h4:=(List.pairwise_append.mp h3).2.2;rcases z with z | z
    .exact (h4 _ z (p,r) (by simp)).1 rfl
    .exact (h4 _ z (p,r) (by simp)).2 rfl
   obtain ⟨C,ac,b,R⟩:=jX (i:=0) m1;obtain ⟨B,ad,s,S⟩:=jX (i:=0) X;rw [xw] at R S;have ag:C≠B:=fun e=>by rw [e,s] at b;cases b;exact c rfl
   have m:C<ns.length:=by rw [a.1];exact ac
   have M:B<ns.length:=by rw [a.1];exact ad
   ext;refine ⟨d,t,ss,p,r,rfl,N _ _ W,N _ _ U,G _ m1,G _ X,m1,X,c,fun H1 t1=>?_⟩;have O:=N.trans t1;have x:=t1 _ _ A;ext;refine yq ?_;ext;refine .inl (qaw (O _ _ U) rfl ?_);refine .inr ⟨d,.int C,rfl,?_,?_⟩
   .have:=DGet.k (k:=Sum.inr p) (O _ _ W);rw [R] at this;exact this
   ext;refine .inl (qaw (O _ _ U) rfl ?_);refine .inr ⟨d,.int B,rfl,?_,?_⟩
   .have:=DGet.k (k:=Sum.inr r) (O _ _ W);rw [S] at this;exact this
   ext;refine .inl (zc x (qy (qbh m)) ?_);ext;refine ⟨_,_,rfl,by omega,?_⟩;rw [qb5,a.2.2 C B p r b s,yl ae];ext;refine yq ?_;ext;refine .inl (zc x (qy (qbh m)) ?_);ext;refine vI ⟨by omega,by omega,by decide⟩ ?_;ext;rw [qdH];refine .inl (qeZ x (qes (by unfold qdI;rw [ya];exact m)) ?_);rw [qdJ];ext;have e2:(ns.set C (ns.getD C 0 ||| 2 ^ B)).getD B 0=ns.getD B 0:=by rw [qaT m,yy ag]
   refine .inl (zc qb (qy (qbh (by simpa using M))) ?_);ext;refine vI ⟨by omega,by omega,by decide⟩ ?_;ext;rw [qdH,e2];refine .inl (qeZ qb (qes (by unfold qdI;rw [ya];simpa using M)) ?_);rw [qdJ];refine ⟨_,_,_,_,rfl,qaz (qaz O n0) n0,qb,?_⟩;rw [J];exact bits_step a hnd b s c
  .obtain ⟨v3,v4,v5,ns,rfl,N,A,a⟩:=I;ext;rw [ya,L,yR] at a;exact q n _ H' N n0 A a
inductive spWeb (cw:Addr) (vs:List V) (H:Hp) (Q:VK) (E:XK):Prop|mk (x dx a l:Addr) (ss:List Str) (ts:List Addr) (tps:List (Str×Str)) (_:vs=[.ref x,.ref a,.ref l]) (_:H x=some (.ins cw dx [])) (_:LTu H a (ss.map V.str)) (_:ss.length<=14) (_:ss.Nodup) (_:(∀ s∈ss,zJ s=true)) (_:PLT H l ts tps) (_:TGo ss tps) (_:∀ ns H',But x H H'->WebN H cw H' x ss ns->qbb ss ns tps->Q .non H')
theorem PLT.but {C:Addr} {fs:List (Str×V)} (h:PLT H l ts tps) (a:H x=some (.ins C dx fs)) (b:But x H H'):PLT H' l ts tps:=
 ⟨h.1.imp (fun e=>b _ _ (jO e a (by intro z;cases z)) e) (fun e=>b _ _ (jO e a (by intro z;cases z)) e),h.2.mono fun t ab e=>b _ _ (jO e a (by intro z;cases z)) e⟩
theorem ok_web (F:Fun K "__init__" "Web.__init__" qao f fd) (T:Txt K mg cc cw) (uP:DefOk P w K mg base CX0 4 "numbers_of" ["names"] spNums) (Y:DefOk P w K mg base CX0 4 "near_of" ["numbers","ties"] spNear) :
  FnOk P w K mg base CX0 5 f fd ["self","names","ties"] (spWeb cw):=by
 refine F.ok uX fun _ _ _ _ H vs Q E O h=>?_
 .obtain ⟨x,dx,a,l,ss,ts,tps,rfl,W,ha,j,nd,p,N,hg,q⟩:=h;have hu:=jS O;refine ⟨_,(qc (jH (K:=K) rfl (pv 0) (qv uP (hmR O) qH (qa (pv 1) qd)) rfl)
 (qc (jH (K:=K) rfl (pv 0) (jq (qbA (K:=K) rfl rfl) rfl T.b_list xp (qa (qA (K:=K) rfl (pv 0) rfl) qd)) rfl)
 (qf (jH (K:=K) rfl (pv 0) (qv Y (hmR O) qH (qa (qA (K:=K) rfl (pv 0) rfl) (qa (pv 2) qd))) rfl)))),?_⟩
  ext;refine ⟨a,ss,rfl,ha,j,nd,p,fun d H1 X M S=>?_⟩;have Z:=(But.refl x H).same X;have B:=X _ _ W;have r:d≠x:=jO S B (by intro z;cases z);ext;refine .inl ⟨x,cw,dx,[],rfl,B,T.wcl,T.wn,by decide,?_⟩;have L:=Z.put (o:=.ins cw dx (qG "numbers" (.ref d) []));have g:upd H1 x (.ins cw dx (qG "numbers" (.ref d) [])) d=some (.dK (qbK ss 0)):=by rw [qe r];exact S
  have c:upd H1 x (.ins cw dx (qG "numbers" (.ref d) [])) x=_:=qb;generalize upd H1 x (.ins cw dx (qG "numbers" (.ref d) []))=H2 at L g c;ext;refine .inl ⟨x,cw,dx,_,.ref d,rfl,c,T.wcl,T.wn,by rw [qz,yD rfl],?_⟩;ext;refine .inr (.inl ⟨d,_,rfl,g,fun ol s=>?_⟩);rw [qcP];have I:ol≠x:=fun e=>by subst e;rw [c] at s;cases s
  have b3:=L.new (o:=.lst (ss.map V.str)) s
  have A:H ol=none:=by
   cases q':H ol with
   | none=>rfl
   | some o'=>rw [L ol o' I q'] at s;cases s
  have R:d≠ol:=qm g s;ext;refine .inl ⟨x,cw,dx,_,rfl,(by rw [qe I.symm];exact c),T.wcl,T.wo,Yu (jo _ _ _) (by decide),?_⟩;have G:=b3.put (o:=.ins cw dx (qG "order" (.ref ol) (qG "numbers" (.ref d) [])));have m:upd (upd H2 ol (.lst (ss.map V.str))) x (.ins cw dx (qG "order" (.ref ol) (qG "numbers" (.ref d) []))) d=some (.dK (qbK ss 0)):=by rw [qe r,qe R];exact g
  have y:upd (upd H2 ol (.lst (ss.map V.str))) x (.ins cw dx (qG "order" (.ref ol) (qG "numbers" (.ref d) []))) ol=some (.lst (ss.map V.str)):=by rw [qe I];exact qb
  have i:upd (upd H2 ol (.lst (ss.map V.str))) x (.ins cw dx (qG "order" (.ref ol) (qG "numbers" (.ref d) []))) x=_:=qb;generalize upd (upd H2 ol (.lst (ss.map V.str))) x (.ins cw dx (qG "order" (.ref ol) (qG "numbers" (.ref d) [])))=H3 at G m y i;ext;refine .inl ⟨x,cw,dx,_,.ref d,rfl,i,T.wcl,T.wn,by rw [qz,yy (by decide +kernel),qz,yD rfl],?_⟩;ext;refine ⟨d,l,ss,ts,tps,rfl,m,j,nd,p,N.but W G,hg,fun n ns H4 J u U b=>?_⟩;have C:=J _ _ i;have D:n≠x:=jO U C (by intro z;cases z);ext;refine .inl ⟨x,cw,dx,_,rfl,C,T.wcl,T.wr,Yu (jo _ _ _) (Yu (Nat.succ_le_succ (jo _ _ _)) (by decide)),?_⟩
  have v:H n=none:=by
   cases q':H n with
   | none=>rfl
   | some o'=>rw [G n o' D q'] at u;cases u
  exact q ns _ (G.same J).put ⟨dx,d,ol,n,qb,by rw [qe r];exact J _ _ m,by rw [qe I];exact J _ _ y,by rw [qe D];exact U,⟨b.1,j,nd,b.2.1,p⟩,M,A,v⟩ b
theorem uI:FnScope ["self"] ["self"] (qh zm):=fS
theorem ug:FnScope ["self","thing"] ["self","thing"] (qh jI):=fS
theorem uh:FnScope ["self","place"] ["self","place"] (qh jJ):=fS
theorem uJ:FnScope ["self","place"] ["self","place"] (qh zn):=fS
theorem ua:FnScope ["self","place"] ["self","place"] (qh jv):=fS
theorem uf:FnScope ["self","one","other","bits"] ["self","one","other"] (qh qap):=fS
theorem uo:FnScope ["self","bits"] ["self","bits"] (qh jA):=fS
theorem jQ {n:V}:(qG "near" n (qG "order" ol (qG "numbers" d []))).lookup ("numbers":Str)=some d:=by
 rw [qz,yy (by decide +kernel),qz,yy (by decide +kernel),qz,yD rfl]
theorem qbi {n:V}:(qG "near" n (qG "order" ol (qG "numbers" d []))).lookup ("order":Str)=some ol:=by
 rw [qz,yy (by decide +kernel),qz,yD rfl]
theorem lk_near {n:V}:(qG "near" n (qG "order" ol (qG "numbers" d []))).lookup ("near":Str)=some n:=by
 rw [qz,yD rfl]
theorem jY {f:Str} {n:V} (h:(f=="near"||f=="order"||f=="numbers")=false):(qG "near" n (qG "order" ol (qG "numbers" d []))).lookup f=none:=by
 simp only [Bool.or_eq_false_iff,YC] at h;rw [qz,yy h.1.1,qz,yy h.1.2,qz,yy h.2];rfl
noncomputable def inB:List Str->Nat->Nat->List Str
 | [],_,_=>[]
 | s::r,i,b=>if b.testBit i=true then s::inB r (i+1) b else inB r (i+1) b
theorem qbj (y:Str) (b:Nat):∀ (l:List Str) (k:Nat),inB (l++[y]) k b=inB l k b++(if b.testBit (k+l.length)=true then [y] else [])
 | [],k=>by simp [inB]
 | s::r,k=>by
  have a:=qbj y b r (k+1);have e:k+1+r.length=k+(s::r).length:=by simp;omega
  rw [e] at a;simp only [kF,inB,a];split<;>simp
theorem qa3 (b:Nat):∀ (l:List Str) (k:Nat),(inB l k b).length<=l.length
 | [],_=>yh _
 | s::r,k=>by
  have a:=qa3 b r (k+1);simp only [inB];split
  .simp;omega
  .simp;omega
inductive spHas (cw:Addr) (vs:List V) (H:Hp) (Q:VK) (E:XK):Prop|mk (x:Addr) (ss:List Str) (ns:List Nat) (y:Str) (_:vs=[.ref x,.str y]) (_:WebAt cw H x ss ns) (_:y∈ss) (_:∀ H',L2.Same H H'->Q (.bl true) H')
inductive spNum (cw:Addr) (vs:List V) (H:Hp) (Q:VK) (E:XK):Prop|mk (x:Addr) (ss:List Str) (ns:List Nat) (y:Str) (j:Nat) (_:vs=[.ref x,.str y]) (_:WebAt cw H x ss ns) (_:ss[j]?=some y) (_:∀ H',L2.Same H H'->Q (.int (j:Nat)) H')
inductive spBB (cw:Addr) (vs:List V) (H:Hp) (Q:VK) (E:XK):Prop|mk (x:Addr) (ss:List Str) (ns:List Nat) (y:Str) (j:Nat) (_:vs=[.ref x,.str y]) (_:WebAt cw H x ss ns) (_:ss[j]?=some y) (_:∀ H',L2.Same H H'->Q (.int (ns.getD j 0:Nat)) H')
inductive spNIn (cw:Addr) (vs:List V) (H:Hp) (Q:VK) (E:XK):Prop|mk (x:Addr) (ss:List Str) (ns:List Nat) (b:Nat) (_:vs=[.ref x,.int b]) (_:WebAt cw H x ss ns) (_:∀ l,H l=none->Q (.ref l) (upd H l (.lst ((inB ss 0 b).map V.str))))
inductive spBs (cw:Addr) (vs:List V) (H:Hp) (Q:VK) (E:XK):Prop|mk (x:Addr) (ss:List Str) (ns:List Nat) (y:Str) (j:Nat) (_:vs=[.ref x,.str y]) (_:WebAt cw H x ss ns) (_:ss[j]?=some y) (_:∀ H',L2.Same H H'->∀ l,H' l=none->Q (.ref l) (upd H' l (.lst ((inB ss 0 (ns.getD j 0)).map V.str))))
inductive spTied (cw:Addr) (vs:List V) (H:Hp) (Q:VK) (E:XK):Prop|mk (x:Addr) (ss:List Str) (ns:List Nat) (y z:Str) (j i:Nat) (_:vs=[.ref x,.str y,.str z]) (_:WebAt cw H x ss ns) (_:ss[j]?=some y) (_:ss[i]?=some z) (_:∀ H',L2.Same H H'->Q (.bl ((ns.getD j 0).testBit i)) H')
inductive spPls (cw:Addr) (vs:List V) (H:Hp) (Q:VK) (E:XK):Prop|mk (x:Addr) (ss:List Str) (ns:List Nat) (_:vs=[.ref x]) (_:WebAt cw H x ss ns) (_:∀ l,H l=none->Q (.ref l) (upd H l (.lst (ss.map V.str))))
theorem ok_has (F:Fun K "has_place" "Web.has_place" jI f fd) (T:Txt K mg cc cw) (b:DefOk P w K mg base CX0 2 "is_place" ["numbers","thing"] spPlace):FnOk P w K mg base CX0 3 f fd ["self","thing"] (spHas cw):=by
 refine F.ok ug fun _ _ _ _ H vs Q E e h=>?_
 .obtain ⟨x,ss,ns,y,rfl,⟨dx,d,ol,n,g,c,j,i,hw⟩,a,q⟩:=h;refine ⟨_,(qf (qp (qv b (hmR e) qH (qa (qA (K:=K) rfl (pv 0) rfl) (qa (pv 1) qd))))),?_⟩;ext;refine .inl ⟨x,cw,dx,_,.ref d,rfl,g,T.wcl,T.wn,jQ,?_⟩;ext;exact ⟨d,ss,y,rfl,c,hw.nm _ a,a,q⟩
theorem ok_num (F:Fun K "number_of" "Web.number_of" jJ f fd) (T:Txt K mg cc cw) (o:MethOk P w K mg base CX0 3 cw "has_place" ["self","thing"] (spHas cw)):FnOk P w K mg base CX0 4 f fd ["self","place"] (spNum cw):=by
 refine F.ok uh fun _ _ _ _ H vs Q E e h=>?_
 .obtain ⟨x,ss,ns,y,j,rfl,c,b,q⟩:=h;obtain ⟨dx,d,ol,n,g,r,z,v,hw⟩:=id c;have l:=ye b;have s:=jS e;refine ⟨_,(qc (qV (jf (qZ (qD o (hmR e) (pv 0) (qa (pv 1) qd)))) (qf jg) qx)
 (qf (qp (qt (qu (K:=K) rfl s) (qA (K:=K) rfl (pv 0) rfl) (pv 1) (fun _ _=>rfl))))),?_⟩
  ext;refine ⟨x,dx,_,rfl,g,jY (by decide +kernel),?_⟩;ext;refine ⟨x,ss,ns,y,rfl,c,l,fun H1 a=>?_⟩;ext;refine yq ?_;obtain ⟨i,u,p,m⟩:=jX (i:=0) l;rw [xw,qw hw.nd p b] at m;ext;refine .inl ⟨x,cw,dx,_,.ref d,rfl,a _ _ g,T.wcl,T.wn,jQ,?_⟩;ext;refine .inr ⟨d,.int j,rfl,?_,q H1 a⟩;have:=DGet.k (k:=Sum.inr y) (a _ _ r);rw [m] at this;exact this
theorem ok_bb (F:Fun K "bits_beside" "Web.bits_beside" jv f fd) (T:Txt K mg cc cw) (i:MethOk P w K mg base CX0 4 cw "number_of" ["self","place"] (spNum cw)):FnOk P w K mg base CX0 5 f fd ["self","place"] (spBB cw):=by
 refine F.ok ua fun _ _ _ _ H vs Q E c h=>?_
 .obtain ⟨x,ss,ns,y,j,rfl,b,a,q⟩:=h;obtain ⟨dx,d,ol,n,e,o,p,l,hw⟩:=id b;have m:=jS c;refine ⟨_,(qf (qp (qt (qu (K:=K) rfl m) (qA (K:=K) rfl (pv 0) rfl) (qD i (hmR c) (pv 0) (qa (pv 1) qd)) (fun _ _=>rfl)))),?_⟩;ext;refine .inl ⟨x,cw,dx,_,.ref n,rfl,e,T.wcl,T.wr,lk_near,?_⟩;ext;refine ⟨x,dx,_,rfl,e,jY (by decide +kernel),?_⟩;ext;refine ⟨x,ss,ns,y,j,rfl,b,a,fun H1 g=>?_⟩;exact .inl (zc (g _ _ l) (qy (qbh (by rw [hw.len];exact (yc.mp a).1))) (q H1 g))
theorem ok_nin (F:Fun K "names_in" "Web.names_in" jA f fd) (T:Txt K mg cc cw) (A:DefOk P w K mg base CX0 1 "has_bit" ["bits","number"] spBit):FnOk P w K mg base CX0 2 f fd ["self","bits"] (spNIn cw):=by
 refine F.ok uo fun _ _ _ _ H vs Q E u h=>?_
 .obtain ⟨x,ss,ns,b,rfl,⟨dx,d,ol,n,v,D,s,L,hw⟩,q⟩:=h;have I:=jS u;refine ⟨_,(qf (qp (jh (sc:=qh jA) (XN:=["self","bits"]) ["name","bits","self"] 1 [1,0] rfl rfl rfl (by decide +kernel) rfl (by decide +kernel)
  (qT (K:=K) rfl (qA (K:=K) rfl (pv 0) rfl)) (fun _ _ _ _=>(qr (i:=0) (show (["name","bits","self"]:List Str).Nodup by decide +kernel) rfl (yO rfl))) qR
  (fun _ _ _ _=>(q9 (qZ (qv A (hmR u) qH (qa (pv 1) (qa (qt (qu (K:=K) rfl I) (qA (K:=K) rfl (pv 2) rfl) (pv 0) (fun _ _=>rfl)) qd))))))
  (fun _ _ _ _=>(pv 0))))),?_⟩
  ext;refine .inl ⟨x,cw,dx,_,.ref ol,rfl,v,T.wcl,T.wo,qbi,?_⟩;refine .inl ⟨⟨_,SqL.of s⟩,qK (K:=K) (fun i ys H'=>H'=H/\ys=(inB (ss.take i) 0 b).map V.str) ⟨rfl,by simp [inB]⟩ (fun i ys H' _ e=>by rw [e.1];exact SqL.of s) (fun i y ys H' p e=>?_) fun ys H' e=>?_⟩
  .obtain ⟨rfl,rfl⟩:=e;have G:i<ss.length:=by simpa using (yc.mp p).1
   have c:ss[i]?=some ss[i]:=yb G;generalize ss[i]=r at c;have B:y=.str r:=by rw [yd,c] at p;cases p;rfl
   subst B;obtain ⟨j,J,C,z⟩:=jX (i:=0) (ye c);rw [xw] at z;have o:j=i:=qw hw.nd C c;subst o;have g:ss.take (j+1)=ss.take j++[r]:=by rw [yK,c];rfl
   have a:(ss.take j).length=j:=by rw [yT];omega
   ext;refine .inl ⟨x,cw,dx,_,.ref d,rfl,v,T.wcl,T.wn,jQ,?_⟩;ext;refine .inr ⟨d,.int j,rfl,?_,?_⟩
   .have:=DGet.k (k:=Sum.inr r) D;rw [z] at this;exact this
   ext;refine ⟨_,_,rfl,by omega,?_⟩;rw [qb5];ext
   have few:((inB (ss.take j) 0 b).map V.str).length<sizeLine:=by
    rw [ya];exact qi (yi (qa3 _ _ _) (by rw [a];have:=hw.few;omega))
   refine qW (fun hb=>?_) fun hb=>?_
   .ext;refine ⟨few,rfl,?_⟩;rw [g,qbj,a,xw,yD hb];simp
   .refine ⟨rfl,?_⟩;rw [g,qbj,a,xw,yy hb];simp
  .obtain ⟨rfl,rfl⟩:=e;have m:ss.take (ss.map V.str).length=ss:=by rw [ya,yR]
   rw [m];refine ⟨?_,fun l hl=>q l hl⟩;rw [ya];exact yX (qi (yi (qa3 _ _ _) (by have:=hw.few;omega)))
theorem ok_bs (F:Fun K "beside" "Web.beside" zn f fd) (T:Txt K mg cc cw) (g:MethOk P w K mg base CX0 5 cw "bits_beside" ["self","place"] (spBB cw)) (l:MethOk P w K mg base CX0 2 cw "names_in" ["self","bits"] (spNIn cw)):FnOk P w K mg base CX0 6 f fd ["self","place"] (spBs cw):=by
 refine F.ok uJ fun _ _ _ _ H vs Q E b h=>?_
 .obtain ⟨x,ss,ns,y,j,rfl,a,i,q⟩:=h;obtain ⟨dx,d,ol,n,c,_⟩:=id a;refine ⟨_,(qf (qp (qD l (hmR b) (pv 0) (qa (qD g (hmR b) (pv 0) (qa (pv 1) qd)) qd)))),?_⟩;ext;refine ⟨x,dx,_,rfl,c,jY (by decide +kernel),?_⟩;ext;refine ⟨x,dx,_,rfl,c,jY (by decide +kernel),?_⟩;ext;refine ⟨x,ss,ns,y,j,rfl,a,i,fun H1 e=>?_⟩;ext;exact ⟨x,ss,ns,_,rfl,a.same e,q H1 e⟩
theorem ok_tied (F:Fun K "tied" "Web.tied" qap f fd) (T:Txt K mg cc cw) (g:MethOk P w K mg base CX0 5 cw "bits_beside" ["self","place"] (spBB cw)) (m:MethOk P w K mg base CX0 4 cw "number_of" ["self","place"] (spNum cw))
  (l:DefOk P w K mg base CX0 1 "has_bit" ["bits","number"] spBit):FnOk P w K mg base CX0 6 f fd ["self","one","other"] (spTied cw):=by
 refine F.ok uf fun _ _ _ _ H vs Q E b h=>?_
 .obtain ⟨x,ss,ns,y,z,j,i,rfl,a,p,o,q⟩:=h;obtain ⟨dx,d,ol,n,e,_⟩:=id a;refine ⟨_,(qc (qo (i:=3) uf.nd rfl (yO rfl) (qD g (hmR b) (pv 0) (qa (pv 1) qd)))
 (qf (qp (qv l (hmR b) qH (qa (pv 3) (qa (qD m (hmR b) (pv 0) (qa (pv 2) qd)) qd)))))),?_⟩
  ext;refine ⟨x,dx,_,rfl,e,jY (by decide +kernel),?_⟩;ext;refine ⟨x,ss,ns,y,j,rfl,a,p,fun H1 c=>?_⟩;ext;refine ⟨x,dx,_,rfl,c _ _ e,jY (by decide +kernel),?_⟩;ext;refine ⟨x,ss,ns,z,i,rfl,a.same c,o,fun H2 r=>?_⟩;ext;refine ⟨_,_,rfl,by omega,?_⟩;rw [qb5];exact q H2 (c.trans r)
theorem ok_pls (F:Fun K "places" "Web.places" zm f fd) (T:Txt K mg cc cw):FnOk P w K mg base CX0 1 f fd ["self"] (spPls cw):=by
 refine F.ok uI fun _ _ _ _ H vs Q E g h=>?_
 .obtain ⟨x,ss,ns,rfl,⟨dx,d,ol,n,b,c,a,e,hw⟩,q⟩:=h;refine ⟨_,(qf (qp (jq (qbA (K:=K) rfl rfl) rfl T.b_list xp (qa (qA (K:=K) rfl (pv 0) rfl) qd)))),?_⟩;ext;refine .inl ⟨x,cw,dx,_,.ref ol,rfl,b,T.wcl,T.wo,qbi,?_⟩;ext;exact .inl ⟨ol,_,rfl,.inl (SqL.of a),q⟩
theorem qbE (b:ss.Nodup) (h:ss[i]?=some s):ss.idxOf s=i:=by
 have a:s∈ss:=ye h;have hl:ss.idxOf s<ss.length:=Yg a;exact qw b (by rw [yb hl,Yy]) h
theorem zd (e:ss.Nodup) (b:Nat):inB ss 0 b=ss.filter fun s=>b.testBit (ss.idxOf s):=by
 have key:∀ k,k<=ss.length->inB (ss.take k) 0 b=(ss.take k).filter fun s=>b.testBit (ss.idxOf s):=fun k=>by
  induction k with
  | zero=>intro _;simp [inB]
  | succ k ih =>
   intro g;have a:ss[k]?=some ss[k]:=yb (by omega);generalize ss[k]=f at a;have d:ss.take (k+1)=ss.take k++[f]:=by rw [yK,a];rfl
   have c:(ss.take k).length=k:=by rw [yT];omega
   rw [d,qbj,y9,ih (by omega),c,xw]
   congr 1
   rw [yS,Yj,qbE e a]
 have:=key ss.length (yh _)
 rwa [yR] at this
theorem KK:FnScope ["self","ties","one","other"] ["self"] (qh qaq):=fS
theorem qdc (a:ss.Nodup) {b:Nat} (h:s∈inB ss 0 b):s∈ss/\b.testBit (ss.idxOf s)=true:=by
 rw [zd a] at h;exact yp.mp h
noncomputable def qet (ss:List Str) (ns:List Nat) (i:Nat):List (Str×Str):=((inB ss 0 (ns.getD i 0)).filter fun o=>decide (i<ss.idxOf o)).map fun o=>(ss.getD i "",o)
noncomputable def qO (ss:List Str) (ns:List Nat) (i:Nat):List (Str×Str):=(List.range i).flatMap (qet ss ns)
def PrAt (H H':Hp) (l:Addr) (t:Addr) (ab:Str×Str):Prop:=H t=none/\t≠l/\H' t=some (.tup [.str ab.1,.str ab.2])
theorem PrAt.same {t:Addr} (h:PrAt H H1 l t ab) (s:L2.Same H1 H2):PrAt H H2 l t ab:=⟨h.1,h.2.1,s _ _ h.2.2⟩
inductive spTs (cw:Addr) (vs:List V) (H:Hp) (Q:VK) (E:XK):Prop|mk (x:Addr) (ss:List Str) (ns:List Nat) (_:vs=[.ref x]) (_:WebAt cw H x ss ns) (_:∀ (l:Addr) (ts:List Addr) (H':Hp),L2.Same H H'->H l=none->H' l=some (.lst (ts.map V.ref))->ts.length<=196->All2 (PrAt H H' l) ts (qO ss ns ss.length)->Q (.ref l) H')
theorem ok_ts (F:Fun K "ties" "Web.ties" qaq f fd) (T:Txt K mg cc cw) (Kn:MethOk P w K mg base CX0 6 cw "beside" ["self","place"] (spBs cw)):FnOk P w K mg base CX0 7 f fd ["self"] (spTs cw):=by
 refine F.ok KK fun _ _ _ _ H vs Q E hr h=>?_
 .obtain ⟨x,ss,ns,rfl,hW,q⟩:=h;have hu:=jS hr;obtain ⟨dx,d,ol,n,hx,hd,ho,hn,hw⟩:=id hW;have few:=hw.few
  have X:∀ (H1:Hp) (y:Str) (i:Nat),L2.Same H H1->ss[i]?=some y->DGet H1 d (.str y) (some (.int (i:Nat))):=fun H1 y i O D=>by
   obtain ⟨j,hj,gj,vj⟩:=jX (i:=0) (ye D);rw [xw] at vj;have af:j=i:=qw hw.nd gj D;subst af;have:=DGet.k (k:=Sum.inr y) (O _ _ hd);rw [vj] at this;exact this
  refine ⟨_,(qc (qo (i:=1) KK.nd rfl (yO rfl) (qP qd))
 (qc (jl y0 rfl (qT (K:=K) rfl (qA (K:=K) rfl (pv 0) rfl)) (qr (i:=2) KK.nd rfl (yO rfl))
 (qf (jl y0 rfl (qT (K:=K) rfl (qD Kn (hmR hr) (pv 0) (qa (pv 2) qd))) (qr (i:=3) KK.nd rfl (yO rfl))
 (qf (qV (qj qd3 (qt (qu (K:=K) rfl hu) (qA (K:=K) rfl (pv 0) rfl) (pv 2) (fun _ _=>rfl)) (qt (qu (K:=K) rfl hu) (qA (K:=K) rfl (pv 0) rfl) (pv 3) (fun _ _=>rfl)) (qC _)) (qf (qI (qbf (K:=K) rfl yL yY yZ qN (pv 1) (qa (jp (qa (pv 2) (qa (pv 3) qd))) qd)))) qx)))))
 (qf (qp (pv 1))))),?_⟩
  ext;refine ⟨by decide,fun l hl=>?_⟩;have s0:=qL (Sr H) (o:=.lst []) hl;ext;refine .inl ⟨x,cw,dx,_,.ref ol,rfl,s0 _ _ hx,T.wcl,T.wo,qbi,?_⟩;refine .inl ⟨⟨_,SqL.of (s0 _ _ ho)⟩,ju (K:=K) (fun i σ H'=>∃ (ts:List Addr) (x2 S:Option V),σ=[some (.ref x),some (.ref l),x2,S]/\L2.Same H H'/\H' l=some (.lst (ts.map V.ref))/\ts.length<=i*14/\All2 (PrAt H H' l) ts (qO ss ns i))
   ⟨[],none,none,rfl,s0,qb,by simp,All2.nil⟩ (fun i σ H' _ B=>by obtain ⟨_,_,_,_,z,_⟩:=B;exact SqL.of (z _ _ ho)) (fun i y σ H1 hy B=>?_) fun σ H1 B=>?_⟩
  .obtain ⟨ts,x2,S,rfl,O,G,s,c⟩:=B;have hi:i<ss.length:=by simpa using (yc.mp hy).1
   have D:ss[i]?=some ss[i]:=yb hi;generalize ss[i]=p at D;have ey:y=.str p:=by rw [yd,D] at hy;cases hy;rfl
   subst ey;have al:=hw.nm p (ye D);ext;refine ⟨x,dx,_,rfl,O _ _ hx,jY (by decide +kernel),?_⟩;ext;refine ⟨x,ss,ns,p,i,rfl,hW.same O,D,fun H2 s2 b hb=>?_⟩;have s3:=O.trans s2;have s4:=qL s3 (o:=.lst ((inB ss 0 (ns.getD i 0)).map V.str)) hb;have R:=qL s2 (o:=.lst ((inB ss 0 (ns.getD i 0)).map V.str)) hb;have eb:upd H2 b (.lst ((inB ss 0 (ns.getD i 0)).map V.str)) b=some (.lst ((inB ss 0 (ns.getD i 0)).map V.str)):=qb;have ah:b≠l:=fun e=>by rw [e,s2 _ _ G] at hb;cases hb
   have aj:H b=none:=s3.free hb;refine .inl ⟨⟨_,SqL.of qb⟩,?_⟩;generalize upd H2 b (.lst ((inB ss 0 (ns.getD i 0)).map V.str))=H3 at s4 R eb ⊢;have J:∀ o,o∈inB ss 0 (ns.getD i 0)->o∈ss:=fun o h=>(qdc hw.nd h).1;have ad:=qa3 (ns.getD i 0) ss 0;have r:qet ss ns i=((inB ss 0 (ns.getD i 0)).filter fun o=>decide (i<ss.idxOf o)).map fun o=>(ss.getD i "",o):=rfl;have aa:ss.getD i ""=p:=by simp [List.getD,D]
   rw [aa] at r;generalize ak:inB ss 0 (ns.getD i 0)=bs at eb J ad r ⊢;refine ju (K:=K) (fun k σ H'=>∃ (us:List Addr) (S:Option V),σ=[some (.ref x),some (.ref l),some (.str p),S]/\L2.Same H H'/\H' b=some (.lst (bs.map V.str))/\H' l=some (.lst (us.map V.ref))/\us.length<=i*14+k/\All2 (PrAt H H' l) us (qO ss ns i++((bs.take k).filter fun o=>decide (i<ss.idxOf o)).map fun o=>(p,o)))
    ⟨ts,_,rfl,s4,eb,R _ _ G,s,by simpa using c.mono fun _ _ h=>h.same R⟩ (fun k σ H' _ B=>by obtain ⟨_,_,_,_,z,_⟩:=B;exact SqL.of z) (fun k u σ Y M B=>?_) fun σ Y B=>?_
   .obtain ⟨us,S,rfl,I,C,g,v,a⟩:=B;have hk:k<bs.length:=by simpa using (yc.mp M).1
    have Z:bs[k]?=some bs[k]:=yb hk;generalize bs[k]=m at Z;have eu:u=.str m:=by rw [yd,Z] at M;cases M;rfl
    subst eu;have ag:=J m (ye Z);have ae:=Yg ag;have ac:ss[ss.idxOf m]?=some m:=by rw [yb ae,Yy]
    have W:bs.take (k+1)=bs.take k++[m]:=by rw [yK,Z];rfl
    ext;refine .inl ⟨x,cw,dx,_,.ref d,rfl,I _ _ hx,T.wcl,T.wn,jQ,?_⟩;ext;refine .inr ⟨d,.int i,rfl,X Y p i I D,?_⟩;ext;refine .inl ⟨x,cw,dx,_,.ref d,rfl,I _ _ hx,T.wcl,T.wn,jQ,?_⟩;ext;refine .inr ⟨d,.int (ss.idxOf m:Nat),rfl,X Y m _ I ac,?_⟩;ext;refine qW (fun L=>?_) fun L=>?_
    .have A:i<ss.idxOf m:=by have:=yk L;omega
     ext;refine ⟨.inl ⟨rfl,_,SqL.of g⟩,?_⟩;ext;refine ⟨by show 2<=sizeLine;decide,fun t ht=>?_⟩;have N:l≠t:=qm g ht;have ai:b≠t:=qm C ht;have s6:=qL (Sr Y) (o:=.tup [.str p,.str m]) ht;ext;refine ⟨l,_,_,rfl,rfl,by rw [qe N];exact g,by rw [ya];exact qi (by have:i*14<=14*14:=Nat.mul_le_mul_right 14 (by omega);omega),?_⟩;refine ⟨us++[t],_,rfl,qaz (I.trans s6) hl,by rw [qe ah,qe ai];exact C,by rw [qb,yA];rfl,by rw [yt];show us.length+1<=_;omega,?_⟩;rw [W,y9,yA,<- Yi];have U:([m].filter fun o=>decide (i<ss.idxOf o)).map (fun o=>(p,o))=[(p,m)]:=by simp [A]
     rw [U];refine All2.snoc (a.mono fun t' ab h=>⟨h.1,h.2.1,?_⟩) ⟨I.free ht,N.symm,?_⟩
     .rw [qe h.2.1];exact s6 _ _ h.2.2
     .rw [qe N.symm,qb]
    .have A:¬ i<ss.idxOf m:=fun h=>L (yM (by omega));refine ⟨us,_,rfl,I,C,g,by omega,?_⟩;have U:([m].filter fun o=>decide (i<ss.idxOf o)).map (fun o=>(p,o))=[]:=by simp [A]
     rw [W,y9,yA,U,Yc];exact a
   .obtain ⟨us,S,rfl,I,C,g,v,a⟩:=B;rw [ya,yR] at a;rw [ya] at v;refine ⟨us,_,_,rfl,I,g,by omega,?_⟩;unfold qO at a ⊢;rw [xT,xD];have U:[i].flatMap (qet ss ns)=(bs.filter fun o=>decide (i<ss.idxOf o)).map fun o=>(p,o):=by rw [<- r];simp
    rw [U];exact a
  .obtain ⟨ts,x2,S,rfl,O,G,s,c⟩:=B;rw [ya] at s c;ext;exact q l ts H1 O hl G (by have:ss.length*14<=14*14:=Nat.mul_le_mul_right 14 few;omega) c
def Box (H:Hp) (p:Addr):Prop:=∃ a b c:Int,H p=some (.lst [.int a,.int b,.int c])
def BB (p:Addr) (H H':Hp):Prop:=(∀ b o,b≠p->H b=some o->H' b=some o)/\Box H' p
theorem BB.refl (h:Box H p):BB p H H:=⟨fun _ _ _ e=>e,h⟩
theorem BB.trans (a:BB p H H1) (b:BB p H1 H2):BB p H H2:=⟨fun c o n e=>b.1 c o n (a.1 c o n e),b.2⟩
theorem BB.new (a:BB p H H1) (hl:H1 l=none):BB p H (upd H1 l o):=by
 obtain ⟨x,y,z,b⟩:=a.2;refine ⟨fun c u n e=>?_,x,y,z,?_⟩
 .have q:=a.1 c u n e;rw [qe (qm q hl)];exact q
 .rw [qe (qm b hl)];exact b
inductive spTake (vs:List V) (H:Hp) (Q:VK) (E:XK):Prop|mk (p:Addr) (m:Int) (_:vs=[.ref p,.int m]) (_:Box H p) (_:0<m) (_:m<1073741824) (_:∀ (r:Int) (H':Hp),0<=r->r<m->BB p H H'->Q (.int r) H')
inductive spCell (K:W.Frag) (vs:List V) (H:Hp) (Q:VK) (E:XK):Prop|mk (a:Addr) (ns:List Int) (k:Int) (_:vs=[.ref a,.int k]) (_:SqL K H a (ns.map V.int)) (_:0<=k) (_:k<1000) (_:∀ i:Int,Q (.int i) H)
inductive spBox (vs:List V) (H:Hp) (Q:VK) (E:XK):Prop|mk (i:Int) (_:vs=[.int i]) (_:∀ (p:Addr) (a b c:Int),H p=none->Q (.ref p) (upd H p (.lst [.int a,.int b,.int c])))
theorem BB.apart (a:BB p H H1) (hl:H1 l=none):l≠p:=fun e=>by subst e;obtain ⟨_,_,_,z⟩:=a.2;rw [z] at hl;cases hl
theorem BB.free (a:BB p H H1) (hl:H1 l=none):H l=none:=by
 cases q:H l with
 | none=>rfl
 | some o=>rw [a.1 l o (a.apart hl) q] at hl;cases hl
theorem BB.put (a:BB p H H1) (hl:H l=none) (d:l≠p):BB p H (upd H1 l o):=by
 obtain ⟨x,y,z,b⟩:=a.2;exact ⟨fun c u n e=>by rw [qe (qm e hl)];exact a.1 c u n e,x,y,z,by rw [qe d.symm];exact b⟩
theorem BB.same (a:BB p H H1) (s:L2.Same H1 H2):BB p H H2:=by
 obtain ⟨x,y,z,b⟩:=a.2;exact ⟨fun c u n e=>s c u (a.1 c u n e),x,y,z,s _ _ b⟩
noncomputable def NewH (H H':Hp):Hp:=fun a=>match H a with | none=>H' a | some _=>none
theorem zz:∀ {l m:List Str},l.Nodup->(∀ x∈l,x∈m)->l.length<=m.length
 | [],_,_,_=>YH _
 | x::r,m,hn,h=>by
  obtain ⟨h1,c⟩:=yo.mp hn;have a:=h x yN;have d:=zz (l:=r) (m:=m.erase x) c fun y b=>(Xd (fun e=>h1 (by rw [<- e];exact b))).mpr (h y (yz _ b));rw [YQ a] at d;have:0<m.length:=YW a;simp only [yC];omega
theorem qb6 (c:Str) (ss:List Str):inV (.str c) (ss.map V.str)=decide (c∈ss):=by
 unfold inV;rw [List.any_map,Yb,Yo,yJ];constructor
 .rintro ⟨y,a,e⟩;have:y=c:=eq_of_beq e;rw [<- this];exact a
 .intro h;exact ⟨c,h,xi c⟩
theorem qbF (ss:List Str):(ss.map V.str).all zV=true:=by rw [kP];exact YS.mpr fun _ _=>rfl
inductive spFresh (vs:List V) (H:Hp) (Q:VK) (E:XK):Prop|mk (l:Addr) (ss:List Str) (_:vs=[.ref l]) (_:H l=some (.lst (ss.map V.str))) (_:ss.length<=14) (_:∀ (x:Str) (H':Hp),L2.Same H H'->zJ x=true->x∉ss->Q (.str x) H')
noncomputable def signs:List Str:=("abcdefghijklmno":Str).cps.toList.map fun c=>⟨#[c]⟩
theorem qbk (a b:Str):(a++b).cps.toList=a.cps.toList++b.cps.toList:=by
 show (a.cps++b.cps).toList=_;exact Array.toList_append
theorem qdK:∀ {xs:List Str},(∀ x∈xs,x.cps.toList.all sg=true)->(Str.join "" xs).cps.toList.all sg=true
 | [],_=>rfl
 | [x],h=>h x (by simp)
 | x::y::r,h=>by
  have e:Str.join "" (x::y::r)=x++""++Str.join "" (y::r):=rfl;rw [e,qbk,qbk,XZ,XZ,h x (by simp),qdK fun z hz=>h z (yz _ hz)]
  decide +kernel
theorem qfE {c:Nat} (h:97<=c) (a:c<=122):sg c=true:=by
 have key:∀ i,i<26->sg (97+i)=true:=by decide +kernel
 have:=key (c-97) (by omega)
 rwa [show 97+(c-97)=c by omega] at this
theorem join_len {xs:List Str} (h:∀ x∈xs,x.length=1):(Txt.join "" xs).length=xs.length:=by
 have e:Txt.join "" xs=Str.join "" xs:=Ys.mp (join_plain_closes "" xs);rw [e]
 cases xs with
 | nil=>rfl
 | cons a l =>
  rw [len_join_cons]
  have key:∀ l:List Str,(∀ x∈l,x.length=1)->(l.map (·.length)).sum=l.length:=by
   intro l
   induction l with
   | nil=>intro _;rfl
   | cons a l ih =>
    intro h;rw [Yt,XI,h a yN,ih fun x b=>h x (yz _ b),yC];omega
  have z:("":Str).length=0:=by decide +kernel
  rw [key _ h,z];omega
theorem qdL {xs:List Str} (h:∀ x∈xs,x.length=1):(xs.map (·.length)).sum=xs.length:=by
 induction xs with
 | nil=>rfl
 | cons a l ih =>
  rw [Yt,XI,h a yN,ih fun x b=>h x (yz _ b),yC];omega
def Signs (p:Addr) (H:Hp) (i:Nat) (ys:List V) (H':Hp):Prop:=BB p H H'/\∃ xs:List Str,ys=xs.map V.str/\xs.length=i/\∀ x∈xs,x.length=1/\x.cps.toList.all sg=true
theorem Signs.start (h:Box H p):Signs p H 0 [] H:=⟨BB.refl h,[],rfl,rfl,fun _ h=>by cases h⟩
theorem Signs.more {c:Nat} (h:Signs p H i ys H1) (b:BB p H1 H2) (hc:sg c=true):Signs p H (i+1) (ys++[.str ⟨#[c]⟩]) H2:=by
 obtain ⟨hb,xs,rfl,hl,h1⟩:=h;refine ⟨hb.trans b,xs++[⟨#[c]⟩],by rw [yA];rfl,by rw [yt,hl];rfl,fun x a=>?_⟩;rcases yE.mp a with z | z
 .exact h1 x z
 .rw [yx.mp z];exact ⟨rfl,by simp [hc]⟩
theorem Signs.len (h:Signs p H i ys H1):ys.length=i:=by
 obtain ⟨_,xs,rfl,hl,_⟩:=h;rw [ya,hl]
noncomputable def L26:Str:="abcdefghijklmnopqrstuvwxyz"
theorem L26_at {i:Int} (a:0<=i) (h1:i<26):atI L26.cps.toList i=some (97+i.toNat):=by
 obtain ⟨n,rfl⟩:=Yv a;have key:∀ n,n<26->L26.cps.toList[n]?=some (97+n):=by decide +kernel
 rw [Ym];exact qy (key n (by omega))
theorem nameS_of {x:Str} {l:List Nat} (e:x.cps.toList=l) (h1:1<=l.length) (a:l.length<=6) (h:l.all sg=true):zJ x=true:=by
 have hl:x.length=l.length:=by rw [<- e];simp [Str.length]
 unfold zJ;rw [yD ⟨by omega,by omega⟩,e];exact h
theorem nodup_key (h:∀ (i j:Nat) (s:Str),ss[i]?=some s->ss[j]?=some s->i=j):ss.Nodup:=by
 refine YY.mpr fun i j a c b e=>?_;have:=h i j ss[j] (by rw [yb a,e]) (yb c);omega
def NL (p:Addr) (H':Hp) (l:Addr) (ss:List Str):Prop:=H' l=some (.lst (ss.map V.str))/\l≠p
structure NOk (ss:List Str):Prop where
 few:ss.length<=14
 nd:ss.Nodup
 nm:∀ s∈ss,zJ s=true
def PrT (p:Addr) (H:Hp) (t:Addr) (ab:Str×Str):Prop:=t≠p/\H t=some (.tup [.str ab.1,.str ab.2])
def TL (p:Addr) (H:Hp) (l:Addr) (ts:List Addr) (tps:List (Str×Str)):Prop:=H l=some (.lst (ts.map V.ref))/\l≠p/\All2 (PrT p H) ts tps
structure TOk (ss:List Str) (tps:List (Str×Str)):Prop where
 few:tps.length<=30
 ok:∀ ab∈tps,∃ j k:Nat,j<k/\ss[j]?=some ab.1/\ss[k]?=some ab.2
 nd:tps.Nodup
inductive spTies (vs:List V) (H:Hp) (Q:VK) (E:XK):Prop|mk (p n:Addr) (ss:List Str) (_:vs=[.ref p,.ref n]) (_:Box H p) (_:NL p H n ss) (_:NOk ss) (_:∀ (l:Addr) (ts:List Addr) (tps:List (Str×Str)) (H':Hp),BB p H H'->H l=none->TL p H' l ts tps->TOk ss tps->Q (.ref l) H')
def Shuf (tps d:List (Str×Str)):Prop:=∃ c,d.Perm c/\All2 (fun a b=>b=a\/b=(a.2,a.1)) tps c
inductive spShuf (vs:List V) (H:Hp) (Q:VK) (E:XK):Prop|mk (p l:Addr) (ts:List Addr) (tps:List (Str×Str)) (_:vs=[.ref p,.ref l]) (_:Box H p) (_:TL p H l ts tps) (_:tps.length<=30) (_:∀ (l':Addr) (us:List Addr) (ups:List (Str×Str)) (H':Hp),BB p H H'->H l'=none->TL p H' l' us ups->Shuf tps ups->Q (.ref l') H')
theorem ne_nil {z:Addr} {Q:VK} (hl:H l=some (.lst xs)) (hz:H z=some (.lst [])) (q:Q (.bl (!xs.isEmpty)) H):qe0 K true (.ref l) (.ref z) H Q:=by
 cases xs with
 | nil=>exact .inr (.inl ⟨l,z,true,1,rfl,rfl,by decide,EqT.lst (n:=0) (e:=fun _=>true) (SqL.of hl) (SqL.of hz) rfl fun j x y h=>by (simp at h),q⟩)
 | cons x r=>exact .inr (.inl ⟨l,z,false,1,rfl,rfl,by decide,EqT.lstL (SqL.of hl) (SqL.of hz) (by simp),q⟩)
theorem pair_eqD {a:Addr} {t c t':Str} (hb:H b=some (.tup [.str c,.str t'])) (g:H a=some (.tup [.str s,.str t])):EqD K H 1 (.ref b) (.ref a) (decide ((c,t')=(s,t))):=by
 by_cases e:b=a
 .subst e;rw [hb] at g;cases g;rw [yM rfl];exact .self
 .have z:=EqT.tup (K:=K) (H:=H) (n:=0) (e:=fun j=>if j=0 then eqV (.str c) (.str s) else eqV (.str t') (.str t)) (SqT.of hb) (SqT.of g) fun j x y d f=>by
   match j,d,f with
   | 0,d,f=>cases d;cases f;exact .flat rfl rfl
   | 1,d,f=>cases d;cases f;exact .flat rfl rfl
  have h:((List.range (min [V.str c,V.str t'].length [V.str s,V.str t].length)).all (fun j=>if j=0 then eqV (.str c) (.str s) else eqV (.str t') (.str t))&&[V.str c,V.str t'].length==[V.str s,V.str t].length)=decide ((c,t')=(s,t)):=by
   show ((c==s)&&((t'==t)&&true)&&true)=_;rw [Yb];simp
  rw [h] at z;exact .deep z e
noncomputable def qdY (H:Hp) (z:V):Option (Str×Str):=match z with
 | .ref t=>(match H t with
  | some (.tup [.str a,.str b])=>some (a,b)
  | _=>none)
 | _=>none
theorem qb7 {t:Addr} {b:Str} (h:H t=some (.tup [.str a,.str b])):qdY H (.ref t)=some (a,b):=by
 unfold qdY;dsimp only;rw [h]
theorem any_in (h:All2 (fun t ab=>H t=some (.tup [.str ab.1,.str ab.2])) ts tps) (st:Str×Str):((ts.map V.ref).any fun z=>decide (qdY H z=some st))=decide (st∈tps):=by
 rw [Yb,Yo,yJ];constructor
 .rintro ⟨z,hz,e⟩;obtain ⟨t,f,rfl⟩:=Ye.mp hz;obtain ⟨ab,b,r⟩:=h.mem f;have e:=yk e;rw [qb7 r] at e;cases e;exact b
 .intro d;obtain ⟨k,c,e⟩:=xB d;have a:k<ts.length:=by rw [h.len];exact c
  have r:=h.at_ k ts[k] tps[k] (yb a) (yb c);refine ⟨.ref ts[k],Ye.mpr ⟨_,YT a,rfl⟩,yM ?_⟩;rw [qb7 r,e]
theorem pl_in {a:Addr} {t:Str} {Q:VK} (h:PL H l ts tps) (d:H a=some (.tup [.str s,.str t])) (q:Q (.bl (decide ((s,t)∈tps))) H):qeR K false (.ref a) (.ref l) H Q:=by
 refine .inr (.inr ⟨l,ts.map V.ref,fun z=>decide (qdY H z=some (s,t)),1,rfl,SqL.of h.1,by decide,fun z hz=>?_,?_⟩)
 .obtain ⟨b,hb,rfl⟩:=Ye.mp hz;obtain ⟨ab,_,r⟩:=h.2.mem hb;have e:=pair_eqD (K:=K) r d
  have c:decide (qdY H (.ref b)=some (s,t))=decide ((ab.1,ab.2)=(s,t)):=by
   rw [qb7 r];apply Yr.mpr;rw [Option.some.injEq]
  show EqD K H 1 (.ref b) (.ref a) (decide (qdY H (.ref b)=some (s,t)));rw [c];exact e
 .rw [any_in h.2];exact q
theorem str_eq_list {y:V} (a:(ss.map V.str)[i]?=some y):∃ s,ss[i]?=some s/\y=.str s:=by
 rw [yd] at a
 cases h:ss[i]? with
 | none=>rw [h] at a;cases a
 | some s=>rw [h] at a;cases a;exact ⟨s,rfl,rfl⟩
def Adj (ss:List Str) (ns:List Nat) (tps:List (Str×Str)):Prop:=∀ a b s t,ss[a]?=some s->ss[b]?=some t->((ns.getD a 0).testBit b=true↔((s,t)∈tps\/(t,s)∈tps))
theorem KY:FnScope ["web","thing","paired","tie"] ["web","thing"] (qh zL):=fS
theorem uC:FnScope ["self","thing"] ["self","thing"] (qh j7):=fS
noncomputable def qb8 (a:List Str):List (Key×V):=a.map fun s=>(.inr s,.bl true)
theorem qab (y:Str):∀ a:List Str,(jP (qb8 a) (.inr y:Key)).isSome=decide (y∈a)
 | []=>rfl
 | s::r=>by
  by_cases e:s=y
  .subst e;show (jP (((.inr s:Key),V.bl true)::qb8 r) _).isSome=_;rw [yM (by simp)];simp [jP]
  .show (jP (((.inr s:Key),V.bl true)::qb8 r) _).isSome=_;rw [q8 (p:=((.inr s:Key),V.bl true)) (fun z=>e (Y8 z)),qab y r];apply Yr.mpr;simp [Yh e]
theorem qb9 {a:List Str} (h:y∉a):zr (qb8 a) (.inr y:Key) (.bl true)=qb8 (a++[y]):=by
 have:jP (qb8 a) (.inr y:Key)=none:=by
  have:=qab y a;rw [yl h] at this;exact Option.isNone_iff_eq_none.mp (by rw [<- Option.not_isSome,this];rfl)
 rw [qaL _ this];unfold qb8;rw [yA];rfl
noncomputable def qB (qs:List (Str×Str)):List Str:=qs.flatMap fun q=>[q.1,q.2]
noncomputable def prK (qs:List (Str×Str)):List (Key×V):=qs.flatMap fun q=>[(.inr q.1,.str q.2),(.inr q.2,.str q.1)]
noncomputable def pt:List (Str×Str)->Str->Option Str
 | [],_=>none
 | q::r,s=>if q.1=s then some q.2 else if q.2=s then some q.1 else pt r s
theorem jR (s:Str):∀ qs,jP (prK qs) (.inr s:Key)=(pt qs s).map V.str
 | []=>rfl
 | q::r=>by
  show jP (((.inr q.1:Key),V.str q.2)::((.inr q.2:Key),V.str q.1)::prK r) _=(pt (q::r) s).map V.str;unfold pt;by_cases h1:q.1=s
  .rw [jm (p:=((.inr q.1:Key),V.str q.2)) (congrArg Sum.inr h1),yD h1];rfl
  .rw [q8 (p:=((.inr q.1:Key),V.str q.2)) (fun z=>h1 (Y8 z)),yy h1];by_cases a:q.2=s
   .rw [jm (p:=((.inr q.2:Key),V.str q.1)) (congrArg Sum.inr a),yD a];rfl
   .rw [q8 (p:=((.inr q.2:Key),V.str q.1)) (fun z=>a (Y8 z)),yy a,jR s r]
theorem pt_none:∀ {qs:List (Str×Str)},pt qs s=none↔s∉qB qs
 | []=>by simp [pt,qB]
 | q::r=>by
  have e:qB (q::r)=q.1::q.2::qB r:=rfl;rw [e];unfold pt;by_cases h1:q.1=s
  .rw [yD h1];simp [h1]
  .rw [yy h1];by_cases a:q.2=s
   .rw [yD a];simp [a]
   .rw [yy a,pt_none];simp only [yB,not_or];exact ⟨fun z=>⟨Yh h1,Yh a,z⟩,fun z=>z.2.2⟩
structure PGo (ss:List Str) (tps qs:List (Str×Str)):Prop where
 inn:∀ q∈qs,(q∈tps\/(q.2,q.1)∈tps)/\q.1∈ss/\q.2∈ss/\q.1≠q.2
 nd:(qB qs).Nodup
 few:qs.length<=30
theorem qaC (qs:List (Str×Str)):(qB qs).length=2*qs.length:=by
 induction qs with
 | nil=>rfl
 | cons q r ih=>show (q.1::q.2::qB r).length=_;simp only [yC];omega
theorem qac (qs:List (Str×Str)) (q:Str×Str):qB (qs++[q])=qB qs++[q.1,q.2]:=by
 unfold qB;rw [xD];rfl
theorem PGo.new (g:PGo ss tps qs) (h:qs[i]?=some ab):qs.take (i+1)=qs.take i++[ab]/\(qB (qs.take i++[ab])).Nodup/\ab.1∉qB (qs.take i)/\ab.2∉qB (qs.take i):=by
 have a:qs.take (i+1)=qs.take i++[ab]:=by rw [yK,h];rfl
 have hnd:(qB (qs.take i++[ab])).Nodup:=by
  rw [<- a];have:qB qs=qB (qs.take (i+1))++qB (qs.drop (i+1)):=by unfold qB;rw [<- xD,List.take_append_drop]
  have d:=g.nd;rw [this] at d;exact (yV.mp d).1
 have b:=hnd;rw [qac] at b;have c:=(yV.mp b).2.2;exact ⟨a,hnd,fun z=>c _ z ab.1 (by simp) rfl,fun z=>c _ z ab.2 (by simp) rfl⟩
inductive spHt (cw:Addr) (vs:List V) (H:Hp) (Q:VK) (E:XK):Prop|mk (x t:Addr) (ss:List Str) (ns:List Nat) (tps:List (Str×Str)) (ab:Str×Str) (_:vs=[.ref x,.ref t]) (_:WebAt cw H x ss ns) (_:Adj ss ns tps) (_:H t=some (.tup [.str ab.1,.str ab.2])) (_:(ab∈tps\/(ab.2,ab.1)∈tps)) (_:ab.1∈ss) (_:ab.2∈ss) (_:ab.1≠ab.2) (_:∀ H',L2.Same H H'->Q (.bl true) H')
inductive spAp (cw:Addr) (vs:List V) (H:Hp) (Q:VK) (E:XK):Prop|mk (x l:Addr) (ss:List Str) (ns:List Nat) (us:List Addr) (tps qs:List (Str×Str)) (_:vs=[.ref x,.ref l]) (_:WebAt cw H x ss ns) (_:Adj ss ns tps) (_:PL H l us qs) (_:PGo ss tps qs) (_:∀ H',L2.Same H H'->Q (.bl true) H')
theorem ok_ht (F:Fun K "has_tie" "Web.has_tie" j7 f fd) (T:Txt K mg cc cw) (y:DefOk P w K mg base CX0 3 "are_two_places" ["numbers","thing"] spTwo) (D:MethOk P w K mg base CX0 6 cw "tied" ["self","one","other"] (spTied cw)):FnOk P w K mg base CX0 7 f fd ["self","thing"] (spHt cw):=by
 refine F.ok uC fun _ _ _ _ H vs Q E g h=>?_
 .obtain ⟨x,t,ss,ns,tps,ab,rfl,r,z,n,c,m1,l,e,q⟩:=h;have s:=jS g;obtain ⟨u,m,ol,G,hb,d,B,A,hw⟩:=id r;refine ⟨_,(qf (qp (qcn (qv y (hmR g) qH (qa (qA (K:=K) rfl (pv 0) rfl) (qa (pv 1) qd))) (qcm (qD D (hmR g) (pv 0) (qa (qt (qu (K:=K) rfl s) (pv 1) qg (fun _ _=>rfl)) (qa (qt (qu (K:=K) rfl s) (pv 1) qg (fun _ _=>rfl)) qd))))))),?_⟩;ext;refine .inl ⟨x,cw,u,_,.ref m,rfl,hb,T.wcl,T.wn,jQ,?_⟩;ext;refine ⟨m,t,ss,ab.1,ab.2,rfl,d,n,hw.nm _ m1,hw.nm _ l,m1,l,e,fun H1 b=>?_⟩;refine ⟨true,rfl,qal ?_⟩;have a:=b _ _ n;ext;refine ⟨x,u,_,rfl,b _ _ hb,jY (by decide +kernel),?_⟩;ext;refine .inl (qaw a (v:=.str ab.1) (qy (j:=0) rfl) ?_);ext;refine .inl (qaw a (v:=.str ab.2) (qy (j:=1) rfl) ?_);ext;obtain ⟨j,p⟩:=yf m1;obtain ⟨i,o⟩:=yf l;refine ⟨x,ss,ns,ab.1,ab.2,j,i,rfl,r.same b,p,o,fun H2 C=>?_⟩;rw [(z j i ab.1 ab.2 p o).mpr c];exact q H2 (b.trans C)
theorem ok_ap (F:Fun K "are_pairs" "are_pairs" zL f fd) (T:Txt K mg cc cw) (KQ:MethOk P w K mg base CX0 7 cw "has_tie" ["self","thing"] (spHt cw)):FnOk P w K mg base CX0 8 f fd ["web","thing"] (spAp cw):=by
 refine F.ok KY fun _ _ _ _ H vs Q E X h=>?_
 .obtain ⟨x,l,ss,ns,us,tps,qs,rfl,W,hA,⟨hl,r⟩,g,q⟩:=h;have e:=jS X;obtain ⟨wx,dd,ol,nn,hb,_⟩:=id W;have few:=g.few;have N:=r.len;refine ⟨_,(qc (qV (jf (qZ (qk (qaQ (K:=K) rfl) rfl T.b_isinstance YG (qa (pv 1) (qa (jD (v:=.ty "list") rfl T.b_list xp rfl) qd))))) (qf (qp zg)) qx)
 (qc (qo (i:=2) KY.nd rfl (yO rfl) j6)
 (qc (jl y0 rfl (qT (K:=K) rfl (pv 1)) (qr (i:=3) KY.nd rfl (yO rfl))
 (qc (qV (PW.pt (qaH (jf (qZ (qD KQ (hmR X) (pv 0) (qa (pv 3) qd)))) (qaH (qj (zT (K:=K) rfl e) (qt (qu (K:=K) rfl e) (pv 3) qg (fun _ _=>rfl)) (pv 2) (by with_unfolding_all rfl)) (qay (qj (zT (K:=K) rfl e) (qt (qu (K:=K) rfl e) (pv 3) qg (fun _ _=>rfl)) (pv 2) (by with_unfolding_all rfl)))))) (qf (qp zg)) qx)
 (qc (jN zg (jV (pv 2) (qt (qu (K:=K) rfl e) (pv 3) qg (fun _ _=>rfl)) (jW e)))
 (qf (jN zg (jV (pv 2) (qt (qu (K:=K) rfl e) (pv 3) qg (fun _ _=>rfl)) (jW e)))))))
 (qf (qp zg))))),?_⟩
  ext;refine qb4 (.inl (.lst hl)) rfl (zG K "list" (by simp) "list" (by simp)) ?_;ext;refine yq ?_;ext;intro d D;have O:=qL (Sr H) (o:=.dK []) D;have U:upd H d (.dK []) d=some (.dK (qb8 [])):=qb;generalize upd H d (.dK [])=H1 at O U;ext;refine .inl ⟨⟨_,.of (O _ _ hl)⟩,ju (xs:=us.map V.ref) (fun i σ J=>L2.Same H J/\∃ R,σ=[some (.ref x),some (.ref l),some (.ref d),R]/\J d=some (.dK (qb8 (qB (qs.take i))))) ⟨O,_,rfl,U⟩ (fun i σ J _ A=>.of (A.1 _ _ hl)) (fun i y σ J Y A=>?_) fun σ J A=>?_⟩
  .obtain ⟨n,R,rfl,c⟩:=A;rw [yd] at Y;obtain ⟨b,s,rfl⟩:=yn.mp Y;have hi:i<us.length:=(yc.mp s).1;obtain ⟨ab,m⟩:∃ ab,qs[i]?=some ab:=⟨_,yb (by rw [<- N];exact hi)⟩;have C:=r.at_ i b ab s m;obtain ⟨ht,m1,m2,u⟩:=g.inn ab (ye m);obtain ⟨M,hnd,Z,n2⟩:=g.new m;have aa:(qB (qs.take i)).length<=60:=by rw [qaC,yT];omega
   have L:b≠d:=fun z=>by rw [z,D] at C;cases C
   ext;refine ⟨x,wx,_,rfl,n _ _ hb,jY (by decide +kernel),?_⟩;ext;refine ⟨x,b,ss,ns,tps,ab,rfl,W.same n,hA,n _ _ C,ht,m1,m2,u,fun I G=>?_⟩;have B:=n.trans G;have a:=B _ _ C;ext;refine yq ?_;ext;refine .inl (qaw a (v:=.str ab.1) (qy (j:=0) rfl) ?_);ext;refine .inr (.inl ⟨d,_,rfl,DGet.k (k:=Sum.inr ab.1) (G _ _ c),?_⟩);rw [yy (by decide),qab,yl Z];ext;refine yq ?_;ext;refine .inl (qaw a (v:=.str ab.2) (qy (j:=1) rfl) ?_);ext;refine .inr (.inl ⟨d,_,rfl,DGet.k (k:=Sum.inr ab.2) (G _ _ c),?_⟩);rw [yy (by decide),qab,yl n2];ext;refine yq ?_;ext;refine .inl (qaw a (v:=.str ab.1) (qy (j:=0) rfl) ?_);ext;refine .inr ⟨d,_,rfl,DPut.k (k:=Sum.inr ab.1) (G _ _ c) (by unfold qb8;rw [ya,YB];omega),?_⟩;rw [qb9 Z];have s3:=qaz B (o:=.dK (qb8 (qB (qs.take i)++[ab.1]))) D;have S:upd I d (.dK (qb8 (qB (qs.take i)++[ab.1]))) d=some (.dK (qb8 (qB (qs.take i)++[ab.1]))):=qb;have p:upd I d (.dK (qb8 (qB (qs.take i)++[ab.1]))) b=some (.tup [.str ab.1,.str ab.2]):=by rw [qe L];exact a
   generalize upd I d (.dK (qb8 (qB (qs.take i)++[ab.1])))=J3 at s3 S p;ext;refine .inl (qaw p (v:=.str ab.2) (qy (j:=1) rfl) ?_);ext;refine .inr ⟨d,_,rfl,DPut.k (k:=Sum.inr ab.2) S (by unfold qb8;rw [ya,yt,YB];simp only [yC,xo];omega),?_⟩;rw [qb9 (fun z=>by rcases yE.mp z with z | z;exact n2 z;exact u (yx.mp z).symm)];exact ⟨qaz s3 D,_,rfl,by rw [qb,M,qac,Yi];rfl⟩
  .obtain ⟨n,R,rfl,c⟩:=A;ext;exact q J n
theorem KI:FnScope ["web","pairs","partners","pair"] ["web","pairs"] (qh j8):=fS
theorem prK_len (qs:List (Str×Str)):(prK qs).length=2*qs.length:=by
 induction qs with
 | nil=>rfl
 | cons q r ih=>show (_::_::prK r).length=_;simp only [yC];rw [ih];omega
theorem prK_snoc (qs:List (Str×Str)) (q:Str×Str):prK (qs++[q])=prK qs++[(.inr q.1,.str q.2),(.inr q.2,.str q.1)]:=by
 unfold prK;rw [xD];rfl
theorem prK_put {q:Str×Str} (h:(qB (qs++[q])).Nodup):zr (zr (prK qs) (.inr q.1:Key) (.str q.2)) (.inr q.2:Key) (.str q.1)=prK (qs++[q]):=by
 rw [qac] at h;obtain ⟨h1,b,c⟩:=yV.mp h;have e:q.1∉qB qs:=fun z=>c _ z _ (by simp) rfl;have f:q.2∉qB qs:=fun z=>c _ z q.2 (by simp) rfl;have g:q.1≠q.2:=by simp at b;exact b
 have i:jP (prK qs) (.inr q.1:Key)=none:=by rw [jR,pt_none.mpr e];rfl
 rw [qaL _ i]
 have a:jP (prK qs++[((.inr q.1:Key),V.str q.2)]) (.inr q.2:Key)=none:=by
  have a:jP (prK qs) (.inr q.2:Key)=none:=by rw [jR,pt_none.mpr f];rfl
  unfold jP at a ⊢;rw [List.find?_append];have:(prK qs).find? (fun d=>decide (d.1=(.inr q.2:Key)))=none:=by simpa using a
  rw [this];simp [g]
 rw [qaL _ a,prK_snoc];simp
inductive spPn (cw:Addr) (vs:List V) (H:Hp) (Q:VK) (E:XK):Prop|mk (x l:Addr) (ss:List Str) (ns:List Nat) (us:List Addr) (tps qs:List (Str×Str)) (_:vs=[.ref x,.ref l]) (_:WebAt cw H x ss ns) (_:Adj ss ns tps) (_:PL H l us qs) (_:PGo ss tps qs) (_:∀ (d:Addr) (H':Hp),L2.Same H H'->H d=none->H' d=some (.dK (prK qs))->Q (.ref d) H')
theorem ok_pn (F:Fun K "partners_in" "partners_in" j8 f fd) (T:Txt K mg cc cw) (uY:DefOk P w K mg base CX0 8 "are_pairs" ["web","thing"] (spAp cw)):FnOk P w K mg base CX0 9 f fd ["web","pairs"] (spPn cw):=by
 refine F.ok KI fun _ _ _ _ H vs Q E R h=>?_
 .obtain ⟨x,l,ss,ns,us,tps,qs,rfl,Y,X,⟨hl,n⟩,g,q⟩:=h;have p:=jS R;have few:=g.few;have A:=n.len;refine ⟨_,(qc (qV (jf (qZ (qv uY (hmR R) qH (qa (pv 0) (qa (pv 1) qd))))) (qf jg) qx)
 (qc (qo (i:=2) KI.nd rfl (yO rfl) j6)
 (qc (jl y0 rfl (qT (K:=K) rfl (pv 1)) (qr (i:=3) KI.nd rfl (yO rfl))
 (qc (jN (qt (qu (K:=K) rfl p) (pv 3) qg (fun _ _=>rfl)) (jV (pv 2) (qt (qu (K:=K) rfl p) (pv 3) qg (fun _ _=>rfl)) (jW p)))
 (qf (jN (qt (qu (K:=K) rfl p) (pv 3) qg (fun _ _=>rfl)) (jV (pv 2) (qt (qu (K:=K) rfl p) (pv 3) qg (fun _ _=>rfl)) (jW p))))))
 (qf (qp (pv 2)))))),?_⟩
  ext;refine ⟨x,l,ss,ns,us,tps,qs,rfl,Y,X,⟨hl,n⟩,g,fun H1 U=>?_⟩;ext;refine yq ?_;ext;intro d O;have c:=U.free O;have I:=qL U (o:=.dK []) O;have N:upd H1 d (.dK []) d=some (.dK (prK [])):=qb;generalize upd H1 d (.dK [])=H2 at I N;ext;refine .inl ⟨⟨_,.of (I _ _ hl)⟩,ju (xs:=us.map V.ref) (fun i σ J=>L2.Same H J/\∃ L,σ=[some (.ref x),some (.ref l),some (.ref d),L]/\J d=some (.dK (prK (qs.take i)))) ⟨I,_,rfl,N⟩ (fun i σ J _ u=>.of (u.1 _ _ hl)) (fun i y σ J S u=>?_) fun σ J u=>?_⟩
  .obtain ⟨B,L,rfl,a⟩:=u;rw [yd] at S;obtain ⟨b,s,rfl⟩:=yn.mp S;have Z:i<us.length:=(yc.mp s).1;obtain ⟨ab,r⟩:∃ ab,qs[i]?=some ab:=⟨_,yb (by rw [<- A];exact Z)⟩;have C:=n.at_ i b ab s r;obtain ⟨G,hnd,n1,n2⟩:=g.new r;have D:b≠d:=fun z=>by rw [z,c] at C;cases C
   have m:=B _ _ C;have aa:(prK (qs.take i)).length<=2000:=by rw [prK_len,yT];omega
   ext;refine .inl (qaw m (v:=.str ab.2) (qy (j:=1) rfl) ?_);ext;refine .inl (qaw m (v:=.str ab.1) (qy (j:=0) rfl) ?_);ext;refine .inr ⟨d,_,rfl,DPut.k (k:=Sum.inr ab.1) a (by rw [YB];omega),?_⟩;have W:=qaz B (o:=.dK (zr (prK (qs.take i)) (Sum.inr ab.1) (.str ab.2))) c;have M:upd J d (.dK (zr (prK (qs.take i)) (Sum.inr ab.1) (.str ab.2))) d=some (.dK (zr (prK (qs.take i)) (Sum.inr ab.1) (.str ab.2))):=qb;have e:upd J d (.dK (zr (prK (qs.take i)) (Sum.inr ab.1) (.str ab.2))) b=some (.tup [.str ab.1,.str ab.2]):=by rw [qe D];exact m
   generalize upd J d (.dK (zr (prK (qs.take i)) (Sum.inr ab.1) (.str ab.2)))=J3 at W M e;ext;refine .inl (qaw e (v:=.str ab.1) (qy (j:=0) rfl) ?_);ext;refine .inl (qaw e (v:=.str ab.2) (qy (j:=1) rfl) ?_);ext;refine .inr ⟨d,_,rfl,DPut.k (k:=Sum.inr ab.2) M ?_,?_⟩
   .have:=jr (prK (qs.take i)) (Sum.inr ab.1:Key) (.str ab.2);rw [YB];omega
   .exact ⟨qaz W c,_,rfl,by rw [qb,prK_put hnd,G]⟩
  .obtain ⟨B,L,rfl,a⟩:=u;rw [ya,A,yR] at a;ext;exact q d J B c a
structure Gr (A:Str->Str->Prop) (f:Str->Option Str):Prop where
 as:∀ {a b},A a b->A b a
 ir:∀ {a b},A a b->a≠b
 fs:∀ {a b},f a=some b->f b=some a
 fa:∀ {a b},f a=some b->A a b
structure FS where
 rows:Str->Option (List Str)
 par:Str->Option Str
 bas:Str->Str
def Turns (A:Str->Str->Prop) (f:Str->Option Str) (r:List Str):Prop:=∀ (j:Nat) a b,r[j]?=some a->r[j+1]?=some b->A a b/\(f a=some b↔j % 2=1)
structure Alt (A:Str->Str->Prop) (f:Str->Option Str) (r:List Str) (v:Str):Prop where
 nd:r.Nodup
 odd:r.length % 2=1
 hd:∀ s,r[0]?=some s->f s=none
 tl:∃ r0,r=r0++[v]
 st:Turns A f r
structure FI (A:Str->Str->Prop) (f:Str->Option Str) (S:FS):Prop where
 alt:∀ v r,S.rows v=some r->Alt A f r v
 bse:∀ v r,S.rows v=some r->∃ rb t,S.rows (S.bas v)=some rb/\r=rb++t/\∀ u∈t,S.bas u=S.bas v
 idm:∀ v r,S.rows v=some r->S.bas (S.bas v)=S.bas v
 dwn:∀ b r q,S.rows b=some r->S.bas b=b->f b=some q->S.rows q=none/\∃ z rz,S.par q=some z/\S.rows z=some rz/\r=rz++[q,b]
 mat:∀ v,S.bas v≠v->(∃ r,S.rows v=some r)/\∃ u,f v=some u/\S.bas u=S.bas v
 odd:∀ x z,S.par x=some z->A z x/\(∃ r,S.rows z=some r)/\∃ y r,f x=some y/\S.rows y=some r
section
variable {A:Str->Str->Prop} {f:Str->Option Str} {S:FS}
theorem FI.own (I:FI A f S) (h:S.rows v=none):S.bas v=v:=YE fun z=>by
 obtain ⟨⟨r,e⟩,_⟩:=I.mat v z;rw [h] at e;cases e
theorem FI.evb (I:FI A f S) (h:S.rows v=some r):∃ a,S.rows (S.bas v)=some a:=(I.bse v r h).elim fun a z=>⟨a,z.elim fun _ y=>y.1⟩
theorem FI.pair (I:FI A f S) {w:Str} {s:List Str} (hv:S.rows v=some r) (hw:S.rows w=some s) (h:f v=some w):S.bas v=S.bas w:=by
 by_cases z:S.bas v=v
 .have:=(I.dwn v r w hv z h).1;rw [hw] at this;cases this
 .obtain ⟨_,u,a,e⟩:=I.mat v z;rw [h] at a;cases a;exact e.symm
inductive Ch (f:Str->Option Str) (S:FS):Str->List Str->Prop
 | root {b:Str}:f b=none->Ch f S b [b]
 | step {b q z:Str} {l:List Str}:f b=some q->S.par q=some z->Ch f S (S.bas z) l->Ch f S b (b::l)
theorem Ch.one {b:Str} {l:List Str} (h:Ch f S b l):∀ {m},Ch f S b m->m=l:=by
 induction h with
 | root e=>intro m g;cases g with
  | root _=>rfl
  | step e' _ _=>rw [e] at e';cases e'
 | step e p _ ih=>intro m g;cases g with
  | root e'=>rw [e] at e';cases e'
  | step e' p' g'=>rw [e] at e';cases e';rw [p] at p';cases p';rw [ih g']
theorem Ch.ne {b:Str} {l:List Str} (h:Ch f S b l):∃ t,l=b::t:=by cases h<;>exact ⟨_,rfl⟩
theorem FI.chain (I:FI A f S):∀ (n:Nat) {b:Str} {r:List Str},r.length<=n->S.rows b=some r->S.bas b=b->∃ l,Ch f S b l
 | n,b,r,hn,hb,hbb=>by
  cases e:f b with
  | none=>exact ⟨_,.root e⟩
  | some q =>
   obtain ⟨_,z,rz,p,hz,c⟩:=I.dwn b r q hb hbb e;obtain ⟨a,t,h1,d,_⟩:=I.bse z rz hz;have hl:a.length<n:=by rw [c,d] at hn;simp at hn;omega
   match n,hl with
   | n+1,hl =>
    obtain ⟨l,g⟩:=I.chain n (b:=S.bas z) (r:=a) (by omega) h1 (I.idm z rz hz);exact ⟨_,.step e p g⟩
theorem FI.chainOf (I:FI A f S) (h:S.rows v=some r):∃ l,Ch f S (S.bas v) l:=by
 obtain ⟨a,e⟩:=I.evb h;exact I.chain _ (yh _) e (I.idm v r h)
def Cov (f:Str->Option Str) (S:FS) (l:List Str) (u:Str):Prop:=∃ d∈l,S.bas u=d\/f d=some u
theorem Cov.mono {l m:List Str} (h:Cov f S l u) (a:∀ d∈l,d∈m):Cov f S m u:=h.elim fun d z=>⟨d,a d z.1,z.2⟩
theorem Ch.up (I:FI A f S) {b:Str} {l:List Str} (h:Ch f S b l):∀ {v:Str} {r:List Str},S.rows v=some r->S.bas v=b->∀ {l1 l2:List Str} {c:Str},l=l1++c::l2->∃ o t,S.rows c=some o/\S.bas c=c/\Ch f S c (c::l2)/\r=o++t/\∀ u∈t,S.bas u=c\/Cov f S l1 u:=by
 induction h with
 | root e =>
  intro v r hv hb l1 l2 c j
  cases l1 with
  | cons x y=>exact absurd (congrArg List.length j) (by simp)
  | nil =>
   cases j;obtain ⟨n,t,h1,m,i⟩:=I.bse v r hv;rw [hb] at h1 i;exact ⟨n,t,h1,by rw [<- hb];exact I.idm v r hv,.root e,m,fun u hu=>.inl (i u hu)⟩
 | @step b q z l e p g ih =>
  intro v r hv hb l1 l2 c j;obtain ⟨n,t,h1,m,i⟩:=I.bse v r hv;rw [hb] at h1 i;have a:S.bas b=b:=by rw [<- hb];exact I.idm v r hv
  cases l1 with
  | nil =>
   cases j;exact ⟨n,t,h1,a,.step e p g,m,fun u hu=>.inl (i u hu)⟩
  | cons x y =>
   cases j;obtain ⟨H,J,rz,s,hz,w⟩:=I.dwn b n q h1 a e;rw [p] at s;cases s;obtain ⟨o,t',C,D,E,F,G⟩:=ih hz rfl rfl;refine ⟨o,t'++[q,b]++t,C,D,E,by rw [m,w,F];simp,fun u hu=>?_⟩;rcases yE.mp hu with hu | hu
   .rcases yE.mp hu with hu | hu
    .exact (G u hu).imp id fun z=>z.mono fun d B=>yz _ B
    .simp only [yB,Yd,Y0] at hu;rcases hu with rfl | rfl
     .exact .inr ⟨b,yN,.inr e⟩
     .exact .inr ⟨_,yN,.inl a⟩
   .exact .inr ⟨b,yN,.inl (i u hu)⟩
theorem Ch.bs0 (I:FI A f S) {l:List Str} (hv:S.rows v=some r) (h:Ch f S (S.bas v) l) (hc:c∈l):∃ a,S.rows c=some a/\S.bas c=c:=by
 obtain ⟨l1,l2,e⟩:=Yp hc;obtain ⟨a,_,h1,b,_⟩:=h.up I hv rfl e;exact ⟨a,h1,b⟩
theorem Ch.cov (G:Gr A f) (I:FI A f S) {l:List Str} (hv:S.rows v=some r) (h:Ch f S (S.bas v) l) (hu:u∈r):Cov f S l u:=by
 have hl:l≠[]:=by obtain ⟨t,e⟩:=h.ne;rw [e];exact kK _ _
 obtain ⟨o,t,h1,s,w,x,y⟩:=h.up I hv rfl (YR hl).symm;have b:l.getLast hl∈l:=List.getLast_mem hl;rw [x] at hu;rcases yE.mp hu with hu | hu
 .have C:f (l.getLast hl)=none:=by
   cases w with
   | root e=>exact e
   | step _ _ g=>obtain ⟨_,e⟩:=g.ne;cases e
  have c:=I.alt _ _ h1;obtain ⟨q,i⟩:=c.tl
  have m:q=[]:=by
   cases j:q.length with
   | zero=>exact List.eq_nil_of_length_eq_zero j
   | succ n =>
    exfalso;have p:o.length=n+2:=by rw [i];simp [j]
    obtain ⟨a,B⟩:∃ a,o[n]?=some a:=⟨_,yb (by omega)⟩;have hb:o[n+1]?=some (l.getLast hl):=by rw [i,yG (by omega),j];simp
    have:=G.fs ((c.st n a _ B hb).2.mpr (by have:=c.odd;omega));rw [C] at this;cases this
  rw [i,m] at hu;have e:u=l.getLast hl:=by simpa using hu
  exact ⟨_,b,.inl (by rw [e];exact s)⟩
 .rcases y u hu with z | ⟨d,hd,z⟩
  .exact ⟨_,b,.inl z⟩
  .exact ⟨d,List.dropLast_subset l hd,z⟩
theorem Cov.apart (G:Gr A f) (I:FI A f S) {l m:List Str} (hl:∀ d∈l,∃ r,S.rows d=some r/\S.bas d=d) (j:∀ d∈m,∃ r,S.rows d=some r/\S.bas d=d) (q:∀ d∈l,d∉m) (h1:Cov f S l u) (o:Cov f S m u):False:=by
 have key:∀ {d e:Str},(∃ r,S.rows d=some r/\S.bas d=d)->(∃ r,S.rows e=some r/\S.bas e=e)->S.bas u=d->f e=some u->False:=fun ⟨r,b,p⟩ ⟨s,g,i⟩ h h'=>by
  have n:=(I.dwn _ _ _ g i h').1;have:=I.own n;rw [h] at this;rw [this,n] at b;cases b
 obtain ⟨d,b,z⟩:=h1;obtain ⟨e,g,y⟩:=o;have c:d≠e:=fun w=>q d b (by rw [w];exact g);rcases z with z | z<;>rcases y with y | y
 .exact c (z.symm.trans y)
 .exact key (hl d b) (j e g) z y
 .exact key (j e g) (hl d b) y z
 .have a:=G.fs z;rw [G.fs y] at a;exact c (ym a).symm
theorem Turns.app {s:List Str} (h:Turns A f r) (g:∀ (j:Nat) a b,s[j]?=some a->s[j+1]?=some b->A a b/\(f a=some b↔(r.length+j) % 2=1)) (w:∀ a b,r[r.length-1]?=some a->s[0]?=some b->0<r.length->A a b/\(f a=some b↔(r.length-1) % 2=1)):Turns A f (r++s):=fun j a b c hb=>by
 by_cases h1:j+1<r.length
 .rw [y8 (by omega)] at c;rw [y8 h1] at hb;exact h j a b c hb
 .by_cases d:j+1=r.length
  .rw [y8 (by omega),show j=r.length-1 by omega] at c;rw [yG (by omega),show j+1-r.length=0 by omega] at hb;rw [show j=r.length-1 by omega];exact w a b c hb (by omega)
  .rw [yG (by omega)] at c;rw [yG (by omega),show j+1-r.length=j-r.length+1 by omega] at hb;have:=g _ a b c hb
   rwa [show r.length+(j-r.length)=j by omega] at this
theorem Alt.back (G:Gr A f) {s t:List Str} {w q:Str} (hw:Alt A f s w) (hv:Alt A f r v) (i:r=rz++q::c::t) (hz:rz.length % 2=1) (F:A w v) (H:f w≠some v) (B:∀ u∈s,u∉q::c::t):Alt A f (s++(q::c::t).reverse) q:=by
 obtain ⟨L,p⟩:=hw.tl;obtain ⟨K,l⟩:=hv.tl;have o:0<s.length:=by rw [p];simp
 have I:=hv.odd;have n:r.length=rz.length+(t.length+2):=by rw [i];simp
 have at_:∀ {j:Nat} {a:Str},(q::c::t).reverse[j]?=some a->j<t.length+2/\r[r.length-1-j]?=some a:=fun {j a} h=>by
  have hl:=(yc.mp h).1;rw [Yq] at hl;simp only [yC] at hl;rw [xX (by simp only [yC];omega)] at h;simp only [yC] at h;refine ⟨by omega,?_⟩;rw [n]
  conv=>lhs;rw [i]
  rw [yG (by omega),show rz.length+(t.length+2)-1-j-rz.length=t.length+1+1-1-j by omega];exact h
 refine ⟨yV.mpr ⟨hw.nd,?_,fun x J y g e=>B x J (by rw [e];exact Xf.mp g)⟩,?_,fun y g=>?_,⟨s++(c::t).reverse,by simp⟩,hw.st.app (fun j a b h1 m=>?_) fun a b h1 m _=>?_⟩
 .exact (kt _).nodup_iff.mpr ((yV.mp (i ▸ hv.nd)).2.1)
 .rw [yt,Yq];simp only [yC];have:=hw.odd;omega
 .rw [y8 o] at g;exact hw.hd y g
 .obtain ⟨l1,C⟩:=at_ h1;obtain ⟨l2,d⟩:=at_ m;have:=hv.st (r.length-1-(j+1)) b a d (by rw [show r.length-1-(j+1)+1=r.length-1-j by omega];exact C);refine ⟨G.as this.1,⟨fun z=>?_,fun z=>?_⟩⟩
  .have:=this.2.mp (G.fs z);have:=hw.odd;omega
  .exact G.fs (this.2.mpr (by have:=hw.odd;omega))
 .have D:a=w:=by
   rw [p,yt,yG (by simp)] at h1;simpa using h1.symm
  have E:b=v:=by
   obtain ⟨_,d⟩:=at_ m;rw [kR,l,yt,yG (by simp)] at d;simpa using d.symm
  subst D;subst E;exact ⟨F,⟨fun z=>absurd z H,fun z=>by have:=hw.odd;omega⟩⟩
end
section
variable {A:Str->Str->Prop} {f:Str->Option Str} {S S':FS}
theorem Ch.nd (I:FI A f S) {b:Str} {l:List Str} (h:Ch f S b l):∀ {v:Str} {r:List Str},S.rows v=some r->S.bas v=b->l.Nodup:=by
 induction h with
 | root e=>intro _ _ _ _;simp
 | @step b q z l e p g ih =>
  intro v r hv hb;have a:S.bas b=b:=by rw [<- hb];exact I.idm v r hv
  obtain ⟨m,h1⟩:=I.evb hv;rw [hb] at h1;obtain ⟨_,n,rz,d,hz,_⟩:=I.dwn b m q h1 a e;rw [p] at d;cases d;refine yo.mpr ⟨fun i=>?_,ih hz rfl⟩;obtain ⟨x,y,c⟩:=Yp i;obtain ⟨_,_,_,_,j,_⟩:=g.up I hz rfl c;have:=j.one (.step e p g);rw [c] at this;have:=congrArg List.length this;simp at this;omega
theorem Ch.suf (I:FI A f S) {l:List Str} (hv:S.rows v=some r) (h:Ch f S (S.bas v) l) {q:Str} (e:l=l1++c::l2) (b:f c=some q):∃ rz t,r=rz++q::c::t/\rz.length % 2=1/\S.rows q=none/\∀ u∈q::c::t,Cov f S (l1++[c]) u:=by
 obtain ⟨p,t,h1,a,_,g,i⟩:=h.up I hv rfl e;obtain ⟨m,z,rz,_,n,o⟩:=I.dwn c p q h1 a b;refine ⟨rz,t,by rw [g,o];simp,(I.alt z rz n).odd,m,fun u hu=>?_⟩;rcases yB.mp hu with rfl | hu
 .exact ⟨c,by simp,.inr b⟩
 .rcases yB.mp hu with rfl | hu
  .exact ⟨u,by simp,.inl a⟩
  .rcases i u hu with z | z
   .exact ⟨c,by simp,.inl z⟩
   .exact z.mono fun d j=>yH _ j
theorem Ch.meet (I:FI A f S) {w:Str} {s l:List Str} (hv:S.rows v=some r) (hw:S.rows w=some s) (h:Ch f S (S.bas v) l) (h':Ch f S (S.bas w) l') {i:List Str} {m:Str} (j:l=l1++m::l2) (e:l'=m1++m::i) (J:∀ d∈l1,d∉l'):i=l2/\∀ d∈m1,d∉l:=by
 obtain ⟨_,_,_,_,k,_⟩:=h.up I hv rfl j;obtain ⟨_,_,_,_,k',_⟩:=h'.up I hw rfl e;have E:i=l2:=(Y9 (k.one k')).2;refine ⟨E,fun d K hl=>?_⟩;obtain ⟨a,b,C⟩:=Yp K;obtain ⟨x,y,ex⟩:=Yp hl;obtain ⟨_,_,_,_,g,_⟩:=h.up I hv rfl ex;obtain ⟨_,_,_,_,g',_⟩:=h'.up I hw rfl (l1:=a) (c:=d) (l2:=b++m::i) (by rw [e,C];simp);have u:y=b++m::i:=(Y9 (g'.one g)).2;have hnd:=h.nd I hv rfl;have n:d∈l':=by rw [e,C];simp
 have p:d∉l1:=fun z=>J d z n;have o:d∈m::l2:=by rw [j] at hl;exact (yE.mp hl).resolve_left p
 rcases yB.mp o with z | z
 .rw [z] at ex;rw [ex,u] at hnd;have:=(yV.mp hnd).2.1;exact (yo.mp this).1 (by simp)
 .have q:m∈x:=by
   obtain ⟨x2,D,F⟩:=Yp z;have B:l=(l1++m::x2)++d::D:=by rw [j,F];simp
   obtain ⟨_,_,_,_,H,_⟩:=h.up I hv rfl B;have G:D=y:=(Y9 (g.one H)).2;rw [B,G] at ex;rw [<- List.append_cancel_right ex];simp
  rw [ex,u] at hnd;exact (yV.mp hnd).2.2 m q m (by simp) rfl
def NewRow (S:FS) (v w u:Str) (r:List Str):Prop:=∃ rv rw rz t,S.rows v=some rv/\S.rows w=some rw/\rv=rz++u::t/\r=rw++(u::t).reverse
def InR (f:Str->Option Str) (m:Str) (a:List Str) (u:Str):Prop:=u=m\/∃ c∈a,u=c\/f c=some u
structure Mg (f:Str->Option Str) (S S':FS) (v w m:Str) (l1 m1:List Str):Prop where
 par:S'.par=S.par
 old:∀ u r,S.rows u=some r->S'.rows u=some r
 new:∀ u r,S'.rows u=some r->S.rows u=some r\/(∃ c∈l1,f c=some u/\NewRow S v w u r)\/(∃ c∈m1,f c=some u/\NewRow S w v u r)
 all:∀ c∈l1++m1,∀ q,f c=some q->∃ r,S'.rows q=some r
 inn:∀ u,InR f m (l1++m1) (S.bas u)->S'.bas u=m
 out:∀ u,¬ InR f m (l1++m1) (S.bas u)->S'.bas u=S.bas u
theorem cut_one {a b c d:List Str} {x:Str} (h:(a++x::b).Nodup) (e:a++x::b=c++x::d):a=c/\b=d:=by
 induction a generalizing c with
 | nil =>
  cases c with
  | nil=>exact ⟨rfl,(Y9 e).2⟩
  | cons y c =>
   obtain ⟨f,g⟩:=Y9 e;exact absurd (show x∈b by rw [g];simp) (yo.mp h).1
 | cons y a ih =>
  cases c with
  | nil =>
   obtain ⟨f,g⟩:=Y9 e;exact absurd (show y∈a++x::b by rw [f];simp) (yo.mp h).1
  | cons z c =>
   obtain ⟨f,g⟩:=Y9 e;obtain ⟨h1,i⟩:=ih (yo.mp h).2 g;exact ⟨by rw [f,h1],i⟩
theorem NewRow.ok (G:Gr A f) (I:FI A f S) {w:Str} {l:List Str} (hv:S.rows v=some rv) (hw:S.rows w=some rw) (h:Ch f S (S.bas v) l) (h':Ch f S (S.bas w) l') (n:l=l1++l2) (F:∀ d∈l1,d∉l') (E:A w v) (hb:S.bas w≠S.bas v) (hc:c∈l1) (J:f c=some u) (H:NewRow S v w u r) :
  Alt A f r u/\S.rows u=none/\∃ t,r=rw++t/\∀ x∈t,Cov f S l1 x:=by
 obtain ⟨K,L,rz,t,o,p,q,s⟩:=H;rw [hv] at o;cases o;rw [hw] at p;cases p;obtain ⟨a,b,m⟩:=Yp hc;obtain ⟨M,t',i,y,B,j⟩:=h.suf I hv (l1:=a) (c:=c) (l2:=b++l2) (by rw [n,m];simp) J;have hnd:=(I.alt v rv hv).nd;obtain ⟨C,D⟩:=cut_one (by rw [<- q];exact hnd) (q.symm.trans i);subst C;subst D;have sub:∀ d∈a++[c],d∈l1:=fun d z=>by rw [m];rcases yE.mp z with z | z;exact yH _ z;rw [yx.mp z];simp
 have inl:∀ d∈l1,d∈l:=fun d z=>by rw [n];exact yH _ z
 refine ⟨?_,B,_,s,fun x e=>(j x (Xf.mp e)).mono sub⟩;rw [s];refine Alt.back G (I.alt w rw hw) (I.alt v rv hv) i y E (fun z=>hb (I.pair hw hv z)) fun x e g=>?_;exact Cov.apart G I (fun d z=>h.bs0 I hv (inl d (sub d z))) (fun d z=>h'.bs0 I hw z) (fun d z=>F d (sub d z)) (j x g) (h'.cov G I hw e)
theorem FI.merge (G:Gr A f) (I:FI A f S) {w m:Str} (hv:S.rows v=some rv) (hw:S.rows w=some rw) (h:Ch f S (S.bas v) (l1++m::l2)) (h':Ch f S (S.bas w) (m1++m::l2)) (hd:∀ d∈l1,d∉m1++m::l2) (U:∀ d∈m1,d∉l1++m::l2) (ha:A v w) (hb:S.bas v≠S.bas w) (M:Mg f S S' v w m l1 m1):FI A f S':=by
 have hm:∃ r,S.rows m=some r/\S.bas m=m:=h.bs0 I hv (by simp);obtain ⟨P,H,W⟩:=hm
 have B:∀ c∈l1++m1,(∃ r,S.rows c=some r/\S.bas c=c)/\c≠m/\∃ q,f c=some q/\S.rows q=none:=fun c hc=>by
  rcases yE.mp hc with z | z
  .refine ⟨h.bs0 I hv (yH _ z),fun e=>hd c z (by rw [e];simp),?_⟩;obtain ⟨a,b,E⟩:=Yp z;obtain ⟨rc,_,D,o,p,_⟩:=h.up I hv rfl (l1:=a) (c:=c) (l2:=b++m::l2) (by rw [E];simp);generalize l:b++m::l2=x at p
   cases p with
   | root _=>exact absurd (congrArg List.length l) (by simp)
   | step e _ _=>exact ⟨_,e,(I.dwn _ _ _ D o e).1⟩
  .refine ⟨h'.bs0 I hw (yH _ z),fun e=>U c z (by rw [e];simp),?_⟩;obtain ⟨a,b,E⟩:=Yp z;obtain ⟨rc,_,D,o,p,_⟩:=h'.up I hw rfl (l1:=a) (c:=c) (l2:=b++m::l2) (by rw [E];simp);generalize l:b++m::l2=x at p
   cases p with
   | root _=>exact absurd (congrArg List.length l) (by simp)
   | step e _ _=>exact ⟨_,e,(I.dwn _ _ _ D o e).1⟩
 have cov:∀ u,Cov f S (l1++m1) u->S'.bas u=m:=fun u ⟨d,hd,z⟩=>by
  refine M.inn u ?_;rcases z with z | z
  .exact .inr ⟨d,hd,.inl z⟩
  .have hn:=(B d hd).2.2;obtain ⟨q,e,F⟩:=hn;rw [z] at e;cases e;rw [I.own F];exact .inr ⟨d,hd,.inr z⟩
 have K:∀ u,Cov f S l1 u->S'.bas u=m:=fun u z=>cov u (z.mono fun d y=>yH _ y);have L:∀ u,Cov f S m1 u->S'.bas u=m:=fun u z=>cov u (z.mono fun d y=>yP _ y);have bm:∀ u,S.bas u=m->S'.bas u=m:=fun u z=>M.inn u (.inl z);have m0:S'.bas m=m:=bm m W;have Z:=M.old m P H
 have J:∀ {x:Str} {rx a b:List Str},S.rows x=some rx->Ch f S (S.bas x) (a++m::b)->(∀ d∈a,d∈l1++m1)->∃ t,rx=P++t/\∀ u∈t,S'.bas u=m:=fun {x rx a b} l hc hs=>by
  obtain ⟨rc,t,D,_,_,R,g5⟩:=hc.up I l rfl rfl;rw [H] at D;cases D;exact ⟨t,R,fun u j=>(g5 u j).elim (bm u) fun z=>cov u (z.mono hs)⟩
 have nw:∀ u r,(∃ c∈l1,f c=some u/\NewRow S v w u r)\/(∃ c∈m1,f c=some u/\NewRow S w v u r)->Alt A f r u/\S.rows u=none/\S'.bas u=m/\∃ t,r=P++t/\∀ x∈t,S'.bas x=m:=fun u r z=>by
  rcases z with ⟨c,hc,j,C⟩ | ⟨c,hc,j,C⟩
  .obtain ⟨D,o,t,p,R⟩:=NewRow.ok G I hv hw h h' rfl hd (G.as ha) (Yh hb) hc j C;obtain ⟨t0,p1,p2⟩:=J hw h' fun d y=>yP _ y;exact ⟨D,o,K u ⟨c,hc,.inr j⟩,t0++t,by rw [p,p1];simp,fun x l=>(yE.mp l).elim (p2 x) fun y=>K x (R x y)⟩
  .obtain ⟨D,o,t,p,R⟩:=NewRow.ok G I hw hv h' h rfl U ha hb hc j C;obtain ⟨t0,p1,p2⟩:=J hv h fun d y=>yH _ y;exact ⟨D,o,L u ⟨c,hc,.inr j⟩,t0++t,by rw [p,p1];simp,fun x l=>(yE.mp l).elim (p2 x) fun y=>L x (R x y)⟩
 have af:∀ u r,S.rows u=some r->InR f m (l1++m1) (S.bas u)->S.bas u=m\/S.bas u∈l1++m1:=fun u r j z=>by
  rcases z with z | ⟨c,hc,z | z⟩
  .exact .inl z
  .exact .inr (by rw [z];exact hc)
  .obtain ⟨q,e,F⟩:=(B c hc).2.2;rw [z] at e;cases e;obtain ⟨rb,n⟩:=I.evb j;rw [F] at n;cases n
 refine ⟨fun u r j=>?_,fun u r j=>?_,fun u r j=>?_,fun b r q aa O F=>?_,fun u j=>?_,fun x z l=>?_⟩
 .rcases M.new u r j with z | z
  .exact I.alt u r z
  .exact (nw u r z).1
 .rcases M.new u r j with z | z
  .by_cases i:InR f m (l1++m1) (S.bas u)
   .rw [M.inn u i];refine ⟨P,?_⟩
    have:∃ t,r=P++t/\∀ x∈t,S'.bas x=m:=by
     rcases af u r z i with y | y
     .obtain ⟨rb,t,N,n,e3⟩:=I.bse u r z;rw [y,H] at N;cases N;exact ⟨t,n,fun x l=>bm x ((e3 x l).trans y)⟩
     .rcases yE.mp y with y | y
      .obtain ⟨a,b,E⟩:=Yp y;obtain ⟨_,_,_,_,g,_⟩:=h.up I hv rfl (l1:=a) (c:=S.bas u) (l2:=b++m::l2) (by rw [E];simp);exact J z (a:=S.bas u::b) (by simpa using g) fun d hd=>by rw [E];rcases yB.mp hd with rfl | hd<;>simp [*]
      .obtain ⟨a,b,E⟩:=Yp y;obtain ⟨_,_,_,_,g,_⟩:=h'.up I hw rfl (l1:=a) (c:=S.bas u) (l2:=b++m::l2) (by rw [E];simp);exact J z (a:=S.bas u::b) (by simpa using g) fun d hd=>by rw [E];rcases yB.mp hd with rfl | hd<;>simp [*]
    obtain ⟨t,N,n⟩:=this;exact ⟨t,Z,N,n⟩
   .rw [M.out u i];obtain ⟨rb,t,N,n,e3⟩:=I.bse u r z;exact ⟨rb,t,M.old _ _ N,n,fun x l=>by rw [M.out x (by rw [e3 x l];exact i)];exact e3 x l⟩
  .obtain ⟨_,_,e,t,N,n⟩:=nw u r z;rw [e];exact ⟨P,t,Z,N,n⟩
 .by_cases i:InR f m (l1++m1) (S.bas u)
  .rw [M.inn u i];exact m0
  .rw [M.out u i];rcases M.new u r j with z | z
   .have e:=I.idm u r z;rw [M.out _ (by rw [e];exact i)];exact e
   .obtain ⟨_,o,_⟩:=nw u r z;have e:=I.own o;rw [e,M.out u (by rw [e] at i ⊢;exact i)];exact e
 .have ac:S.bas b=b/\(b=m\/¬ InR f m (l1++m1) (S.bas b)):=by
   by_cases i:InR f m (l1++m1) (S.bas b)
   .have:=M.inn b i;rw [O] at this;rw [this];exact ⟨W,.inl rfl⟩
   .have:=M.out b i;rw [O] at this;exact ⟨this.symm,.inr i⟩
  obtain ⟨T,ad⟩:=ac
  have C:S.rows b=some r:=by
   rcases M.new b r aa with z | z
   .exact z
   .exfalso;obtain ⟨_,o,p,_⟩:=nw b r z;rw [O] at p;rw [p,H] at o;cases o
  obtain ⟨k1,z,rz,k2,k3,k4⟩:=I.dwn b r q C T F;refine ⟨?_,z,rz,by rw [M.par];exact k2,M.old _ _ k3,k4⟩
  cases e:S'.rows q with
  | none=>rfl
  | some s =>
   exfalso
   have Y:∀ c∈l1++m1,f c=some q->False:=fun c hc ae=>by
    have:=G.fs ae;rw [G.fs F] at this;have n:=ym this;subst n;rcases ad with y | y
    .exact (B b hc).2.1 y
    .exact y (.inr ⟨b,hc,.inl T⟩)
   rcases M.new q s e with y | ⟨c,hc,y,_⟩ | ⟨c,hc,y,_⟩
   .rw [k1] at y;cases y
   .exact Y c (yH _ hc) y
   .exact Y c (yP _ hc) y
 .by_cases i:InR f m (l1++m1) (S.bas u)
  .rw [M.inn u i] at j ⊢;by_cases X:S.bas u=u
   .rw [X] at i;rcases i with z | ⟨c,hc,z | z⟩
    .exact absurd z.symm j
    .subst z;obtain ⟨⟨r,C,_⟩,_,q,F,_⟩:=B u hc;exact ⟨⟨r,M.old _ _ C⟩,q,F,cov q ⟨u,hc,.inr F⟩⟩
    .exact ⟨M.all c hc u z,c,G.fs z,cov c ⟨c,hc,.inl (B c hc).1.choose_spec.2⟩⟩
   .obtain ⟨⟨r,C⟩,y,hy,e⟩:=I.mat u X;exact ⟨⟨r,M.old _ _ C⟩,y,hy,M.inn y (by rw [e];exact i)⟩
  .rw [M.out u i] at j ⊢;obtain ⟨⟨r,C⟩,y,hy,e⟩:=I.mat u j;exact ⟨⟨r,M.old _ _ C⟩,y,hy,by rw [M.out y (by rw [e];exact i)];exact e⟩
 .rw [M.par] at l;obtain ⟨k1,⟨r,k2⟩,y,s,k3,k4⟩:=I.odd x z l;exact ⟨k1,⟨r,M.old _ _ k2⟩,y,s,k3,M.old _ _ k4⟩
end
structure Aug (A:Str->Str->Prop) (f:Str->Option Str) (r:List Str):Prop where
 nd:r.Nodup
 two:2<=r.length
 ev:r.length % 2=0
 st:Turns A f r
 hd:∀ s,r[0]?=some s->f s=none
 tl:∀ s,r[r.length-1]?=some s->f s=none
section
variable {A:Str->Str->Prop} {f:Str->Option Str} {S S':FS}
theorem FI.aug (G:Gr A f) (I:FI A f S) {w:Str} {l:List Str} (hv:S.rows v=some rv) (hw:S.rows w=some rw) (h:Ch f S (S.bas v) l) (h':Ch f S (S.bas w) l') (hl:l.getLast?≠l'.getLast?) (F:A v w):Aug A f (rv++rw.reverse):=by
 have n:∀ d∈l,d∉l':=fun d H p=>by
  obtain ⟨a,b,e⟩:=Yp H;obtain ⟨x,y,q⟩:=Yp p;obtain ⟨_,_,_,_,k,_⟩:=h.up I hv rfl e;obtain ⟨_,_,_,_,k',_⟩:=h'.up I hw rfl q;have:=k.one k';exact hl (by rw [e,q,this,List.getLast?_append,List.getLast?_append];rfl)
 have c:=I.alt v rv hv;have g:=I.alt w rw hw;obtain ⟨P,r⟩:=c.tl;obtain ⟨R,u⟩:=g.tl;have L:0<rv.length:=by rw [r];simp
 have M:0<rw.length:=by rw [u];simp
 have N:=c.odd;have O:=g.odd
 have J:f v≠some w:=fun z=>by
  have e:=I.pair hv hw z;have:=h.one (e ▸ h');rw [this] at hl;exact hl rfl
 have at_:∀ {j:Nat} {a:Str},rw.reverse[j]?=some a->j<rw.length/\rw[rw.length-1-j]?=some a:=fun {j a} e=>by
  have hl:=(yc.mp e).1;rw [Yq] at hl;rw [xX hl] at e;exact ⟨hl,e⟩
 refine ⟨yV.mpr ⟨c.nd,(kt _).nodup_iff.mpr g.nd,fun x K y B e=>?_⟩,by rw [yt,Yq];omega,by rw [yt,Yq];omega,c.st.app (fun j a b h1 o=>?_) fun a b h1 o _=>?_,fun s i=>?_,fun s i=>?_⟩
 .rw [<- e] at B;exact Cov.apart G I (fun d z=>h.bs0 I hv z) (fun d z=>h'.bs0 I hw z) n (h.cov G I hv K) (h'.cov G I hw (Xf.mp B))
 .obtain ⟨l1,C⟩:=at_ h1;obtain ⟨l2,m⟩:=at_ o;have:=g.st (rw.length-1-(j+1)) b a m (by rw [show rw.length-1-(j+1)+1=rw.length-1-j by omega];exact C);refine ⟨G.as this.1,⟨fun z=>?_,fun z=>?_⟩⟩
  .have:=this.2.mp (G.fs z);omega
  .exact G.fs (this.2.mpr (by omega))
 .have D:a=v:=by
   rw [r,yt,yG (by simp)] at h1;simpa using h1.symm
  have E:b=w:=by
   obtain ⟨_,m⟩:=at_ o;rw [kR,u,yt,yG (by simp)] at m;simpa using m.symm
  subst D;subst E;exact ⟨F,⟨fun z=>absurd z J,fun z=>by omega⟩⟩
 .rw [y8 L] at i;exact c.hd s i
 .rw [yt,Yq,yG (by omega),show rv.length+rw.length-1-rv.length=rw.length-1 by omega] at i;obtain ⟨_,e⟩:=at_ i;rw [Xw] at e;exact g.hd s e
structure Gw (S S':FS) (p u y:Str) (r:List Str):Prop where
 ry:S'.rows y=some (r++[u,y])
 ro:∀ s,s≠y->S'.rows s=S.rows s
 pu:S'.par u=some p
 po:∀ s,s≠u->S'.par s=S.par s
 ba:S'.bas=S.bas
theorem FI.fresh (G:Gr A f) (I:FI A f S) (a:S.rows u=none) (g:S.par u=none) (c:f u=some y):S.rows y=none:=by
 cases e:S.rows y with
 | none=>rfl
 | some s =>
  exfalso;by_cases z:S.bas y=y
  .obtain ⟨_,_,_,k,_⟩:=I.dwn y s u e z (G.fs c);rw [g] at k;cases k
  .obtain ⟨_,x,b,k⟩:=I.mat y z;rw [G.fs c] at b;cases b;rw [I.own a] at k;obtain ⟨h,d⟩:=I.evb e;rw [<- k,a] at d;cases d
theorem FI.grow (G:Gr A f) (I:FI A f S) {p:Str} (o:S.rows p=some r) (O:A p u) (w:S.rows u=none) (K:S.par u=none) (n:f u=some y) (W:Gw S S' p u y r):FI A f S':=by
 have c:=I.fresh G w K n;have R:u≠y:=G.ir (G.fa n);have py:p≠y:=fun z=>by rw [z,c] at o;cases o
 have g:∀ s t,S.rows s=some t->S'.rows s=some t:=fun s t e=>by rw [W.ro s (fun z=>by rw [z,c] at e;cases e)];exact e
 have new:∀ s t,S'.rows s=some t->(s=y/\t=r++[u,y])\/(s≠y/\S.rows s=some t):=fun s t e=>by
  by_cases z:s=y
  .subst z;rw [W.ry] at e;exact .inl ⟨rfl,(ym e).symm⟩
  .rw [W.ro s z] at e;exact .inr ⟨z,e⟩
 obtain ⟨l,hl⟩:=I.chainOf o
 have C:∀ x∈r,x≠u/\x≠y:=fun x D=>by
  obtain ⟨d,U,z⟩:=hl.cov G I o D;obtain ⟨rd,i,m⟩:=hl.bs0 I o U;refine ⟨fun e=>?_,fun e=>?_⟩
  .rw [e] at z;rcases z with z | z
   .rw [I.own w] at z;rw [z,i] at w;cases w
   .obtain ⟨_,_,_,k,_⟩:=I.dwn d rd u i m z;rw [K] at k;cases k
  .rw [e] at z;rcases z with z | z
   .rw [I.own c] at z;rw [z,i] at c;cases c
   .have:=G.fs z;rw [G.fs n] at this;rw [ym this,i] at w;cases w
 have B:=I.alt p r o;obtain ⟨r0,N⟩:=B.tl;have L:0<r.length:=by rw [N];simp
 refine ⟨fun v t e=>?_,fun v t e=>?_,fun v t e=>?_,fun b t q e hb F=>?_,fun v e=>?_,fun x z e=>?_⟩
 .rcases new v t e with ⟨rfl,rfl⟩ | ⟨_,e⟩
  .refine ⟨yV.mpr ⟨B.nd,by simp [R],fun x D z hz E=>?_⟩,by rw [yt];have:=B.odd;simp only [yC,xo];omega,fun s P=>?_,⟨r++[u],by simp⟩,B.st.app (fun j a b h1 J=>?_) fun a b h1 J _=>?_⟩
   .obtain ⟨Y,Z⟩:=C x D;simp only [yB,Yd,Y0] at hz;rcases hz with rfl | rfl
    .exact Y E
    .exact Z E
   .rw [y8 L] at P;exact B.hd s P
   .have X:j=0:=by have:=(yc.mp J).1;simp at this;omega
    subst X;cases h1;cases J;exact ⟨G.fa n,⟨fun _=>by have:=B.odd;omega,fun _=>n⟩⟩
   .cases J
    have T:a=p:=by
     rw [N,yt,yG (by simp)] at h1;simpa using h1.symm
    subst T;refine ⟨O,⟨fun z=>?_,fun z=>by have:=B.odd;omega⟩⟩;have:=G.fs z;rw [n] at this;exact absurd (ym this).symm py
  .exact I.alt v t e
 .rw [W.ba];rcases new v t e with ⟨rfl,rfl⟩ | ⟨_,e⟩
  .rw [I.own c];exact ⟨_,[],W.ry,by simp,(fun x h=>by cases h)⟩
  .obtain ⟨rb,s,i,m,H⟩:=I.bse v t e;exact ⟨rb,s,g _ _ i,m,H⟩
 .rw [W.ba];rcases new v t e with ⟨rfl,rfl⟩ | ⟨_,e⟩
  .rw [I.own c,I.own c]
  .exact I.idm v t e
 .rw [W.ba] at hb;rcases new b t e with ⟨rfl,rfl⟩ | ⟨_,e⟩
  .rw [G.fs n] at F;cases F;exact ⟨by rw [W.ro u R];exact w,p,r,W.pu,g _ _ o,rfl⟩
  .obtain ⟨i,z,rz,m,H,M⟩:=I.dwn b t q e hb F;refine ⟨?_,z,rz,?_,g _ _ H,M⟩
   .rw [W.ro q fun z=>?_]
    .exact i
    .rw [z] at F;have:=G.fs F;rw [G.fs n] at this;rw [<- ym this,w] at e;cases e
   .rw [W.po q fun z=>?_]
    .exact m
    .rw [z,K] at m;cases m
 .rw [W.ba] at e ⊢;obtain ⟨⟨t,i⟩,m⟩:=I.mat v e;exact ⟨⟨t,g _ _ i⟩,m⟩
 .by_cases D:x=u
  .subst D;rw [W.pu] at e;cases e;exact ⟨O,⟨r,g _ _ o⟩,y,_,n,W.ry⟩
  .rw [W.po x D] at e;obtain ⟨i,⟨t,m⟩,y',s,H,M⟩:=I.odd x z e;exact ⟨i,⟨t,g _ _ m⟩,y',s,H,g _ _ M⟩
theorem FI.start (h1:∀ v r,S.rows v=some r->f v=none/\r=[v]) (d:∀ x,S.par x=none) (c:∀ v,S.bas v=v):FI A f S:=by
 refine ⟨fun v r e=>?_,fun v r e=>?_,fun v r e=>by rw [c,c],fun b r q e _ g=>?_,fun v e=>absurd (c v) e,fun x z e=>by rw [d] at e;cases e⟩
 .obtain ⟨k,rfl⟩:=h1 v r e;refine ⟨by simp,rfl,fun s i=>by cases i;exact k,⟨[],rfl⟩,fun j a b h1 d=>?_⟩;simp at d
 .exact ⟨r,[],by rw [c];exact e,by simp,(fun x h=>by cases h)⟩
 .rw [(h1 b r e).1] at g;cases g
end
structure CI (A:Str->Str->Prop) (S:FS) (Pd:Str->Prop):Prop where
 cl:∀ v u,Pd v->A v u->S.bas u=S.bas v\/(S.par u≠none/\¬ Pd u)
 pe:∀ v,Pd v->S.rows v≠none
theorem CI.mono (h:CI A S Pd) (hb:∀ u v,S.bas u=S.bas v->S'.bas u=S'.bas v) (b:∀ u,S.par u≠none->S'.par u≠none) (c:∀ u,S.rows u≠none->S'.rows u≠none):CI A S' Pd:=
 ⟨fun v u k a=>(h.cl v u k a).imp (hb u v) fun z=>⟨b u z.1,z.2⟩,fun v k=>c v (h.pe v k)⟩
theorem qdd:∀ {l m:List Str},l.Nodup->(∀ x∈l,x∈m)->l.length<=m.length
 | [],_,_,_=>YH _
 | x::r,m,hn,hs=>by
  obtain ⟨h1,c⟩:=yo.mp hn;have a:=hs x yN;have:=qdd (l:=r) (m:=m.erase x) c fun y b=>(Xd (fun e=>h1 (by rw [<- e];exact b))).mpr (hs y (yz _ b));rw [YQ a] at this;have:0<m.length:=YW a;simp only [yC];omega
theorem qfF:∀ (n:Nat) {X:List Str},X.length<=n->X.Nodup->(∀ x∈X,∃ y∈X,g x=some y/\y≠x/\g y=some x)->X.length % 2=0
 | _,[],_,_,_=>rfl
 | 0,x::r,h,_,_=>by simp at h
 | n+1,x::r,h,hn,hp=>by
  obtain ⟨h1,d⟩:=yo.mp hn;obtain ⟨y,p,j,i,l⟩:=hp x yN;have c:y∈r:=(yB.mp p).resolve_left i;have hl:=YQ c;have v:0<r.length:=YW c
  have:=qfF n (X:=r.erase y) (by simp at h;omega) (d.erase y) fun z hz=>by
   have a:=(d.mem_erase_iff.mp hz);obtain ⟨u,o,m,f,b⟩:=hp z (yz _ a.2);have q:u≠x:=fun e=>by rw [e,j] at b;exact a.1 (ym b).symm
   have s:u≠y:=fun e=>by rw [e,l] at b;exact h1 (by rw [ym b];exact a.2)
   exact ⟨u,d.mem_erase_iff.mpr ⟨s,(yB.mp o).resolve_left q⟩,m,f,b⟩
  simp only [yC];omega
structure Fn (A:Str->Str->Prop) (f:Str->Option Str) (S:FS) (ss:List Str):Prop where
 fi:FI A f S
 gr:Gr A f
 inn:∀ a b,A a b->a∈ss
 nd:ss.Nodup
 cl:∀ v u,S.rows v≠none->A v u->S.bas u=S.bas v\/(S.par u≠none/\S.rows u=none)
 sng:∀ z∈ss,f z=none->S.rows z≠none
 es:∀ v,S.rows v≠none->v∈ss
noncomputable def qe2 (S:FS) (ss:List Str) (b:Str):List Str:=ss.filter fun u=>(S.rows u).isSome&&decide (S.bas u=b)
noncomputable def qbL (S:FS) (ss:List Str):List Str:=ss.filter fun u=>(S.rows u).isSome&&decide (S.bas u=u)
noncomputable def qeS (S:FS) (ss:List Str):List Str:=ss.filter fun u=>(S.par u).isSome&&!(S.rows u).isSome
noncomputable def snL (g:Str->Option Str) (ss:List Str):List Str:=ss.filter fun u=>!(g u).isSome
section
variable {A:Str->Str->Prop} {f g:Str->Option Str} {S:FS} {ss:List Str}
theorem isS {o:Option α}:o.isSome=true↔o≠none:=by cases o<;>simp
theorem mem_cls {b:Str}:u∈qe2 S ss b↔u∈ss/\S.rows u≠none/\S.bas u=b:=by
 unfold qe2;rw [yp,yU,isS,yJ]
theorem mem_bas:u∈qbL S ss↔u∈ss/\S.rows u≠none/\S.bas u=u:=by
 unfold qbL;rw [yp,yU,isS,yJ]
theorem mem_bar:u∈qeS S ss↔u∈ss/\S.par u≠none/\S.rows u=none:=by
 unfold qeS;rw [yp,yU,isS];cases S.rows u<;>simp
theorem mem_sn:u∈snL g ss↔u∈ss/\g u=none:=by
 unfold snL;rw [yp];cases g u<;>simp
theorem some_of {o:Option α} (h:o≠none):∃ r,o=some r:=by cases o with | none=>exact absurd rfl h | some r=>exact ⟨r,rfl⟩
theorem FI.evE (I:FI A f S) (hv:S.rows v≠none) (e:S.bas u=S.bas v):S.rows u≠none:=fun a=>by
 obtain ⟨r,b⟩:=some_of hv;obtain ⟨c,hb⟩:=I.evb b;rw [I.own a] at e;rw [<- e,a] at hb;cases hb
theorem Fn.cls_odd (F:Fn A f S ss) {b:Str} (hb:b∈qbL S ss):(qe2 S ss b).length % 2=1:=by
 obtain ⟨n,i,j⟩:=mem_bas.mp hb;have a:b∈qe2 S ss b:=mem_cls.mpr ⟨n,i,j⟩;have hnd:(qe2 S ss b).Nodup:=F.nd.filter _
 have:=qfF (g:=f) _ (X:=(qe2 S ss b).erase b) (yh _) (hnd.erase b) fun z hz=>by
  obtain ⟨p,hz⟩:=hnd.mem_erase_iff.mp hz;obtain ⟨q,l,m⟩:=mem_cls.mp hz;obtain ⟨_,u,c,d⟩:=F.fi.mat z (fun e=>p (e.symm.trans m));have h:=F.fi.evE l d;refine ⟨u,hnd.mem_erase_iff.mpr ⟨fun e=>?_,mem_cls.mpr ⟨F.es u h,h,d.trans m⟩⟩,c,Yh (F.gr.ir (F.gr.fa c)),F.gr.fs c⟩;obtain ⟨r,o⟩:=some_of i;rw [e] at c;exact l (F.fi.dwn b r z o j (F.gr.fs c)).1
 rw [YQ a] at this;have:=YW a;omega
theorem Fn.count (F:Fn A f S ss):(qbL S ss).length=(snL f ss).length+(qeS S ss).length:=by
 have hb:(qbL S ss).Nodup:=F.nd.filter _
 have e:(qbL S ss).length=((qbL S ss).filter fun b=>!(f b).isSome).length+((qbL S ss).filter fun b=>(f b).isSome).length:=by
  generalize qbL S ss=l
  induction l with
  | nil=>rfl
  | cons x r ih =>
   rw [yS,yS,yC,ih];cases (f x).isSome
   .rw [yD (show (!false)=true from rfl),yy Yn,yC];omega
   .rw [yy (show ¬ (!true)=true by decide),yD (show true=true from rfl),yC];omega
 rw [e];have D:((qbL S ss).filter fun b=>!(f b).isSome).length=(snL f ss).length:=xU
  (qdd (hb.filter _) fun x c=>by
   obtain ⟨h1,d⟩:=yp.mp c;refine mem_sn.mpr ⟨(mem_bas.mp h1).1,?_⟩
   cases e:f x with
   | none=>rfl
   | some y=>rw [e] at d;cases d)
  (qdd (F.nd.filter _) fun x c=>by
   obtain ⟨h1,d⟩:=mem_sn.mp c;refine yp.mpr ⟨mem_bas.mpr ⟨h1,F.sng x h1 d,YE fun z=>?_⟩,by rw [d];rfl⟩;obtain ⟨_,u,i,_⟩:=F.fi.mat x z;rw [d] at i;cases i)
 have E:((qbL S ss).filter fun b=>(f b).isSome).length=(qeS S ss).length:=by
  have inj:(((qbL S ss).filter fun b=>(f b).isSome).map fun b=>(f b).getD "").Nodup:=by
   refine ku.mpr (Y2 (fun {a b} G g o e=>?_) (hb.filter _));obtain ⟨x,c⟩:=Y1.mp (yp.mp G).2;obtain ⟨y,w⟩:=Y1.mp (yp.mp g).2;rw [c,w] at e;have n:x=y:=e;have k:=F.gr.fs c;rw [n,F.gr.fs w] at k;exact o (ym k).symm
  refine xU ?_ ?_
  .have:=qdd inj (m:=qeS S ss) fun q p=>?_
   rwa [ya] at this
   obtain ⟨b,g,rfl⟩:=Ye.mp p;obtain ⟨h1,d⟩:=yp.mp g;obtain ⟨x,c⟩:=Y1.mp d;obtain ⟨L,B,C⟩:=mem_bas.mp h1;obtain ⟨r,H⟩:=some_of B;obtain ⟨j,z,rz,v,_⟩:=F.fi.dwn b r x H C c;rw [c];have I:S.par x≠none:=by rw [v];exact fun e=>by cases e
   show x∈qeS S ss;exact mem_bar.mpr ⟨F.inn _ _ (F.gr.as (F.gr.fa c)),I,j⟩
  .have:(qeS S ss).length<=(((qbL S ss).filter fun b=>(f b).isSome).map fun b=>(f b).getD "").length:=qdd (F.nd.filter _) fun q p=>?_
   rwa [ya] at this
   obtain ⟨M,J,K⟩:=mem_bar.mp p;obtain ⟨z,hz⟩:=some_of J;obtain ⟨_,_,y,r,j,v⟩:=F.fi.odd q z hz;have h:S.rows y≠none:=by rw [v];exact fun e=>by cases e
   refine Ye.mpr ⟨y,yp.mpr ⟨mem_bas.mpr ⟨F.es y h,h,YE fun e=>?_⟩,by rw [F.gr.fs j];rfl⟩,by rw [F.gr.fs j];rfl⟩;obtain ⟨_,u,i,s⟩:=F.fi.mat y e;rw [F.gr.fs j] at i;cases i;exact F.fi.evE h s K
 rw [D,E]
theorem Fn.most (F:Fn A f S ss) (l:Gr A g):(snL f ss).length<=(ss.filter fun u=>!(g u).isSome&&(S.rows u).isSome).length:=by
 have key:∀ b∈qbL S ss,∃ v∈qe2 S ss b,g v=none\/∃ w,g v=some w/\w∈qeS S ss:=fun b hb=>YE fun p=>by
  have C:=F.cls_odd hb
  have:=qfF (g:=g) _ (X:=qe2 S ss b) (yh _) (F.nd.filter _) fun v hv=>by
   obtain ⟨D,r,E⟩:=mem_cls.mp hv
   cases e:g v with
   | none=>exact absurd ⟨v,hv,.inl e⟩ p
   | some w =>
    have hw:=l.as (l.fa e);rcases F.cl v w r (l.fa e) with z | ⟨z1,z2⟩
    .have q:=F.fi.evE r z;exact ⟨w,mem_cls.mpr ⟨F.es w q,q,z.trans E⟩,rfl,Yh (l.ir (l.fa e)),l.fs e⟩
    .exact absurd ⟨v,hv,.inr ⟨w,e,mem_bar.mpr ⟨F.inn _ _ hw,z1,z2⟩⟩⟩ p
  omega
 obtain ⟨j,i⟩:∃ j:Str->Str,∀ b∈qbL S ss,j b∈qe2 S ss b/\(g (j b)=none\/∃ w,g (j b)=some w/\w∈qeS S ss):=
  ⟨fun b=>@dite _ (b∈qbL S ss) (Classical.propDecidable _) (fun h=>(key b h).choose) fun _=>b,fun b hb=>by
   dsimp only;rw [dif_pos hb];exact ⟨(key b hb).choose_spec.1,(key b hb).choose_spec.2⟩⟩
 have inj:∀ a∈qbL S ss,∀ b∈qbL S ss,j a=j b->a=b:=fun a m b hb e=>by
  have h1:=(mem_cls.mp (i a m).1).2.2;have G:=(mem_cls.mp (i b hb).1).2.2;rw [<- h1,<- G,e]
 have hb:(qbL S ss).Nodup:=F.nd.filter _
 have s:(qbL S ss).length<=((ss.filter fun u=>!(g u).isSome&&(S.rows u).isSome)++qeS S ss).length:=by
  rw [<- ya (f:=fun b=>(g (j b)).getD (j b))];refine qdd (ku.mpr (Y2 (fun {a b} m d o e=>?_) hb)) fun x H=>?_
  .have B:∀ c∈qbL S ss,S.rows (j c)≠none:=fun c hc=>(mem_cls.mp (i c hc).1).2.1;rcases (i a m).2 with z | ⟨w,z,hw⟩<;>rcases (i b d).2 with y | ⟨u,y,hu⟩
   .rw [z,y] at e;exact o (inj a m b d e)
   .rw [z,y] at e;have n:j a=u:=e;exact B a m (by rw [n];exact (mem_bar.mp hu).2.2)
   .rw [z,y] at e;have n:w=j b:=e;exact B b d (by rw [<- n];exact (mem_bar.mp hw).2.2)
   .rw [z,y] at e;have n:w=u:=e;have k:=l.fs z;rw [n,l.fs y] at k;exact o (inj a m b d (ym k).symm)
  .obtain ⟨b,d,rfl⟩:=Ye.mp H;obtain ⟨D,r,E⟩:=mem_cls.mp (i b d).1;rcases (i b d).2 with z | ⟨w,z,hw⟩
   .rw [z];exact yH _ (yp.mpr ⟨D,by show (!(g (j b)).isSome&&(S.rows (j b)).isSome)=true;rw [z,isS.mpr r];rfl⟩)
   .rw [z];exact yP _ hw
 rw [F.count,yt] at s;omega
end
theorem qdM {t:Str}:∀ {qs:List (Str×Str)},pt qs s=some t->(s,t)∈qs\/(t,s)∈qs
 | [],h=>by cases h
 | q::r,h=>by
  unfold pt at h;split at h
  .rename_i e;cases h;exact .inl (by rw [<- e];simp)
  .split at h
   .rename_i e;cases h;exact .inr (by rw [<- e];simp)
   .rcases qdM h with z | z
    .exact .inl (yz _ z)
    .exact .inr (yz _ z)
theorem qgc:∀ {qs:List (Str×Str)},(qB qs).Nodup->∀ {a b:Str},(a,b)∈qs\/(b,a)∈qs->pt qs a=some b
 | [],_,a,b,m=>by rcases m with z | z<;>cases z
 | q::r,h,a,b,m=>by
  have hnd:(q.1::q.2::qB r).Nodup:=h;obtain ⟨g,l⟩:=yo.mp hnd;obtain ⟨n,o⟩:=yo.mp l;have inr:∀ {x y:Str},(x,y)∈r->x∈qB r/\y∈qB r:=fun d=>⟨xN.mpr ⟨_,d,by simp⟩,xN.mpr ⟨_,d,by simp⟩⟩;unfold pt
  have c:(a,b)∈r\/(b,a)∈r->(if q.1=a then some q.2 else if q.2=a then some q.1 else pt r a)=some b:=fun j=>by
   have i:a∈qB r:=j.elim (fun z=>(inr z).1) fun z=>(inr z).2;rw [yy (fun z=>g (by rw [z];exact yz _ i)),yy (fun z=>n (by rw [z];exact i))];exact qgc o j
  rcases m with z | z
  .rcases yB.mp z with z | z
   .subst z;rw [yD rfl]
   .exact c (.inl z)
  .rcases yB.mp z with z | z
   .subst z;have f:b≠a:=fun e=>g (by show b∈a::_;rw [e];exact yN);rw [yy f,yD rfl]
   .exact c (.inr z)
theorem qeu (h:(qB qs).Nodup) {b:Str}:pt qs a=some b↔(a,b)∈qs\/(b,a)∈qs:=⟨qdM,qgc h⟩
theorem qev (h:(qB qs).Nodup) {b:Str}:pt qs a=some b↔pt qs b=some a:=by
 rw [qeu h,qeu h,Or.comm]
theorem qew {x y:Option Str} (h:∀ b,x=some b↔y=some b):x=y:=by
 cases x with
 | none=>cases y with
  | none=>rfl
  | some b=>exact absurd ((h b).mpr rfl) (fun z=>by cases z)
 | some a=>exact ((h a).mp rfl).symm
theorem uq:FnScope ["self","place","row"] ["self","place","row"] (qh jT):=fS
structure Fo where
 x:Addr
 b:Addr
 dp:Addr
 dr:Addr
 da:Addr
 ds:Addr
 dg:Addr
 dw:Addr
 ex:List Addr
noncomputable def Fo.six (a:Fo):List Addr:=[a.x,a.dr,a.da,a.ds,a.dg,a.dw]
noncomputable def Fo.all (a:Fo):List Addr:=a.six++a.ex
noncomputable def Fo.tab (a:Fo) (lo:V):List (Str×V):=[("board",.ref a.b),("partners",.ref a.dp),("rows",.ref a.dr),("parents",.ref a.da),("bases",.ref a.ds),("rings",.ref a.dg),("waiting",.ref a.dw),("longer",lo)]
def Bx (l:List Addr) (H H':Hp):Prop:=∀ c o,c∉l->H c=some o->H' c=some o
def RowV (H:Hp) (l:List Addr) (o:Option V):Option (List Str)->Prop
 | none=>o=none
 | some r=>∃ t,o=some (.ref t)/\H t=some (.lst (r.map V.str))/\t∉l
def FoO (b:Addr) (H:Hp) (a:Fo) (lo:V):Prop:=∃ dx fs,H a.x=some (.ins b dx fs)/\fs.length<=9/\(lo=.non->fs.length<=8)/\(∀ f v,(f,v)∈a.tab lo->fs.lookup f=some v)/\∀ f,f∉fAtt->fs.lookup f=none
structure FoA (cf cw:Addr) (H0 H:Hp) (a:Fo) (ss:List Str) (ns:List Nat) (qs:List (Str×Str)) (S:FS) (bs dn wt:List Str) (lo:V):Prop where
 sm:L2.Same H0 H
 web:WebAt cw H0 a.b ss ns
 prt:H0 a.dp=some (.dK (prK qs))
 fr:∀ c∈a.six,H0 c=none
 nd:[a.dr,a.da,a.ds,a.dg,a.dw].Nodup
 exf:∀ c∈a.ex,H0 c=none/\c∉a.six/\∃ o,H c=some o
 obj:FoO cf H a lo
 row:∃ kvs,H a.dr=some (.dK kvs)/\kvs.length<=(dn++wt).length/\∀ s,RowV H a.all (jP kvs (.inr s:Key)) (S.rows s)
 par:∃ kvs,H a.da=some (.dK kvs)/\(∃ po:List Str,kvs.length<=po.length/\po.Nodup/\∀ u∈po,u∈ss/\S.par u≠none)/\∀ s,jP kvs (.inr s:Key)=(S.par s).map V.str
 bas:∃ kvs,H a.ds=some (.dK kvs)/\kvs.length<=bs.length/\∀ s∈bs,jP kvs (.inr s:Key)=some (.str (S.bas s))
 rng:∃ xs,H a.dg=some (.lst xs)/\xs.length<=(dn++wt).length
 wai:H a.dw=some (.lst (wt.map V.str))
 evn:(dn++wt).Nodup
 evi:∀ v,v∈dn++wt↔S.rows v≠none
 evs:∀ v∈dn++wt,v∈ss
theorem RowV.mono {l:List Addr} {o:Option V} {r:Option (List Str)} (h:RowV H l o r) {m:List Addr} (k:Bx m H H') (d:∀ c∈m,c∈l):RowV H' l o r:=by
 cases r with
 | none=>exact h
 | some r=>obtain ⟨t,h1,b,a⟩:=h;exact ⟨t,h1,k _ _ (fun z=>a (d _ z)) b,a⟩
theorem Fo.sub {a:Fo}:∀ c∈a.six,c∈a.all:=fun c h=>yH _ h
theorem Bx.of {l:List Addr} (s:L2.Same H H'):Bx l H H':=fun c o _ e=>s c o e
theorem Bx.trans {l:List Addr} {d:Hp} (a:Bx l H H') (b:Bx l H' d):Bx l H d:=fun c o n e=>b c o n (a c o n e)
section
variable {cf cw:Addr} {H0 H H':Hp} {a:Fo} {ss:List Str} {ns:List Nat} {qs:List (Str×Str)} {S S':FS} {bs dn wt:List Str} {lo:V}
theorem FoA.same (h:FoA cf cw H0 H a ss ns qs S bs dn wt lo) (s:L2.Same H H'):FoA cf cw H0 H' a ss ns qs S bs dn wt lo:=by
 obtain ⟨dx,fs,h1,i⟩:=h.obj;obtain ⟨j,p,q,r⟩:=h.row;obtain ⟨m,p1,p2⟩:=h.par;obtain ⟨n,b,d⟩:=h.bas;obtain ⟨xs,f,g⟩:=h.rng;exact ⟨h.sm.trans s,h.web,h.prt,h.fr,h.nd,fun c hc=>⟨(h.exf c hc).1,(h.exf c hc).2.1,(h.exf c hc).2.2.elim fun o e=>⟨o,s _ _ e⟩⟩,⟨dx,fs,s _ _ h1,i⟩,⟨j,s _ _ p,q,fun z=>(r z).mono (Bx.of (l:=[]) s) (fun c h=>by cases h)⟩,⟨m,s _ _ p1,p2⟩,⟨n,s _ _ b,d⟩,⟨xs,s _ _ f,g⟩,s _ _ h.wai,h.evn,h.evi,h.evs⟩
theorem FoA.six (h:FoA cf cw H0 H a ss ns qs S bs dn wt lo):∀ c∈a.six,∃ o,H c=some o:=fun c hc=>by
 obtain ⟨dx,fs,h1,_⟩:=h.obj;obtain ⟨f,e,_⟩:=h.row;obtain ⟨g,p1,_⟩:=h.par;obtain ⟨i,b,_⟩:=h.bas;obtain ⟨xs,d,_⟩:=h.rng;simp only [Fo.six,yB,Yd,Y0] at hc;rcases hc with rfl | rfl | rfl | rfl | rfl | rfl
 .exact ⟨_,h1⟩
 .exact ⟨_,e⟩
 .exact ⟨_,p1⟩
 .exact ⟨_,b⟩
 .exact ⟨_,d⟩
 .exact ⟨_,h.wai⟩
theorem FoA.new (h:FoA cf cw H0 H a ss ns qs S bs dn wt lo) {c:Addr} (e:H c=none):c∉a.six:=fun z=>by
 obtain ⟨o,k⟩:=h.six c z;rw [e] at k;cases k
theorem FoA.sep (h:FoA cf cw H0 H a ss ns qs S bs dn wt lo):a.six.Nodup:=by
 obtain ⟨dx,fs,h1,_⟩:=h.obj;obtain ⟨e,d,_⟩:=h.row;obtain ⟨f,p1,_⟩:=h.par;obtain ⟨g,b,_⟩:=h.bas;obtain ⟨xs,c,_⟩:=h.rng;refine yo.mpr ⟨fun z=>?_,h.nd⟩;simp only [yB,Yd,Y0] at z;rcases z with z | z | z | z | z
 .rw [z,d] at h1;cases h1
 .rw [z,p1] at h1;cases h1
 .rw [z,b] at h1;cases h1
 .rw [z,c] at h1;cases h1
 .rw [z,h.wai] at h1;cases h1
theorem FoO.eq (h:FoO cf H a lo) (e:H' a.x=H a.x):FoO cf H' a lo:=by
 obtain ⟨dx,fs,h1,b⟩:=h;exact ⟨dx,fs,e.trans h1,b⟩
theorem Bx.upd {l:List Addr} {c:Addr} (k:Bx l H H') (hc:c∈l):Bx l H (upd H' c o):=fun d u n e=>by
 rw [qe (fun z=>n (by rw [z];exact hc))];exact k d u n e
noncomputable def Fo.add (a:Fo) (c:Addr):Fo:={ a with ex:=c::a.ex }
theorem FoA.add (h:FoA cf cw H0 H a ss ns qs S bs dn wt lo) {c:Addr} (e:H c=none):FoA cf cw H0 (upd H c o) (a.add c) ss ns qs S bs dn wt lo:=by
 have g:=h.same (qL (Sr H) (o:=o) e);obtain ⟨f,q,w,x⟩:=g.row;obtain ⟨n,v,_,A⟩:=h.row
 have s:n=f:=by
  have:=qL (Sr H) (o:=o) e _ _ v;rw [q] at this;exact (HO.dK.inj (ym this)).symm
 subst s;refine ⟨g.sm,g.web,g.prt,g.fr,g.nd,fun d hd=>?_,g.obj,⟨n,q,w,fun z=>?_⟩,g.par,g.bas,g.rng,g.wai,g.evn,g.evi,g.evs⟩
 .rcases yB.mp hd with rfl | hd
  .exact ⟨h.sm.free e,h.new e,_,qb⟩
  .exact g.exf d hd
 .have b:=x z;have j:=A z
  cases i:S.rows z with
  | none=>rw [i] at b;exact b
  | some r =>
   rw [i] at b j;obtain ⟨t,f,u,p⟩:=b;obtain ⟨t',l,m,_⟩:=j;rw [f] at l;cases l;refine ⟨t,f,u,fun y=>?_⟩;rcases yE.mp y with y | y
   .exact p (yH _ y)
   .rcases yB.mp y with y | y
    .rw [y,e] at m;cases m
    .exact p (yP _ y)
theorem FoA.updE (h:FoA cf cw H0 H a ss ns qs S bs dn wt lo) {c:Addr} (hc:c∈a.ex):FoA cf cw H0 (upd H c o) a ss ns qs S bs dn wt lo:=by
 obtain ⟨l,p,_⟩:=h.exf c hc;have ne:∀ {d:Addr},d∈a.six->upd H c o d=H d:=fun b=>qe fun z=>p (by rw [<- z];exact b);obtain ⟨q,v,w,x⟩:=h.row;obtain ⟨r,p1,p2⟩:=h.par;obtain ⟨s,f,g⟩:=h.bas;obtain ⟨xs,i,j⟩:=h.rng;refine ⟨qaz h.sm l,h.web,h.prt,h.fr,h.nd,fun d b=>⟨(h.exf d b).1,(h.exf d b).2.1,by by_cases z:d=c;exact ⟨_,by rw [z,qb]⟩;rw [qe z];exact (h.exf d b).2.2⟩,h.obj.eq (ne (by simp [Fo.six])),⟨q,(ne (by simp [Fo.six])).trans v,w,fun z=>(x z).mono (m:=[c]) (fun d u n e=>by rw [qe (fun y=>n (by rw [y];simp))];exact e) fun d b=>by rw [yx.mp b];exact yP _ hc⟩,⟨r,(ne (by simp [Fo.six])).trans p1,p2⟩,⟨s,(ne (by simp [Fo.six])).trans f,g⟩,⟨xs,(ne (by simp [Fo.six])).trans i,j⟩,(ne (by simp [Fo.six])).trans h.wai,h.evn,h.evi,h.evs⟩
theorem FoA.drop (h:FoA cf cw H0 H a ss ns qs S bs dn wt lo) {l:List Addr} (f:∀ c∈l,c∈a.ex):FoA cf cw H0 H { a with ex:=l } ss ns qs S bs dn wt lo:=by
 obtain ⟨d,j,m,n⟩:=h.row;refine ⟨h.sm,h.web,h.prt,h.fr,h.nd,fun c hc=>h.exf c (f c hc),h.obj,⟨d,j,m,fun z=>?_⟩,h.par,h.bas,h.rng,h.wai,h.evn,h.evi,h.evs⟩;have b:=n z
 cases e:S.rows z with
 | none=>rw [e] at b;exact b
 | some r =>
  rw [e] at b;obtain ⟨t,d,g,i⟩:=b;exact ⟨t,d,g,fun y=>i ((yE.mp y).elim (fun z=>yH _ z) fun z=>yP _ (f _ z))⟩
theorem FoA.newA (h:FoA cf cw H0 H a ss ns qs S bs dn wt lo) {c:Addr} (e:H c=none):c∉a.all:=fun z=>by
 rcases yE.mp z with z | z
 .exact h.new e z
 .obtain ⟨o,k⟩:=(h.exf c z).2.2;rw [e] at k;cases k
theorem FoA.few (h:FoA cf cw H0 H a ss ns qs S bs dn wt lo):(dn++wt).length<=ss.length:=zz h.evn h.evs
end
noncomputable def FS.setRow (S:FS) (p:Str) (r:List Str):FS:=⟨fun s=>if s=p then some r else S.rows s,S.par,S.bas⟩
inductive spRe (cc:Nat->Addr) (cw:Addr) (vs:List V) (H:Hp) (Q:VK) (E:XK):Prop|mk (H0:Hp) (a:Fo) (ss:List Str) (ns:List Nat) (qs:List (Str×Str)) (S:FS) (bs dn wt:List Str) (lo:V) (p:Str) (t:Addr) (r:List Str) (_:vs=[.ref a.x,.str p,.ref t]) (_:FoA (cc 9) cw H0 H a ss ns qs S bs dn wt lo) (_:ss.length<=14) (_:H t=some (.lst (r.map V.str))) (_:t∉a.all) (_:p∈ss) (_:S.rows p=none) (_:∀ H',FoA (cc 9) cw H0 H' a ss ns qs (S.setRow p r) bs dn (wt++[p]) lo->Bx a.six H H'->(∀ o,H a.dg=some o->H' a.dg=some o)->Q .non H')
inductive spBd (cc:Nat->Addr) (cw:Addr) (vs:List V) (H:Hp) (Q:VK) (E:XK):Prop|mk (H0:Hp) (a:Fo) (ss:List Str) (ns:List Nat) (qs:List (Str×Str)) (S:FS) (dn wt:List Str) (lo:V) (p:Str) (r l:List Str) (A:Str->Str->Prop) (_:vs=[.ref a.x,.str p]) (_:FoA (cc 9) cw H0 H a ss ns qs S ss dn wt lo) (_:ss.length<=14) (_:FI A (pt qs) S) (_:S.rows p=some r) (_:Ch (pt qs) S (S.bas p) l) (_:l.length<=14) (_:∀ (t:Addr) (H':Hp),L2.Same H H'->H t=none->H' t=some (.lst (l.map V.str))->Q (.ref t) H')
section
variable {P:Program} {w:World} {K:W.Frag} {mg:Str->Option Value} {base:Heap} {cc:Nat->Addr} {cw:Addr} {H0 H:Hp} {a:Fo} {ss:List Str} {ns:List Nat} {qs:List (Str×Str)} {S:FS} {bs dn wt:List Str} {lo:V}
theorem FoO.rd {Q:V->Prop} {f:Str} {v:V} (h:FoO (cc 9) H a lo) (T:Txt K mg cc cw) (i:Nat) (e:(a.tab lo)[i]?=some (f,v)) (q:Q v):∃ (c C dx:Addr) (fs:List (Str×V)) (u:V),V.ref a.x=.ref c/\H c=some (.ins C dx fs)/\Cls K C/\NoAttr K C f/\fs.lookup f=some u/\Q u:=by
 obtain ⟨dx,fs,h1,_,_,b,_⟩:=h;refine ⟨a.x,cc 9,dx,fs,v,rfl,h1,T.fcl,T.fa f ?_,b f v (ye e),q⟩;have:((a.tab lo).map Prod.fst)[i]?=some f:=by rw [yd,e];rfl
 exact ye (l:=fAtt) (i:=i) this
theorem ok_re (F:Fun K "reach" "Forest.reach" jT f fd) (T:Txt K mg cc cw):FnOk P w K mg base CX0 1 f fd ["self","place","row"] (spRe cc cw):=by
 refine F.ok uq fun _ _ _ _ H vs Q E U h=>?_
 .obtain ⟨H0,a,ss,ns,qs,S,bs,dn,wt,lo,p,t,r,rfl,h,R,W,d,s,m,q⟩:=h;have X:=jS U;have b:=h.few;have l:p∉dn++wt:=fun z=>(h.evi p).mp z m;refine ⟨_,(qc (jN (pv 2) (jV (qA (K:=K) rfl (pv 0) rfl) (pv 1) (jW X)))
 (qf (qI (qbf (K:=K) rfl yL yY yZ qN (qA (K:=K) rfl (pv 0) rfl) (qa (pv 1) qd))))),?_⟩
  ext;obtain ⟨⟨n1,n2,n3,n4,n5⟩,⟨n6,n7,C,D⟩,⟨aa,ac,A⟩,⟨ad,B⟩,g⟩:=(by simpa [Fo.six] using h.sep:(¬a.x=a.dr/\¬a.x=a.da/\¬a.x=a.ds/\¬a.x=a.dg/\¬a.x=a.dw)/\(¬a.dr=a.da/\¬a.dr=a.ds/\¬a.dr=a.dg/\¬a.dr=a.dw)/\(¬a.da=a.ds/\¬a.da=a.dg/\¬a.da=a.dw)/\(¬a.ds=a.dg/\¬a.ds=a.dw)/\¬a.dg=a.dw);obtain ⟨j,r1,r2,r3⟩:=h.row;obtain ⟨Z,p1,p2,p3⟩:=h.par;obtain ⟨ks,J,L,M⟩:=h.bas;obtain ⟨xs,N,O⟩:=h.rng;refine .inl (h.obj.rd T 2 rfl ?_);ext;refine .inr ⟨a.dr,_,rfl,DPut.k (k:=Sum.inr p) r1 (by rw [YB];omega),?_⟩;have G:FoO (cc 9) (upd H a.dr (.dK (zr j (Sum.inr p) (.ref t)))) a lo:=h.obj.eq (qe n1);have I:upd H a.dr (.dK (zr j (Sum.inr p) (.ref t))) a.dw=some (.lst (wt.map V.str)):=by rw [qe (Yh D)];exact h.wai
  ext;refine .inl (G.rd T 6 rfl ?_);refine ⟨.inl ⟨rfl,_,.of I⟩,?_⟩;ext;refine ⟨a.dw,_,_,rfl,rfl,I,by rw [ya];exact qi (by rw [yt] at b;omega),?_⟩;have u:∀ {c:Addr} {o o':HO},c∉a.six->upd (upd H a.dr o) a.dw o' c=H c:=fun hc=>by rw [qe (fun z=>hc (by rw [z];simp [Fo.six])),qe (fun z=>hc (by rw [z];simp [Fo.six]))]
  have i:Bx a.six H (upd (upd H a.dr (.dK (zr j (Sum.inr p) (.ref t)))) a.dw (.lst (wt.map V.str++[.str p]))):=fun c o n e=>by rw [u n];exact e
  refine q _ ⟨qaz (qaz h.sm (h.fr _ (by simp [Fo.six]))) (h.fr _ (by simp [Fo.six])),h.web,h.prt,h.fr,h.nd,fun c hc=>⟨(h.exf c hc).1,(h.exf c hc).2.1,(h.exf c hc).2.2.elim fun o e=>⟨o,i _ _ (h.exf c hc).2.1 e⟩⟩,G.eq (qe n5),⟨_,by rw [qe D,qb],?_,fun z=>?_⟩,⟨Z,by rw [qe A,qe (Yh n6)];exact p1,p2,p3⟩,⟨ks,by rw [qe B,qe (Yh n7)];exact J,L,M⟩,⟨xs,by rw [qe g,qe (Yh C)];exact N,?_⟩,by rw [qb,yA];rfl,?_,fun v=>?_,fun v hv=>?_⟩ i fun o e=>by (rw [qe g,qe (Yh C)];exact e)
  .have:=jr j (Sum.inr p:Key) (.ref t);rw [<- Yi,yt (bs:=[p])];show _<=_+1;omega
  .unfold FS.setRow;dsimp only;rw [qak];by_cases e:z=p
   .subst e;rw [yD rfl,yD rfl];exact ⟨t,rfl,i _ _ (fun y=>d (Fo.sub _ y)) W,d⟩
   .rw [yy (fun y=>e (Y8 y)),yy e];exact (r3 z).mono i Fo.sub
  .rw [<- Yi,yt (bs:=[p])];exact km O
  .rw [<- Yi];exact yV.mpr ⟨h.evn,List.pairwise_singleton _ _,fun x u y Y e=>l (by rw [<- yx.mp Y,<- e];exact u)⟩
  .rw [<- Yi,yE,yx,h.evi];unfold FS.setRow;dsimp only;by_cases e:v=p
   .subst e;rw [yD rfl];exact ⟨(fun _ z=>by cases z),fun _=>.inr rfl⟩
   .rw [yy e];exact ⟨fun z=>z.resolve_right e,.inl⟩
  .rw [<- Yi] at hv;rcases yE.mp hv with z | z
   .exact h.evs v z
   .rw [yx.mp z];exact s
end
theorem Kl:FnScope ["self","place","bases","below"] ["self","place"] (qh qU):=fS
theorem atI_last {xs:List Str}:atI ((xs++[c]).map V.str) (-1)=some (.str c):=by
 have e:ixN ((xs++[c]).map V.str).length (-1)=some xs.length:=by
  unfold ixN;rw [yy (by omega),yD (by rw [ya,yt];simp;omega)]
  congr 1
  rw [ya,yt];simp only [yC,xo];omega
 unfold atI;rw [e];show ((xs++[c]).map V.str)[xs.length]?=_;rw [yd,yG (yh _),Xw];rfl
theorem Ch.cases' {f:Str->Option Str} {b:Str} {t:List Str} (h:Ch f S b (b::t)):(f b=none/\t=[])\/∃ q z,f b=some q/\S.par q=some z/\Ch f S (S.bas z) t:=by
 generalize e:b::t=l at h
 cases h with
 | root h=>cases e;exact .inl ⟨h,rfl⟩
 | step h1 h2 h3=>cases e;exact .inr ⟨_,_,h1,h2,h3⟩
theorem in_prK {d:Addr} {Q:VK} (a:H d=some (.dK (prK qs))) (q:Q (.bl (pt qs s).isSome) H):qeR K false (.str s) (.ref d) H Q:=by
 refine .inr (.inl ⟨d,_,rfl,DGet.k (k:=Sum.inr s) a,?_⟩);rw [jR,yy (by decide),x0];exact q
theorem qeT {d:Addr} {kvs:List (Key×V)} {v:V} {Q:VK} (a:H d=some (.dK kvs)) (e:jP kvs (.inr s:Key)=some v) (q:Q v H):qgk K (.ref d) (.str s) H Q:=.inr ⟨d,v,rfl,by rw [<- e];exact DGet.k (k:=Sum.inr s) a,q⟩
theorem ok_bd (F:Fun K "bases_down_from" "Forest.bases_down_from" qU f fd) (T:Txt K mg cc cw):FnOk P w K mg base CX0 1 f fd ["self","place"] (spBd cc cw):=by
 refine F.ok Kl fun _ _ _ _ H vs Q E hr h=>?_
 .obtain ⟨H0,a,ss,ns,qs,S,dn,wt,lo,p,r,l,B,rfl,h,ae,I,hp,A,ac,q⟩:=h;have n:=jS hr;refine ⟨_,(qc (qo (i:=2) Kl.nd rfl (yO rfl) (qP (qa (qt (qu (K:=K) rfl n) (qA (K:=K) rfl (pv 0) rfl) (pv 1) (fun _ _=>rfl)) qd)))
 (qc (qb0 y0 (qj (zT (K:=K) rfl n) (qt (qu (K:=K) rfl n) (pv 2) (qav j5 qg) (fun _ _=>rfl)) (qA (K:=K) rfl (pv 0) rfl) (by with_unfolding_all rfl))
 (qc (qo (i:=3) Kl.nd rfl (yO rfl) (qt (qu (K:=K) rfl n) (qA (K:=K) rfl (pv 0) rfl) (qt (qu (K:=K) rfl n) (qA (K:=K) rfl (pv 0) rfl) (qt (qu (K:=K) rfl n) (pv 2) (qav j5 qg) (fun _ _=>rfl)) (fun _ _=>rfl)) (fun _ _=>rfl)))
 (qf (qI (qbf (K:=K) rfl yL yY yZ qN (pv 2) (qa (qt (qu (K:=K) rfl n) (qA (K:=K) rfl (pv 0) rfl) (pv 3) (fun _ _=>rfl)) qd))))))
 (qf (qp (pv 2))))),?_⟩
  have y:∀ {v:Str} {r:List Str},S.rows v=some r->v∈ss:=fun e=>h.evs _ ((h.evi _).mpr (by rw [e];exact fun z=>by cases z));obtain ⟨ks,b1,b2,b3⟩:=h.bas;ext;refine .inl (h.obj.rd T 4 rfl ?_);ext;refine qeT b1 (b3 p (y hp)) ?_;ext;refine ⟨by show 1<=sizeLine;decide,fun bl j=>?_⟩;have s1:=qL (Sr H) (o:=.lst [.str (S.bas p)]) j;have e1:upd H bl (.lst [.str (S.bas p)]) bl=some (.lst (([]++[S.bas p]).map V.str)):=qb;generalize upd H bl (.lst [.str (S.bas p)])=H1 at s1 e1;ext;obtain ⟨W,g⟩:∃ W:Nat->L2.St->Hp->Prop,W=fun m σ J=>∃ (l1 l2:List Str) (c:Str) (y3:Option V),l=l1++c::l2/\σ=[some (.ref a.x),some (.str p),some (.ref bl),y3]/\L2.Same H J/\J bl=some (.lst ((l1++[c]).map V.str))/\m=l2.length:=⟨_,rfl⟩;obtain ⟨t0,U⟩:=A.ne;refine ⟨W,⟨t0.length,by rw [g];exact ⟨[],t0,_,_,U,rfl,s1,e1,rfl⟩⟩,fun m σ J hW=>?_⟩;rw [g] at hW;obtain ⟨l1,l2,c,y3,N,rfl,sJ,s,hm⟩:=hW;obtain ⟨rc,_,Z,X,C,_⟩:=A.up I hp rfl N;have d:=h.same sJ;have G:=d.sm _ _ h.prt;ext;refine ⟨1,rfl,?_⟩;refine .inl (zc s (v:=.str c) atI_last ?_);ext;refine .inl (d.obj.rd T 1 rfl ?_);refine in_prK G ?_;rcases C.cases' with ⟨D,rfl⟩ | ⟨q',z,D,L,Y⟩
  .rw [D];refine ⟨_,rfl,qW (fun h=>by cases h) fun _=>?_⟩;ext;exact q bl J sJ j (by rw [N];exact s)
  .rw [D];refine ⟨_,rfl,qal ⟨fun M H'=>∃ m',m'<m/\W m' M H',fun M H' z=>z,?_⟩⟩;obtain ⟨_,z',rz,b,aa,_⟩:=I.dwn c rc q' Z X D;rw [L] at b;cases b;obtain ⟨ka,p1,p2,p3⟩:=d.par;obtain ⟨af,O,ad,R⟩:=d.bas;ext;refine .inl (d.obj.rd T 3 rfl ?_);ext;refine .inl (d.obj.rd T 1 rfl ?_);ext;refine ⟨1,rfl,?_⟩;refine .inl (zc s (v:=.str c) atI_last ?_);refine qeT G (by rw [jR,D];rfl) ?_;refine qeT p1 (by rw [p3,L];rfl) ?_;ext;refine ⟨.inl ⟨rfl,_,.of s⟩,?_⟩;ext;refine .inl (d.obj.rd T 4 rfl ?_);ext;refine qeT O (R z (y aa)) ?_;ext;refine ⟨bl,_,_,rfl,rfl,s,by rw [ya];exact qi (by have:=congrArg List.length N;rw [yt,yC] at this;rw [yt];simp only [yC,xo];omega),?_⟩;obtain ⟨t1,u⟩:=Y.ne;rw [g];refine ⟨t1.length,by rw [hm,u];simp,l1++[c],t1,S.bas z,_,by rw [N,u];simp,rfl,qaz sJ j,by rw [qb,yA (l₁:=l1++[c])];rfl,rfl⟩
theorem Ki:FnScope ["self","one","other","bases","side","base","place","row"] ["self","one","other","bases"] (qh jc):=fS
structure RR (f:Str->Option Str) (S S':FS) (v w:Str) (cs:List Str):Prop where
 par:S'.par=S.par
 bas:S'.bas=S.bas
 old:∀ u r,S.rows u=some r->S'.rows u=some r
 new:∀ u r,S'.rows u=some r->S.rows u=some r\/∃ c∈cs,f c=some u/\NewRow S v w u r
 all:∀ c∈cs,∀ q,f c=some q->∃ r,S'.rows q=some r
inductive spRr (cc:Nat->Addr) (cw:Addr) (vs:List V) (H:Hp) (Q:VK) (E:XK):Prop|mk (H0:Hp) (a:Fo) (ss:List Str) (ns:List Nat) (qs:List (Str×Str)) (S:FS) (dn wt:List Str) (lo:V) (v w:Str) (lb:Addr) (cs rv rw:List Str) (_:vs=[.ref a.x,.str v,.str w,.ref lb]) (_:FoA (cc 9) cw H0 H a ss ns qs S ss dn wt lo) (_:ss.length<=14) (_:H lb=some (.lst (cs.map V.str))) (_:lb∉a.six) (_:S.rows v=some rv) (_:S.rows w=some rw) (_:rv.length<=14) (_:rw.length<=14) (_:rv.Nodup) (_:cs.Nodup) (_:cs.length<=14) (_:(qB qs).Nodup) (_:(∀ c∈cs,∃ q rz t,pt qs c=some q/\S.rows q=none/\q∈ss/\rv=rz++q::t)) (_:∀ (t:Addr) (sd more:List Str) (H':Hp) (S':FS),FoA (cc 9) cw H0 H' (a.add t) ss ns qs S' ss dn (wt++more) lo->Bx a.six H H'->H t=none->H' t=some (.lst (sd.map V.str))->(∀ u,u∈sd↔∃ c∈cs,u=c\/pt qs c=some u)->sd.length=2*cs.length->more.length=cs.length->RR (pt qs) S S' v w cs->(∀ o,H a.dg=some o->H' a.dg=some o)->Q (.ref t) H')
theorem qde {t:List Str} {q:Str} (a:(rz++q::t).Nodup):(rz++q::t).idxOf q=rz.length:=by
 exact qbE a (by rw [yG (yh _),Xw];rfl)
theorem qe3 {a:Addr} {Q:VK} (c:G a=some (.lst xs)) (d:G b=some (.lst ys)) (hl:xs.length+ys.length<=1000) (q:∀ p,G p=none->Q (.ref p) (upd G p (.lst (xs++ys)))):qc4 K (.ref a) (.ref b) G Q:=.inl ⟨a,b,_,_,rfl,rfl,c,d,yi hl (by decide),q⟩
theorem ok_rr (F:Fun K "reach_round" "Forest.reach_round" jc f fd) (T:Txt K mg cc cw) (Kr:MethOk P w K mg base CX0 1 (cc 9) "reach" ["self","place","row"] (spRe cc cw)):FnOk P w K mg base CX0 2 f fd ["self","one","other","bases"] (spRr cc cw):=by
 refine F.ok Ki fun _ _ _ _ H vs Q E hr h=>?_
 .obtain ⟨H0,a,ss,ns,qs,S,dn,wt,lo,v,w,lb,R,rv,b,rfl,h,ap,G,az,hv,hw,bc,bj,ak,aw,bg,aj,ax,q⟩:=h;have hu:=jS hr;refine ⟨_,(qc (qo (i:=4) Ki.nd rfl (yO rfl) (qP qd))
 (qc (jl y0 rfl (qT (K:=K) rfl (pv 3)) (qr (i:=5) Ki.nd rfl (yO rfl))
 (qc (qo (i:=6) Ki.nd rfl (yO rfl) (qt (qu (K:=K) rfl hu) (qA (K:=K) rfl (pv 0) rfl) (pv 5) (fun _ _=>rfl)))
 (qc (qo (i:=7) Ki.nd rfl (yO rfl) (qt (qu (K:=K) rfl hu) (qA (K:=K) rfl (pv 0) rfl) (pv 1) (fun _ _=>rfl)))
 (qc (qI (qD Kr (hmR hr) (pv 0) (qa (pv 6) (qa (qE (zy (K:=K) rfl) (qt (qu (K:=K) rfl hu) (qA (K:=K) rfl (pv 0) rfl) (pv 2) (fun _ _=>rfl)) (qeo (K:=K) rfl (zj (qe9 (K:=K) rfl) (pv 7) (j4 (qbf (K:=K) rfl yL xK Xr (qc9 (K:=K) rfl) (pv 7) (qa (pv 6) qd))) zU) (j4 (qav j5 qg)))) qd))))
 (qf (qI (qbf (K:=K) rfl yL PySem.F.slot_list_extend PySem.F.type_list_extend qbU (pv 4) (qa (qP (qa (pv 5) (qa (pv 6) qd))) qd))))))))
 (qf (qp (pv 4))))),?_⟩
  ext;refine ⟨by show 0<=sizeLine;decide,fun g p=>?_⟩;have s1:=qL (Sr H) (o:=.lst []) p;have h1:=h.add (o:=.lst []) p;have Y:upd H g (.lst []) g=some (.lst (([]:List Str).map V.str)):=qb;have bm:lb≠g:=fun z=>by rw [z,p] at G;cases G
  generalize upd H g (.lst [])=H1 at s1 h1 Y;ext;obtain ⟨LI,A⟩:∃ LI:Nat->L2.St->Hp->Prop,LI=fun i σ J=>∃ (S':FS) (more D:List Str) (y5 y6 y7:Option V),σ=[some (.ref a.x),some (.str v),some (.str w),some (.ref lb),some (.ref g),y5,y6,y7]/\FoA (cc 9) cw H0 J (a.add g) ss ns qs S' ss dn (wt++more) lo/\Bx a.six H J/\J g=some (.lst (D.map V.str))/\(∀ u,u∈D↔∃ c∈R.take i,u=c\/pt qs c=some u)/\D.length=2*i/\more.length=i/\RR (pt qs) S S' v w (R.take i)/\∀ o,H a.dg=some o->J a.dg=some o:=⟨_,rfl⟩;refine .inl ⟨⟨_,.of (s1 _ _ G)⟩,ju (xs:=R.map V.str) LI (by rw [A];exact ⟨S,[],[],_,_,_,rfl,by rw [Yc];exact h1,Bx.of s1,Y,fun u=>by simp,rfl,rfl,⟨rfl,rfl,fun _ _ e=>e,fun _ _ e=>.inl e,fun c hc=>by simp at hc⟩,fun o e=>s1 _ _ e⟩) (fun i σ J _ O=>?_) (fun i y σ J hy O=>?_) fun σ J O=>?_⟩
  .rw [A] at O;obtain ⟨S',more,D,y5,y6,y7,rfl,s,W,_⟩:=O;exact .of (W _ _ az G)
  .rw [A] at O;obtain ⟨S',more,D,y5,y6,y7,rfl,s,W,eJ,L,l,I,C,U⟩:=O;rw [yd] at hy;obtain ⟨c,hc,rfl⟩:=yn.mp hy;have av:=ye hc;obtain ⟨z,rz,t,hz,al,bf,m⟩:=ax c av;have bh:i<R.length:=(yc.mp hc).1;have M:R.take (i+1)=R.take i++[c]:=by rw [yK,hc];rfl
   have ba:=s.sm _ _ h.prt;obtain ⟨kr,r1,r2,r3⟩:=s.row
   have rowOf:∀ {u:Str} {r:List Str},S.rows u=some r->∃ t,jP kr (.inr u:Key)=some (.ref t)/\J t=some (.lst (r.map V.str)):=fun {u r} e=>by
    have:=r3 u;rw [C.old u r e] at this;obtain ⟨t,k1,k2,_⟩:=this;exact ⟨t,k1,k2⟩
   obtain ⟨tv,kv,ev⟩:=rowOf hv;obtain ⟨tw,kw,ew⟩:=rowOf hw;ext;refine .inl (s.obj.rd T 1 rfl ?_);ext;refine qeT ba (by rw [jR,hz];rfl) ?_;ext;refine .inl (s.obj.rd T 2 rfl ?_);ext;refine qeT r1 kv ?_;ext;obtain ⟨dx,fs,bd,_,_,_,be⟩:=id s.obj;refine ⟨a.x,dx,fs,rfl,bd,be _ (by decide +kernel),?_⟩;ext;refine .inl (s.obj.rd T 2 rfl ?_);ext;refine qeT r1 kw ?_;ext;refine qgv ?_;ext;refine ⟨.inl ⟨rfl,_,.of ev⟩,?_⟩;ext;refine ⟨tv,rv,z,rfl,rfl,.of ev,by rw [m];simp,_,rfl,?_⟩;rw [m] at ak;have ao:rv.idxOf z=rz.length:=by rw [m];exact qde ak
   rw [ao];ext;refine .inl ⟨tv,_,rfl,.of ev,fun c1 ar=>?_⟩;have af:qcx (rv.map V.str) (some ((rz.length:Nat):Int)) none=(z::t).map V.str:=by rw [qcJ,m,yA,List.drop_left' (by simp)]
   rw [af];have t1:=qL (Sr J) (o:=.lst ((z::t).map V.str)) ar;have aa:upd J c1 (.lst ((z::t).map V.str)) c1=some (.lst ((z::t).map V.str)):=qb;generalize upd J c1 (.lst ((z::t).map V.str))=J1 at t1 aa;ext;refine ⟨1,rfl,?_⟩;refine ⟨_,rfl,rfl,c1,_,rfl,.of aa,fun c2 as=>?_⟩;have t2:=qL t1 (o:=.lst ((z::t).map V.str).reverse) as;have ac:upd J1 c2 (.lst ((z::t).map V.str).reverse) c2=some (.lst ((z::t).reverse.map V.str)):=by rw [qb,kL]
   generalize upd J1 c2 (.lst ((z::t).map V.str).reverse)=J2 at t2 ac;have bi:(z::t).length<=14:=by rw [m,yt] at bc;omega
   refine qe3 (t2 _ _ ew) ac (by rw [ya,ya,Yq];omega) fun c3 ag=>?_;have aq:=s.same t2;have n3:=aq.newA ag;have t3:=qL t2 (o:=.lst (b.map V.str++(z::t).reverse.map V.str)) ag;have ad:upd J2 c3 (.lst (b.map V.str++(z::t).reverse.map V.str)) c3=some (.lst ((b++(z::t).reverse).map V.str)):=by rw [qb,yA]
   generalize upd J2 c3 (.lst (b.map V.str++(z::t).reverse.map V.str))=J3 at t3 ad
   have ah:c∉R.take i:=fun y=>by
    obtain ⟨j,hj⟩:=yf y;have ay:=(yc.mp hj).1;rw [yT] at ay;rw [List.getElem?_take,yD (by omega)] at hj;have:=qw aw hj hc;omega
   have am:S'.rows z=none:=by
    cases e:S'.rows z with
    | none=>rfl
    | some r =>
     exfalso;rcases C.new z r e with y | ⟨N,B,y,_⟩
     .rw [al] at y;cases y
     .have Y:=(qev aj).mp y;rw [(qev aj).mp hz] at Y;rw [<- ym Y] at B;exact ah B
   ext;refine ⟨H0,a.add g,ss,ns,qs,S',ss,dn,wt++more,lo,z,c3,b++(z::t).reverse,rfl,s.same t3,ap,ad,n3,bf,am,fun J4 h4 X ai=>?_⟩;have an:g∉a.six:=h.new p;have Z:J4 g=some (.lst (D.map V.str)):=X _ _ an (t3 _ _ eJ);ext;refine ⟨.inl ⟨rfl,_,.of Z⟩,?_⟩;ext;refine ⟨by show 2<=sizeLine;decide,fun c5 au=>?_⟩;have t5:=qL (Sr J4) (o:=.lst [.str c,.str z]) au;have ae:upd J4 c5 (.lst [.str c,.str z]) c5=some (.lst [.str c,.str z]):=qb;generalize upd J4 c5 (.lst [.str c,.str z])=J5 at t5 ae;have h5:=h4.same t5;ext;refine ⟨g,c5,_,_,rfl,rfl,t5 _ _ Z,ae,by rw [ya,YB];show _+2<=_;omega,?_⟩;have h6:=h5.updE (c:=g) (o:=.lst (D.map V.str++[.str c,.str z])) yN;rw [A];refine ⟨S'.setRow z (b++(z::t).reverse),more++[z],D++[c,z],_,_,_,rfl,by rw [<- Yi wt];exact h6,?_,by rw [qb,yA];rfl,fun u=>?_,by rw [yt,l];show _+2=_;omega,by rw [yt,I];rfl,⟨C.par,C.bas,fun u r e=>?_,fun u r e=>?_,fun N B q' e=>?_⟩,fun o e=>?_⟩
   .exact fun d o n e=>by
     have ne:d≠g:=fun y=>by rw [y,p] at e;cases e
     rw [qe ne];exact t5 _ _ (X _ _ n (t3 _ _ (W _ _ n e)))
   .rw [M,yE,L];simp only [yE,yB,Yd,Y0];constructor
    .rintro (⟨N,h1,h2⟩ | rfl | rfl)
     .exact ⟨N,.inl h1,h2⟩
     .exact ⟨u,.inr rfl,.inl rfl⟩
     .exact ⟨c,.inr rfl,.inr hz⟩
    .rintro ⟨N,h1 | rfl,h2⟩
     .exact .inl ⟨N,h1,h2⟩
     .rcases h2 with h2 | h2
      .exact .inr (.inl h2)
      .rw [hz] at h2;exact .inr (.inr (ym h2).symm)
   .show (if u=z then _ else S'.rows u)=_;rw [yy (fun y=>by rw [y,al] at e;cases e)];exact C.old u r e
   .have e':(if u=z then some (b++(z::t).reverse) else S'.rows u)=some r:=e;by_cases y:u=z
    .subst y;rw [yD rfl] at e';exact .inr ⟨c,by rw [M];simp,hz,rv,b,rz,t,hv,hw,m,(ym e').symm⟩
    .rw [yy y] at e';rcases C.new u r e' with x | ⟨N,h1,h2⟩
     .exact .inl x
     .exact .inr ⟨N,by rw [M];exact yH _ h1,h2⟩
   .show ∃ r,(if q'=z then some (b++(z::t).reverse) else S'.rows q')=some r;by_cases y:q'=z
    .rw [yD y];exact ⟨_,rfl⟩
    .rw [yy y];rw [M] at B;rcases yE.mp B with x | x
     .exact C.all N x q' e
     .rw [yx.mp x,hz] at e;exact absurd (ym e).symm y
   .have ne:a.dg≠g:=fun y=>an (by rw [<- y];simp [Fo.six]);rw [qe ne];exact t5 _ _ (ai o (t3 _ _ (U o e)))
  .rw [A] at O;obtain ⟨S',more,D,y5,y6,y7,rfl,s,W,eJ,L,l,I,C,U⟩:=O;rw [ya] at l I;rw [ya,yR] at L C;ext;exact q g D more J S' s W p eJ L l I C U
theorem KJ:FnScope ["self","ring","meeting","within","place"] ["self","ring","meeting"] (qh jK):=fS
noncomputable def FS.setBas (S:FS) (l:List Str) (m:Str):FS:=⟨S.rows,S.par,fun u=>if u∈l then m else S.bas u⟩
noncomputable def wnL (S:FS) (ss a:List Str) (m:Str):List Str:=ss.filter fun u=>decide (S.bas u∈a++[m])
inductive spFd (cc:Nat->Addr) (cw:Addr) (vs:List V) (H:Hp) (Q:VK) (E:XK):Prop|mk (H0:Hp) (a:Fo) (ss:List Str) (ns:List Nat) (qs:List (Str×Str)) (S:FS) (dn wt:List Str) (lo:V) (lr:Addr) (rg:List Str) (m:Str) (xs:List V) (_:vs=[.ref a.x,.ref lr,.str m]) (_:FoA (cc 9) cw H0 H a ss ns qs S ss dn wt lo) (_:ss.length<=14) (_:H lr=some (.lst (rg.map V.str))) (_:lr∉a.six) (_:rg.length<=100) (_:H a.dg=some (.lst xs)) (_:xs.length<(dn++wt).length) (_:∀ H',FoA (cc 9) cw H0 H' a ss ns qs (S.setBas (wnL S ss rg m) m) ss dn wt lo->Bx a.six H H'->Q .non H')
theorem put_len {kvs:List (Key×V)} {k:Key} {v u:V} (h:jP kvs k=some u):(zr kvs k v).length=kvs.length:=by
 unfold zr;rw [qaj,h];exact ya _
theorem qex {n:Addr} {Q:VK} (a:H n=some (.lst (ss.map V.str))) (q:Q (.bl (decide (z∈ss))) H):qeR K false (.str z) (.ref n) H Q:=
 .inl ⟨n,_,rfl,.inl (.of a),rfl,YS.mpr fun x b=>by (obtain ⟨s,_,rfl⟩:=Ye.mp b;rfl),by rw [yy (by decide),qb6];exact q⟩
theorem FoA.setB {a:Fo} {ks:List (Key×V)} {l:List Str} {m:Str} (h:FoA (cc 9) cw H0 H a ss ns qs (S.setBas l m) ss dn wt lo) (v:H a.ds=some (.dK ks)) (hz:z∈ss):FoA (cc 9) cw H0 (upd H a.ds (.dK (zr ks (Sum.inr z) (.str m)))) a ss ns qs (S.setBas (l++[z]) m) ss dn wt lo/\ks.length<=ss.length:=by
 obtain ⟨B,J,K,L⟩:=h.row;obtain ⟨A,p1,p2,I⟩:=h.par;obtain ⟨k,g,i,j⟩:=h.bas;obtain ⟨xs,r,s⟩:=h.rng;rw [v] at g;cases g;obtain ⟨⟨M,N,F,O,P⟩,⟨R,G,T,U⟩,⟨b,C,D⟩,⟨d,f⟩,E⟩:=(by simpa [Fo.six] using h.sep:(¬a.x=a.dr/\¬a.x=a.da/\¬a.x=a.ds/\¬a.x=a.dg/\¬a.x=a.dw)/\(¬a.dr=a.da/\¬a.dr=a.ds/\¬a.dr=a.dg/\¬a.dr=a.dw)/\(¬a.da=a.ds/\¬a.da=a.dg/\¬a.da=a.dw)/\(¬a.ds=a.dg/\¬a.ds=a.dw)/\¬a.dg=a.dw);have p:Bx a.six H (upd H a.ds (.dK (zr ks (Sum.inr z) (.str m)))):=fun c o n e=>by rw [qe (fun y=>n (by rw [y];simp [Fo.six]))];exact e
 refine ⟨⟨qaz h.sm (h.fr _ (by simp [Fo.six])),h.web,h.prt,h.fr,h.nd,fun c hc=>⟨(h.exf c hc).1,(h.exf c hc).2.1,(h.exf c hc).2.2.elim fun o e=>⟨o,p _ _ (h.exf c hc).2.1 e⟩⟩,h.obj.eq (qe F),⟨B,by rw [qe G];exact J,K,fun y=>(L y).mono p Fo.sub⟩,⟨A,by rw [qe b];exact p1,p2,I⟩,⟨_,qb,by rw [put_len (j z hz)];exact i,fun u w=>?_⟩,⟨xs,by rw [qe (Yh d)];exact r,s⟩,by rw [qe (Yh f)];exact h.wai,h.evn,h.evi,h.evs⟩,i⟩;rw [qak,j u w];show (if _ then _ else _)=some (V.str (if u∈l++[z] then m else S.bas u));have q:(S.setBas l m).bas u=if u∈l then m else S.bas u:=rfl;rw [q];by_cases e:u=z
 .subst e;rw [yD rfl,yD (by simp)]
 .rw [yy (fun x=>e (Y8 x))];by_cases y:u∈l
  .rw [yD y,yD (yH _ y)]
  .rw [yy y,yy (fun x=>(yE.mp x).elim y fun x=>e (yx.mp x))]
theorem FoA.updG {a:Fo} {bs:List Str} (h:FoA (cc 9) cw H0 H a ss ns qs S bs dn wt lo) (m:xs.length<=(dn++wt).length):FoA (cc 9) cw H0 (upd H a.dg (.lst xs)) a ss ns qs S bs dn wt lo:=by
 obtain ⟨p,z,A,B⟩:=h.row;obtain ⟨n,p1,p2,w⟩:=h.par;obtain ⟨k,i,j,l⟩:=h.bas;obtain ⟨⟨C,D,E,u,F⟩,⟨G,I,v,J⟩,⟨q,b,r⟩,⟨d,s⟩,f⟩:=(by simpa [Fo.six] using h.sep:(¬a.x=a.dr/\¬a.x=a.da/\¬a.x=a.ds/\¬a.x=a.dg/\¬a.x=a.dw)/\(¬a.dr=a.da/\¬a.dr=a.ds/\¬a.dr=a.dg/\¬a.dr=a.dw)/\(¬a.da=a.ds/\¬a.da=a.dg/\¬a.da=a.dw)/\(¬a.ds=a.dg/\¬a.ds=a.dw)/\¬a.dg=a.dw);have g:Bx a.six H (upd H a.dg (.lst xs)):=(Bx.of (Sr H)).upd (by simp [Fo.six]);exact ⟨qaz h.sm (h.fr _ (by simp [Fo.six])),h.web,h.prt,h.fr,h.nd,fun c hc=>⟨(h.exf c hc).1,(h.exf c hc).2.1,(h.exf c hc).2.2.elim fun o e=>⟨o,g _ _ (h.exf c hc).2.1 e⟩⟩,h.obj.eq (qe u),⟨p,by rw [qe v];exact z,A,fun y=>(B y).mono g Fo.sub⟩,⟨n,by rw [qe b];exact p1,p2,w⟩,⟨k,by rw [qe d];exact i,j,l⟩,⟨xs,qb,m⟩,by rw [qe (Yh f)];exact h.wai,h.evn,h.evi,h.evs⟩
theorem ok_fdF (F:Fun K "fold" "Forest.fold" jK f fd) (T:Txt K mg cc cw) (Ko:MethOk P w K mg base CX0 1 cw "places" ["self"] (spPls cw)):FnOk P w K mg base CX0 2 f fd ["self","ring","meeting"] (spFd cc cw):=by
 refine F.ok KJ fun _ _ _ _ H vs Q E hr h=>?_
 .obtain ⟨H0,a,ss,ns,qs,S,dn,wt,lo,lr,d,m,xs,rfl,h,an,af,aq,ar,ad,as,q⟩:=h;have C:=jS hr;refine ⟨_,(qc (zX (sc:=qh jK) (XN:=["self","ring","meeting","within","place"]) ["place","ring","self","meeting"] 1 [1,0,2] rfl rfl rfl (by decide +kernel) rfl (by decide +kernel) (i:=3) KJ.nd rfl rfl
  (qT (K:=K) rfl (qF Ko (hmR hr) (qA (K:=K) rfl (pv 0) rfl))) (fun _ _ _ _=>(qr (i:=0) (show (["place","ring","self","meeting"]:List Str).Nodup by decide +kernel) rfl (yO rfl))) qR
  (fun _ _ _ _=>(q9 (qj (zT (K:=K) rfl C) (qt (qu (K:=K) rfl C) (qA (K:=K) rfl (pv 2) rfl) (pv 0) (fun _ _=>rfl)) (qE (zy (K:=K) rfl) (pv 1) (qP (qa (pv 3) qd))) (by with_unfolding_all rfl))))
  (fun _ _ _ _=>(pv 0)))
 (qc (jl y0 rfl (qT (K:=K) rfl (pv 3)) (qr (i:=4) KJ.nd rfl (yO rfl))
 (qf (jN (pv 2) (jV (qA (K:=K) rfl (pv 0) rfl) (pv 4) (jW C)))))
 (qf (qI (qbf (K:=K) rfl yL yY yZ qN (qA (K:=K) rfl (pv 0) rfl) (qa (pv 3) qd)))))),?_⟩
  have al:=h.few;have B:=h.web.same h.sm;obtain ⟨wx,dd,ol,nn,hb,_⟩:=id B;ext;refine .inl (h.obj.rd T 0 rfl ?_);refine ⟨a.b,wx,_,rfl,hb,jY (by decide +kernel),?_⟩;ext;refine ⟨a.b,ss,ns,rfl,B,fun pl ag=>?_⟩;have s1:=qL (Sr H) (o:=.lst (ss.map V.str)) ag;have Y:upd H pl (.lst (ss.map V.str)) pl=some (.lst (ss.map V.str)):=qb;generalize upd H pl (.lst (ss.map V.str))=H1 at s1 Y;refine .inl ⟨⟨_,.of Y⟩,qK (xs:=ss.map V.str) (fun i ys J=>L2.Same H1 J/\ys=((ss.take i).filter fun u=>decide (S.bas u∈d++[m])).map V.str) ⟨L2.Same.refl H1,rfl⟩ (fun i ys J _ g=>.of (g.1 _ _ Y)) (fun i y ys J I g=>?_) fun ys J g=>?_⟩
  .obtain ⟨L,rfl⟩:=g;rw [yd] at I;obtain ⟨z,hz,rfl⟩:=yn.mp I;have j:=s1.trans L;have l:=h.same j;obtain ⟨ks,O,b2,b3⟩:=l.bas;have ao:=(yc.mp hz).1
   have r:(ss.take (i+1)).filter (fun u=>decide (S.bas u∈d++[m]))=(ss.take i).filter (fun u=>decide (S.bas u∈d++[m]))++(if S.bas z∈d++[m] then [z] else []):=by
    rw [yK,hz,y9];show _++[z].filter _=_;rw [yS];simp only [xv,Yj]
   ext;refine .inl (l.obj.rd T 4 rfl ?_);ext;refine qeT O (b3 z (ye hz)) ?_;ext;refine ⟨by show 1<=sizeLine;decide,fun W aa=>?_⟩;have t1:=qL (Sr J) (o:=.lst [.str m]) aa;have s:upd J W (.lst [.str m]) W=some (.lst [.str m]):=qb;generalize upd J W (.lst [.str m])=J1 at t1 s;refine qe3 ((j.trans t1) _ _ af) s (by rw [ya];show _+1<=_;omega) fun X ac=>?_;have t2:=qL t1 (o:=.lst (d.map V.str++[.str m])) ac;have v:upd J1 X (.lst (d.map V.str++[.str m])) X=some (.lst ((d++[m]).map V.str)):=by rw [qb,yA];rfl
   generalize upd J1 X (.lst (d.map V.str++[.str m]))=J2 at t2 v;refine qex v ⟨_,rfl,?_⟩;rw [r];by_cases p:S.bas z∈d++[m]
   .rw [yM p,yD p];refine qal ?_;ext;have ae:=yF (fun u=>decide (S.bas u∈d++[m])) (ss.take i);rw [yT] at ae;refine ⟨by rw [ya];exact qi (by omega),L.trans t2,by rw [yA];rfl⟩
   .rw [yl p,yy p,Yc];refine yq ?_;exact ⟨L.trans t2,rfl⟩
  .obtain ⟨L,rfl⟩:=g;rw [show (ss.map V.str).length=ss.length from ya _,yR];have j:=s1.trans L;have ai:(ss.filter fun u=>decide (S.bas u∈d++[m])).length<=ss.length:=yF _ _;refine ⟨by rw [ya];exact yX (qi (by omega)),fun N D=>?_⟩;have R:=qL j (o:=.lst ((wnL S ss d m).map V.str)) D;have Z:upd J N (.lst ((wnL S ss d m).map V.str)) N=some (.lst ((wnL S ss d m).map V.str)):=qb;have am:(wnL S ss d m).length<=ss.length:=ai;have aj:∀ u∈wnL S ss d m,u∈ss:=fun u C=>(yp.mp C).1;show qgm _ _ _ _ (upd J N (.lst ((wnL S ss d m).map V.str)));generalize wnL S ss d m=M at *;have G:=(h.same j).new D;generalize upd J N (.lst (M.map V.str))=H2 at R Z;have h2:=h.same R;ext;refine .inl ⟨⟨_,.of Z⟩,ju (xs:=M.map V.str) (fun i σ J=>Bx a.six H2 J/\(∀ o,H2 a.dg=some o->J a.dg=some o)/\FoA (cc 9) cw H0 J a ss ns qs (S.setBas (M.take i) m) ss dn wt lo/\∃ y4,σ=[some (.ref a.x),some (.ref lr),some (.str m),some (.ref N),y4]) ⟨fun c o _ e=>e,fun _ e=>e,?_,_,rfl⟩ (fun i σ J _ g=>.of (g.1 _ _ G Z)) (fun i y σ J I g=>?_) fun σ J g=>?_⟩
   .have:S.setBas ([]:List Str) m=S:=by unfold FS.setBas;simp
    rw [ke,this];exact h2
   .obtain ⟨U,hg,l,y4,rfl⟩:=g;rw [yd] at I;obtain ⟨z,hz,rfl⟩:=yn.mp I;obtain ⟨ks,O,b2,b3⟩:=l.bas;have ah:M.take (i+1)=M.take i++[z]:=by rw [yK,hz];rfl
    obtain ⟨h3,ap⟩:=l.setB O (aj z (ye hz));ext;refine .inl (l.obj.rd T 4 rfl ?_);ext;refine .inr ⟨a.ds,_,rfl,DPut.k (k:=Sum.inr z) O (by rw [YB];omega),?_⟩;have ak:a.dg≠a.ds:=fun e=>by have:=h.nd;rw [e] at this;simp at this
    exact ⟨fun c o n e=>by rw [qe (fun y=>n (by rw [y];simp [Fo.six]))];exact U c o n e,fun o e=>by rw [qe ak];exact hg o e,by rw [ah];exact h3,_,rfl⟩
   .obtain ⟨U,hg,l,y4,rfl⟩:=g;rw [ya,yR] at l;have A:=hg _ (R _ _ ad);ext;refine .inl (l.obj.rd T 5 rfl ?_);refine ⟨.inl ⟨rfl,_,.of A⟩,?_⟩;ext;refine ⟨a.dg,_,_,rfl,rfl,A,qi (by omega),?_⟩;exact q _ (l.updG (by rw [yt];simp only [yC,xo];omega)) ((Bx.of R).trans U |>.upd (by simp [Fo.six]))
theorem Ke:FnScope ["self","one","other","ones","others","meeting","ring"] ["self","one","other"] (qh qM):=fS
structure Mono (S S':FS):Prop where
 ba:∀ u v,S.bas u=S.bas v->S'.bas u=S'.bas v
 pa:∀ u,S.par u≠none->S'.par u≠none
 ro:∀ u r,S.rows u=some r->S'.rows u=some r
theorem Mono.refl (S:FS):Mono S S:=⟨fun _ _ e=>e,fun _ e=>e,fun _ _ e=>e⟩
theorem Mono.trans {c:FS} (a:Mono S S') (b:Mono S' c):Mono S c:=⟨fun u v e=>b.ba u v (a.ba u v e),fun u e=>b.pa u (a.pa u e),fun u r e=>b.ro u r (a.ro u r e)⟩
structure Wb (A:Str->Str->Prop) (ss:List Str) (qs:List (Str×Str)):Prop where
 gr:Gr A (pt qs)
 inn:∀ a b,A a b->a∈ss
 qn:(qB qs).Nodup
 few:ss.length<=14
 nd:ss.Nodup
theorem Alt.inn (W:Wb A ss qs) (h:Alt A (pt qs) r v) (hv:v∈ss):r.length<=14/\∀ u∈r,u∈ss:=by
 have a:∀ u∈r,u∈ss:=fun u f=>by
  obtain ⟨j,d⟩:=yf f;obtain ⟨g,e⟩:=h.tl;by_cases hl:j+1<r.length
  .obtain ⟨b,hb⟩:∃ b,r[j+1]?=some b:=⟨_,yb hl⟩;exact W.inn _ _ (h.st j u b d hb).1
  .have c:=(yc.mp d).1;have:j=g.length:=by rw [e,yt] at c hl;simp at c hl;omega
   rw [e,this,yG (yh _),Xw] at d;rw [<- ym d];exact hv
 exact ⟨yi (zz h.nd a) W.few,a⟩
theorem qdN (l':List Str):∀ {l:List Str},(∃ d∈l,d∈l')->∃ l1 m l2,l=l1++m::l2/\m∈l'/\(∀ d∈l1,d∉l')/\∃ t,l.filter (fun d=>decide (d∈l'))=m::t
 | [],⟨_,h,_⟩=>by cases h
 | x::r,h=>by
  by_cases b:x∈l'
  .exact ⟨[],x,r,rfl,b,(fun _ h=>by cases h),_,by rw [yS,yD (yM b)]⟩
  .obtain ⟨d,i,a⟩:=h;obtain ⟨l1,m,l2,c,e,f,t,g⟩:=qdN l' (l:=r) ⟨d,(yB.mp i).resolve_left (fun z=>b (by rw [<- z];exact a)),a⟩;refine ⟨x::l1,m,l2,by rw [c];rfl,e,fun y hy=>?_,t,by rw [yS,yy (by simpa using b)];exact g⟩;rcases yB.mp hy with rfl | hy
   .exact b
   .exact f y hy
inductive spBt (cc:Nat->Addr) (cw:Addr) (vs:List V) (H:Hp) (Q:VK) (E:XK):Prop|mk (H0:Hp) (a:Fo) (ss:List Str) (ns:List Nat) (qs:List (Str×Str)) (S:FS) (dn wt:List Str) (v w:Str) (rv rw:List Str) (A:Str->Str->Prop) (_:vs=[.ref a.x,.str v,.str w]) (_:FoA (cc 9) cw H0 H a ss ns qs S ss dn wt .non) (_:Wb A ss qs) (_:FI A (pt qs) S) (_:S.rows v=some rv) (_:S.rows w=some rw) (_:A v w) (_:(∀ (H':Hp) (S':FS) (more:List Str),FoA (cc 9) cw H0 H' a ss ns qs S' ss dn (wt++more) .non->Bx a.six H H'->FI A (pt qs) S'->S'.bas v=S'.bas w->Mono S S'->Q .non H')) (_:∀ (H':Hp) (t:Addr) (r:List Str),FoA (cc 9) cw H0 H' a ss ns qs S ss dn wt (.ref t)->Bx a.six H H'->H' t=some (.lst (r.map V.str))->t∉a.all->Aug A (pt qs) r->r.length<=28->Q .non H')
theorem qfi {d:Str} {Q:VK} (q:Q (.bl (!decide (c=d))) H):qe0 K true (.str c) (.str d) H Q:=by
 refine .inl ⟨rfl,rfl,?_⟩;rw [yD rfl]
 have e:eqV (.str c) (.str d)=decide (c=d):=by
  by_cases h:c=d
  .subst h;simp [eqV]
  .simp [eqV,h]
 rw [e];exact q
theorem FoA.setL {a:Fo} {bs:List Str} {fs:List (Str×V)} {v:V} (h:FoA (cc 9) cw H0 H a ss ns qs S bs dn wt .non) (r:H a.x=some (.ins (cc 9) dx fs)) (hv:v≠.non):fs.length<1000/\FoA (cc 9) cw H0 (upd H a.x (.ins (cc 9) dx (qG "longer" v fs))) a ss ns qs S bs dn wt v:=by
 obtain ⟨l,m,x1,x2,E,F,G⟩:=h.obj;rw [r] at x1;cases x1;have hl:=E rfl;obtain ⟨w,B,C,D⟩:=h.row;obtain ⟨s,p1,p2,A⟩:=h.par;obtain ⟨k,g,i,j⟩:=h.bas;obtain ⟨xs,n,p⟩:=h.rng;have q:=h.sep;have nx:∀ {c:Addr},c∈[a.dr,a.da,a.ds,a.dg,a.dw]->c≠a.x:=fun hc e=>(yo.mp q).1 (by rw [<- e];exact hc);have d:Bx a.six H (upd H a.x (.ins (cc 9) dx (qG "longer" v fs))):=(Bx.of (Sr H)).upd (by simp [Fo.six]);refine ⟨by omega,qaz h.sm (h.fr _ (by simp [Fo.six])),h.web,h.prt,h.fr,h.nd,fun c hc=>⟨(h.exf c hc).1,(h.exf c hc).2.1,(h.exf c hc).2.2.elim fun o e=>⟨o,d _ _ (h.exf c hc).2.1 e⟩⟩,⟨dx,_,qb,yi (jo _ _ _) (by omega),fun e=>absurd e hv,fun f u b=>?_,fun f b=>?_⟩,⟨w,by rw [qe (nx (by simp))];exact B,C,fun y=>(D y).mono d Fo.sub⟩,⟨s,by rw [qe (nx (by simp))];exact p1,p2,A⟩,⟨k,by rw [qe (nx (by simp))];exact g,i,j⟩,⟨xs,by rw [qe (nx (by simp))];exact n,p⟩,by rw [qe (nx (by simp))];exact h.wai,h.evn,h.evi,h.evs⟩
 .rw [qz];by_cases e:f="longer"
  .rw [yD e];subst e;have:(Str.ofString "longer",u)∈a.tab v:=b;simp only [Fo.tab,yB,Xk,Yd,Y0] at this;rcases this with ⟨z,_⟩ | ⟨z,_⟩ | ⟨z,_⟩ | ⟨z,_⟩ | ⟨z,_⟩ | ⟨z,_⟩ | ⟨z,_⟩ | ⟨_,z⟩<;>first | exact absurd z (by decide +kernel) | exact congrArg some z.symm
  .rw [yy e];refine F f u ?_;have:(f,u)∈a.tab v:=b;simp only [Fo.tab,yB,Xk,Yd,Y0] at this ⊢;rcases this with z | z | z | z | z | z | z | ⟨z,_⟩
   all_goals first | exact absurd z e | simp [z]
 .rw [qz,yy (fun e=>b (by rw [e];decide +kernel))];exact G f b
theorem FoA.rowAt {a:Fo} {bs:List Str} (h:FoA (cc 9) cw H0 H a ss ns qs S bs dn wt lo) (e:S.rows u=some r) {Q:VK} (q:∀ t,H t=some (.lst (r.map V.str))->Q (.ref t) H):qgk K (.ref a.dr) (.str u) H Q:=by
 obtain ⟨g,d,_,f⟩:=h.row;have:=f u;rw [e] at this;obtain ⟨t,b,c,_⟩:=this;exact qeT d b (q t c)
theorem ok_bt (F:Fun K "bring_together" "Forest.bring_together" qM f fd) (T:Txt K mg cc cw) (Ky:MethOk P w K mg base CX0 1 (cc 9) "bases_down_from" ["self","place"] (spBd cc cw)) (KF:MethOk P w K mg base CX0 2 (cc 9) "reach_round" ["self","one","other","bases"] (spRr cc cw)) (uK:MethOk P w K mg base CX0 2 (cc 9) "fold" ["self","ring","meeting"] (spFd cc cw)):FnOk P w K mg base CX0 3 f fd ["self","one","other"] (spBt cc cw):=by
 refine F.ok Ke fun _ _ _ _ H vs Q E hr h=>?_
 .obtain ⟨H0,a,ss,ns,qs,S,dn,wt,v,w,rv,g,B,rfl,h,b,I,hv,hw,cf,q1,q2⟩:=h;have M:=jS hr;have X:∀ {v:Str} {r:List Str},S.rows v=some r->v∈ss:=fun e=>h.evs _ ((h.evi _).mpr (by rw [e];exact fun z=>by cases z));obtain ⟨l,hl⟩:=I.chainOf hv;obtain ⟨l',D⟩:=I.chainOf hw;have ah:=hl.nd I hv rfl;have C:=D.nd I hw rfl;have Y:l.length<=14:=yi (zz ah fun c hc=>(hl.bs0 I hv hc).elim fun r z=>X z.1) b.few;have L:l'.length<=14:=yi (zz C fun c hc=>(D.bs0 I hw hc).elim fun r z=>X z.1) b.few;obtain ⟨ar,dv⟩:=(I.alt v rv hv).inn b (X hv);obtain ⟨ak,dw⟩:=(I.alt w g hw).inn b (X hw);obtain ⟨lx,c,aw⟩:∃ lx c,l=lx++[c]:=by obtain ⟨t,e⟩:=hl.ne;exact ⟨_,_,(YR (by rw [e];exact kK _ _)).symm⟩
  obtain ⟨ly,d,ax⟩:∃ ly d,l'=ly++[d]:=by obtain ⟨t,e⟩:=D.ne;exact ⟨_,_,(YR (by rw [e];exact kK _ _)).symm⟩
  refine ⟨_,(qc (qo (i:=3) Ke.nd rfl (yO rfl) (qD Ky (hmR hr) (pv 0) (qa (pv 1) qd)))
 (qc (qo (i:=4) Ke.nd rfl (Xi rfl) (qD Ky (hmR hr) (pv 0) (qa (pv 2) qd)))
 (qf (qV (qj (zZ (K:=K) rfl M) (qt (qu (K:=K) rfl M) (pv 3) (qav j5 qg) (fun _ _=>rfl)) (qt (qu (K:=K) rfl M) (pv 4) (qav j5 qg) (fun _ _=>rfl)) (qC _)) (qf (jH (K:=K) rfl (pv 0) (qE (zy (K:=K) rfl) (qt (qu (K:=K) rfl M) (qA (K:=K) rfl (pv 0) rfl) (pv 1) (fun _ _=>rfl)) (qeo (K:=K) rfl (qt (qu (K:=K) rfl M) (qA (K:=K) rfl (pv 0) rfl) (pv 2) (fun _ _=>rfl)) (j4 (qav j5 qg)))) rfl)) (qf (qV (qj (zZ (K:=K) rfl M) (qt (qu (K:=K) rfl M) (pv 3) qg (fun _ _=>rfl)) (qt (qu (K:=K) rfl M) (pv 4) qg (fun _ _=>rfl)) (qC _)) (qc (qo (i:=5) Ke.nd rfl (yO rfl) (qt (qu (K:=K) rfl M) (jh (sc:=qh qM) (XN:=["self","one","other","ones","others","meeting","ring"]) ["base","others"] 1 [4] rfl rfl rfl (by decide +kernel) rfl (by decide +kernel)
  (qT (K:=K) rfl (pv 3)) (fun _ _ _ _=>(qr (i:=0) (show (["base","others"]:List Str).Nodup by decide +kernel) rfl (yO rfl))) qR
  (fun _ _ _ _=>(q9 (qj (zT (K:=K) rfl M) (pv 0) (pv 1) (by with_unfolding_all rfl))))
  (fun _ _ _ _=>(pv 0))) qg (fun _ _=>rfl)))
 (qc (qo (i:=6) Ke.nd rfl (yO rfl) (qD KF (hmR hr) (pv 0) (qa (pv 1) (qa (pv 2) (qa (zj (qe9 (K:=K) rfl) (pv 3) zU (j4 (qbf (K:=K) rfl yL xK Xr (qc9 (K:=K) rfl) (pv 3) (qa (pv 5) qd)))) qd)))))
 (qc (qI (qbf (K:=K) rfl yL PySem.F.slot_list_extend PySem.F.type_list_extend qbU (pv 6) (qa (qD KF (hmR hr) (pv 0) (qa (pv 2) (qa (pv 1) (qa (zj (qe9 (K:=K) rfl) (pv 4) zU (j4 (qbf (K:=K) rfl yL xK Xr (qc9 (K:=K) rfl) (pv 4) (qa (pv 5) qd)))) qd)))) qd)))
 (qf (qI (qD uK (hmR hr) (pv 0) (qa (pv 6) (qa (pv 5) qd)))))))) qx)))))),?_⟩
  ext;obtain ⟨dx,fs,aj,_,_,_,az⟩:=id h.obj;refine ⟨a.x,dx,fs,rfl,aj,az _ (by decide +kernel),?_⟩;ext;refine ⟨H0,a,ss,ns,qs,S,dn,wt,.non,v,rv,l,B,rfl,h,b.few,I,hv,hl,Y,fun o1 H1 s1 dl cv=>?_⟩;ext;refine ⟨a.x,dx,fs,rfl,s1 _ _ aj,az _ (by decide +kernel),?_⟩;ext;refine ⟨H0,a,ss,ns,qs,S,dn,wt,.non,w,g,l',B,rfl,h.same s1,b.few,I,hw,D,L,fun o2 H2 s2 dm al=>?_⟩;have ap:=s1.trans s2;have h2:=h.same ap;have O:=s2 _ _ cv;have dt:=h.newA dl;have du:=(h.same s1).newA dm;ext;refine ⟨1,rfl,?_⟩;refine .inl (zc O (v:=.str c) (by rw [aw];exact atI_last) ?_);ext;refine ⟨1,rfl,?_⟩;refine .inl (zc al (v:=.str d) (by rw [ax];exact atI_last) ?_);refine qfi ⟨_,rfl,?_⟩;by_cases am:c=d
  .rw [yM am];refine yq ?_;obtain ⟨t0,W⟩:=hl.ne;obtain ⟨eg,A⟩:=D.ne;ext;refine .inl (zc O (v:=.str (S.bas v)) (qy (j:=0) (by rw [W];rfl)) ?_);ext;refine .inl (zc al (v:=.str (S.bas w)) (qy (j:=0) (by rw [A];rfl)) ?_);refine qfi ⟨_,rfl,?_⟩;by_cases af:S.bas v=S.bas w
   .rw [yM af];refine yq ?_;exact q1 H2 S [] (by rw [Yc];exact h2) (Bx.of ap) I af (Mono.refl S)
   .rw [yl af];refine qal ?_;obtain ⟨l1,m,l2,R,ai,an,tf,bq⟩:=qdN l' (l:=l) ⟨c,by rw [aw];simp,by rw [ax,am];simp⟩;obtain ⟨m1,m2,N⟩:=Yp ai;obtain ⟨cu,df⟩:=hl.meet I hv hw D R N an;rw [cu] at N;have dz:m∉m1:=fun z=>by rw [N] at C;exact (yV.mp C).2.2 m z m (by simp) rfl
    have dy:m∉l1:=fun z=>an m z ai;ext;refine .inl ⟨⟨_,.of O⟩,qK (xs:=l.map V.str) (fun i ys J=>J=H2/\ys=((l.take i).filter fun d=>decide (d∈l')).map V.str) ⟨rfl,rfl⟩ (fun i ys J _ hp=>by rw [hp.1];exact .of O) (fun i y ys J hy hp=>?_) fun ys J hp=>?_⟩
    .obtain ⟨rfl,rfl⟩:=hp;rw [yd] at hy;obtain ⟨z,hz,rfl⟩:=yn.mp hy
     have ay:(l.take (i+1)).filter (fun d=>decide (d∈l'))=(l.take i).filter (fun d=>decide (d∈l'))++(if z∈l' then [z] else []):=by
      rw [yK,hz,y9];show _++[z].filter _=_;rw [yS];simp only [xv,Yj]
     have ed:=(yc.mp hz).1;have di:=yF (fun d=>decide (d∈l')) (l.take i);rw [yT] at di;ext;refine qex al ⟨_,rfl,?_⟩;rw [ay];by_cases G:z∈l'
     .rw [yM G,yD G];refine qal ?_;ext;exact ⟨by rw [ya];exact qi (by omega),rfl,by rw [yA];rfl⟩
     .rw [yl G,yy G,Yc];refine yq ?_;exact ⟨rfl,rfl⟩
    .obtain ⟨rfl,rfl⟩:=hp;rw [show (l.map V.str).length=l.length from ya _,yR,bq];have dq:=yF (fun d=>decide (d∈l')) l;rw [bq] at dq;refine ⟨by rw [ya];exact yX (qi (by omega)),fun cl bt=>?_⟩;have s3:=qL ap (o:=.lst ((m::tf).map V.str)) bt;have bc:=qL (Sr J) (o:=.lst ((m::tf).map V.str)) bt;have bh:upd J cl (.lst ((m::tf).map V.str)) cl=some (.lst ((m::tf).map V.str)):=qb;generalize upd J cl (.lst ((m::tf).map V.str))=H3 at s3 bc bh;ext;refine .inl (zc bh (v:=.str m) (qy (j:=0) rfl) ?_);have h3:=h.same s3;have ad:=bc _ _ O;have bm:=bc _ _ al;ext;refine ⟨a.x,dx,fs,rfl,s3 _ _ aj,az _ (by decide +kernel),?_⟩;ext;refine ⟨.inl ⟨rfl,_,.of ad⟩,?_⟩;ext;refine ⟨o1,l,m,rfl,rfl,.of ad,by rw [R];simp,_,rfl,?_⟩;rw [show l.idxOf m=l1.length by rw [R] at ah ⊢;exact qde ah];ext;refine .inl ⟨o1,_,rfl,.of ad,fun c1 Z=>?_⟩;have bi:qcx (l.map V.str) none (some ((l1.length:Nat):Int))=l1.map V.str:=by rw [qcI,R,yA,List.take_left' (by simp)]
     rw [bi];have s4:=qL s3 (o:=.lst (l1.map V.str)) Z;have co:=qL (Sr H3) (o:=.lst (l1.map V.str)) Z;have aa:upd H3 c1 (.lst (l1.map V.str)) c1=some (.lst (l1.map V.str)):=qb;have n1:=h3.new Z;generalize upd H3 c1 (.lst (l1.map V.str))=H4 at s4 co aa;have h4:=h.same s4
     have au:∀ {x y:Str} {rx k U:List Str},S.rows x=some rx->(∀ u∈rx,u∈ss)->Ch (pt qs) S (S.bas x) k->k=U++m::l2->∀ c∈U,∃ q rz t,pt qs c=some q/\S.rows q=none/\q∈ss/\rx=rz++q::t:=fun {x y rx k U} hx hs hk ek c hc=>by
      obtain ⟨a',b',ea⟩:=Yp hc;have bj:k=a'++c::(b'++m::l2):=by rw [ek,ea];simp
      obtain ⟨_,_,_,_,g3,_⟩:=hk.up I hx rfl bj;rcases g3.cases' with ⟨_,z⟩ | ⟨q,_,hq,_⟩
      .simp at z
      .obtain ⟨rz,t,U,_,k3,_⟩:=hk.suf I hx bj hq;exact ⟨q,rz,_,hq,k3,hs q (by rw [U];simp),U⟩
     ext;refine ⟨H0,a,ss,ns,qs,S,dn,wt,.non,v,w,c1,l1,rv,g,rfl,h4,b.few,aa,n1,hv,hw,ar,ak,(I.alt v rv hv).nd,?_,?_,b.qn,au (y:=v) hv dv hl R,fun t1 p ao H5 S1 h5 be ce bn bz cb bw R1 dj=>?_⟩
     .rw [R] at ah;exact (yV.mp ah).1
     .rw [R,yt] at Y;omega
     have ec:o1∉a.six:=fun z=>dt (Fo.sub _ z);have cn:o2∉a.six:=fun z=>du (Fo.sub _ z);have ae:=be _ _ cn (co _ _ bm);ext;refine ⟨.inl ⟨rfl,_,.of bn⟩,?_⟩;ext;obtain ⟨cs,da,ch,_,_,_,cj⟩:=id h5.obj;refine ⟨a.x,cs,da,rfl,ch,cj _ (by decide +kernel),?_⟩;ext;refine ⟨.inl ⟨rfl,_,.of ae⟩,?_⟩;ext;refine ⟨o2,l',m,rfl,rfl,.of ae,ai,_,rfl,?_⟩;rw [show l'.idxOf m=m1.length by rw [N] at C ⊢;exact qde C];ext;refine .inl ⟨o2,_,rfl,.of ae,fun c2 ag=>?_⟩;have av:qcx (l'.map V.str) none (some ((m1.length:Nat):Int))=m1.map V.str:=by rw [qcI,N,yA,List.take_left' (by simp)]
     rw [av];have s6:=qL (Sr H5) (o:=.lst (m1.map V.str)) ag;have ac:upd H5 c2 (.lst (m1.map V.str)) c2=some (.lst (m1.map V.str)):=qb;have n2:=h5.new ag;generalize upd H5 c2 (.lst (m1.map V.str))=H6 at s6 ac;have h6:=h5.same s6
     have cm:∀ c∈m1,∀ q,pt qs c=some q->S.rows q=none->S1.rows q=none:=fun c hc q hq hn=>by
      cases e:S1.rows q with
      | none=>rfl
      | some r =>
       exfalso;rcases R1.new q r e with z | ⟨c',hc',z,_⟩
       .rw [hn] at z;cases z
       .have e1:=b.gr.fs z;rw [b.gr.fs hq] at e1;rw [<- ym e1] at hc';exact an c hc' (by rw [N];exact yH _ hc)
     ext;refine ⟨H0,a.add t1,ss,ns,qs,S1,dn,wt++ao,.non,w,v,c2,m1,g,rv,rfl,h6,b.few,ac,n2,R1.old _ _ hw,R1.old _ _ hv,ak,ar,(I.alt w g hw).nd,?_,?_,b.qn,fun c hc=>?_,fun t2 s ba H7 S2 h7 bf ee cx ca cd bx R2 dk=>?_⟩
     .rw [N] at C;exact (yV.mp C).1
     .rw [N,yt] at L;omega
     .obtain ⟨q,rz,t,U,k2,k3,k4⟩:=au (y:=v) hw dw D N c hc;exact ⟨q,rz,t,U,cm c hc q U k2,k3,k4⟩
     have bd:t1∉a.six:=h4.new ce;have bo:H7 t1=some (.lst (p.map V.str)):=bf _ _ bd (s6 _ _ bn);ext;refine ⟨t1,t2,_,_,rfl,rfl,bo,cx,by rw [ya,ya,YB];rw [R,yt] at Y;rw [N,yt] at L;omega,?_⟩;have h8:=h7.updE (c:=t1) (o:=.lst (p.map V.str++s.map V.str)) (by simp [Fo.add]);obtain ⟨xs,dh,ef⟩:=h.rng;have bu:=dk _ (s6 _ _ (dj _ (s4 _ _ dh)));have ds:a.dg≠t1:=fun z=>bd (by rw [<- z];simp [Fo.six]);have bp:upd H7 t1 (.lst (p.map V.str++s.map V.str)) t1=some (.lst ((p++s).map V.str)):=by rw [qb,yA]
     have aq:upd H7 t1 (.lst (p.map V.str++s.map V.str)) a.dg=some (.lst xs):=by rw [qe ds];exact bu
     have bg:Bx a.six H (upd H7 t1 (.lst (p.map V.str++s.map V.str))):=fun e o n k=>by
      have ne:e≠t1:=fun z=>by rw [z,s4.free ce] at k;cases k
      rw [qe ne];exact bf _ _ n (s6 _ _ (be _ _ n (s4 _ _ k)))
     generalize upd H7 t1 (.lst (p.map V.str++s.map V.str))=H8 at h8 bp aq bg
     have eb:0<ao.length+ba.length:=by
      rw [bw,bx];rcases l1 with _ | ⟨x,r⟩
      .rcases m1 with _ | ⟨x,r⟩
       .rw [R] at W;rw [N] at A;exact absurd ((Y9 W).1.symm.trans (Y9 A).1) af
       .simp
      .simp;omega
     ext;obtain ⟨ct,db,ci,_,_,_,ck⟩:=id h8.obj;refine ⟨a.x,ct,db,rfl,ci,ck _ (by decide +kernel),?_⟩;ext;refine ⟨H0,(a.add t1).add t2,ss,ns,qs,S2,dn,wt++ao++ba,.non,t1,p++s,m,xs,rfl,h8,b.few,bp,bd,?_,aq,?_,fun H9 h9 cr=>?_⟩
     .rw [yt,cb,cd];rw [R,yt] at Y;rw [N,yt] at L;omega
     .rw [<- Yi,<- Yi,yt,yt (as:=dn++wt)];omega
     have dp:∀ u,u∈p++s++[m]↔InR (pt qs) m (l1++m1) u:=fun u=>by
      rw [yE,yE,bz,ca,yx];unfold InR;constructor
      .rintro ((⟨c,hc,z⟩ | ⟨c,hc,z⟩) | z)
       .exact .inr ⟨c,yH _ hc,z⟩
       .exact .inr ⟨c,yP _ hc,z⟩
       .exact .inl z
      .rintro (z | ⟨c,hc,z⟩)
       .exact .inr z
       .rcases yE.mp hc with y | y
        .exact .inl (.inl ⟨c,y,z⟩)
        .exact .inl (.inr ⟨c,y,z⟩)
     have br:S2.bas=S.bas:=by rw [R2.bas,R1.bas]
     have bv:∀ u,InR (pt qs) m (l1++m1) (S.bas u)->u∈ss:=fun u M=>by
      cases e:S.rows u with
      | some r=>exact X e
      | none =>
       rw [I.own e] at M;rcases M with z | ⟨c,hc,z⟩
       .obtain ⟨r,k,_⟩:=hl.bs0 I hv (c:=m) (by rw [R];simp);rw [z];exact X k
       .have de:∃ r,S.rows c=some r:=by
         rcases yE.mp hc with y | y
         .exact (hl.bs0 I hv (by rw [R];exact yH _ y)).elim fun r k=>⟨r,k.1⟩
         .exact (D.bs0 I hw (by rw [N];exact yH _ y)).elim fun r k=>⟨r,k.1⟩
        obtain ⟨r,k⟩:=de;rcases z with z | z
        .rw [z];exact X k
        .exact b.inn _ _ (b.gr.as (b.gr.fa z))
     have hM:Mg (pt qs) S (S2.setBas (wnL S2 ss (p++s) m) m) v w m l1 m1:=by
      have cg:∀ u,u∈wnL S2 ss (p++s) m↔u∈ss/\InR (pt qs) m (l1++m1) (S.bas u):=fun u=>by
       unfold wnL;rw [yp,yJ,dp,br]
      have nr:∀ {u:Str} {r:List Str},NewRow S1 w v u r->NewRow S w v u r:=fun ⟨a1,a2,a3,a4,U,k2,k3⟩=>by
       rw [R1.old _ _ hw] at U;rw [R1.old _ _ hv] at k2;cases U;cases k2;exact ⟨_,_,a3,a4,hw,hv,k3⟩
      refine ⟨by show S2.par=S.par;rw [R2.par,R1.par],fun u r e=>R2.old _ _ (R1.old _ _ e),fun u r e=>?_,fun c hc q hq=>?_,fun u M=>?_,fun u M=>?_⟩
      .rcases R2.new u r e with z | ⟨c,hc,U,k2⟩
       .rcases R1.new u r z with z | z
        .exact .inl z
        .exact .inr (.inl z)
       .exact .inr (.inr ⟨c,hc,U,nr k2⟩)
      .rcases yE.mp hc with y | y
       .obtain ⟨r,k⟩:=R1.all c y q hq;exact ⟨r,R2.old _ _ k⟩
       .exact R2.all c y q hq
      .show (if u∈wnL S2 ss (p++s) m then m else S2.bas u)=m;rw [yD ((cg u).mpr ⟨bv u M,M⟩)]
      .show (if u∈wnL S2 ss (p++s) m then m else S2.bas u)=S.bas u;rw [yy (fun z=>M ((cg u).mp z).2),br]
     have hI:=I.merge b.gr hv hw (R ▸ hl) (N ▸ D) (N ▸ an) (R ▸ df) cf af hM
     have dc:InR (pt qs) m (l1++m1) (S.bas v):=by
      rcases l1 with _ | ⟨x,r⟩
      .rw [R] at W;cases W;exact .inl rfl
      .rw [R] at W;cases W;exact .inr ⟨_,by simp,.inl rfl⟩
     have dd:InR (pt qs) m (l1++m1) (S.bas w):=by
      rcases m1 with _ | ⟨x,r⟩
      .rw [N] at A;cases A;exact .inl rfl
      .rw [N] at A;cases A;exact .inr ⟨_,by simp,.inl rfl⟩
     refine q1 H9 _ (ao++ba) ?_ (bg.trans cr) hI ((hM.inn v dc).trans (hM.inn w dd).symm) ⟨fun u z e=>?_,fun u e=>by rw [hM.par];exact e,hM.old⟩
     .rw [<- Yi];exact h9.drop (l:=a.ex) fun c hc=>by simp [Fo.add,hc]
     .by_cases G:InR (pt qs) m (l1++m1) (S.bas u)
      .rw [hM.inn u G,hM.inn z (by rw [<- e];exact G)]
      .rw [hM.out u G,hM.out z (by rw [<- e];exact G),e]
  .rw [yl am];refine qal ?_;ext;refine .inl (h2.obj.rd T 2 rfl ?_);ext;refine h2.rowAt hv fun tv cy=>?_;ext;refine qgv ?_;ext;refine .inl (h2.obj.rd T 2 rfl ?_);ext;refine h2.rowAt hw fun tw cz=>?_;ext;refine ⟨1,rfl,?_⟩;refine ⟨_,rfl,rfl,tw,_,rfl,.of cz,fun c1 Z=>?_⟩;have t1:=qL ap (o:=.lst (g.map V.str).reverse) Z;have cq:=qL (Sr H2) (o:=.lst (g.map V.str).reverse) Z;have aa:upd H2 c1 (.lst (g.map V.str).reverse) c1=some (.lst (g.reverse.map V.str)):=by rw [qb,kL]
   generalize upd H2 c1 (.lst (g.map V.str).reverse)=H3 at t1 cq aa;refine qe3 (cq _ _ cy) aa (by rw [ya,ya,Yq];omega) fun c2 ag=>?_;have n2:=(h.same t1).newA ag;have t2:=qL t1 (o:=.lst (rv.map V.str++g.reverse.map V.str)) ag;have ac:upd H3 c2 (.lst (rv.map V.str++g.reverse.map V.str)) c2=some (.lst ((rv++g.reverse).map V.str)):=by rw [qb,yA]
   generalize upd H3 c2 (.lst (rv.map V.str++g.reverse.map V.str))=H4 at t2 ac;obtain ⟨U,k2⟩:=(h.same t2).setL (v:=.ref c2) (t2 _ _ aj) (fun e=>by cases e);ext;refine .inl ⟨a.x,cc 9,dx,fs,rfl,t2 _ _ aj,T.fcl,T.fa _ (by decide +kernel),U,?_⟩;have dr:c2≠a.x:=fun z=>n2 (Fo.sub _ (by rw [z];simp [Fo.six]));exact q2 _ c2 _ k2 ((Bx.of t2).upd (by simp [Fo.six])) (by rw [qe dr];exact ac) n2 (I.aug b.gr hv hw hl D (by rw [aw,ax];simpa using am) cf) (by rw [yt,Yq];omega)
theorem Ks:FnScope ["self","place","other","partner"] ["self","place"] (qh jd):=fS
noncomputable def FS.setPar (S:FS) (u p:Str):FS:=⟨S.rows,fun s=>if s=u then some p else S.par s,S.bas⟩
inductive spLa (cc:Nat->Addr) (cw:Addr) (vs:List V) (H:Hp) (Q:VK) (E:XK):Prop|mk (H0:Hp) (a:Fo) (ss:List Str) (ns:List Nat) (qs:List (Str×Str)) (S:FS) (dn wt:List Str) (v:Str) (A:Str->Str->Prop) (_:vs=[.ref a.x,.str v]) (_:FoA (cc 9) cw H0 H a ss ns qs S ss (dn++[v]) wt .non) (_:Wb A ss qs) (_:(∀ s∈ss,zJ s=true)) (_:(∀ (j:Nat) z u,ss[j]?=some z->(u∈inB ss 0 (ns.getD j 0)↔A z u))) (_:(∀ z∈ss,pt qs z=none->S.rows z≠none)) (_:FI A (pt qs) S) (_:CI A S (fun u=>u∈dn)) (_:(∀ (H':Hp) (S':FS) (more:List Str),FoA (cc 9) cw H0 H' a ss ns qs S' ss (dn++[v]) (wt++more) .non->Bx a.six H H'->FI A (pt qs) S'->CI A S' (fun u=>u∈dn++[v])->Mono S S'->Q .non H')) (_:∀ (H':Hp) (S':FS) (more:List Str) (t:Addr) (r:List Str),FoA (cc 9) cw H0 H' a ss ns qs S' ss (dn++[v]) (wt++more) (.ref t)->Bx a.six H H'->H' t=some (.lst (r.map V.str))->t∉a.all->Aug A (pt qs) r->r.length<=28->Q .non H')
theorem CI.on (h:CI A S Pd) (m:Mono S S'):CI A S' Pd:=h.mono m.ba m.pa fun u a=>by
 cases e:S.rows u with
 | none=>exact absurd e a
 | some r=>rw [m.ro u r e];exact fun z=>by cases z
theorem FoA.setP {a:Fo} {bs:List Str} {d:List (Key×V)} {p:Str} (h:FoA (cc 9) cw H0 H a ss ns qs S bs dn wt lo) (C:H a.da=some (.dK d)) (g:u∈ss) (f:S.par u=none):FoA (cc 9) cw H0 (upd H a.da (.dK (zr d (Sum.inr u) (.str p)))) a ss ns qs (S.setPar u p) bs dn wt lo/\d.length<=ss.length:=by
 obtain ⟨E,O,P,R⟩:=h.row;obtain ⟨k',p1,p2,M⟩:=h.par;obtain ⟨k,r,v,w⟩:=h.bas;obtain ⟨xs,A,B⟩:=h.rng;rw [C] at p1;cases p1;obtain ⟨⟨T,J,U,W,X⟩,⟨K,Y,Z,n9⟩,⟨i,j,l⟩,⟨F,G⟩,I⟩:=(by simpa [Fo.six] using h.sep:(¬a.x=a.dr/\¬a.x=a.da/\¬a.x=a.ds/\¬a.x=a.dg/\¬a.x=a.dw)/\(¬a.dr=a.da/\¬a.dr=a.ds/\¬a.dr=a.dg/\¬a.dr=a.dw)/\(¬a.da=a.ds/\¬a.da=a.dg/\¬a.da=a.dw)/\(¬a.ds=a.dg/\¬a.ds=a.dw)/\¬a.dg=a.dw);have n:Bx a.six H (upd H a.da (.dK (zr d (Sum.inr u) (.str p)))):=(Bx.of (Sr H)).upd (by simp [Fo.six]);obtain ⟨N,L,q,m⟩:=p2;refine ⟨⟨qaz h.sm (h.fr _ (by simp [Fo.six])),h.web,h.prt,h.fr,h.nd,fun c hc=>⟨(h.exf c hc).1,(h.exf c hc).2.1,(h.exf c hc).2.2.elim fun o e=>⟨o,n _ _ (h.exf c hc).2.1 e⟩⟩,h.obj.eq (qe J),⟨E,by rw [qe K];exact O,P,fun y=>(R y).mono n Fo.sub⟩,⟨_,qb,⟨N++[u],by have:=jr d (Sum.inr u:Key) (.str p);rw [yt];show _<=_+1;omega,yV.mpr ⟨q,List.pairwise_singleton _ _,fun x b y D e=>(m u (by rw [<- yx.mp D,<- e];exact b)).2 f⟩,fun x b=>?_⟩,fun s=>?_⟩,⟨k,by rw [qe (Yh i)];exact r,v,w⟩,⟨xs,by rw [qe (Yh j)];exact A,B⟩,by rw [qe (Yh l)];exact h.wai,h.evn,h.evi,h.evs⟩,yi L (zz q fun x b=>(m x b).1)⟩
 .show x∈ss/\(if x=u then some p else S.par x)≠none;by_cases e:x=u
  .rw [yD e,e];exact ⟨g,fun z=>by cases z⟩
  .rw [yy e];exact m x ((yE.mp b).resolve_right fun z=>e (yx.mp z))
 .rw [qak,M];show _=(if s=u then some p else S.par s).map V.str;by_cases e:s=u
  .subst e;rw [yD rfl,yD rfl];rfl
  .rw [yy (fun x=>e (Y8 x)),yy e]
theorem ok_la (F:Fun K "look_around" "Forest.look_around" jd f fd) (T:Txt K mg cc cw) (Kn:MethOk P w K mg base CX0 6 cw "beside" ["self","place"] (spBs cw)) (K1:MethOk P w K mg base CX0 3 (cc 9) "bring_together" ["self","one","other"] (spBt cc cw)) (Kr:MethOk P w K mg base CX0 1 (cc 9) "reach" ["self","place","row"] (spRe cc cw)):FnOk P w K mg base CX0 7 f fd ["self","place"] (spLa cc cw):=by
 refine F.ok Ks fun _ _ _ s H vs Q E hr h=>?_
 .obtain ⟨H0,a,ss,ns,qs,S,dn,wt,v,B,rfl,h,c,bh,av,bc,I,hC,q1,q2⟩:=h;have R:=jS hr;refine ⟨_,(qf (jl y0 rfl (qT (K:=K) rfl (qD Kn (hmR hr) (qA (K:=K) rfl (pv 0) rfl) (qa (pv 1) qd))) (qr (i:=2) Ks.nd rfl (yO rfl))
 (qc (qV (qj (zT (K:=K) rfl R) (pv 2) (qA (K:=K) rfl (pv 0) rfl) (by with_unfolding_all rfl)) (qf (qI (qD K1 (hmR hr) (pv 0) (qa (pv 1) (qa (pv 2) qd))))) (qf (qV (qj (zH (K:=K) rfl R) (pv 2) (qA (K:=K) rfl (pv 0) rfl) (by with_unfolding_all rfl)) (qc (qo (i:=3) Ks.nd rfl (yO rfl) (qt (qu (K:=K) rfl R) (qA (K:=K) rfl (pv 0) rfl) (pv 2) (fun _ _=>rfl)))
 (qc (jN (pv 1) (jV (qA (K:=K) rfl (pv 0) rfl) (pv 2) (jW R)))
 (qf (qI (qD Kr (hmR hr) (pv 0) (qa (pv 3) (qa (qE (zy (K:=K) rfl) (qt (qu (K:=K) rfl R) (qA (K:=K) rfl (pv 0) rfl) (pv 1) (fun _ _=>rfl)) (qP (qa (pv 2) (qa (pv 3) qd)))) qd))))))) qx)))
 (qf (qV (qj qc1 (qA (K:=K) rfl (pv 0) rfl) qax (qC _)) (qf ps_retN) qx))))),?_⟩
  have am:v∈ss:=h.evs v (by simp)
  obtain ⟨rv,az⟩:∃ r,S.rows v=some r:=by
   cases e:S.rows v with
   | none=>exact absurd e ((h.evi v).mp (by simp))
   | some r=>exact ⟨r,rfl⟩
  obtain ⟨j,hj⟩:=yf am;have ae:=h.web.same h.sm;obtain ⟨wx,dd,ol,nn,hb,_⟩:=id ae;ext;refine .inl (h.obj.rd T 0 rfl ?_);refine ⟨a.b,wx,_,rfl,hb,jY (by decide +kernel),?_⟩;ext;refine ⟨a.b,ss,ns,v,j,rfl,ae,hj,fun H1 s1 bl af=>?_⟩;have g:=fun u=>av j v u hj;have N:(inB ss 0 (ns.getD j 0)).length<=14:=yi (qa3 _ _ _) c.few;generalize inB ss 0 (ns.getD j 0)=bes at g N ⊢;have bf:=(h.same s1).new af;have s2:=qL s1 (o:=.lst (bes.map V.str)) af;have eb:upd H1 bl (.lst (bes.map V.str)) bl=some (.lst (bes.map V.str)):=qb;generalize upd H1 bl (.lst (bes.map V.str))=H2 at s2 eb;have h2:=h.same s2;refine .inl ⟨⟨_,.of eb⟩,ju (xs:=bes.map V.str) (fun i σ J=>∃ (S':FS) (more:List Str) (y2 y3:Option V),σ=[some (.ref a.x),some (.str v),y2,y3]/\FoA (cc 9) cw H0 J a ss ns qs S' ss (dn++[v]) (wt++more) .non/\Bx a.six H2 J/\FI B (pt qs) S'/\Mono S S'/\∀ u∈bes.take i,S'.bas u=S'.bas v\/(S'.par u≠none/\u∉dn++[v])) ⟨S,[],_,_,rfl,by rw [Yc];exact h2,fun _ _ _ e=>e,I,Mono.refl S,(fun u R=>by simp at R)⟩ (fun i σ J _ hp=>?_) (fun i y σ J hy hp=>?_) fun σ J hp=>?_⟩
  .obtain ⟨S',more,y2,y3,rfl,_,A,_⟩:=hp;exact .of (A _ _ bf eb)
  .obtain ⟨S',more,y2,y3,rfl,d,A,G,D,M⟩:=hp;rw [yd] at hy;obtain ⟨u,ai,rfl⟩:=yn.mp hy;have U:B v u:=(g u).mp (ye ai);have ak:u∈ss:=c.inn _ _ (c.gr.as U);have l:=D.ro v rv az;have O:bes.take (i+1)=bes.take i++[u]:=by rw [yK,ai];rfl
   obtain ⟨kr,r1,r2,r3⟩:=d.row;have n:=r3 u;ext;refine .inl (d.obj.rd T 2 rfl ?_);refine .inr (.inl ⟨a.dr,_,rfl,DGet.k (k:=Sum.inr u) r1,?_⟩)
   cases C:S'.rows u with
   | some ru =>
    rw [C] at n;obtain ⟨tu,k1,k2,_⟩:=n;rw [k1];refine ⟨_,rfl,qal ?_⟩;ext;obtain ⟨dx,fs,X,_,_,_,Y⟩:=id d.obj;refine ⟨a.x,dx,fs,rfl,X,Y _ (by decide +kernel),?_⟩;ext;refine ⟨H0,a,ss,ns,qs,S',dn++[v],wt++more,v,u,rv,ru,B,rfl,d,c,G,l,C,U,fun H5 S5 be h5 L I5 au m5=>?_,fun H5 t5 r5 h5 L e5 n5 aq ax=>?_⟩
    .ext;refine .inl (h5.obj.rd T 7 rfl ?_);ext;refine ⟨rfl,_,rfl,qW (fun h=>by simp at h) fun _=>?_⟩;refine ⟨S5,more++be,_,_,rfl,by rw [<- Yi wt];exact h5,A.trans L,I5,D.trans m5,fun z hz=>?_⟩;rw [O] at hz;rcases yE.mp hz with hz | hz
     .exact (M z hz).imp (m5.ba z v) fun y=>⟨m5.pa z y.1,y.2⟩
     .rw [yx.mp hz];exact .inl au.symm
    .ext;refine .inl (h5.obj.rd T 7 rfl ?_);ext;refine ⟨rfl,_,rfl,qal ?_⟩;exact q2 H5 S' more t5 r5 h5 (((Bx.of s2).trans A).trans L) e5 n5 aq ax
   | none =>
    rw [C] at n;have ah:jP kr (.inr u:Key)=none:=n;rw [ah];have aj:u∉dn++[v]:=fun z=>(d.evi u).mp (yH _ z) C;refine ⟨_,rfl,qW (fun h=>by cases h) fun _=>?_⟩;obtain ⟨ka,p1,p2,p3⟩:=d.par;ext;refine .inl (d.obj.rd T 3 rfl ?_);refine .inr (.inl ⟨a.da,_,rfl,DGet.k (k:=Sum.inr u) p1,?_⟩);rw [p3]
    cases ep:S'.par u with
    | some z =>
     refine ⟨_,rfl,qW (fun h=>by cases h) fun _=>?_⟩;ext;refine .inl (d.obj.rd T 7 rfl ?_);ext;refine ⟨rfl,_,rfl,qW (fun h=>by simp at h) fun _=>?_⟩;refine ⟨S',more,_,_,rfl,d,A,G,D,fun z hz=>?_⟩;rw [O] at hz;rcases yE.mp hz with hz | hz
     .exact M z hz
     .rw [yx.mp hz];exact .inr ⟨by rw [ep];exact (fun y=>by cases y),aj⟩
    | none =>
     refine ⟨_,rfl,qal ?_⟩
     obtain ⟨y,q⟩:∃ y,pt qs u=some y:=by
      cases e:pt qs u with
      | some y=>exact ⟨y,rfl⟩
      | none =>
       exfalso;have k:=bc u ak e
       cases e2:S.rows u with
       | none=>exact k e2
       | some r=>rw [D.ro u r e2] at C;cases C
     have bd:y∈ss:=c.inn _ _ (c.gr.as (c.gr.fa q));have an:=G.fresh c.gr C ep q;have ay:=d.sm _ _ h.prt;obtain ⟨Z,bg⟩:=d.setP (p:=v) p1 ak ep;have bj:=c.few;ext;refine .inl (d.obj.rd T 1 rfl ?_);ext;refine qeT ay (by rw [jR,q];rfl) ?_;ext;refine .inl (d.obj.rd T 3 rfl ?_);ext;refine .inr ⟨a.da,_,rfl,DPut.k (k:=Sum.inr u) p1 (by rw [YB];omega),?_⟩;have aa:Bx a.six H2 (upd J a.da (.dK (zr ka (Sum.inr u) (.str v)))):=A.upd (by simp [Fo.six]);generalize upd J a.da (.dK (zr ka (Sum.inr u) (.str v)))=J3 at Z aa;ext;obtain ⟨dx,fs,X,_,_,_,Y⟩:=id Z.obj;refine ⟨a.x,dx,fs,rfl,X,Y _ (by decide +kernel),?_⟩;ext;refine .inl (Z.obj.rd T 2 rfl ?_);ext;refine Z.rowAt (S:=S'.setPar u v) l fun tv ap=>?_;ext;refine ⟨by show 2<=sizeLine;decide,fun c1 aw=>?_⟩;have t1:=qL (Sr J3) (o:=.lst [.str u,.str y]) aw;have ac:upd J3 c1 (.lst [.str u,.str y]) c1=some (.lst [.str u,.str y]):=qb;generalize upd J3 c1 (.lst [.str u,.str y])=J4 at t1 ac;have bi:=((G.alt v rv l).inn c am).1;refine qe3 (t1 _ _ ap) ac (by rw [ya];show _+2<=_;omega) fun c2 ag=>?_;have n2:=(Z.same t1).newA ag;have t2:=qL t1 (o:=.lst (rv.map V.str++[.str u,.str y])) ag;have ad:upd J4 c2 (.lst (rv.map V.str++[.str u,.str y])) c2=some (.lst ((rv++[u,y]).map V.str)):=by rw [qb,yA];rfl
     generalize upd J4 c2 (.lst (rv.map V.str++[.str u,.str y]))=J5 at t2 ad;ext;refine ⟨H0,a,ss,ns,qs,S'.setPar u v,ss,dn++[v],wt++more,.non,y,c2,rv++[u,y],rfl,Z.same t2,c.few,ad,n2,bd,an,fun H6 h6 ao _=>?_⟩;have W:Gw S' ((S'.setPar u v).setRow y (rv++[u,y])) v u y rv:=⟨yD rfl,fun s hs=>yy hs,yD rfl,fun s hs=>yy hs,rfl⟩;have I6:=G.grow c.gr l U C ep q W
     have m6:Mono S' ((S'.setPar u v).setRow y (rv++[u,y])):=⟨fun _ _ e=>e,fun z hz=>by
      show (if z=u then some v else S'.par z)≠none;split
      .exact fun x=>by cases x
      .exact hz,fun z r e=>by rw [W.ro z (fun x=>by rw [x,an] at e;cases e)];exact e⟩
     ext;refine .inl (h6.obj.rd T 7 rfl ?_);ext;refine ⟨rfl,_,rfl,qW (fun h=>by simp at h) fun _=>?_⟩;refine ⟨_,more++[y],_,_,rfl,by rw [<- Yi wt];exact h6,(aa.trans (Bx.of t2)).trans ao,I6,D.trans m6,fun z hz=>?_⟩;rw [O] at hz;rcases yE.mp hz with hz | hz
     .exact (M z hz).imp (m6.ba z v) fun y=>⟨m6.pa z y.1,y.2⟩
     .rw [yx.mp hz];exact .inr ⟨by rw [W.pu];exact (fun x=>by cases x),aj⟩
  .obtain ⟨S',more,y2,y3,rfl,d,A,G,D,M⟩:=hp;rw [ya,yR] at M;refine q1 J S' more d ((Bx.of s2).trans A) G ?_ D;have ar:=hC.on D;refine ⟨fun z u hz m=>?_,fun z hz=>?_⟩
   .rcases yE.mp hz with hz1 | hz1
    .by_cases al:u=v
     .rw [al] at m ⊢;rcases M z ((g z).mpr (c.gr.as m)) with y | y
      .exact .inl y.symm
      .exact absurd (yH _ hz1) y.2
     .rcases ar.cl z u hz1 m with y | ⟨y1,y2⟩
      .exact .inl y
      .exact .inr ⟨y1,fun x=>(yE.mp x).elim y2 fun x=>al (yx.mp x)⟩
    .rw [yx.mp hz1] at m ⊢;exact M u ((g u).mpr m)
   .exact (d.evi z).mp (yH _ hz)
theorem K3:FnScope ["self","place"] ["self"] (qh j9):=fS
structure FoD (cf cw:Addr) (H0 H:Hp) (a:Fo) (ss:List Str) (ns:List Nat) (qs:List (Str×Str)) (S:FS) (dn wt:List Str) (lo:V) (A:Str->Str->Prop):Prop where
 fo:FoA cf cw H0 H a ss ns qs S ss dn wt lo
 en:(lo=.non/\wt=[]/\FI A (pt qs) S/\CI A S (fun u=>u∈dn)/\∀ z∈ss,pt qs z=none->S.rows z≠none)\/∃ t r,lo=.ref t/\H t=some (.lst (r.map V.str))/\t∉a.all/\Aug A (pt qs) r/\r.length<=28
noncomputable def S0:FS:=⟨fun _=>none,fun _=>none,fun s=>s⟩
noncomputable def SI (qs:List (Str×Str)) (l:List Str):FS:=⟨fun s=>if s∈l/\pt qs s=none then some [s] else none,fun _=>none,fun s=>s⟩
theorem SI_nil (qs:List (Str×Str)):SI qs []=S0:=by unfold SI S0;simp
theorem SI_on {l:List Str} (h:pt qs z=none):SI qs (l++[z])=(SI qs l).setRow z [z]:=by
 unfold SI FS.setRow
 congr 1
 funext s;dsimp only;by_cases e:s=z
 .subst e;rw [yD ⟨by simp,h⟩,yD rfl]
 .rw [yy e];have:s∈l++[z]↔s∈l:=by simp [e]
  simp only [this]
theorem SI_off {l:List Str} (h:pt qs z≠none):SI qs (l++[z])=SI qs l:=by
 unfold SI
 congr 1
 funext s;by_cases e:s=z
 .subst e;rw [yy (fun k=>h k.2),yy (fun k=>h k.2)]
 .have:s∈l++[z]↔s∈l:=by simp [e]
  simp only [this]
inductive spGw (cc:Nat->Addr) (cw:Addr) (vs:List V) (H:Hp) (Q:VK) (E:XK):Prop|mk (H0:Hp) (a:Fo) (ss:List Str) (ns:List Nat) (qs:List (Str×Str)) (A:Str->Str->Prop) (_:vs=[.ref a.x]) (_:FoA (cc 9) cw H0 H a ss ns qs S0 [] [] [] .non) (_:Wb A ss qs) (_:(∀ s∈ss,zJ s=true)) (_:(∀ (j:Nat) z u,ss[j]?=some z->(u∈inB ss 0 (ns.getD j 0)↔A z u))) (_:∀ (H':Hp) (S:FS) (dn wt:List Str) (lo:V),FoD (cc 9) cw H0 H' a ss ns qs S dn wt lo A->Bx a.six H H'->Q .non H')
theorem ix_natF {k:Nat} (h:k<n):seqIndex? (k:Int) n=some k:=by
 unfold seqIndex?;simp;omega
theorem nin_prF {d:Addr} {Q:VK} (a:H d=some (.dK (prK qs))) (q:Q (.bl (!(pt qs s).isSome)) H):qeR K true (.str s) (.ref d) H Q:=by
 refine .inr (.inl ⟨d,_,rfl,DGet.k (k:=Sum.inr s) a,?_⟩);rw [jR,yD rfl,x0];exact q
theorem FoA.ne {a:Fo} {bs:List Str} (h:FoA (cc 9) cw H0 H a ss ns qs S bs dn wt lo):(¬a.x=a.dr/\¬a.x=a.da/\¬a.x=a.ds/\¬a.x=a.dg/\¬a.x=a.dw)/\(¬a.dr=a.da/\¬a.dr=a.ds/\¬a.dr=a.dg/\¬a.dr=a.dw)/\(¬a.da=a.ds/\¬a.da=a.dg/\¬a.da=a.dw)/\(¬a.ds=a.dg/\¬a.ds=a.dw)/\¬a.dg=a.dw:=by simpa [Fo.six] using h.sep
theorem FoA.setN {a:Fo} {bs:List Str} {ks:List (Key×V)} (h:FoA (cc 9) cw H0 H a ss ns qs S bs dn wt lo) (p:H a.ds=some (.dK ks)) (hz:S.bas z=z):FoA (cc 9) cw H0 (upd H a.ds (.dK (zr ks (Sum.inr z) (.str z)))) a ss ns qs S (bs++[z]) dn wt lo/\ks.length<=bs.length:=by
 obtain ⟨s,E,F,G⟩:=h.row;obtain ⟨r,p1,p2,D⟩:=h.par;obtain ⟨k,g,j,l⟩:=h.bas;obtain ⟨xs,m,n⟩:=h.rng;rw [p] at g;cases g;obtain ⟨⟨I,J,B,K,L⟩,⟨M,C,N,O⟩,⟨b,v,w⟩,⟨d,f⟩,A⟩:=h.ne;have i:Bx a.six H (upd H a.ds (.dK (zr ks (Sum.inr z) (.str z)))):=(Bx.of (Sr H)).upd (by simp [Fo.six]);refine ⟨⟨qaz h.sm (h.fr _ (by simp [Fo.six])),h.web,h.prt,h.fr,h.nd,fun c hc=>⟨(h.exf c hc).1,(h.exf c hc).2.1,(h.exf c hc).2.2.elim fun o e=>⟨o,i _ _ (h.exf c hc).2.1 e⟩⟩,h.obj.eq (qe B),⟨s,by rw [qe C];exact E,F,fun y=>(G y).mono i Fo.sub⟩,⟨r,by rw [qe b];exact p1,p2,D⟩,⟨_,qb,by have:=jr ks (Sum.inr z:Key) (.str z);rw [yt];show _<=_+1;omega,fun u q=>?_⟩,⟨xs,by rw [qe (Yh d)];exact m,n⟩,by rw [qe (Yh f)];exact h.wai,h.evn,h.evi,h.evs⟩,j⟩;rw [qak];by_cases e:u=z
 .subst e;rw [yD rfl,hz]
 .rw [yy (fun x=>e (Y8 x))];exact l u ((yE.mp q).resolve_right fun y=>e (yx.mp y))
theorem FoA.pop {a:Fo} {bs:List Str} (h:FoA (cc 9) cw H0 H a ss ns qs S bs dn (v::wt) lo):FoA (cc 9) cw H0 (upd H a.dw (.lst (wt.map V.str))) a ss ns qs S bs (dn++[v]) wt lo:=by
 obtain ⟨r,B,C,D⟩:=h.row;obtain ⟨q,p1,p2,A⟩:=h.par;obtain ⟨k,j,l,m⟩:=h.bas;obtain ⟨xs,n,p⟩:=h.rng;obtain ⟨⟨E,F,G,I,x⟩,⟨J,K,L,z⟩,⟨s,u,d⟩,⟨w,f⟩,g⟩:=h.ne;have b:dn++[v]++wt=dn++v::wt:=by simp
 have i:Bx a.six H (upd H a.dw (.lst (wt.map V.str))):=(Bx.of (Sr H)).upd (by simp [Fo.six]);exact ⟨qaz h.sm (h.fr _ (by simp [Fo.six])),h.web,h.prt,h.fr,h.nd,fun c hc=>⟨(h.exf c hc).1,(h.exf c hc).2.1,(h.exf c hc).2.2.elim fun o e=>⟨o,i _ _ (h.exf c hc).2.1 e⟩⟩,h.obj.eq (qe x),⟨r,by rw [qe z];exact B,by rw [b];exact C,fun y=>(D y).mono i Fo.sub⟩,⟨q,by rw [qe d];exact p1,p2,A⟩,⟨k,by rw [qe f];exact j,l,m⟩,⟨xs,by rw [qe g];exact n,by rw [b];exact p⟩,qb,by rw [b];exact h.evn,by rw [b];exact h.evi,by rw [b];exact h.evs⟩
theorem ok_gw (F:Fun K "grow" "Forest.grow" j9 f fd) (T:Txt K mg cc cw) (Ko:MethOk P w K mg base CX0 1 cw "places" ["self"] (spPls cw)) (Kr:MethOk P w K mg base CX0 1 (cc 9) "reach" ["self","place","row"] (spRe cc cw)) (K4:MethOk P w K mg base CX0 7 (cc 9) "look_around" ["self","place"] (spLa cc cw)):FnOk P w K mg base CX0 8 f fd ["self"] (spGw cc cw):=by
 refine F.ok K3 fun _ _ _ _ H vs Q E hr h=>?_
 .obtain ⟨H0,a,ss,ns,qs,B,rfl,h,G,am,ai,q⟩:=h;have hu:=jS hr;have ao:=G.few;refine ⟨_,(qc (jl y0 rfl (qT (K:=K) rfl (qF Ko (hmR hr) (qA (K:=K) rfl (pv 0) rfl))) (qr (i:=1) K3.nd rfl (yO rfl))
 (qc (jN (pv 1) (jV (qA (K:=K) rfl (pv 0) rfl) (pv 1) (jW hu)))
 (qf (qV (qj (zH (K:=K) rfl hu) (pv 1) (qA (K:=K) rfl (pv 0) rfl) (by with_unfolding_all rfl)) (qf (qI (qD Kr (hmR hr) (pv 0) (qa (pv 1) (qa (qP (qa (pv 1) qd)) qd))))) qx))))
 (qf (qb0 y0 (PW.pt (qa9 (qj qc0 (qk (zh (K:=K) rfl) rfl T.b_len YO (qa (qA (K:=K) rfl (pv 0) rfl) qd)) qg (qC _)) (qaA (qj qgU (qA (K:=K) rfl (pv 0) rfl) qax (qC _)))))
 (qf (qI (qD K4 (hmR hr) (pv 0) (qa (qbf (K:=K) rfl yL Xz XA mtR_popAt (qA (K:=K) rfl (pv 0) rfl) (qa qg qd)) qd))))))),?_⟩
  have aa:=h.web.same h.sm;obtain ⟨wx,dd,ol,nn,hb,_⟩:=id aa;ext;refine .inl (h.obj.rd T 0 rfl ?_);refine ⟨a.b,wx,_,rfl,hb,jY (by decide +kernel),?_⟩;ext;refine ⟨a.b,ss,ns,rfl,aa,fun pl ad=>?_⟩;have ar:=h.new ad;have s1:=qL (Sr H) (o:=.lst (ss.map V.str)) ad;have e1:upd H pl (.lst (ss.map V.str)) pl=some (.lst (ss.map V.str)):=qb;generalize upd H pl (.lst (ss.map V.str))=H1 at s1 e1;refine .inl ⟨⟨_,.of e1⟩,ju (xs:=ss.map V.str) (fun i σ J=>∃ (p:List Str) (X:Option V),σ=[some (.ref a.x),X]/\FoA (cc 9) cw H0 J a ss ns qs (SI qs (ss.take i)) (ss.take i) [] p .non/\Bx a.six H1 J) ⟨[],_,rfl,by rw [ke,SI_nil];exact h.same s1,fun _ _ _ e=>e⟩ (fun i σ J _ n=>?_) (fun i y σ J hy n=>?_) fun σ J n=>?_⟩
  .obtain ⟨p,X,rfl,_,Y⟩:=n;exact .of (Y _ _ ar e1)
  .obtain ⟨p,X,rfl,U,Y⟩:=n;rw [yd] at hy;obtain ⟨z,hz,rfl⟩:=yn.mp hy;have av:=(yc.mp hz).1;have aq:=ye hz;have ae:ss.take (i+1)=ss.take i++[z]:=by rw [yK,hz];rfl
   obtain ⟨ks,b1,b2,b3⟩:=U.bas;rw [yT] at b2;obtain ⟨D,_⟩:=U.setN (z:=z) b1 rfl;ext;refine .inl (U.obj.rd T 4 rfl ?_);ext;refine .inr ⟨a.ds,_,rfl,DPut.k (k:=Sum.inr z) b1 (by rw [YB];omega),?_⟩;have s:Bx a.six H1 (upd J a.ds (.dK (zr ks (Sum.inr z) (.str z)))):=Y.upd (by simp [Fo.six]);generalize upd J a.ds (.dK (zr ks (Sum.inr z) (.str z)))=J2 at D s;have an:=D.sm _ _ h.prt;ext;refine .inl (D.obj.rd T 1 rfl ?_);refine nin_prF an ⟨_,rfl,?_⟩
   cases ez:pt qs z with
   | some y =>
    refine yq ?_;exact ⟨p,_,rfl,by rw [ae,SI_off (by rw [ez];exact fun k=>nomatch k)];exact D,s⟩
   | none =>
    refine qal ?_;ext;obtain ⟨dx,fs,N,_,_,_,O⟩:=id D.obj;refine ⟨a.x,dx,fs,rfl,N,O _ (by decide +kernel),?_⟩;ext;refine ⟨by show 1<=sizeLine;decide,fun c1 ac=>?_⟩;have n1:=D.newA ac;have t1:=qL (Sr J2) (o:=.lst [.str z]) ac;have Z:upd J2 c1 (.lst [.str z]) c1=some (.lst ([z].map V.str)):=qb;generalize upd J2 c1 (.lst [.str z])=J3 at t1 Z
    have ap:z∉ss.take i:=fun y=>by
     obtain ⟨j,hj⟩:=yf y;have aj:=(yc.mp hj).1;rw [yT] at aj;rw [List.getElem?_take,yD (by omega)] at hj;have:=qw G.nd hj hz;omega
    ext;refine ⟨H0,a,ss,ns,qs,SI qs (ss.take i),ss.take i++[z],[],p,.non,z,c1,[z],rfl,D.same t1,ao,Z,n1,aq,yy (fun k=>ap k.1),fun H6 h6 ag _=>?_⟩;exact ⟨p++[z],_,rfl,by rw [ae,SI_on ez];exact h6,(s.trans (Bx.of t1)).trans ag⟩
  .obtain ⟨p,X,rfl,U,Y⟩:=n;rw [ya,yR] at U;have af:Bx a.six H J:=(Bx.of s1).trans Y
   have IJ:FI B (pt qs) (SI qs ss):=FI.start (fun v r e=>by
    have e':(if v∈ss/\pt qs v=none then some [v] else none)=some r:=e;split at e'
    .rename_i k;exact ⟨k.2,(ym e').symm⟩
    .cases e') (fun _=>rfl) fun _=>rfl
   ext;obtain ⟨W,g⟩:∃ W:Nat->L2.St->Hp->Prop,W=fun m σ J=>∃ (S:FS) (dn wt:List Str) (lo:V) (X:Option V),σ=[some (.ref a.x),X]/\Bx a.six H J/\((lo=.non/\m=15-dn.length/\FoA (cc 9) cw H0 J a ss ns qs S ss dn wt .non/\FI B (pt qs) S/\CI B S (fun u=>u∈dn)/\∀ z∈ss,pt qs z=none->S.rows z≠none)\/(lo≠.non/\m=0/\FoD (cc 9) cw H0 J a ss ns qs S dn wt lo B)):=⟨_,rfl⟩;refine ⟨W,⟨15,by rw [g];exact ⟨SI qs ss,[],p,.non,_,rfl,af,.inl ⟨rfl,rfl,U,IJ,⟨(fun v u k=>by cases k),(fun v k=>by cases k)⟩,fun z hz e=>by show (if _ then _ else _)≠none;rw [yD ⟨hz,e⟩];exact fun k=>by cases k⟩⟩⟩,fun m σ J hW=>?_⟩;rw [g] at hW;obtain ⟨S,dn,wt,lo,aw,rfl,d,L⟩:=hW;rcases L with ⟨rfl,hm,l,I,hC,M⟩ | ⟨al,hm,R⟩
   .have c:=l.wai;ext;refine .inl (l.obj.rd T 6 rfl ?_);ext;refine qek c ?_;rw [ya];ext
    cases wt with
    | nil =>
     refine qW (fun h=>by simp at h) fun _=>qW (fun h=>by cases h) fun _=>?_;exact q J S dn [] .non ⟨l,.inl ⟨rfl,rfl,I,hC,M⟩⟩ d
    | cons v wt =>
     refine qW (fun _=>?_) fun h=>absurd (yM (by simp)) h;ext;refine .inl (l.obj.rd T 7 rfl ?_);ext;refine ⟨_,rfl,qal ⟨fun as H'=>∃ m',m'<m/\W m' as H',fun _ _ z=>z,?_⟩⟩;have au:dn.length+1<=14:=by have:=l.few;rw [yt,yC] at this;omega
     ext;obtain ⟨dx,fs,N,_,_,_,O⟩:=id l.obj;refine ⟨a.x,dx,fs,rfl,N,O _ (by decide +kernel),?_⟩;ext;refine .inl (l.obj.rd T 6 rfl ?_);refine ⟨.inl ⟨rfl,_,.of c⟩,?_⟩;ext;refine ⟨a.dw,_,0,0,.str v,rfl,rfl,c,by decide,by decide,by rw [ya];exact ix_natF (by simp),rfl,?_⟩;have n:=l.pop;have C:Bx a.six H (upd J a.dw (.lst (wt.map V.str))):=d.upd (by simp [Fo.six]);ext;show spLa cc cw _ (upd J a.dw (.lst (wt.map V.str))) _ _;generalize upd J a.dw (.lst (wt.map V.str))=J2 at n C;refine ⟨H0,a,ss,ns,qs,S,dn,wt,v,B,rfl,n,G,am,ai,M,I,hC,fun H5 S5 mo h5 A I5 C5 m5=>?_,fun H5 S5 mo t5 r5 h5 A e5 n5 ah ak=>?_⟩
     .refine ⟨15-(dn++[v]).length,by rw [hm,yt];show _-(_+1)<_;omega,?_⟩;rw [g]
      exact ⟨S5,dn++[v],wt++mo,.non,_,rfl,C.trans A,.inl ⟨rfl,rfl,h5,I5,C5,fun z hz e=>(by
       have k:=M z hz e
       cases e2:S.rows z with
       | none=>exact absurd e2 k
       | some r=>rw [m5.ro z r e2];exact fun x=>by cases x)⟩⟩
     .refine ⟨0,by omega,?_⟩;rw [g];exact ⟨S5,dn++[v],wt++mo,.ref t5,_,rfl,C.trans A,.inr ⟨(fun e=>by cases e),rfl,⟨h5,.inr ⟨t5,r5,rfl,e5,n5,ah,ak⟩⟩⟩⟩
   .have c:=R.fo.wai;rcases R.en with k | ⟨t,r,rfl,_⟩
    .exact absurd k.1 al
    ext;refine .inl (R.fo.obj.rd T 6 rfl ?_);ext;refine qek c ?_;ext;refine qW (fun _=>?_) (fun _=>qW (fun h=>by cases h) fun _=>q J S dn wt _ R d);ext;refine .inl (R.fo.obj.rd T 7 rfl ?_);ext;refine ⟨_,rfl,qW (fun h=>by cases h) fun _=>?_⟩;exact q J S dn wt _ R d
theorem uD:FnScope ["self","web","pairs"] ["self","web","pairs"] (qh za):=fS
theorem uL:FnScope ["self"] ["self"] (qh zo):=fS
theorem ud:FnScope ["self"] ["self"] (qh jk):=fS
noncomputable def qfG (p:Addr) (H:Hp):Hp:=fun b=>if b=p then none else H b
theorem zM (h:b≠p):qfG p H b=H b:=yy h
theorem lkn {f g:Str} {v:V} {fs:List (Str×V)} (h:f≠g) (k:fs.lookup f=none):(qG g v fs).lookup f=none:=by rw [qz,yy h];exact k
inductive spFi (cc:Nat->Addr) (cw:Addr) (vs:List V) (H:Hp) (Q:VK) (E:XK):Prop|mk (x dx b r:Addr) (ss:List Str) (ns:List Nat) (us:List Addr) (tps qs:List (Str×Str)) (A:Str->Str->Prop) (_:vs=[.ref x,.ref b,.ref r]) (_:H x=some (.ins (cc 9) dx [])) (_:WebAt cw H b ss ns) (_:Adj ss ns tps) (_:Wb A ss qs) (_:(∀ s∈ss,zJ s=true)) (_:(∀ (j:Nat) z u,ss[j]?=some z->(u∈inB ss 0 (ns.getD j 0)↔A z u))) (_:PL H r us qs) (_:qs.length<=30) (_:(∀ q∈qs,(q∈tps\/(q.2,q.1)∈tps)/\q.1∈ss/\q.2∈ss/\q.1≠q.2)) (_:∀ (H0 H':Hp) (a:Fo) (S:FS) (dn wt:List Str) (lo:V),a.x=x->a.ex=[]->FoD (cc 9) cw H0 H' a ss ns qs S dn wt lo A->L2.Same (qfG x H) H0->Q .non H')
theorem WebAt.out {fs:List (Str×V)} (h:WebAt cw H b ss ns) (a:H x=some (.ins (cc 9) dx fs)) (hb:b≠x):WebAt cw (qfG x H) b ss ns:=by
 obtain ⟨i,d,ol,n,h1,c,e,f,g⟩:=h;refine ⟨i,d,ol,n,(zM hb).trans h1,(zM ?_).trans c,(zM ?_).trans e,(zM ?_).trans f,g⟩
 .exact jO c a (fun z=>by cases z)
 .exact jO e a (fun z=>by cases z)
 .exact jO f a (fun z=>by cases z)
theorem ok_fi (F:Fun K "__init__" "Forest.__init__" za f fd) (T:Txt K mg cc cw) (Kh:DefOk P w K mg base CX0 9 "partners_in" ["web","pairs"] (spPn cw)) (uM:MethOk P w K mg base CX0 8 (cc 9) "grow" ["self"] (spGw cc cw)):FnOk P w K mg base CX0 10 f fd ["self","web","pairs"] (spFi cc cw):=by
 refine F.ok uD fun _ _ _ s H vs Q E hr h=>?_
 .obtain ⟨x,dx,b,r,ss,ns,us,tps,qs,B,rfl,hx,hW,hA,bu,ch,cf,hP,ci,cj,q⟩:=h;have hu:=jS hr;refine ⟨_,(qc (jH (K:=K) rfl (pv 0) (pv 1) rfl)
 (qc (jH (K:=K) rfl (pv 0) (qv Kh (hmR hr) qH (qa (pv 1) (qa (pv 2) qd))) rfl)
 (qc (jH (K:=K) rfl (pv 0) j6 rfl)
 (qc (jH (K:=K) rfl (pv 0) j6 rfl)
 (qc (jH (K:=K) rfl (pv 0) j6 rfl)
 (qc (jH (K:=K) rfl (pv 0) (qP qd) rfl)
 (qc (jH (K:=K) rfl (pv 0) (qP qd) rfl)
 (qc (jH (K:=K) rfl (pv 0) qax rfl)
 (qf (qI (qF uM (hmR hr) (pv 0)))))))))))),?_⟩
  have ca:b≠x:=fun e=>by
   obtain ⟨wx,d,ol,n,hb,_⟩:=id hW;subst e;rw [hx] at hb;injection hb with hb;injection hb with _ _ hb;cases hb
  have cr:r≠x:=jO hP.1 hx (fun z=>by cases z)
  have cs:∀ u∈us,u≠x:=fun u hu=>by
   obtain ⟨q,_,eu⟩:=hP.2.mem hu;exact jO eu hx (fun z=>by cases z)
  have fa:∀ i,(h:i<8)->NoAttr K (cc 9) (fAtt.getD i ""):=fun i h=>T.fa _ (by have:i<fAtt.length:=h;rw [YK,yb this];exact YT this);ext;refine .inl ⟨x,cc 9,dx,[],rfl,hx,T.fcl,fa 0 (by decide),by decide,?_⟩;have b1:=(But.refl x H).put (o:=.ins (cc 9) dx (qG "board" (.ref b) []));have bq:upd H x (.ins (cc 9) dx (qG "board" (.ref b) [])) x=some (.ins (cc 9) dx (qG "board" (.ref b) [])):=qb;generalize upd H x (.ins (cc 9) dx (qG "board" (.ref b) []))=H1 at b1 bq ⊢
  have keepW:∀ {J:Hp},But x H J->WebAt cw J b ss ns:=fun k=>by
   obtain ⟨wx,d,ol,n,h1,h2,h3,h4,h5⟩:=hW;exact ⟨wx,d,ol,n,k _ _ ca h1,k _ _ (jO h2 hx (fun z=>by cases z)) h2,k _ _ (jO h3 hx (fun z=>by cases z)) h3,k _ _ (jO h4 hx (fun z=>by cases z)) h4,h5⟩
  have cd:PL H1 r us qs:=⟨b1 _ _ cr hP.1,hP.2.len,fun k t ab ht ce=>b1 _ _ (cs t (ye ht)) (hP.2.at_ k t ab ht ce)⟩;ext;refine ⟨b,r,ss,ns,us,tps,qs,rfl,keepW b1,hA,cd,⟨cj,bu.qn,ci⟩,fun dp H2 s2 bh cg=>?_⟩;have bw:=s2 _ _ bq;have b2:=b1.same s2;have cq:dp≠x:=fun e=>by rw [e,bq] at bh;cases bh
  have hl:∀ {f:Str} {v:V} {fs:List (Str×V)} {n:Nat},fs.length<=n->(qG f v fs).length<=n+1:=fun h=>yi (jo _ _ _) (by omega);ext;refine .inl ⟨x,cc 9,dx,_,rfl,bw,T.fcl,fa 1 (by decide),Yu (hl (n:=0) (yh _)) (by decide),?_⟩
  have c3:L2.Same (qfG x H2) (upd H2 x (.ins (cc 9) dx (qG "partners" (.ref dp) (qG "board" (.ref b) [])))):=fun c o e=>by
   have hc:c≠x:=fun z=>by rw [z] at e;unfold qfG at e;rw [yD rfl] at e;cases e
   rw [zM hc] at e;rw [qe hc];exact e
  have ap:upd H2 x (.ins (cc 9) dx (qG "partners" (.ref dp) (qG "board" (.ref b) []))) x=some (.ins (cc 9) dx (qG "partners" (.ref dp) (qG "board" (.ref b) []))):=qb;obtain ⟨H0,ac⟩:∃ H0,H0=qfG x H2:=⟨_,rfl⟩;rw [<- ac] at c3;have D:H0 x=none:=by rw [ac];exact yD rfl
  have l3:(qG "partners" (.ref dp) (qG "board" (.ref b) [])).length<=2:=hl (hl (n:=0) (yh _));generalize upd H2 x (.ins (cc 9) dx (qG "partners" (.ref dp) (qG "board" (.ref b) [])))=H3 at c3 ap ⊢;obtain ⟨f3,bi⟩:∃ f3,f3=qG "partners" (.ref dp) (qG "board" (.ref b) []):=⟨_,rfl⟩;rw [<- bi] at ap l3;ext;intro m ao;have C:m≠x:=fun e=>by rw [e,ap] at ao;cases ao
  have cx:H0 m=none:=c3.free ao;have ck:upd H3 m (.dK []) x=some (.ins (cc 9) dx f3):=by rw [qe C.symm];exact ap
  ext;refine .inl ⟨x,cc 9,dx,_,rfl,ck,T.fcl,fa 2 (by decide),Yu l3 (by decide),?_⟩;have c4:L2.Same H0 (upd (upd H3 m (.dK [])) x (.ins (cc 9) dx (qG "rows" (.ref m) f3))):=qaz (qL c3 ao) D;have aq:(upd (upd H3 m (.dK [])) x (.ins (cc 9) dx (qG "rows" (.ref m) f3))) x=some (.ins (cc 9) dx (qG "rows" (.ref m) f3)):=qb;have l4:(qG "rows" (.ref m) f3).length<=3:=hl l3;have U:(upd (upd H3 m (.dK [])) x (.ins (cc 9) dx (qG "rows" (.ref m) f3))) m=some (.dK []):=by rw [qe C,qb]
  generalize upd (upd H3 m (.dK [])) x (.ins (cc 9) dx (qG "rows" (.ref m) f3))=H4 at c4 aq U ⊢;obtain ⟨f4,bj⟩:∃ f,f=qG "rows" (.ref m) f3:=⟨_,rfl⟩;rw [<- bj] at aq l4;ext;intro l G;have I:l≠x:=fun e=>by rw [e,aq] at G;cases G
  have cu:H0 l=none:=c4.free G;have ad:l≠m:=fun e=>by rw [e,U] at G;cases G
  have cl:upd H4 l (.dK []) x=some (.ins (cc 9) dx f4):=by rw [qe I.symm];exact aq
  ext;refine .inl ⟨x,cc 9,dx,_,rfl,cl,T.fcl,fa 3 (by decide),Yu l4 (by decide),?_⟩;have c5:L2.Same H0 (upd (upd H4 l (.dK [])) x (.ins (cc 9) dx (qG "parents" (.ref l) f4))):=qaz (qL c4 G) D;have ar:(upd (upd H4 l (.dK [])) x (.ins (cc 9) dx (qG "parents" (.ref l) f4))) x=some (.ins (cc 9) dx (qG "parents" (.ref l) f4)):=qb;have l5:(qG "parents" (.ref l) f4).length<=4:=hl l4;have M:(upd (upd H4 l (.dK [])) x (.ins (cc 9) dx (qG "parents" (.ref l) f4))) l=some (.dK []):=by rw [qe I,qb]
  have W:(upd (upd H4 l (.dK [])) x (.ins (cc 9) dx (qG "parents" (.ref l) f4))) m=some (.dK []):=by rw [qe C,qe (Yh ad)];exact U
  generalize upd (upd H4 l (.dK [])) x (.ins (cc 9) dx (qG "parents" (.ref l) f4))=H5 at c5 ar W M ⊢;obtain ⟨f5,bm⟩:∃ f,f=qG "parents" (.ref l) f4:=⟨_,rfl⟩;rw [<- bm] at ar l5;ext;intro j A;have ah:j≠x:=fun e=>by rw [e,ar] at A;cases A
  have cy:H0 j=none:=c5.free A;have aj:j≠m:=fun e=>by rw [e,W] at A;cases A
  have ai:j≠l:=fun e=>by rw [e,M] at A;cases A
  have cm:upd H5 j (.dK []) x=some (.ins (cc 9) dx f5):=by rw [qe ah.symm];exact ar
  ext;refine .inl ⟨x,cc 9,dx,_,rfl,cm,T.fcl,fa 4 (by decide),Yu l5 (by decide),?_⟩;have c6:L2.Same H0 (upd (upd H5 j (.dK [])) x (.ins (cc 9) dx (qG "bases" (.ref j) f5))):=qaz (qL c5 A) D;have as:(upd (upd H5 j (.dK [])) x (.ins (cc 9) dx (qG "bases" (.ref j) f5))) x=some (.ins (cc 9) dx (qG "bases" (.ref j) f5)):=qb;have l6:(qG "bases" (.ref j) f5).length<=5:=hl l5;have Z:(upd (upd H5 j (.dK [])) x (.ins (cc 9) dx (qG "bases" (.ref j) f5))) j=some (.dK []):=by rw [qe ah,qb]
  have X:(upd (upd H5 j (.dK [])) x (.ins (cc 9) dx (qG "bases" (.ref j) f5))) m=some (.dK []):=by rw [qe C,qe (Yh aj)];exact W
  have N:(upd (upd H5 j (.dK [])) x (.ins (cc 9) dx (qG "bases" (.ref j) f5))) l=some (.dK []):=by rw [qe I,qe (Yh ai)];exact M
  generalize upd (upd H5 j (.dK [])) x (.ins (cc 9) dx (qG "bases" (.ref j) f5))=H6 at c6 as X N Z ⊢;obtain ⟨f6,bn⟩:∃ f,f=qG "bases" (.ref j) f5:=⟨_,rfl⟩;rw [<- bn] at as l6;ext;refine ⟨by show 0<=sizeLine;decide,fun g y=>?_⟩;have av:g≠x:=fun e=>by rw [e,as] at y;cases y
  have cv:H0 g=none:=c6.free y;have af:g≠m:=fun e=>by rw [e,X] at y;cases y
  have ae:g≠l:=fun e=>by rw [e,N] at y;cases y
  have ag:g≠j:=fun e=>by rw [e,Z] at y;cases y
  have cn:upd H6 g (.lst []) x=some (.ins (cc 9) dx f6):=by rw [qe av.symm];exact as
  ext;refine .inl ⟨x,cc 9,dx,_,rfl,cn,T.fcl,fa 5 (by decide),Yu l6 (by decide),?_⟩;have c7:L2.Same H0 (upd (upd H6 g (.lst [])) x (.ins (cc 9) dx (qG "rings" (.ref g) f6))):=qaz (qL c6 y) D;have au:(upd (upd H6 g (.lst [])) x (.ins (cc 9) dx (qG "rings" (.ref g) f6))) x=some (.ins (cc 9) dx (qG "rings" (.ref g) f6)):=qb;have l7:(qG "rings" (.ref g) f6).length<=6:=hl l6;have R:(upd (upd H6 g (.lst [])) x (.ins (cc 9) dx (qG "rings" (.ref g) f6))) g=some (.lst []):=by rw [qe av,qb]
  have Y:(upd (upd H6 g (.lst [])) x (.ins (cc 9) dx (qG "rings" (.ref g) f6))) m=some (.dK []):=by rw [qe C,qe (Yh af)];exact X
  have O:(upd (upd H6 g (.lst [])) x (.ins (cc 9) dx (qG "rings" (.ref g) f6))) l=some (.dK []):=by rw [qe I,qe (Yh ae)];exact N
  have aa:(upd (upd H6 g (.lst [])) x (.ins (cc 9) dx (qG "rings" (.ref g) f6))) j=some (.dK []):=by rw [qe ah,qe (Yh ag)];exact Z
  generalize upd (upd H6 g (.lst [])) x (.ins (cc 9) dx (qG "rings" (.ref g) f6))=H7 at c7 au Y O aa R ⊢;obtain ⟨L,bo⟩:∃ f,f=qG "rings" (.ref g) f6:=⟨_,rfl⟩;rw [<- bo] at au l7;ext;refine ⟨by show 0<=sizeLine;decide,fun a p=>?_⟩;have bt:a≠x:=fun e=>by rw [e,au] at p;cases p
  have cz:H0 a=none:=c7.free p;have am:a≠m:=fun e=>by rw [e,Y] at p;cases p
  have ak:a≠l:=fun e=>by rw [e,O] at p;cases p
  have an:a≠j:=fun e=>by rw [e,aa] at p;cases p
  have al:a≠g:=fun e=>by rw [e,R] at p;cases p
  have co:upd H7 a (.lst []) x=some (.ins (cc 9) dx L):=by rw [qe bt.symm];exact au
  ext;refine .inl ⟨x,cc 9,dx,_,rfl,co,T.fcl,fa 6 (by decide),Yu l7 (by decide),?_⟩;have c8:L2.Same H0 (upd (upd H7 a (.lst [])) x (.ins (cc 9) dx (qG "waiting" (.ref a) L))):=qaz (qL c7 p) D;have br:(upd (upd H7 a (.lst [])) x (.ins (cc 9) dx (qG "waiting" (.ref a) L))) x=some (.ins (cc 9) dx (qG "waiting" (.ref a) L)):=qb;have l8:(qG "waiting" (.ref a) L).length<=7:=hl l7;have bf:(upd (upd H7 a (.lst [])) x (.ins (cc 9) dx (qG "waiting" (.ref a) L))) a=some (.lst []):=by rw [qe bt,qb]
  have ba:(upd (upd H7 a (.lst [])) x (.ins (cc 9) dx (qG "waiting" (.ref a) L))) m=some (.dK []):=by rw [qe C,qe (Yh am)];exact Y
  have aw:(upd (upd H7 a (.lst [])) x (.ins (cc 9) dx (qG "waiting" (.ref a) L))) l=some (.dK []):=by rw [qe I,qe (Yh ak)];exact O
  have bd:(upd (upd H7 a (.lst [])) x (.ins (cc 9) dx (qG "waiting" (.ref a) L))) j=some (.dK []):=by rw [qe ah,qe (Yh an)];exact aa
  have ay:(upd (upd H7 a (.lst [])) x (.ins (cc 9) dx (qG "waiting" (.ref a) L))) g=some (.lst []):=by rw [qe av,qe (Yh al)];exact R
  generalize upd (upd H7 a (.lst [])) x (.ins (cc 9) dx (qG "waiting" (.ref a) L))=H8 at c8 br ba aw bd ay bf ⊢;obtain ⟨f8,bp⟩:∃ f,f=qG "waiting" (.ref a) L:=⟨_,rfl⟩;rw [<- bp] at br l8;ext;refine .inl ⟨x,cc 9,dx,_,rfl,br,T.fcl,fa 7 (by decide),Yu l8 (by decide),?_⟩;have c9:L2.Same H0 (upd H8 x (.ins (cc 9) dx (qG "longer" .non f8))):=qaz c8 D;have bz:(upd H8 x (.ins (cc 9) dx (qG "longer" .non f8))) x=some (.ins (cc 9) dx (qG "longer" .non f8)):=qb;have l9:(qG "longer" .non f8).length<=8:=hl l8;have bc:(upd H8 x (.ins (cc 9) dx (qG "longer" .non f8))) m=some (.dK []):=by rw [qe C];exact ba
  have ax:(upd H8 x (.ins (cc 9) dx (qG "longer" .non f8))) l=some (.dK []):=by rw [qe I];exact aw
  have be:(upd H8 x (.ins (cc 9) dx (qG "longer" .non f8))) j=some (.dK []):=by rw [qe ah];exact bd
  have az:(upd H8 x (.ins (cc 9) dx (qG "longer" .non f8))) g=some (.lst []):=by rw [qe av];exact ay
  have bg:(upd H8 x (.ins (cc 9) dx (qG "longer" .non f8))) a=some (.lst []):=by rw [qe bt];exact bf
  generalize upd H8 x (.ins (cc 9) dx (qG "longer" .non f8))=H9 at c9 bz bc ax be az bg ⊢
  have hF:FoA (cc 9) cw H0 H9 ⟨x,b,dp,m,l,j,g,a,[]⟩ ss ns qs S0 [] [] [] .non:=by
   refine ⟨c9,?_,?_,fun c hc=>?_,?_,(fun c hc=>by cases hc),⟨dx,_,bz,km l9,fun _=>l9,fun f v hf=>?_,fun f hf=>?_⟩,⟨[],bc,yh _,fun _=>rfl⟩,⟨[],ax,⟨[],yh _,.nil,(fun u hu=>by cases hu)⟩,fun _=>rfl⟩,⟨[],be,yh _,(fun s hs=>by cases hs)⟩,⟨[],az,yh _⟩,bg,.nil,fun v=>⟨(fun k=>by cases k),fun k=>absurd rfl k⟩,(fun v hv=>by cases hv)⟩
   .rw [ac];exact (keepW b2).out bw ca
   .rw [ac];exact (zM cq).trans cg
   .simp only [Fo.six,yB,Yd,Y0] at hc;rcases hc with rfl | rfl | rfl | rfl | rfl | rfl<;>assumption
   .simp [ad.symm,aj.symm,af.symm,am.symm,ai.symm,ae.symm,ak.symm,ag.symm,an.symm,al.symm]
   .simp only [Fo.tab,yB,Xk,Yd,Y0] at hf;rw [bp,bo,bn,bm,bj,bi];rcases hf with ⟨rfl,rfl⟩ | ⟨rfl,rfl⟩ | ⟨rfl,rfl⟩ | ⟨rfl,rfl⟩ | ⟨rfl,rfl⟩ | ⟨rfl,rfl⟩ | ⟨rfl,rfl⟩ | ⟨rfl,rfl⟩<;>rfl
   .rw [bp,bo,bn,bm,bj,bi];have no:∀ i,i<8->f≠fAtt.getD i "":=fun i hi e=>hf (by rw [e,YK,yb (show i<fAtt.length from hi)];exact YT _);exact lkn (no 7 (by decide)) (lkn (no 6 (by decide)) (lkn (no 5 (by decide)) (lkn (no 4 (by decide)) (lkn (no 3 (by decide)) (lkn (no 2 (by decide)) (lkn (no 1 (by decide)) (lkn (no 0 (by decide)) rfl)))))))
  ext;obtain ⟨cb,fs,bv,_,_,_,bx⟩:=id hF.obj;refine ⟨x,cb,fs,rfl,bv,bx _ (by decide +kernel),?_⟩;ext;refine ⟨H0,_,ss,ns,qs,B,rfl,hF,bu,ch,cf,fun HA S dn wt lo hD ct=>?_⟩;refine q H0 HA _ S dn wt lo rfl rfl hD fun c o e=>?_;have hc:c≠x:=fun z=>by rw [z] at e;unfold qfG at e;rw [yD rfl] at e;cases e
  rw [zM hc] at e;rw [ac,zM hc];exact b2 _ _ hc e
inductive spFr (cc:Nat->Addr) (cw:Addr) (vs:List V) (H:Hp) (Q:VK) (E:XK):Prop|mk (H0:Hp) (a:Fo) (ss:List Str) (ns:List Nat) (qs:List (Str×Str)) (S:FS) (dn wt:List Str) (lo:V) (A:Str->Str->Prop) (_:vs=[.ref a.x]) (_:FoD (cc 9) cw H0 H a ss ns qs S dn wt lo A) (_:(lo=.non->Q .non H)) (_:∀ (t:Addr) (r:List Str),lo=.ref t->H t=some (.lst (r.map V.str))->Aug A (pt qs) r->∀ l,H l=none->Q (.ref l) (upd H l (.lst (r.map V.str))))
inductive spFd2 (cc:Nat->Addr) (cw:Addr) (vs:List V) (H:Hp) (Q:VK) (E:XK):Prop|mk (H0:Hp) (a:Fo) (ss:List Str) (ns:List Nat) (qs:List (Str×Str)) (S:FS) (dn wt:List Str) (lo:V) (A:Str->Str->Prop) (_:vs=[.ref a.x]) (_:FoD (cc 9) cw H0 H a ss ns qs S dn wt lo A) (_:ss.length<=14) (_:(lo≠.non->Q .non H)) (_:(lo=.non->∀ (l:Addr) (H':Hp),L2.Same H H'->H l=none->H' l=some (.lst ((ss.filter fun s=>(S.rows s).isSome).map V.str))->Q (.ref l) H'))
theorem ok_fr (F:Fun K "row" "Forest.row" zo f fd) (T:Txt K mg cc cw):FnOk P w K mg base CX0 1 f fd ["self"] (spFr cc cw):=by
 refine F.ok uL fun _ _ _ _ H vs Q E i h=>?_
 .obtain ⟨H0,a,ss,ns,qs,S,dn,wt,lo,B,rfl,b,e,g⟩:=h;refine ⟨_,(qf (qp (qbY (qj qgU (qA (K:=K) rfl (pv 0) rfl) qax (qC _)) qax (jq (qbA (K:=K) rfl rfl) rfl T.b_list xp (qa (qA (K:=K) rfl (pv 0) rfl) qd))))),?_⟩;ext;refine .inl (b.fo.obj.rd T 7 rfl ?_);ext;rcases b.en with ⟨rfl,_⟩ | ⟨t,r,rfl,c,j,d,_⟩
  .refine ⟨_,rfl,qal ?_⟩;ext;exact e rfl
  .refine ⟨_,rfl,qW (fun h=>by cases h) fun _=>?_⟩;ext;refine .inl (b.fo.obj.rd T 7 rfl ?_);ext;exact .inl ⟨t,_,rfl,.inl (.of c),g t r rfl c d⟩
theorem ok_fd2 (F:Fun K "reached" "Forest.reached" jk f fd) (T:Txt K mg cc cw) (D:MethOk P w K mg base CX0 1 cw "places" ["self"] (spPls cw)):FnOk P w K mg base CX0 2 f fd ["self"] (spFd2 cc cw):=by
 refine F.ok ud fun _ _ _ s H vs Q E x h=>?_
 .obtain ⟨H0,a,ss,ns,qs,S,dn,wt,lo,B,rfl,v,G,M,N⟩:=h;have L:=jS x;refine ⟨_,(qc (qV (qj qc1 (qA (K:=K) rfl (pv 0) rfl) qax (qC _)) (qf (qp qax)) qx)
 (qf (qp (jh (sc:=qh jk) (XN:=["self"]) ["place","self"] 1 [0] rfl rfl rfl (by decide +kernel) rfl (by decide +kernel)
  (qT (K:=K) rfl (qF D (hmR x) (qA (K:=K) rfl (pv 0) rfl))) (fun _ _ _ _=>(qr (i:=0) (show (["place","self"]:List Str).Nodup by decide +kernel) rfl (yO rfl))) qR
  (fun _ _ _ _=>(q9 (qj (zT (K:=K) rfl L) (pv 0) (qA (K:=K) rfl (pv 1) rfl) (by with_unfolding_all rfl))))
  (fun _ _ _ _=>(pv 0)))))),?_⟩
  have h:=v.fo;ext;refine .inl (h.obj.rd T 7 rfl ?_);ext;rcases v.en with ⟨rfl,_⟩ | ⟨t,r,rfl,_⟩
  .refine ⟨rfl,_,rfl,qW (fun h=>by simp at h) fun _=>?_⟩;have g:=h.web.same h.sm;obtain ⟨U,W,ol,X,hb,_⟩:=id g;ext;refine .inl (h.obj.rd T 0 rfl ?_);refine ⟨a.b,U,_,rfl,hb,jY (by decide +kernel),?_⟩;ext;refine ⟨a.b,ss,ns,rfl,g,fun pl u=>?_⟩;have n:=qL (Sr H) (o:=.lst (ss.map V.str)) u;have p:upd H pl (.lst (ss.map V.str)) pl=some (.lst (ss.map V.str)):=qb;generalize upd H pl (.lst (ss.map V.str))=H1 at n p;have h1:=h.same n;obtain ⟨C,O,Y,R⟩:=h1.row;refine .inl ⟨⟨_,.of p⟩,qK (xs:=ss.map V.str) (fun i ys J=>J=H1/\ys=((ss.take i).filter fun s=>(S.rows s).isSome).map V.str) ⟨rfl,rfl⟩ (fun i ys J _ m=>by rw [m.1];exact .of p) (fun i y ys J A m=>?_) fun ys J m=>?_⟩
   .obtain ⟨rfl,rfl⟩:=m;rw [yd] at A;obtain ⟨z,hz,rfl⟩:=yn.mp A;have I:=(yc.mp hz).1;have j:=yF (fun s=>(S.rows s).isSome) (ss.take i);rw [yT] at j
    have d:(ss.take (i+1)).filter (fun s=>(S.rows s).isSome)=(ss.take i).filter (fun s=>(S.rows s).isSome)++(if (S.rows z).isSome=true then [z] else []):=by
     rw [yK,hz,y9];show _++[z].filter _=_;rw [yS,Yj]
    ext;refine .inl (h1.obj.rd T 2 rfl ?_);refine .inr (.inl ⟨a.dr,_,rfl,DGet.k (k:=Sum.inr z) O,?_⟩);have c:=R z
    have q:(jP C (.inr z:Key)).isSome=(S.rows z).isSome:=by
     cases e:S.rows z with
     | none=>rw [e] at c;rw [show jP C (.inr z:Key)=none from c];rfl
     | some r=>rw [e] at c;obtain ⟨t,k,_⟩:=c;rw [k];rfl
    rw [yy (by decide),q,d];refine ⟨_,rfl,?_⟩
    cases (S.rows z).isSome with
    | true =>
     refine qal ?_;rw [yD rfl];ext;exact ⟨by rw [ya];exact qi (by omega),rfl,by rw [yA];rfl⟩
    | false =>
     refine yq ?_;rw [yy (by decide),Yc];exact ⟨rfl,rfl⟩
   .obtain ⟨rfl,rfl⟩:=m;rw [show (ss.map V.str).length=ss.length from ya _,yR];have j:=yF (fun s=>(S.rows s).isSome) ss;refine ⟨by rw [ya];exact yX (qi (by omega)),fun l hl=>?_⟩;exact N rfl l _ (qL n hl) (n.free hl) qb
  .refine ⟨rfl,_,rfl,qal ?_⟩;ext;exact M (fun e=>by cases e)
theorem K6:FnScope ["web","pairs","partners"] ["web","pairs"] (qh jZ):=fS
theorem Kv:FnScope ["web","thing","seen","place"] ["web","thing"] (qh ji):=fS
theorem qey (a b:Str):eqV (.str a) (.str b)=decide (a=b):=by
 unfold eqV;by_cases h:a=b<;>simp [h]
theorem vEqS {i j:Str} {Q:VK} (q:Q (.bl (decide (i=j))) H):qfC K (.str i) (.str j) H Q:=.inl (.inl (.inl ⟨rfl,rfl,by rw [yy (by decide),qey];exact q⟩))
noncomputable def qbG (a qs:List (Str×Str)):List (Str×Str):=a.filter fun q=>decide (pt qs q.1=some q.2)
inductive spTp (cw:Addr) (vs:List V) (H:Hp) (Q:VK) (E:XK):Prop|mk (x l:Addr) (ss:List Str) (ns:List Nat) (us:List Addr) (tps qs:List (Str×Str)) (_:vs=[.ref x,.ref l]) (_:WebAt cw H x ss ns) (_:Adj ss ns tps) (_:PL H l us qs) (_:PGo ss tps qs) (_:∀ (l:Addr) (ls:List Addr) (H':Hp),L2.Same H H'->H l=none->H' l=some (.lst (ls.map V.ref))->ls.length<=196->All2 (PrAt H H' l) ls (qbG (qO ss ns ss.length) qs)->Q (.ref l) H')
noncomputable def stp (rs:List Str):List (Str×Str):=rs.zip rs.tail
noncomputable def prB (qs:List (Str×Str)) (ab:Str×Str):Bool:=decide (pt qs ab.1=some ab.2)
theorem stp_at:(stp rs)[j]?=some ab↔rs[j]?=some ab.1/\rs[j+1]?=some ab.2:=by
 unfold stp;rw [List.getElem?_zip_eq_some,xS]
theorem qaD (rs:List Str):(stp rs).length=rs.length-1:=by unfold stp;rw [List.length_zip,xO];omega
structure RowG (ss:List Str) (tps qs:List (Str×Str)) (rs:List Str):Prop where
 nd:rs.Nodup
 two:2<=rs.length
 few:rs.length<=1000
 inn:∀ r∈rs,r∈ss
 tie:∀ (j:Nat) ab,(stp rs)[j]?=some ab->(ab∈tps\/(ab.2,ab.1)∈tps)/\prB qs ab=decide (j % 2=1)
 hd:∀ s,rs[0]?=some s->pt qs s=none
 tl:∀ s,rs[rs.length-1]?=some s->pt qs s=none
structure Rw (cw:Addr) (H:Hp) (x l a:Addr) (ss:List Str) (ns:List Nat) (us:List Addr) (tps qs:List (Str×Str)) (rs:List Str):Prop where
 web:WebAt cw H x ss ns
 adj:Adj ss ns tps
 prs:PL H l us qs
 pgo:PGo ss tps qs
 row:H a=some (.lst (rs.map V.str))
 rok:RowG ss tps qs rs
theorem Rw.same {a:Addr} (h:Rw cw H x l a ss ns us tps qs rs) (s:L2.Same H H'):Rw cw H' x l a ss ns us tps qs rs:=
 ⟨h.web.same s,h.adj,h.prs.same s,h.pgo,s _ _ h.row,h.rok⟩
inductive spUl (cw:Addr) (vs:List V) (H:Hp) (Q:VK) (E:XK):Prop|mk (x a:Addr) (ss:List Str) (ns:List Nat) (rs:List Str) (_:vs=[.ref x,.ref a]) (_:WebAt cw H x ss ns) (_:H a=some (.lst (rs.map V.str))) (_:rs.Nodup) (_:rs.length<=1000) (_:(∀ r∈rs,r∈ss)) (_:∀ H',L2.Same H H'->Q (.bl true) H')
inductive spGt (cw:Addr) (vs:List V) (H:Hp) (Q:VK) (E:XK):Prop|mk (x l d a:Addr) (ss:List Str) (ns:List Nat) (us:List Addr) (tps qs:List (Str×Str)) (rs:List Str) (_:vs=[.ref x,.ref d,.ref a]) (_:Rw cw H x l a ss ns us tps qs rs) (_:H d=some (.dK (prK qs))) (_:∀ H',L2.Same H H'->Q (.bl true) H')
inductive spIr (cw:Addr) (vs:List V) (H:Hp) (Q:VK) (E:XK):Prop|mk (x l a:Addr) (ss:List Str) (ns:List Nat) (us:List Addr) (tps qs:List (Str×Str)) (rs:List Str) (_:vs=[.ref x,.ref l,.ref a]) (_:Rw cw H x l a ss ns us tps qs rs) (_:∀ H',L2.Same H H'->Q (.bl true) H')
theorem qfH {t:Str} {Q:VK} (q:Q (.bl (decide (pt qs s=some t))) H):qfC K (((pt qs s).map V.str).getD .non) (.str t) H Q:=by
 cases e:pt qs s with
 | none=>rw [e] at q;exact .inl (.inl (.inl ⟨rfl,rfl,q⟩))
 | some u =>
  refine vEqS ?_;rw [e] at q
  rwa [show decide (u=t)=decide (some u=some t) from Yr.mpr ⟨congrArg some,ym⟩]
theorem ok_tp (F:Fun K "told_pairs" "told_pairs" jZ f fd) (T:Txt K mg cc cw) (S:DefOk P w K mg base CX0 9 "partners_in" ["web","pairs"] (spPn cw)) (R:MethOk P w K mg base CX0 7 cw "ties" ["self"] (spTs cw)):FnOk P w K mg base CX0 10 f fd ["web","pairs"] (spTp cw):=by
 refine F.ok K6 fun _ _ _ _ H vs Q E J h=>?_
 .obtain ⟨x,pl,ss,ns,ps,tps,qs,rfl,C,U,X,W,q⟩:=h;have A:=jS J;obtain ⟨wx,dd,ol,nn,hb,_⟩:=id C;refine ⟨_,(qc (qo (i:=2) K6.nd rfl (Xi rfl) (qv S (hmR J) qH (qa (pv 0) (qa (pv 1) qd))))
 (qf (qp (jh (sc:=qh jZ) (XN:=["web","pairs","partners"]) ["tie","partners"] 1 [2] rfl rfl rfl (by decide +kernel) rfl (by decide +kernel)
  (qT (K:=K) rfl (qF R (hmR J) (pv 0))) (fun _ _ _ _=>(qr (i:=0) (show (["tie","partners"]:List Str).Nodup by decide +kernel) rfl (yO rfl))) qR
  (fun _ _ _ _=>(q9 (qj (zi (K:=K) rfl A) (qaM (qf8 A) (pv 1) (qt (qu (K:=K) rfl A) (pv 0) qg (fun _ _=>rfl)) ⟨rfl,rfl,rfl,rfl⟩) (qt (qu (K:=K) rfl A) (pv 0) qg (fun _ _=>rfl)) (qC _))))
  (fun _ _ _ _=>(pv 0)))))),?_⟩
  ext;refine ⟨x,pl,ss,ns,ps,tps,qs,rfl,C,U,X,W,fun d H1 B Z Y=>?_⟩;ext;refine ⟨x,wx,_,rfl,B _ _ hb,jY (by decide +kernel),?_⟩;ext;refine ⟨x,ss,ns,rfl,C.same B,fun l ts H2 O aa hl D b=>?_⟩;have p:=O _ _ Y;have s:=B.trans O;refine .inl ⟨⟨_,.of hl⟩,qK (xs:=ts.map V.ref) (fun i ys G=>G=H2/\∃ us:List Addr,ys=us.map V.ref/\us.length<=i/\All2 (fun t ab=>H1 t=none/\H2 t=some (.tup [.str ab.1,.str ab.2])) us (qbG ((qO ss ns ss.length).take i) qs)) ⟨rfl,[],rfl,yh _,.nil⟩ (fun i ys G _ a=>by rw [a.1];exact .of hl) (fun i y ys G N a=>?_) fun ys G a=>?_⟩
  .obtain ⟨rfl,us,rfl,r,m⟩:=a;rw [yd] at N;obtain ⟨t,M,rfl⟩:=yn.mp N;have hi:i<ts.length:=(yc.mp M).1;obtain ⟨ab,n⟩:∃ ab,(qO ss ns ss.length)[i]?=some ab:=⟨_,yb (by rw [<- b.len];exact hi)⟩;obtain ⟨z1,z2,L⟩:=b.at_ i t ab M n
   have c:qbG ((qO ss ns ss.length).take (i+1)) qs=qbG ((qO ss ns ss.length).take i) qs++(if pt qs ab.1=some ab.2 then [ab] else []):=by
    unfold qbG;rw [yK,n,y9];show _++[ab].filter _=_;rw [yS];simp only [xv,Yj]
   ext;refine qcL ?_;ext;refine ⟨d,rfl,.inl ⟨_,.inl p⟩,?_⟩;ext;refine .inl (qaw L (v:=.str ab.1) (qy (j:=0) rfl) ?_);refine ⟨_,DGet.k (k:=Sum.inr ab.1) p,?_⟩;rw [jR];ext;refine .inl (qaw L (v:=.str ab.2) (qy (j:=1) rfl) ?_);refine qfH ?_;ext;rw [c];refine qW (fun I=>?_) (fun I=>?_)
   .rw [yD (yk I)];ext;exact ⟨by rw [ya];exact qi (by omega),rfl,us++[t],by rw [yA];rfl,by rw [yt];simp;omega,m.snoc ⟨z1,L⟩⟩
   .rw [yy (fun e=>I (yM e)),Yc];exact ⟨rfl,us,rfl,by omega,m⟩
  .obtain ⟨rfl,us,rfl,r,m⟩:=a;have e:(ts.map V.ref).length=(qO ss ns ss.length).length:=by rw [ya,b.len]
   rw [e,yR] at m;rw [ya] at r;refine ⟨by rw [ya];exact yX (qi (by omega)),fun g u=>?_⟩;have s3:=qL s (o:=.lst (us.map V.ref)) u;exact q g us _ s3 (s.free u) qb (by omega) (m.mono fun t ab z=>⟨B.free z.1,(fun e=>by rw [e,u] at z;cases z.2),by rw [qe (fun e=>by rw [e,u] at z;cases z.2)];exact z.2⟩)
theorem ok_ul (F:Fun K "are_unlike_places" "are_unlike_places" ji f fd) (T:Txt K mg cc cw) (I:MethOk P w K mg base CX0 3 cw "has_place" ["self","thing"] (spHas cw)):FnOk P w K mg base CX0 4 f fd ["web","thing"] (spUl cw):=by
 refine F.ok Kv fun _ _ _ _ H vs Q E C h=>?_
 .obtain ⟨x,a,ss,ns,rs,rfl,u,j,hnd,hl,l,q⟩:=h;have D:=jS C;refine ⟨_,(qc (qV (jf (qZ (qk (qaQ (K:=K) rfl) rfl T.b_isinstance YG (qa (pv 1) (qa (jD (v:=.ty "list") rfl T.b_list xp rfl) qd))))) (qf (qp zg)) qx)
 (qc (qo (i:=2) Kv.nd rfl (yO rfl) j6)
 (qc (jl y0 rfl (qT (K:=K) rfl (pv 1)) (qr (i:=3) Kv.nd rfl (yO rfl))
 (qc (qV (PW.pt (qaH (jf (qZ (qD I (hmR C) (pv 0) (qa (pv 3) qd)))) (qay (qj (zT (K:=K) rfl D) (pv 3) (pv 2) (by with_unfolding_all rfl))))) (qf (qp zg)) qx)
 (qf (jN zg (jV (pv 2) (pv 3) (jW D))))))
 (qf (qp zg))))),?_⟩
  ext;refine qb4 (.inl (.lst j)) rfl (zG K "list" (by simp) "list" (by simp)) ?_;ext;refine yq ?_;ext;intro d A;have m:=qL (Sr H) (o:=.dK []) A;have r:upd H d (.dK []) d=some (.dK (qb8 [])):=qb;generalize upd H d (.dK [])=H1 at m r;obtain ⟨M,O,ol,R,hb,_⟩:=id u;ext;refine .inl ⟨⟨_,.of (m _ _ j)⟩,ju (xs:=rs.map V.str) (fun i σ J=>L2.Same H J/\∃ p,σ=[some (.ref x),some (.ref a),some (.ref d),p]/\J d=some (.dK (qb8 (rs.take i)))) ⟨m,_,rfl,r⟩ (fun i σ J _ c=>.of (c.1 _ _ j)) (fun i y σ J G c=>?_) fun σ J c=>?_⟩
  .obtain ⟨g,p,rfl,b⟩:=c;rw [yd] at G;obtain ⟨z,hz,rfl⟩:=yn.mp G;have L:i<rs.length:=(yc.mp hz).1;have e:rs.take (i+1)=rs.take i++[z]:=by rw [yK,hz];rfl
   have B:z∉rs.take i:=fun y=>by
    have s:(rs.take (i+1)).Nodup:=hnd.sublist (xY _ _);rw [e] at s;exact (yV.mp s).2.2 _ y z (by simp) rfl
   ext;refine ⟨x,M,_,rfl,g _ _ hb,jY (by decide +kernel),?_⟩;ext;refine ⟨x,ss,ns,z,rfl,u.same g,l z (ye hz),fun N n=>?_⟩;ext;refine yq ?_;ext;refine .inr (.inl ⟨d,_,rfl,DGet.k (k:=Sum.inr z) (n _ _ b),?_⟩);rw [yy (by decide),qab,yl B];ext;refine yq ?_;ext;refine .inr ⟨d,_,rfl,DPut.k (k:=Sum.inr z) (n _ _ b) (qi (by unfold qb8;rw [ya,yT];omega)),?_⟩;refine ⟨qaz (g.trans n) A,_,rfl,?_⟩;rw [qb,qb9 B,e]
  .obtain ⟨g,p,rfl,b⟩:=c;ext;exact q J g
theorem uG:FnScope ["web","pairs","thing","partners"] ["web","pairs","thing"] (qh qbl):=fS
theorem KD:FnScope ["web","partners","names","steps","paired"] ["web","partners","names"] (qh qX):=fS
theorem KL:FnScope ["web","pairs","thing","partners","first","last"] ["web","pairs","thing"] (qh qar):=fS
theorem qbm (rs:List V):qcx rs (some 1) none=rs.tail:=by
 have:=qcJ rs 1
 rwa [List.drop_one] at this
theorem qgd:∀ {bs:List Bool},(∀ b∈bs,b=true)->bs.all id=true:=fun h=>YS.mpr h
theorem qez {xs ys:List Str} (Z:Zl H H' l ts (xs.map V.str) (ys.map V.str)) (hl:qs.length=min xs.length ys.length) (h:∀ (j:Nat) q,qs[j]?=some q->xs[j]?=some q.1/\ys[j]?=some q.2):All2 (fun t ab=>H' t=some (.tup [.str ab.1,.str ab.2])) ts qs:=by
 refine ⟨by rw [Z.len,ya,ya,hl],fun j t ab g c=>?_⟩;obtain ⟨d,f⟩:=h j ab c;obtain ⟨_,u,v,a,b,e⟩:=Z.tp j t g;rw [yd,d] at a;rw [yd,f] at b;cases a;cases b;exact e
theorem qdO {xs:List α} {v:α} (a:1<=j) (h1:j<=xs.length) (h:xs[xs.length-j]?=some v):atI xs (-(j:Int))=some v:=by
 have e:ixN xs.length (-(j:Int))=some (xs.length-j):=by
  unfold ixN;rw [yy (by omega),yD (by omega)]
  congr 1
  omega
 unfold atI;rw [e];exact h
theorem ok_gt (F:Fun K "goes_by_turns" "goes_by_turns" qX f fd) (T:Txt K mg cc cw) (KQ:MethOk P w K mg base CX0 7 cw "has_tie" ["self","thing"] (spHt cw)):FnOk P w K mg base CX0 8 f fd ["web","partners","names"] (spGt cw):=by
 refine F.ok KD fun _ _ _ _ H vs Q E hr h=>?_
 .obtain ⟨x,l,d,a,ss,ns,us,tps,qs,rs,rfl,R,hd,q⟩:=h;have hu:=jS hr;obtain ⟨wx,dd,ol,nn,hb,_⟩:=id R.web;have ha:=R.row;have M:=R.rok;have hl:=M.few;refine ⟨_,(qc (qo (i:=3) KD.nd rfl (yO rfl) (qda (K:=K) rfl rfl rfl rfl T.b_list T.b_zip (qa (pv 2) (qa (zj (qe9 (K:=K) rfl) (pv 2) (j4 qg) zU) qd))))
 (qc (qV (jf (qZ (qk (qfB (K:=K) rfl rfl) rfl T.b_all boot_all (qa (jh (sc:=qh qX) (XN:=["web","partners","names","steps","paired"]) ["step","web"] 1 [0] rfl rfl rfl (by decide +kernel) rfl (by decide +kernel)
  (qT (K:=K) rfl (pv 3)) (fun _ _ _ _=>(qr (i:=0) (show (["step","web"]:List Str).Nodup by decide +kernel) rfl (yO rfl))) qR
  (fun _ _ _ _=>jG)
  (fun _ _ _ _=>(qD KQ (hmR hr) (pv 1) (qa (pv 0) qd)))) qd)))) (qf (qp zg)) qx)
 (qc (zX (sc:=qh qX) (XN:=["web","partners","names","steps","paired"]) ["step","partners"] 1 [1] rfl rfl rfl (by decide +kernel) rfl (by decide +kernel) (i:=4) KD.nd rfl rfl
  (qT (K:=K) rfl (pv 3)) (fun _ _ _ _=>(qr (i:=0) (show (["step","partners"]:List Str).Nodup by decide +kernel) rfl (yO rfl))) qR
  (fun _ _ _ _=>jG)
  (fun _ _ _ _=>(jE (zi (K:=K) rfl hu) (qaM (qf8 hu) (pv 1) (qt (qu (K:=K) rfl hu) (pv 0) qg (fun _ _=>rfl)) ⟨rfl,rfl,rfl,rfl⟩) (qt (qu (K:=K) rfl hu) (pv 0) qg (fun _ _=>rfl)) (qC _))))
 (qf (qp (qk (qfB (K:=K) rfl rfl) rfl T.b_all boot_all (qa (jh (sc:=qh qX) (XN:=["web","partners","names","steps","paired"]) ["one","other"] 2 [] rfl rfl rfl (by decide +kernel) rfl (by decide +kernel)
  (pi_zip (K:=K) rfl rfl T.b_zip (qa (pv 4) (qa (zj (qe9 (K:=K) rfl) (pv 4) (j4 qg) zU) qd))) (fun _ _ _ _=>(qd2 (n:=2) rfl (qag (qr (i:=0) (show (["one","other"]:List Str).Nodup by decide +kernel) rfl (yO rfl)) (qag (qr (i:=1) (show (["one","other"]:List Str).Nodup by decide +kernel) rfl (yO rfl)) qcX)))) gk_two
  (fun _ _ _ _=>jG)
  (fun _ _ _ _=>(jE (zZ (K:=K) rfl hu) (pv 0) (pv 1) (qC _)))) qd))))))),?_⟩
  ext;refine vLZ ?_;ext;refine .inl ⟨a,_,rfl,SqL.of ha,fun c hc=>?_⟩;rw [qbm,<- kD];have s1:=qL (Sr H) (o:=.lst (rs.tail.map V.str)) hc;have Y:upd H c (.lst (rs.tail.map V.str)) c=some (.lst (rs.tail.map V.str)):=qb;generalize upd H c (.lst (rs.tail.map V.str))=H1 at s1 Y;ext;refine ⟨a,c,_,_,rfl,SqL.of (s1 _ _ ha),SqL.of Y,by rw [ya];exact hl,fun l ts H2 Z=>?_⟩;have L:=s1.trans Z.sm;have aj:(stp rs).length<=1000:=by rw [qaD];omega
  have W:=qez (qs:=stp rs) Z (by rw [qaD,xO];omega) fun j q e=>by
   obtain ⟨z1,z2⟩:=stp_at.mp e;exact ⟨z1,by rw [xS];exact z2⟩
  have tl:=W.len;have C:=Z.ls
  have ah:∀ {i:Nat} {y:V},(ts.map V.ref)[i]?=some y->∃ t ab,y=.ref t/\(stp rs)[i]?=some ab/\H2 t=some (.tup [.str ab.1,.str ab.2]):=fun {i y} O=>by
   rw [yd] at O;obtain ⟨t,ht,rfl⟩:=yn.mp O;obtain ⟨ab,p⟩:∃ ab,(stp rs)[i]?=some ab:=⟨_,yb (by rw [<- tl];exact (yc.mp ht).1)⟩;exact ⟨t,ab,rfl,p,W.at_ i t ab ht p⟩
  ext;refine .inl ⟨⟨_,.of C⟩,qK (xs:=ts.map V.ref) (fun i ys G=>L2.Same H2 G/\ys=(((stp rs).take i).map fun _=>true).map V.bl) ⟨L2.Same.refl H2,rfl⟩ (fun i ys G _ m=>.of (m.1 _ _ C)) (fun i y ys G O m=>?_) fun ys G m=>?_⟩
  .obtain ⟨S,rfl⟩:=m;obtain ⟨t,ab,rfl,p,N⟩:=ah O;obtain ⟨e1,U⟩:=stp_at.mp p;ext;refine qal ?_;ext;refine ⟨x,wx,_,rfl,(L.trans S) _ _ hb,jY (by decide +kernel),?_⟩;ext;refine ⟨x,t,ss,ns,tps,ab,rfl,R.web.same (L.trans S),R.adj,S _ _ N,(M.tie i ab p).1,M.inn _ (ye e1),M.inn _ (ye U),fun z=>?_,fun G2 al=>?_⟩
   .rw [<- z] at U;exact absurd (qw M.nd e1 U) (by omega)
   .refine ⟨by rw [ya,ya,yT];exact qi (by omega),S.trans al,?_⟩;rw [yK,p,yA,yA];rfl
  .obtain ⟨S,rfl⟩:=m;rw [show (ts.map V.ref).length=(stp rs).length by rw [ya,tl],yR];refine ⟨by rw [ya,ya];exact yX (qi (by omega)),fun g hg=>?_⟩;have s3:=qL S (o:=.lst (((stp rs).map fun _=>true).map V.bl)) hg;have eg:upd G g (.lst (((stp rs).map fun _=>true).map V.bl)) g=some (.lst (((stp rs).map fun _=>true).map V.bl)):=qb;generalize upd G g (.lst (((stp rs).map fun _=>true).map V.bl))=G3 at s3 eg;ext;refine ⟨g,_,rfl,SqL.of eg,_,rfl,?_⟩;rw [qgd (fun b hb=>by obtain ⟨_,_,rfl⟩:=Ye.mp hb;rfl)];have af:=L.trans s3;refine yq ?_;have r:=s3 _ _ C;have ac:=af _ _ hd;ext;refine .inl ⟨⟨_,.of r⟩,qK (xs:=ts.map V.ref) (fun i ys G=>G=G3/\ys=(((stp rs).take i).map (prB qs)).map V.bl) ⟨rfl,rfl⟩ (fun i ys G _ m=>by rw [m.1];exact .of r) (fun i y ys G O m=>?_) fun ys G m=>?_⟩
   .obtain ⟨rfl,rfl⟩:=m;obtain ⟨t,ab,rfl,p,N⟩:=ah O;have N:=s3 _ _ N;ext;refine qal ?_;ext;refine qcL ?_;ext;refine ⟨d,rfl,.inl ⟨_,.inl ac⟩,?_⟩;ext;refine .inl (qaw N (v:=.str ab.1) (qy (j:=0) rfl) ?_);refine ⟨_,DGet.k (k:=Sum.inr ab.1) ac,?_⟩;rw [jR];ext;refine .inl (qaw N (v:=.str ab.2) (qy (j:=1) rfl) ?_);refine qfH ?_;refine ⟨by rw [ya,ya,yT];exact qi (by omega),rfl,?_⟩;rw [yK,p,yA,yA];rfl
   .obtain ⟨rfl,rfl⟩:=m;rw [show (ts.map V.ref).length=(stp rs).length by rw [ya,tl],yR];refine ⟨by rw [ya,ya];exact yX (qi (by omega)),fun b ai=>?_⟩;obtain ⟨bs,B⟩:∃ bs,bs=(stp rs).map (prB qs):=⟨_,rfl⟩;rw [<- B];have am:bs.length<=1000:=by rw [B,ya];exact aj
    have X:∀ (i:Nat) b,bs[i]?=some b->b=decide (i % 2=1):=fun i b e=>by
     rw [B,yd] at e;obtain ⟨ab,p,rfl⟩:=yn.mp e;exact (M.tie i ab p).2
    have s4:=qL af (o:=.lst (bs.map V.bl)) ai;have eb:upd G b (.lst (bs.map V.bl)) b=some (.lst (bs.map V.bl)):=qb;generalize upd G b (.lst (bs.map V.bl))=G4 at s4 eb;ext;refine vZip ?_;ext;refine .inl ⟨b,_,rfl,SqL.of eb,fun c2 aa=>?_⟩;rw [qbm,<- kD];have s5:=qL s4 (o:=.lst (bs.tail.map V.bl)) aa;have s:=qL (Sr G4) (o:=.lst (bs.tail.map V.bl)) aa _ _ eb;have A:upd G4 c2 (.lst (bs.tail.map V.bl)) c2=some (.lst (bs.tail.map V.bl)):=qb;generalize upd G4 c2 (.lst (bs.tail.map V.bl))=G5 at s5 s A;ext;refine ⟨b,c2,_,_,rfl,SqL.of s,SqL.of A,comp_zip (xs:=bs.map V.bl) (ys:=bs.tail.map V.bl) (by simp) (fun i zs J=>L2.Same G5 J/\zs=(List.replicate i true).map V.bl) ⟨L2.Same.refl G5,rfl⟩ (fun i zs J _ m=>⟨SqL.of (m.1 _ _ s),SqL.of (m.1 _ _ A)⟩) (fun i u v t zs J D I ht m=>?_) fun zs J m=>?_⟩
    .obtain ⟨sJ,rfl⟩:=m;rw [yd] at D I;obtain ⟨u,ad,rfl⟩:=yn.mp D;obtain ⟨v,ae,rfl⟩:=yn.mp I;clear D I;have an:=(yc.mp ad).1;rw [xS] at ae;have e1:=X _ _ ad;have U:=X _ _ ae;have ag:=qL sJ (o:=.tup [.bl u,.bl v]) ht;refine ⟨t,_,rfl,.of qb,rfl,_,_,rfl,_,_,rfl,rfl,?_⟩;generalize upd J t (.tup [.bl u,.bl v])=J3 at ag;ext;refine qal ?_;ext;refine .inl ⟨rfl,rfl,?_⟩;refine ⟨by rw [ya,YM];exact qi (by omega),ag,?_⟩
     have ak:v=!u:=by
      rw [e1,U];rcases Xe i with z | z
      .rw [z,yM (by omega)];rfl
      .rw [z,yl (by omega)];rfl
     rw [List.replicate_succ',yA,ak];cases u<;>rfl
    .obtain ⟨sJ,rfl⟩:=m;rw [show (bs.tail.map V.bl).length=bs.length-1 by rw [ya,xO]];refine ⟨by rw [ya,YM];exact yX (qi (by omega)),fun e he=>?_⟩;have s6:=qL (s5.trans sJ) (o:=.lst ((List.replicate (bs.length-1) true).map V.bl)) he;have ee:upd J e (.lst ((List.replicate (bs.length-1) true).map V.bl)) e=some (.lst ((List.replicate (bs.length-1) true).map V.bl)):=qb;generalize upd J e (.lst ((List.replicate (bs.length-1) true).map V.bl))=J6 at s6 ee;ext;refine ⟨e,_,rfl,SqL.of ee,?_⟩;rw [qgd (fun b hb=>(List.mem_replicate.mp hb).2)];exact q J6 s6
theorem ok_ir (F:Fun K "is_row" "is_row" qbl f fd) (T:Txt K mg cc cw) (n:DefOk P w K mg base CX0 9 "partners_in" ["web","pairs"] (spPn cw)) (m:DefOk P w K mg base CX0 4 "are_unlike_places" ["web","thing"] (spUl cw)) (s:DefOk P w K mg base CX0 8 "goes_by_turns" ["web","partners","names"] (spGt cw)):FnOk P w K mg base CX0 10 f fd ["web","pairs","thing"] (spIr cw):=by
 refine F.ok uG fun _ _ _ _ H vs Q E c h=>?_
 .obtain ⟨x,l,a,ss,ns,us,tps,qs,rs,rfl,R,q⟩:=h;have v:=jS c;have G:=R.rok;have u:=G.two;refine ⟨_,(qc (qo (i:=3) uG.nd rfl (yO rfl) (qv n (hmR c) qH (qa (pv 0) (qa (pv 1) qd))))
 (qc (qV (PW.pt (qaH (jf (qZ (qv m (hmR c) qH (qa (pv 0) (qa (pv 2) qd))))) (qay (qj qd3 (qk (zh (K:=K) rfl) rfl T.b_len YO (qa (pv 2) qd)) qg (qC _))))) (qf (qp zg)) qx)
 (qf (qp (qv s (hmR c) qH (qa (pv 0) (qa (pv 3) (qa (pv 2) qd)))))))),?_⟩
  ext;refine ⟨x,l,ss,ns,us,tps,qs,rfl,R.web,R.adj,R.prs,R.pgo,fun d H1 e p o=>?_⟩;ext;refine ⟨x,a,ss,ns,rs,rfl,R.web.same e,e _ _ R.row,G.nd,G.few,G.inn,fun H2 g=>?_⟩;have b:=e.trans g;ext;refine yq ?_;ext;refine .inl ⟨_,.inl (SqL.of (b _ _ R.row)),?_⟩;rw [ya];ext;refine qW (fun h=>absurd (yk h) (by omega)) fun _=>?_;ext;exact ⟨x,l,d,a,ss,ns,us,tps,qs,rs,rfl,R.same b,g _ _ o,fun j r=>q j (b.trans r)⟩
theorem qfj {t:Addr} {n:Str} {Q:VK} (e:H t=some (.tup [.non,.str n])) (q:Q (.bl true) H):qeR K false .non (.ref t) H Q:=
 .inl ⟨t,_,rfl,.inr (SqT.of e),rfl,rfl,q⟩
theorem ok_ct (F:Fun K "can_turn" "can_turn" qar f fd) (T:Txt K mg cc cw) (I:DefOk P w K mg base CX0 9 "partners_in" ["web","pairs"] (spPn cw)) (J:DefOk P w K mg base CX0 10 "is_row" ["web","pairs","thing"] (spIr cw)):FnOk P w K mg base CX0 11 f fd ["web","pairs","thing"] (spIr cw):=by
 refine F.ok KL fun _ _ _ _ H vs Q E u h=>?_
 .obtain ⟨x,l,a,ss,ns,us,tps,qs,rs,rfl,R,q⟩:=h;have b:=jS u;have G:=R.rok;have W:=G.two;refine ⟨_,(qc (qV (jf (qZ (qv J (hmR u) qH (qa (pv 0) (qa (pv 1) (qa (pv 2) qd)))))) (qf (qp zg)) qx)
 (qc (qo (i:=3) KL.nd rfl (yO rfl) (qv I (hmR u) qH (qa (pv 0) (qa (pv 1) qd))))
 (qc (qo (i:=4) KL.nd rfl (yO rfl) (qaM (qf8 b) (pv 3) (qt (qu (K:=K) rfl b) (pv 2) qg (fun _ _=>rfl)) ⟨rfl,rfl,rfl,rfl⟩))
 (qc (qo (i:=5) KL.nd rfl (yO rfl) (qaM (qf8 b) (pv 3) (qt (qu (K:=K) rfl b) (pv 2) (qav j5 qg) (fun _ _=>rfl)) ⟨rfl,rfl,rfl,rfl⟩))
 (qf (qp (qcn (jE (zT (K:=K) rfl b) (pv 4) (jp (qa qax (qa (qt (qu (K:=K) rfl b) (pv 2) qg (fun _ _=>rfl)) qd))) (by with_unfolding_all rfl)) (qcm (jE (zT (K:=K) rfl b) (pv 5) (jp (qa qax (qa (qt (qu (K:=K) rfl b) (pv 2) (qav j5 qg) (fun _ _=>rfl)) qd))) (by with_unfolding_all rfl)))))))))),?_⟩
  ext;refine ⟨x,l,a,ss,ns,us,tps,qs,rs,rfl,R,fun H1 z=>?_⟩;refine ⟨_,rfl,qW (fun h=>by cases h) fun _=>?_⟩;ext;refine ⟨x,l,ss,ns,us,tps,qs,rfl,R.web.same z,R.adj,R.prs.same z,R.pgo,fun d H2 S M p=>?_⟩;obtain ⟨s,B⟩:∃ s,rs[0]?=some s:=⟨_,yb (by omega)⟩;obtain ⟨g,L⟩:∃ g,rs[1]?=some g:=⟨_,yb (by omega)⟩;obtain ⟨r,D⟩:∃ r,rs[rs.length-1]?=some r:=⟨_,yb (by omega)⟩;obtain ⟨m1,O⟩:∃ m1,rs[rs.length-2]?=some m1:=⟨_,yb (by omega)⟩;have m:=z.trans S;have C:=R.row;have c:=m _ _ C;have at_:∀ {j:Nat} {n:Str},rs[j]?=some n->(rs.map V.str)[j]?=some (.str n):=fun e=>by rw [yd,e];rfl
  have back:∀ {j:Nat} {n:Str},1<=j->j<=rs.length->rs[rs.length-j]?=some n->atI (rs.map V.str) (-(j:Int))=some (.str n):=fun l1 l2 e=>qdO l1 (by rw [ya];exact l2) (by rw [ya];exact at_ e);ext;refine qcL ?_;ext;refine ⟨d,rfl,.inl ⟨_,.inl p⟩,?_⟩;ext;refine .inl (zc c (v:=.str s) (qy (j:=0) (at_ B)) ?_);refine ⟨_,DGet.k (k:=Sum.inr s) p,?_⟩;rw [jR,G.hd _ B];ext;refine qcL ?_;ext;refine ⟨d,rfl,.inl ⟨_,.inl p⟩,?_⟩;ext;refine ⟨1,rfl,?_⟩;refine .inl (zc c (v:=.str r) (back (j:=1) (by decide) (by omega) D) ?_);refine ⟨_,DGet.k (k:=Sum.inr r) p,?_⟩;rw [jR,G.tl _ D];ext;refine .inl (zc c (v:=.str g) (qy (j:=1) (at_ L)) ?_);ext;refine ⟨by show 2<=sizeLine;decide,fun t N=>qfj qb ?_⟩;have A:=qL m (o:=.tup [.non,.str g]) N;generalize upd H2 t (.tup [.non,.str g])=U at A;refine ⟨_,rfl,qal ?_⟩;ext;refine ⟨2,rfl,?_⟩;refine .inl (zc (A _ _ C) (v:=.str m1) (back (j:=2) (by decide) (by omega) O) ?_);ext;exact ⟨by show 2<=sizeLine;decide,fun t2 y=>qfj qb (q _ (qL A y))⟩
theorem ub:FnScope ["web","pairs","row","partners","steps"] ["web","pairs","row"] (qh qaU):=fS
noncomputable def qeA (rs:List Str):List (Str×Str):=stp rs++(stp rs).map fun q=>(q.2,q.1)
noncomputable def flT (a qs:List (Str×Str)) (rs:List Str):List (Str×Str):=a.filter fun q=>decide (pt qs q.1=some q.2) != decide (q∈qeA rs)
inductive spTu (cw:Addr) (vs:List V) (H:Hp) (Q:VK) (E:XK):Prop|mk (x l a:Addr) (ss:List Str) (ns:List Nat) (us:List Addr) (tps qs:List (Str×Str)) (rs:List Str) (_:vs=[.ref x,.ref l,.ref a]) (_:Rw cw H x l a ss ns us tps qs rs) (_:∀ (l:Addr) (ls:List Addr) (H':Hp),L2.Same H H'->H l=none->H' l=some (.lst (ls.map V.ref))->ls.length<=196->All2 (PrAt H H' l) ls (flT (qO ss ns ss.length) qs rs)->Q (.ref l) H')
theorem All2.app9 {R:α->β->Prop} {l1 l2:List α} {m1 f:List β} (a:All2 R l1 m1) (b:All2 R l2 f):All2 R (l1++l2) (m1++f):=by
 refine ⟨by rw [yt,yt,a.len,b.len],fun k x y c d=>?_⟩;by_cases e:k<l1.length
 .rw [y8 e] at c;rw [y8 (by rw [<- a.len];exact e)] at d;exact a.at_ k x y c d
 .rw [yG (by omega)] at c;rw [yG (by rw [<- a.len];omega),<- a.len] at d;exact b.at_ _ x y c d
theorem cat_W {a:Addr} {Q:VK} (c:G a=some (.lst xs)) (d:G b=some (.lst ys)) (hl:xs.length+ys.length<=2000) (q:∀ p,G p=none->Q (.ref p) (upd G p (.lst (xs++ys)))):qc4 K (.ref a) (.ref b) G Q:=.inl ⟨a,b,_,_,rfl,rfl,c,d,yi hl (by decide),q⟩
theorem ok_tu (F:Fun K "turned" "turned" qaU f fd) (T:Txt K mg cc cw) (Kh:DefOk P w K mg base CX0 9 "partners_in" ["web","pairs"] (spPn cw)) (KG:MethOk P w K mg base CX0 7 cw "ties" ["self"] (spTs cw)) (u9:DefOk P w K mg base CX0 11 "can_turn" ["web","pairs","thing"] (spIr cw)):FnOk P w K mg base CX0 12 f fd ["web","pairs","row"] (spTu cw):=by
 refine F.ok ub fun _ _ _ _ H vs Q E hr h=>?_
 .obtain ⟨x,pl,a,ss,ns,ps,tps,qs,rs,rfl,R,q⟩:=h;have u:=jS hr;obtain ⟨wx,dd,ol,nn,hb,_⟩:=id R.web;have ha:=R.row;have ah:=R.rok.few;have h2:=R.rok.two;refine ⟨_,(qc (qV (jf (qZ (qv u9 (hmR hr) qH (qa (pv 0) (qa (pv 1) (qa (pv 2) qd)))))) (qf jg) qx)
 (qc (qo (i:=3) ub.nd rfl (Xi rfl) (qv Kh (hmR hr) qH (qa (pv 0) (qa (pv 1) qd))))
 (qc (qo (i:=4) ub.nd rfl (Xi rfl) (qE (zy (K:=K) rfl) (qda (K:=K) rfl rfl rfl rfl T.b_list T.b_zip (qa (pv 2) (qa (zj (qe9 (K:=K) rfl) (pv 2) (j4 qg) zU) qd))) (qda (K:=K) rfl rfl rfl rfl T.b_list T.b_zip (qa (zj (qe9 (K:=K) rfl) (pv 2) (j4 qg) zU) (qa (pv 2) qd)))))
 (qf (qp (jh (sc:=qh qaU) (XN:=["web","pairs","row","partners","steps"]) ["tie","steps","partners"] 1 [4,3] rfl rfl rfl (by decide +kernel) rfl (by decide +kernel)
  (qT (K:=K) rfl (qF KG (hmR hr) (pv 0))) (fun _ _ _ _=>(qr (i:=0) (show (["tie","steps","partners"]:List Str).Nodup by decide +kernel) rfl (yO rfl))) qR
  (fun _ _ _ _=>(q9 (qj (zZ (K:=K) rfl u) (jE (zi (K:=K) rfl u) (qaM (qf8 u) (pv 2) (qt (qu (K:=K) rfl u) (pv 0) qg (fun _ _=>rfl)) ⟨rfl,rfl,rfl,rfl⟩) (qt (qu (K:=K) rfl u) (pv 0) qg (fun _ _=>rfl)) (qC _)) (jE (zT (K:=K) rfl u) (pv 0) (pv 1) (by with_unfolding_all rfl)) (qC _))))
  (fun _ _ _ _=>(pv 0)))))))),?_⟩
  ext;refine ⟨x,pl,a,ss,ns,ps,tps,qs,rs,rfl,R,fun H1 s1=>?_⟩;refine ⟨_,rfl,qW (fun h=>by cases h) fun _=>?_⟩;ext;refine ⟨x,pl,ss,ns,ps,tps,qs,rfl,R.web.same s1,R.adj,R.prs.same s1,R.pgo,fun d H2 s2 ai hd=>?_⟩;have N:=s1.trans s2;have n:=N _ _ ha;ext;refine vLZ ?_;ext;refine .inl ⟨a,_,rfl,SqL.of n,fun Z ac=>?_⟩;rw [qbm,<- kD];have t1:=qL (Sr H2) (o:=.lst (rs.tail.map V.str)) ac;have A:upd H2 Z (.lst (rs.tail.map V.str)) Z=some (.lst (rs.tail.map V.str)):=qb;generalize upd H2 Z (.lst (rs.tail.map V.str))=G1 at t1 A;ext;refine ⟨a,Z,_,_,rfl,SqL.of (t1 _ _ n),SqL.of A,by rw [ya];exact ah,fun l1 b G2 Z1=>?_⟩;have t2:=t1.trans Z1.sm;ext;refine vLZ ?_;ext;refine .inl ⟨a,_,rfl,SqL.of (t2 _ _ n),fun c2 ad=>?_⟩;rw [qbm,<- kD];have t3:=qL (Sr G2) (o:=.lst (rs.tail.map V.str)) ad;have B:upd G2 c2 (.lst (rs.tail.map V.str)) c2=some (.lst (rs.tail.map V.str)):=qb;generalize upd G2 c2 (.lst (rs.tail.map V.str))=G3 at t3 B;have S:=t2.trans t3;ext;refine ⟨c2,a,_,_,rfl,SqL.of B,SqL.of (S _ _ n),by rw [ya,xO];omega,fun l2 c G4 Y=>?_⟩;have t4:=S.trans Y.sm;have U:=t3.trans Y.sm
  have A1:=qez (qs:=stp rs) Z1 (by rw [qaD,xO];omega) fun j q e=>by
   obtain ⟨X,z2⟩:=stp_at.mp e;exact ⟨X,by rw [xS];exact z2⟩
  have A2:=qez (qs:=(stp rs).map fun q=>(q.2,q.1)) Y (by rw [ya,qaD,xO];omega) fun j q e=>by
   rw [yd] at e;obtain ⟨q',e',rfl⟩:=yn.mp e;obtain ⟨X,z2⟩:=stp_at.mp e';exact ⟨by rw [xS];exact z2,X⟩
  have ak:b.length<=1000:=by rw [A1.len,qaD];omega
  have al:c.length<=1000:=by rw [A2.len,ya,qaD];omega
  refine cat_W (U _ _ Z1.ls) Y.ls (by rw [ya,ya,A1.len,A2.len,ya,qaD];omega) fun st ag=>?_;have t5:=qL (Sr G4) (o:=.lst (b.map V.ref++c.map V.ref)) ag;have C:upd G4 st (.lst (b.map V.ref++c.map V.ref)) st=some (.lst (b.map V.ref++c.map V.ref)):=qb;generalize upd G4 st (.lst (b.map V.ref++c.map V.ref))=G5 at t5 C;have W:=t4.trans t5;have aa:PL G5 st (b++c) (qeA rs):=⟨by rw [yA];exact C,All2.app9 (A1.mono fun _ _ z=>(U.trans t5) _ _ z) (A2.mono fun _ _ z=>t5 _ _ z)⟩;have p:=N.trans W;have ae:=W _ _ hd;ext;refine ⟨x,wx,_,rfl,p _ _ hb,jY (by decide +kernel),?_⟩;ext;refine ⟨x,ss,ns,rfl,R.web.same p,fun l ts G6 s6 aj hl af r=>?_⟩;have O:=p.trans s6;have L:=s6 _ _ ae;have D:=aa.same s6;refine .inl ⟨⟨_,.of hl⟩,qK (xs:=ts.map V.ref) (fun i ys G=>G=G6/\∃ us:List Addr,ys=us.map V.ref/\us.length<=i/\All2 (fun t ab=>G5 t=none/\G6 t=some (.tup [.str ab.1,.str ab.2])) us (flT ((qO ss ns ss.length).take i) qs rs)) ⟨rfl,[],rfl,yh _,.nil⟩ (fun i ys G _ m=>by rw [m.1];exact .of hl) (fun i y ys G hy m=>?_) fun ys G m=>?_⟩
  .obtain ⟨rfl,us,rfl,M,I⟩:=m;rw [yd] at hy;obtain ⟨t,ht,rfl⟩:=yn.mp hy;have hi:i<ts.length:=(yc.mp ht).1;obtain ⟨ab,J⟩:∃ ab,(qO ss ns ss.length)[i]?=some ab:=⟨_,yb (by rw [<- r.len];exact hi)⟩;obtain ⟨X,z2,z3⟩:=r.at_ i t ab ht J
   have s:flT ((qO ss ns ss.length).take (i+1)) qs rs=flT ((qO ss ns ss.length).take i) qs rs++(if (decide (pt qs ab.1=some ab.2) != decide (ab∈qeA rs))=true then [ab] else []):=by
    unfold flT;rw [yK,J,y9];show _++[ab].filter _=_;rw [yS,Yj]
   ext;refine qcL ?_;ext;refine ⟨d,rfl,.inl ⟨_,.inl L⟩,?_⟩;ext;refine .inl (qaw z3 (v:=.str ab.1) (qy (j:=0) rfl) ?_);refine ⟨_,DGet.k (k:=Sum.inr ab.1) L,?_⟩;rw [jR];ext;refine .inl (qaw z3 (v:=.str ab.2) (qy (j:=1) rfl) ?_);refine qfH ?_;ext;refine pl_in D z3 ?_;refine .inl ⟨rfl,rfl,?_⟩;have eb:eqV (.bl (decide (pt qs ab.1=some ab.2))) (.bl (decide ((ab.1,ab.2)∈qeA rs)))=(decide (pt qs ab.1=some ab.2)==decide (ab∈qeA rs)):=rfl;rw [yD rfl,eb,s];refine ⟨_,rfl,?_⟩;show if (decide (pt qs ab.1=some ab.2) != decide (ab∈qeA rs))=true then _ else _
   cases am:(decide (pt qs ab.1=some ab.2) != decide (ab∈qeA rs)) with
   | true =>
    refine qal ?_;rw [yD rfl];ext;exact ⟨by rw [ya];exact qi (by omega),rfl,us++[t],by rw [yA];rfl,by rw [yt];simp;omega,I.snoc ⟨X,z3⟩⟩
   | false =>
    refine yq ?_;rw [yy (by decide),Yc];exact ⟨rfl,us,rfl,by omega,I⟩
  .obtain ⟨rfl,us,rfl,M,I⟩:=m;have e:(ts.map V.ref).length=(qO ss ns ss.length).length:=by rw [ya,r.len]
   rw [e,yR] at I;rw [ya] at M;refine ⟨by rw [ya];exact yX (qi (by omega)),fun g hg=>?_⟩;have s7:=qL O (o:=.lst (us.map V.ref)) hg;exact q g us _ s7 (O.free hg) qb (by omega) (I.mono fun t ab z=>⟨p.free z.1,(fun e=>by rw [e,hg] at z;cases z.2),by rw [qe (fun e=>by rw [e,hg] at z;cases z.2)];exact z.2⟩)
def adjR (rs:List Str) (a b:Str):Prop:=∃ j:Nat,(rs[j]?=some a/\rs[j+1]?=some b)\/(rs[j]?=some b/\rs[j+1]?=some a)
theorem adjR.symm {b:Str} (h:adjR rs a b):adjR rs b a:=h.elim fun j z=>⟨j,z.symm⟩
theorem adjR.mem {b:Str} (h:adjR rs a b):a∈rs/\b∈rs:=h.elim fun j z=>z.elim (fun y=>⟨ye y.1,ye y.2⟩) fun y=>⟨ye y.2,ye y.1⟩
structure TurnR (f:Str->Option Str) (rs:List Str):Prop where
 nd:rs.Nodup
 two:2<=rs.length
 sym:∀ a b,f a=some b->f b=some a
 alt:∀ (j:Nat) r s t,rs[j]?=some r->rs[j+1]?=some s->rs[j+2]?=some t->(f s=some r↔¬ f s=some t)
 fst:∀ s t,rs[0]?=some s->rs[1]?=some t->f s=none\/f s=some t
 lst:∀ s t,rs[rs.length-1]?=some s->rs[rs.length-2]?=some t->f s=none\/f s=some t
theorem TurnR.near {f:Str->Option Str} (h:TurnR f rs) {b:Str} (n:a∈rs) (c:f a=some b):adjR rs a b:=by
 obtain ⟨i,d⟩:=yf n;have o:i<rs.length:=(yc.mp d).1;have p:=h.two;by_cases m:i=0
 .subst m;obtain ⟨t,e⟩:∃ t,rs[1]?=some t:=⟨_,yb (by omega)⟩;rcases h.fst a t d e with z | z
  .rw [z] at c;cases c
  .rw [c] at z;cases z;exact ⟨0,.inl ⟨d,e⟩⟩
 .by_cases hl:i=rs.length-1
  .obtain ⟨t,e⟩:∃ t,rs[rs.length-2]?=some t:=⟨_,yb (by omega)⟩;rcases h.lst a t (by rw [<- hl];exact d) e with z | z
   .rw [z] at c;cases c
   .rw [c] at z;cases z;exact ⟨rs.length-2,.inr ⟨e,by rw [show rs.length-2+1=i by omega];exact d⟩⟩
  .obtain ⟨r,l⟩:∃ r,rs[i-1]?=some r:=⟨_,yb (by omega)⟩;obtain ⟨t,e⟩:∃ t,rs[i+1]?=some t:=⟨_,yb (by omega)⟩;have g:i-1+1=i:=by omega
   have j:i-1+2=i+1:=by omega
   have:=h.alt (i-1) r a t l (by rw [g];exact d) (by rw [j];exact e);by_cases z:f a=some t
   .rw [c] at z;cases z;exact ⟨i,.inl ⟨d,e⟩⟩
   .have z:=this.mpr z;rw [c] at z;cases z;exact ⟨i-1,.inr ⟨l,by rw [g];exact d⟩⟩
def flipR (f:Str->Option Str) (rs:List Str) (a b:Str):Prop:=(a∉rs/\f a=some b)\/(adjR rs a b/\f a≠some b)
theorem TurnR.xor {f:Str->Option Str} (h:TurnR f rs) {b:Str}:flipR f rs a b↔¬ (f a=some b↔adjR rs a b):=by
 unfold flipR;constructor
 .rintro (⟨h1,c⟩ | ⟨h1,c⟩) e
  .exact h1 (e.mp c).mem.1
  .exact c (e.mpr h1)
 .intro e;by_cases h1:f a=some b
  .refine .inl ⟨fun d=>e ⟨fun _=>h.near d h1,fun _=>h1⟩,h1⟩
  .by_cases c:adjR rs a b
   .exact .inr ⟨c,h1⟩
   .exact absurd ⟨fun z=>absurd z h1,fun z=>absurd z c⟩ e
theorem flipR.symm {f:Str->Option Str} (h:TurnR f rs) {b:Str} (e:flipR f rs a b):flipR f rs b a:=by
 rcases e with ⟨h1,c⟩ | ⟨h1,c⟩
 .refine .inl ⟨fun d=>?_,h.sym _ _ c⟩;exact h1 (h.near d (h.sym _ _ c)).mem.2
 .exact .inr ⟨h1.symm,fun z=>c (h.sym _ _ z)⟩
theorem adjR.at_ (nd:rs.Nodup) {b:Str} (d:rs[i]?=some a) (h:adjR rs a b):rs[i+1]?=some b\/(1<=i/\rs[i-1]?=some b):=by
 obtain ⟨j,⟨h1,c⟩ | ⟨h1,c⟩⟩:=h
 .have:=qw nd d h1;subst this;exact .inl c
 .have:=qw nd d c;subst this;exact .inr ⟨by omega,by simpa using h1⟩
theorem flipR.one {f:Str->Option Str} (h:TurnR f rs) {b:Str} (o:flipR f rs a b) (n:flipR f rs a c):b=c:=by
 rcases o with ⟨h1,g⟩ | ⟨h1,g⟩
 .rcases n with ⟨e,d⟩ | ⟨e,d⟩
  .rw [g] at d;exact ym d
  .exact absurd e.mem.1 h1
 .rcases n with ⟨e,d⟩ | ⟨e,d⟩
  .exact absurd h1.mem.1 e
  .obtain ⟨i,j⟩:=yf h1.mem.1
   have key:∀ {b c:Str},rs[i+1]?=some b->1<=i->rs[i-1]?=some c->f a≠some b->f a≠some c->False:=fun hb p hc q r=>by
    have l:i-1+1=i:=by omega
    have m:i-1+2=i+1:=by omega
    exact r ((h.alt (i-1) _ a _ hc (by rw [l];exact j) (by rw [m];exact hb)).mpr q)
   rcases h1.at_ h.nd j with z1 | ⟨l1,z1⟩<;>rcases e.at_ h.nd j with z2 | ⟨l2,z2⟩
   .rw [z1] at z2;exact ym z2
   .exact (key z1 l2 z2 g d).elim
   .exact (key z2 l1 z1 d g).elim
   .rw [z1] at z2;exact ym z2
theorem TurnR.again {f:Str->Option Str} (h:TurnR f rs) (l:∀ a b,g a=some b↔flipR f rs a b):TurnR g rs:=by
 have on:∀ {a b:Str},adjR rs a b->(g a=some b↔¬ f a=some b):=fun i=>by
  rw [l,h.xor];constructor
  .exact fun e z=>e ⟨fun _=>i,fun _=>z⟩
  .exact fun e z=>e (z.mpr i)
 have only:∀ {a b:Str},a∈rs->g a=some b->adjR rs a b:=fun p e=>by
  rcases (l _ _).mp e with ⟨h1,_⟩ | ⟨h1,_⟩
  .exact absurd p h1
  .exact h1
 refine ⟨h.nd,h.two,fun a b e=>(l _ _).mpr (((l _ _).mp e).symm h),fun j r s t m c d=>?_,fun s t c d=>?_,fun s t c d=>?_⟩
 .have n:adjR rs s r:=⟨j,.inr ⟨m,c⟩⟩;have o:adjR rs s t:=⟨j+1,.inl ⟨c,d⟩⟩;rw [on n,on o,h.alt j r s t m c d]
 .cases e:g s with
  | none=>exact .inl rfl
  | some b =>
   have:=(only (ye c) e).at_ h.nd c;rcases this with z | ⟨z,_⟩
   .rw [d] at z;exact .inr (by rw [<- e,e];exact z.symm ▸ rfl)
   .omega
 .cases e:g s with
  | none=>exact .inl rfl
  | some b =>
   have q:=h.two;have:=(only (ye c) e).at_ h.nd c;rcases this with z | ⟨_,z⟩
   .have:=(yc.mp z).1;omega
   .rw [show rs.length-1-1=rs.length-2 by omega,d] at z;exact .inr (by rw [<- z])
theorem TurnR.inner {f:Str->Option Str} (h:TurnR f rs) (d:0<i) (h1:i+1<rs.length) (b:rs[i]?=some s):(f s).isSome=true:=by
 obtain ⟨r,a⟩:∃ r,rs[i-1]?=some r:=⟨_,yb (by omega)⟩;obtain ⟨t,c⟩:∃ t,rs[i+1]?=some t:=⟨_,yb h1⟩;have:=h.alt (i-1) r s t a (by rw [show i-1+1=i by omega];exact b) (by rw [show i-1+2=i+1 by omega];exact c)
 cases e:f s with
 | some _=>rfl
 | none =>
  rw [e] at this;have:=this.mpr (fun z=>by cases z);cases this
theorem qdP {f:Str->Option Str} (h:TurnR f rs) (e:∀ a b,g a=some b↔flipR f rs a b) {t:Str} (c:adjR rs a t) (i:f a=none\/f a=some t) (d:g a=none\/g a=some t):(g a).isSome=!(f a).isSome:=by
 rcases i with z | z
 .rw [(e a t).mpr (.inr ⟨c,by rw [z];exact fun y=>by cases y⟩),z];rfl
 .rcases d with y | y
  .rw [y,z];rfl
  .exact absurd ⟨fun _=>c,fun _=>z⟩ (h.xor.mp ((e a t).mp y))
theorem qeB {f:Str->Option Str} (h:TurnR f rs) {b:Str} (g:rs[0]?=some a) (hb:rs[rs.length-1]?=some b):(rs.filter fun s=>(f s).isSome).length+2=rs.length+(if (f a).isSome then 1 else 0)+(if (f b).isSome then 1 else 0):=by
 have d:=h.two
 obtain ⟨m,l⟩:∃ m,rs=a::(m++[b]):=by
  match rs,g,hb,d with
  | x::r,g,hb,d =>
   have u:x=a:=ym g;have p:r≠[]:=fun z=>by rw [z] at d;simp at d
   refine ⟨r.dropLast,?_⟩
   have e:r.getLast p=b:=by
    have hl:0<r.length:=X3.mpr p;rw [show (x::r).length-1=r.length-1+1 by simp;omega,List.getElem?_cons_succ] at hb;rw [List.getLast_eq_getElem];exact (yc.mp hb).2
   rw [u,<- e,YR]
 have n:rs.length=m.length+2:=by rw [l];simp
 have c:(m.filter fun s=>(f s).isSome)=m:=List.filter_eq_self.mpr fun s q=>by
  obtain ⟨i,o⟩:=yf q;have j:=(yc.mp o).1;refine h.inner (i:=i+1) (by omega) (by omega) ?_;rw [l,List.getElem?_cons_succ,y8 j];exact o
 rw [n,l,yS,y9,c,yS,Yj];cases (f a).isSome<;>cases (f b).isSome<;>simp<;>omega
theorem qcQ (f:ss.Nodup) (i:rs.Nodup) (c:∀ s∈rs,s∈ss) (p:Str->Bool):(ss.filter p).length=(rs.filter p).length+(ss.filter fun s=>p s&&!decide (s∈rs)).length:=by
 have e:(rs.filter p).length=(ss.filter fun s=>p s&&decide (s∈rs)).length:=xU
  (qdd (i.filter _) fun s d=>by
   obtain ⟨a,b⟩:=yp.mp d;exact yp.mpr ⟨c s a,by rw [b,yM a];rfl⟩)
  (qdd (f.filter _) fun s d=>by
   obtain ⟨a,b⟩:=yp.mp d;obtain ⟨g,h⟩:=(yU _ _).mp b;exact yp.mpr ⟨yk h,g⟩)
 rw [e];clear e f c
 induction ss with
 | nil=>rfl
 | cons x r ih =>
  rw [yS,yS,yS];cases p x<;>cases decide (x∈rs)<;>simp<;>omega
theorem qbV:∀ {qs:List (Str×Str)},(∀ q∈qs,q.1≠q.2)->qs.Pairwise (fun q r=>q.1≠r.1/\q.1≠r.2/\q.2≠r.1/\q.2≠r.2)->(qB qs).Nodup
 | [],_,_=>kY
 | q::r,h,hp=>by
  obtain ⟨p1,p2⟩:=List.pairwise_cons.mp hp;have i:=qbV (fun x f=>h x (yz _ f)) p2;show (q.1::q.2::qB r).Nodup
  have out:∀ n∈qB r,q.1≠n/\q.2≠n:=fun n g=>by
   obtain ⟨x,f,e⟩:=xN.mp g;obtain ⟨a,b,c,d⟩:=p1 x f;simp only [yB,Yd,Y0] at e;rcases e with rfl | rfl
   .exact ⟨a,c⟩
   .exact ⟨b,d⟩
  refine yo.mpr ⟨fun z=>?_,yo.mpr ⟨fun z=>(out _ z).2 rfl,i⟩⟩;rcases yB.mp z with z | z
  .exact h q yN z
  .exact (out _ z).1 rfl
theorem stpB_adj {b:Str}:(a,b)∈qeA rs↔adjR rs a b:=by
 unfold qeA adjR;rw [yE,Ye];constructor
 .rintro (h | ⟨q,h,e⟩)
  .obtain ⟨j,d⟩:=yf h;exact ⟨j,.inl (stp_at.mp d)⟩
  .obtain ⟨j,d⟩:=yf h;cases e;exact ⟨j,.inr (stp_at.mp d)⟩
 .rintro ⟨j,⟨h1,c⟩ | ⟨h1,c⟩⟩
  .exact .inl (ye (stp_at.mpr ⟨h1,c⟩))
  .exact .inr ⟨(b,a),ye (stp_at.mpr ⟨h1,c⟩),rfl⟩
theorem flT_flip {d:List (Str×Str)} (h:TurnR (pt qs) rs) {b:Str}:(a,b)∈flT d qs rs↔(a,b)∈d/\flipR (pt qs) rs a b:=by
 unfold flT;rw [yp,h.xor];refine and_congr_right fun _=>?_;show (decide (pt qs a=some b) != decide ((a,b)∈qeA rs))=true↔_;by_cases h1:pt qs a=some b<;>by_cases c:(a,b)∈qeA rs
 .rw [yM h1,yM c];exact ⟨(fun z=>by cases z),fun z=>absurd ⟨fun _=>stpB_adj.mp c,fun _=>h1⟩ z⟩
 .rw [yM h1,yl c];exact ⟨fun _ z=>c (stpB_adj.mpr (z.mp h1)),fun _=>rfl⟩
 .rw [yl h1,yM c];exact ⟨fun _ z=>h1 (z.mpr (stpB_adj.mp c)),fun _=>rfl⟩
 .rw [yl h1,yl c];exact ⟨(fun z=>by cases z),fun z=>absurd ⟨fun y=>absurd y h1,fun y=>absurd (stpB_adj.mpr y) c⟩ z⟩
def tA (tps:List (Str×Str)) (a b:Str):Prop:=(a,b)∈tps\/(b,a)∈tps
theorem pt_some:s∈qB qs↔(pt qs s).isSome=true:=by
 cases e:pt qs s with
 | none=>exact ⟨fun z=>absurd z (pt_none.mp e),(fun z=>by cases z)⟩
 | some b=>exact ⟨fun _=>rfl,fun _=>YE fun z=>by rw [pt_none.mpr z] at e;cases e⟩
structure PFn (ss:List Str) (tps:List (Str×Str)) (f:Str->Option Str):Prop where
 sym:∀ a b,f a=some b->f b=some a
 tie:∀ a b,f a=some b->tA tps a b
noncomputable def qbe (f:Str->Option Str) (ss:List Str):Nat:=(ss.filter fun s=>(f s).isSome).length
section
variable {ss:List Str} {ns:List Nat} {tps qs:List (Str×Str)} {f g:Str->Option Str}
theorem PGo.fn (h:PGo ss tps qs):PFn ss tps (pt qs):=⟨fun a b e=>(qev h.nd).mp e,fun a b e=>by
 rcases qdM e with z | z
 .exact (h.inn _ z).1
 .exact (h.inn _ z).1.symm⟩
theorem PGo.cnt (h:PGo ss tps qs) (c:ss.Nodup):2*qs.length=qbe (pt qs) ss:=by
 rw [<- qaC];refine xU (qdd h.nd fun s a=>yp.mpr ⟨?_,pt_some.mp a⟩) (qdd (c.filter _) fun s a=>pt_some.mpr (yp.mp a).2);obtain ⟨q,b,a⟩:=xN.mp a;simp only [yB,Yd,Y0] at a;rcases a with rfl | rfl
 .exact (h.inn q b).2.1
 .exact (h.inn q b).2.2.1
theorem qbW:(snL f ss).length+qbe f ss=ss.length:=by
 unfold snL qbe
 induction ss with
 | nil=>rfl
 | cons x r ih =>
  rw [yS,yS];cases (f x).isSome
  .rw [yD (show (!false)=true from rfl),yy Yn,yC,yC];omega
  .rw [yy (show ¬ (!true)=true by decide),yD (show true=true from rfl),yC,yC];omega
theorem zu (hw:WOk ss ns) (p:Adj ss ns tps) {b:Str}:(a,b)∈qO ss ns ss.length↔tA tps a b/\∃ i j:Nat,i<j/\ss[i]?=some a/\ss[j]?=some b:=by
 unfold qO;rw [xN];constructor
 .rintro ⟨i,f,h⟩;have f:=YJ.mp f;obtain ⟨s,l⟩:∃ s,ss[i]?=some s:=⟨_,yb f⟩;have d:ss.getD i ""=s:=by rw [YK,l];rfl
  unfold qet at h;rw [d] at h;obtain ⟨o,u,e⟩:=Ye.mp h;cases e;obtain ⟨h1,c⟩:=yp.mp u;obtain ⟨q,r⟩:=qdc hw.nd h1;have n:ss[ss.idxOf b]?=some b:=by rw [yb (Yg q),Yy]
  exact ⟨(p i _ _ _ l n).mp r,i,_,yk c,l,n⟩
 .rintro ⟨h,i,j,g,h1,c⟩;refine ⟨i,YJ.mpr (yc.mp h1).1,?_⟩;have d:ss.getD i ""=a:=by rw [YK,h1];rfl
  have m:ss.idxOf b=j:=by
   have hb:=ye c;exact qw hw.nd (by rw [yb (Yg hb),Yy]) c
  unfold qet;rw [d];refine Ye.mpr ⟨b,yp.mpr ⟨?_,yM (by rw [m];exact g)⟩,rfl⟩;rw [zd hw.nd];exact yp.mpr ⟨ye c,by rw [m];exact (p i j a b h1 c).mpr h⟩
theorem qfk (hw:WOk ss ns):(qO ss ns ss.length).Nodup:=by
 refine List.pairwise_flatMap.mpr ⟨fun i _=>?_,?_⟩
 .unfold qet;refine ku.mpr ?_;have nd:((inB ss 0 (ns.getD i 0)).filter fun o=>decide (i<ss.idxOf o)).Nodup:=by rw [zd hw.nd];exact (hw.nd.filter _).filter _
  exact nd.imp fun c e=>c (Prod.mk.inj e).2
 .refine Y2 (fun {i j} a b g q d r f e=>?_) (List.pairwise_lt_range (n:=ss.length));have a:=YJ.mp a;have b:=YJ.mp b;unfold qet at d f;obtain ⟨_,_,rfl⟩:=Ye.mp d;obtain ⟨_,_,rfl⟩:=Ye.mp f;have e:=(Prod.mk.inj e).1;rw [YK,YK,yb a,yb b] at e;have:=qw hw.nd (yb a) (by rw [yb b];exact congrArg some e.symm);omega
theorem qfl (hw:WOk ss ns) (B:Adj ss ns tps) (u:∀ ab∈tps,ab.1∈ss/\ab.2∈ss/\ab.1≠ab.2) (h:PFn ss tps g) {L:List (Str×Str)} (f:∀ a b,(a,b)∈L↔(a,b)∈qO ss ns ss.length/\g a=some b) (I:L.Sublist (qO ss ns ss.length)):PGo ss tps L/\pt L=g:=by
 have mem:∀ q∈L,g q.1=some q.2/\tA tps q.1 q.2/\∃ i j:Nat,i<j/\ss[i]?=some q.1/\ss[j]?=some q.2:=fun q c=>by
  obtain ⟨h1,H⟩:=(f q.1 q.2).mp c;exact ⟨H,(zu hw B).mp h1⟩
 have inn:∀ {a b:Str},tA tps a b->a∈ss/\b∈ss/\a≠b:=fun z=>z.elim (fun y=>u _ y) fun y=>⟨(u _ y).2.1,(u _ y).1,(u _ y).2.2.symm⟩
 have nd:(qB L).Nodup:=by
  refine qbV (fun q c=>(inn (mem q c).2.1).2.2) (Y2 (fun {q r} c J n=>?_) (I.nodup (qfk hw)));obtain ⟨d,_,i,j,l1,o,p⟩:=mem q c;obtain ⟨A,_,M,N,l2,E,F⟩:=mem r J;have x:=h.sym _ _ d;have G:=h.sym _ _ A;refine ⟨fun z=>?_,fun z=>?_,fun z=>?_,fun z=>?_⟩
  .rw [z,A] at d;exact n (xF z (ym d).symm)
  .rw [z,G] at d;have e:=ym d;rw [z] at o;rw [<- e] at p;have:=qw hw.nd o F;have:=qw hw.nd p E;omega
  .rw [z,A] at x;have e:=ym x;rw [z] at p;rw [<- e] at o;have:=qw hw.nd o F;have:=qw hw.nd p E;omega
  .rw [z,G] at x;exact n (xF (ym x).symm z)
 have D:∀ q∈L,(q∈tps\/(q.2,q.1)∈tps)/\q.1∈ss/\q.2∈ss/\q.1≠q.2:=fun q c=>⟨(mem q c).2.1,inn (mem q c).2.1⟩
 have hl:L.length<=30:=by
  have:=qdd (l:=qB L) (m:=ss) nd fun s w=>by
   obtain ⟨q,c,w⟩:=xN.mp w;simp only [yB,Yd,Y0] at w;rcases w with rfl | rfl
   .exact (D q c).2.1
   .exact (D q c).2.2.1
  rw [qaC] at this;have:=hw.few;omega
 refine ⟨⟨D,nd,hl⟩,funext fun a=>qew fun b=>?_⟩;rw [qeu nd];constructor
 .rintro (z | z)
  .exact ((f _ _).mp z).2
  .exact h.sym _ _ ((f _ _).mp z).2
 .intro e;obtain ⟨m1,K,ne⟩:=inn (h.tie _ _ e);obtain ⟨i,C⟩:=yf m1;obtain ⟨j,v⟩:=yf K;rcases ko i j with l | l | l
  .exact .inl ((f _ _).mpr ⟨(zu hw B).mpr ⟨h.tie _ _ e,i,j,l,C,v⟩,e⟩)
  .subst l;rw [C] at v;exact absurd (ym v) ne
  .exact .inr ((f _ _).mpr ⟨(zu hw B).mpr ⟨(h.tie _ _ e).symm,j,i,l,v,C⟩,h.sym _ _ e⟩)
theorem tps_ok (hw:WOk ss ns) (c:Adj ss ns tps) (d:∀ ab∈tps,ab.1∈ss/\ab.2∈ss/\ab.1≠ab.2) (h:PGo ss tps qs):PGo ss tps (qbG (qO ss ns ss.length) qs)/\pt (qbG (qO ss ns ss.length) qs)=pt qs:=
 qfl hw c d h.fn (fun a b=>by unfold qbG;rw [yp,yJ]) X4
end
theorem qeC {f:Str->Option Str} (h:TurnR f rs):∃ g:Str->Option Str,∀ a b,g a=some b↔flipR f rs a b:=
 ⟨fun a=>@dite _ (∃ b,flipR f rs a b) (Classical.propDecidable _) (fun z=>some z.choose) fun _=>none,fun a b=>by
  dsimp only;split
  .rename_i z
   exact ⟨fun e=>by rw [<- ym e];exact z.choose_spec,fun e=>congrArg some (z.choose_spec.one h e)⟩
  .rename_i z
   exact ⟨(fun e=>by cases e),fun e=>absurd ⟨b,e⟩ z⟩⟩
section
variable {ss:List Str} {tps qs:List (Str×Str)} {f g:Str->Option Str} {rs:List Str}
theorem qeD (h:TurnR f rs) (i:PFn ss tps f) (d:∀ a b,adjR rs a b->tA tps a b) (c:∀ a b,g a=some b↔flipR f rs a b):PFn ss tps g:=
 ⟨fun a b e=>(c _ _).mpr (((c _ _).mp e).symm h),fun a b e=>((c _ _).mp e).elim (fun z=>i.tie _ _ z.2) fun z=>d _ _ z.1⟩
theorem qdQ (h:TurnR f rs) (e:∀ a b,g a=some b↔flipR f rs a b) (o:ss.Nodup) (d:∀ s∈rs,s∈ss) {b:Str} (c:rs[0]?=some a) (hb:rs[rs.length-1]?=some b):qbe g ss+2=qbe f ss+(if (f a).isSome then 0 else 2)+(if (f b).isSome then 0 else 2):=by
 have B:=h.two;have j:=h.again e;unfold qbe;rw [qcQ o h.nd d,qcQ (p:=fun s=>(f s).isSome) o h.nd d];have n:=qeB h c hb;have i:=qeB j c hb
 have A:(ss.filter fun s=>(g s).isSome&&!decide (s∈rs))=ss.filter fun s=>(f s).isSome&&!decide (s∈rs):=YD fun s _=>by
  by_cases z:s∈rs
  .rw [yM z];simp
  .have:g s=f s:=qew fun b=>by
    rw [e];exact ⟨fun y=>y.elim (fun x=>x.2) fun x=>absurd x.1.mem.1 z,fun y=>.inl ⟨z,y⟩⟩
   rw [this]
 rw [A];obtain ⟨t,l⟩:∃ t,rs[1]?=some t:=⟨_,yb (by omega)⟩;obtain ⟨u,m⟩:∃ u,rs[rs.length-2]?=some u:=⟨_,yb (by omega)⟩;have q:=qdP h e ⟨0,.inl ⟨c,l⟩⟩ (h.fst a t c l) (j.fst a t c l);have r:=qdP h e (a:=b) (t:=u) ⟨rs.length-2,.inr ⟨m,by rw [show rs.length-2+1=rs.length-1 by omega];exact hb⟩⟩ (h.lst b u hb m) (j.lst b u hb m);rw [q,r] at i;generalize (rs.filter fun s=>(g s).isSome).length=x1 at i ⊢;generalize (rs.filter fun s=>(f s).isSome).length=x2 at n ⊢;cases v:(f a).isSome<;>cases w:(f b).isSome<;>rw [v,w] at n i<;>simp at n i ⊢<;>omega
theorem qbX (c:∀ a b,f a=some b->f b=some a) (nd:rs.Nodup) (d:2<=rs.length) (st:Turns A f rs) (h:∀ s,rs[0]?=some s->f s=none) (tl:∀ s t,rs[rs.length-1]?=some s->rs[rs.length-2]?=some t->f s=none\/f s=some t):TurnR f rs:=by
 refine ⟨nd,d,c,fun j r s t i h1 l=>?_,fun s t h1 _=>.inl (h s h1),tl⟩;have e:=(st j r s i h1).2;have g:=(st (j+1) s t h1 l).2;have:f s=some r↔f r=some s:=⟨fun z=>c _ _ z,fun z=>c _ _ z⟩;rw [this,e,g];omega
theorem qcR (st:Turns (tA tps) f rs):∀ a b,adjR rs a b->tA tps a b:=fun a b h=>by
 obtain ⟨j,⟨h1,c⟩ | ⟨h1,c⟩⟩:=h
 .exact (st j _ _ h1 c).1
 .exact (st j _ _ h1 c).1.symm
theorem Aug.row (h:Aug (tA tps) (pt qs) rs) (hl:rs.length<=1000) (c:∀ ab∈tps,ab.1∈ss/\ab.2∈ss/\ab.1≠ab.2):RowG ss tps qs rs:=by
 refine ⟨h.nd,h.two,hl,fun r n=>?_,fun j ab e=>?_,h.hd,h.tl⟩
 .obtain ⟨i,d⟩:=yf n;have m:=(yc.mp d).1;have q:=h.two;have inn:∀ {a b:Str},tA tps a b->a∈ss/\b∈ss:=fun z=>z.elim (fun y=>⟨(c _ y).1,(c _ y).2.1⟩) fun y=>⟨(c _ y).2.1,(c _ y).1⟩;by_cases l:i+1<rs.length
  .exact (inn (h.st i r _ d (yb l)).1).1
  .refine (inn (h.st (i-1) _ r (yb (by omega)) (by rw [show i-1+1=i by omega];exact d)).1).2
 .obtain ⟨f,g⟩:=stp_at.mp e;obtain ⟨o,p⟩:=h.st j _ _ f g;exact ⟨o,Yr.mpr p⟩
theorem Aug.turn (h:Aug (tA tps) (pt qs) rs) (c:∀ a b,pt qs a=some b->pt qs b=some a):TurnR (pt qs) rs:=
 qbX c h.nd h.two h.st h.hd fun s t e _=>.inl (h.tl s e)
theorem qeE (hw:WOk ss ns) (m:Adj ss ns tps) (f:∀ ab∈tps,ab.1∈ss/\ab.2∈ss/\ab.1≠ab.2) (e:PGo ss tps qs) (h:Aug (tA tps) (pt qs) rs) (hl:rs.length<=1000):PGo ss tps (flT (qO ss ns ss.length) qs rs)/\(flT (qO ss ns ss.length) qs rs).length=qs.length+1:=by
 have c:=h.turn e.fn.sym;obtain ⟨g,d⟩:=qeC c;obtain ⟨j,n⟩:=qfl hw m f (qeD c e.fn (qcR h.st) d) (L:=flT (qO ss ns ss.length) qs rs) (fun a b=>by rw [flT_flip c,d]) X4;refine ⟨j,?_⟩;have o:=e.cnt hw.nd;have l:=j.cnt hw.nd;rw [n] at l;have p:=h.two;obtain ⟨a,i⟩:∃ t,rs[0]?=some t:=⟨_,yb (by omega)⟩;obtain ⟨b,hb⟩:∃ t,rs[rs.length-1]?=some t:=⟨_,yb (by omega)⟩;have:=qdQ c d hw.nd (h.row hl f).inn i hb;rw [h.hd a i,h.tl b hb] at this;simp at this;omega
end
theorem Kk:FnScope ["web","pairs","now","rows","row"] ["web","pairs"] (qh jL):=fS
def MxF (ss:List Str) (tps qs:List (Str×Str)):Prop:=∃ S:FS,Fn (tA tps) (pt qs) S ss
structure Wt (cw:Addr) (H:Hp) (x:Addr) (ss:List Str) (ns:List Nat) (tps:List (Str×Str)):Prop where
 web:WebAt cw H x ss ns
 adj:Adj ss ns tps
 ok:∀ ab∈tps,ab.1∈ss/\ab.2∈ss/\ab.1≠ab.2
theorem Wt.same (h:Wt cw H x ss ns tps) (s:L2.Same H H'):Wt cw H' x ss ns tps:=⟨h.web.same s,h.adj,h.ok⟩
theorem Wt.wok (h:Wt cw H x ss ns tps):WOk ss ns:=by obtain ⟨_,_,_,_,_,_,_,_,z⟩:=h.web;exact z
theorem Wt.wb (h:Wt cw H x ss ns tps) (g:PGo ss tps qs):Wb (tA tps) ss qs:=by
 refine ⟨⟨fun z=>Or.symm z,fun z e=>?_,fun {a b} e=>g.fn.sym a b e,fun {a b} e=>g.fn.tie a b e⟩,fun a b z=>z.elim (fun y=>(h.ok _ y).1) fun y=>(h.ok _ y).2.1,g.nd,h.wok.few,h.wok.nd⟩;rcases z with z | z
 .exact (h.ok _ z).2.2 e
 .exact (h.ok _ z).2.2 e.symm
theorem Wt.bes (h:Wt cw H x ss ns tps):∀ (j:Nat) z u,ss[j]?=some z->(u∈inB ss 0 (ns.getD j 0)↔tA tps z u):=fun j z u e=>by
 rw [zd h.wok.nd,yp];constructor
 .rintro ⟨h1,b⟩;exact (h.adj j _ z u e (by rw [yb (Yg h1),Yy])).mp b
 .intro t;have a:u∈ss:=t.elim (fun y=>(h.ok _ y).2.1) fun y=>(h.ok _ y).1;exact ⟨a,(h.adj j _ z u e (by rw [yb (Yg a),Yy])).mpr t⟩
theorem qge {c:Addr} {a:Fo} (h:FoD c cw H0 H a ss ns qs S dn wt .non (tA tps)) (W:Wb (tA tps) ss qs):Fn (tA tps) (pt qs) S ss:=by
 rcases h.en with ⟨_,rfl,I,C,sg⟩ | ⟨t,r,e,_⟩
 .have b:∀ v,v∈dn↔S.rows v≠none:=fun v=>by have:=h.fo.evi v;rwa [Yc] at this
  refine ⟨I,W.gr,W.inn,W.nd,fun v u hv d=>(C.cl v u ((b v).mpr hv) d).imp id fun z=>⟨z.1,YE fun y=>z.2 ((b u).mpr y)⟩,sg,fun v hv=>h.fo.evs v ((h.fo.evi v).mpr hv)⟩
 .cases e
def FRow (ss:List Str) (tps qs:List (Str×Str)) (H:Hp) (v:V) (H':Hp):Prop:=L2.Same H H'/\((v=.non/\MxF ss tps qs)\/∃ (r:Addr) (rs:List Str),v=.ref r/\H r=none/\H' r=some (.lst (rs.map V.str))/\rs.length<=1000/\Aug (tA tps) (pt qs) rs)
inductive spGf (cw:Addr) (vs:List V) (H:Hp) (Q:VK) (E:XK):Prop|mk (x l:Addr) (ss:List Str) (ns:List Nat) (us:List Addr) (tps qs:List (Str×Str)) (_:vs=[.ref x,.ref l]) (_:Wt cw H x ss ns tps) (_:PL H l us qs) (_:PGo ss tps qs) (_:∀ (t l2 r2:Addr) (ls:List Addr) (ws:List V) (rs:List (Str×Str)) (H':Hp),L2.Same H H'->H' t=some (.tup [.ref l2,.ref r2])->PL H' l2 ls rs->H' r2=some (.lst ws)->rs.length=qs.length+ws.length->PGo ss tps rs->MxF ss tps rs->Q (.ref t) H')
theorem qfI {y:Addr} {Q:VK} (W:Wt cw G x ss ns tps) (n:PL G l us qs) (b:PGo ss tps qs) (f:G y=none) (i:G dx=none) (d:dx≠y)
  (h:∀ H0 H2 a S dn wt lo,a.x=y->FoD (cc 9) cw H0 H2 a ss ns qs S dn wt lo (tA tps)->L2.Same G H2->Q .non H2):spFi cc cw [.ref y,.ref x,.ref l] (upd (upd G dx (.own y)) y (.ins (cc 9) dx [])) Q E:=by
 have j:=qL (qL (Sr G) (o:=.own y) i) (o:=.ins (cc 9) dx []) (show upd G dx (.own y) y=none by rw [qe (Yh d)];exact f);refine ⟨y,dx,x,l,ss,ns,us,tps,qs,tA tps,rfl,qb,W.web.same j,W.adj,W.wb b,W.wok.nm,W.bes,n.same j,b.few,b.inn,fun H0 H' a S dn wt lo m _ g p=>h H0 H' a S dn wt lo m g fun c o e=>?_⟩;refine g.fo.sm c o (p c o ?_);rw [zM (fun z=>by rw [z,f] at e;cases e),qe (fun z=>by rw [z,f] at e;cases e),qe (fun z=>by rw [z,i] at e;cases e)];exact e
theorem qg2 {a:Fo} {Q:VK} (d:FoD (cc 9) cw H0 H2 a ss ns qs S dn wt lo (tA tps)) (i:Wb (tA tps) ss qs) (h:∀ v H',FRow ss tps qs H2 v H'->Q v H'):spFr cc cw [.ref a.x] H2 Q E:=by
 refine ⟨H0,a,ss,ns,qs,S,dn,wt,lo,_,rfl,d,fun e=>?_,fun t r e f g l hl=>?_⟩
 .subst e;exact h _ _ ⟨L2.Same.refl _,.inl ⟨rfl,S,qge d i⟩⟩
 .refine h _ _ ⟨qL (Sr _) hl,.inr ⟨l,r,rfl,hl,qb,?_,g⟩⟩;rcases d.en with ⟨b,_⟩ | ⟨t',m,b,c,_,_,j⟩
  .rw [e] at b;cases b
  .rw [e] at b;cases b;rw [f] at c;have:=congrArg List.length (show r.map V.str=m.map V.str by injection (ym c));rw [ya,ya] at this;omega
theorem ok_gf (F:Fun K "greatest_from" "greatest_from" jL f fd) (T:Txt K mg cc cw) (uQ:DefOk P w K mg base CX0 10 "told_pairs" ["web","pairs"] (spTp cw)) (K5:MakeOk P w K mg base CX0 10 (cc 9) "Forest" ["self","web","pairs"] (spFi cc cw)) (uc:MethOk P w K mg base CX0 1 (cc 9) "row" ["self"] (spFr cc cw)) (Us:DefOk P w K mg base CX0 12 "turned" ["web","pairs","row"] (spTu cw)):FnOk P w K mg base CX0 13 f fd ["web","pairs"] (spGf cw):=by
 refine F.ok Kk fun _ _ _ _ H vs Q E L h=>?_
 .obtain ⟨x,l,ss,ns,us,tps,qs,rfl,W,hP,hG,q⟩:=h;have hu:=jS L;refine ⟨_,(qc (qo (i:=2) Kk.nd rfl (yO rfl) (qv uQ (hmR L) qH (qa (pv 0) (qa (pv 1) qd))))
 (qc (qo (i:=3) Kk.nd rfl (yO rfl) (qP qd))
 (qc (qo (i:=4) Kk.nd rfl (yO rfl) (qF uc (hmR L) (zI K5 (hmR L) (qa (pv 0) (qa (pv 2) qd)))))
 (qc (qb0 y0 (qj qc1 (pv 4) qax (qC _))
 (qc (qI (qbf (K:=K) rfl yL yY yZ qN (pv 3) (qa (pv 4) qd)))
 (qc (qo (i:=2) Kk.nd rfl (yO rfl) (qv Us (hmR L) qH (qa (pv 0) (qa (pv 2) (qa (pv 4) qd)))))
 (qf (qo (i:=4) Kk.nd rfl (yO rfl) (qF uc (hmR L) (zI K5 (hmR L) (qa (pv 0) (qa (pv 2) qd)))))))))
 (qf (qp (jp (qa (pv 2) (qa (pv 3) qd))))))))),?_⟩
  ext;refine ⟨x,l,ss,ns,us,tps,qs,rfl,W.web,W.adj,hP,hG,fun l1 ae H1 s1 aw D _ hA1=>?_⟩;ext;refine ⟨by decide,fun c M=>?_⟩;have s2:=qL (Sr H1) (o:=.lst []) M;have d:upd H1 c (.lst []) c=some (.lst []):=qb;have W2:=W.same (s1.trans s2);have s:=tps_ok W.wok W.adj W.ok hG
  have ac:(qbG (qO ss ns ss.length) qs).length=qs.length+0:=by
   have c1:=hG.cnt W.wok.nd;have c2:=s.1.cnt W.wok.nd;rw [s.2] at c2;omega
  have n:PL (upd H1 c (.lst [])) l1 ae (qbG (qO ss ns ss.length) qs):=⟨s2 _ _ D,hA1.mono fun _ _ z=>s2 _ _ z.2.2⟩;have ah:=s1.trans s2;generalize upd H1 c (.lst [])=G at ah d W2 n;generalize qbG (qO ss ns ss.length) qs=g at n s ac;replace s:=s.1;ext;refine fun y dx hy C I=>qfI W2 n s hy C I fun H0 H3 a S dn wt lo ea hD s3=>?_;subst ea;obtain ⟨fx,ff,aj,_,_,_,ak⟩:=id hD.fo.obj;refine ⟨rfl,a.x,fx,ff,rfl,aj,ak _ (by decide +kernel),?_⟩;ext;refine qg2 hD (W2.wb s) fun v H4 hv=>?_;have aq:=ah.trans s3;have ad:H c=none:=s1.free M;have ag:l1≠c:=fun e=>by rw [e,M] at D;cases D
  ext;obtain ⟨Wv,B⟩:∃ Wv:Nat->L2.St->Hp->Prop,Wv=fun m σ J=>∃ (ln:Addr) (us:List Addr) (g:List (Str×Str)) (j:List V) (v:V),σ=[some (.ref x),some (.ref l),some (.ref ln),some (.ref c),some v]/\L2.Same H J/\PL J ln us g/\ln≠c/\PGo ss tps g/\J c=some (.lst j)/\g.length=qs.length+j.length/\m=8-g.length /\
   ((v=.non/\MxF ss tps g)\/∃ (r:Addr) (rs:List Str),v=.ref r/\r≠c/\J r=some (.lst (rs.map V.str))/\rs.length<=1000/\Aug (tA tps) (pt g) rs):=⟨_,rfl⟩
  refine ⟨Wv,⟨_,by
   rw [B];refine ⟨l1,ae,g,[],v,rfl,aq.trans hv.1,n.same (s3.trans hv.1),ag,s,hv.1 _ _ (s3 _ _ d),ac,rfl,hv.2.imp id ?_⟩;rintro ⟨r,rs,e1,N,e3,e4,e5⟩;exact ⟨r,rs,e1,(fun z=>by rw [z,s3 _ _ d] at N;cases N),e3,e4,e5⟩⟩,fun m σ J aa=>?_⟩
  rw [B] at aa;obtain ⟨ln,us,g,j,v,rfl,sJ,A,ao,gJ,d,hc,hm,hv⟩:=aa;ext
  have as:2*g.length<=14:=by
   have:=gJ.cnt W.wok.nd;have h2:qbe (pt g) ss<=ss.length:=yF _ _;have:=W.wok.few;omega
  rcases hv with ⟨rfl,mx⟩ | ⟨r,rs,rfl,nr,er,hl,au⟩
  .refine ⟨rfl,_,rfl,qW (fun h=>by simp at h) fun _=>?_⟩;ext;refine ⟨by show 2<=sizeLine;decide,fun t ht=>?_⟩;have s9:=qL (Sr J) (o:=.tup [.ref ln,.ref c]) ht;exact q t ln c us j g _ (sJ.trans s9) qb (A.same s9) (s9 _ _ d) hc gJ mx
  .refine ⟨rfl,_,rfl,qal ⟨fun ar H'=>∃ m',m'<m/\Wv m' ar H',fun _ _ z=>z,?_⟩⟩;ext;refine ⟨.inl ⟨rfl,_,SqL.of d⟩,?_⟩;ext;refine ⟨c,_,_,rfl,rfl,d,qi (by omega),?_⟩;have sU:=qaz sJ (o:=.lst (j++[.ref r])) ad;have Z:PL (upd J c (.lst (j++[.ref r]))) ln us g:=⟨by rw [qe ao];exact A.1,A.2.mono fun t ab z=>by rw [qe (jO z d (fun e=>by cases e))];exact z⟩;have R:upd J c (.lst (j++[.ref r])) r=some (.lst (rs.map V.str)):=by rw [qe nr];exact er
   have u:upd J c (.lst (j++[.ref r])) c=some (.lst (j++[.ref r])):=qb;generalize upd J c (.lst (j++[.ref r]))=G1 at sU Z R u ⊢;have WU:=W.same sU;ext;refine ⟨x,ln,r,ss,ns,us,tps,g,rs,rfl,⟨WU.web,WU.adj,Z,gJ,R,au.row hl W.ok⟩,fun l3 af H5 s5 p an _ U=>?_⟩;obtain ⟨g3,c3⟩:=qeE W.wok W.adj W.ok gJ au hl;generalize flT (qO ss ns ss.length) g rs=p3 at U g3 c3;have n3:l3≠c:=fun e=>by rw [e,u] at p;cases p
   have Y:PL H5 l3 af p3:=⟨an,U.mono fun _ _ z=>z.2.2⟩;have ai:=sU.trans s5;have W5:=W.same ai;have O:=s5 _ _ u;ext;refine fun y dx hy C I=>qfI W5 Y g3 hy C I fun H6 H7 b S5 av ay ax eb X s7=>?_;subst eb;obtain ⟨fy,fg,al,_,_,_,am⟩:=id X.fo.obj;refine ⟨rfl,b.x,fy,fg,rfl,al,am _ (by decide +kernel),?_⟩;ext;refine qg2 X (W5.wb g3) fun v H8 hv=>?_;ext;refine ⟨8-p3.length,by omega,?_⟩;rw [B];refine ⟨l3,af,p3,j++[.ref r],v,rfl,(ai.trans s7).trans hv.1,Y.same (s7.trans hv.1),n3,g3,hv.1 _ _ (s7 _ _ O),by rw [c3,hc,yt];rfl,rfl,hv.2.imp id ?_⟩;rintro ⟨r',ap,e1,N,e3,e4,e5⟩;exact ⟨r',ap,e1,(fun z=>by rw [z,s7 _ _ O] at N;cases N),e3,e4,e5⟩
theorem uZ:FnScope ["web"] ["web"] (qh qas):=fS
inductive spGr (cw:Addr) (vs:List V) (H:Hp) (Q:VK) (E:XK):Prop|mk (x:Addr) (ss:List Str) (ns:List Nat) (tps:List (Str×Str)) (_:vs=[.ref x]) (_:Wt cw H x ss ns tps) (_:∀ (l:Addr) (ls:List Addr) (rs:List (Str×Str)) (H':Hp),L2.Same H H'->PL H' l ls rs->PGo ss tps rs->MxF ss tps rs->Q (.ref l) H')
theorem ok_gr (F:Fun K "greatest" "greatest" qas f fd) (T:Txt K mg cc cw) (p:DefOk P w K mg base CX0 13 "greatest_from" ["web","pairs"] (spGf cw)):FnOk P w K mg base CX0 14 f fd ["web"] (spGr cw):=by
 refine F.ok uZ fun _ _ _ _ H vs Q E a h=>?_
 .obtain ⟨x,ss,ns,tps,rfl,W,q⟩:=h;have i:=jS a;refine ⟨_,(qf (qp (qt (qu (K:=K) rfl i) (qv p (hmR a) qH (qa (pv 0) (qa (qP qd) qd))) qg (fun _ _=>rfl)))),?_⟩;ext;refine ⟨by decide,fun l hl=>?_⟩;have b:=qL (Sr H) (o:=.lst []) hl;ext;refine ⟨x,l,ss,ns,[],tps,[],rfl,W.same b,⟨qb,.nil⟩,⟨(fun q h=>by cases h),kY,by decide⟩,fun t l2 r m s rs H' n c g _ _ d e=>?_⟩;exact .inl (qaw c (v:=.ref l2) (qy (j:=0) rfl) (q l2 m rs H' (b.trans n) g d e))
noncomputable def tB (tps:List (Str×Str)) (a b:Str):Bool:=decide ((a,b)∈tps)||decide ((b,a)∈tps)
theorem tB_iff {b:Str}:tB tps a b=true↔tA tps a b:=by
 unfold tB tA;rw [XU,yJ,yJ]
noncomputable def del (l:List Str) (y:Str):List Str:=l.filter fun a=>!decide (a=y)
noncomputable def mo (tps:List (Str×Str)):Nat->List Str->Nat
 | 0,_=>0
 | _,[]=>0
 | n+1,x::r=>(r.filter (tB tps x)).foldl (fun m y=>max m (1+mo tps n (del r y))) (mo tps n r)
theorem qbn (h:α->Nat):∀ (L:List α) (i:Nat),i<=L.foldl (fun m y=>max m (h y)) i/\(∀ y∈L,h y<=L.foldl (fun m y=>max m (h y)) i)/\(L.foldl (fun m y=>max m (h y)) i=i\/∃ y∈L,L.foldl (fun m y=>max m (h y)) i=h y)
 | [],i=>⟨yh _,(fun y hy=>by cases hy),.inl rfl⟩
 | a::r,i=>by
  obtain ⟨h1,b,c⟩:=qbn h r (max i (h a));rw [List.foldl_cons];refine ⟨yi (Nat.le_max_left _ _) h1,fun y hy=>?_,?_⟩
  .rcases yB.mp hy with rfl | hy
   .exact yi (Nat.le_max_right _ _) h1
   .exact b y hy
  .rcases c with z | ⟨y,hy,z⟩
   .rw [z];rcases Kb i (h a) with k | k
    .exact .inr ⟨a,yN,kM k⟩
    .exact .inl (kW k)
   .exact .inr ⟨y,yz _ hy,z⟩
structure Mt (tps:List (Str×Str)) (l:List Str) (f:Str->Option Str):Prop where
 sym:∀ a b,f a=some b->f b=some a
 tie:∀ a b,f a=some b->tA tps a b
 inn:∀ a b,f a=some b->a∈l
theorem qat {f:Str->Option Str} {x:Str}:qbe f (x::r)=qbe f r+(if (f x).isSome=true then 1 else 0):=by
 unfold qbe;rw [yS];split
 .rw [yC]
 .rfl
theorem qbH {f:Str->Option Str} {l:List Str} (h:∀ s∈l,(f s).isSome=(g s).isSome):qbe f l=qbe g l:=by
 unfold qbe;rw [YD h]
theorem mem_del {l:List Str}:a∈del l y↔a∈l/\a≠y:=by
 unfold del;rw [yp,Y5,xM]
theorem zN {f:Str->Option Str}:∀ {r:List Str},r.Nodup->y∈r->qbe f r=qbe f (del r y)+(if (f y).isSome=true then 1 else 0)
 | [],_,h=>by cases h
 | x::r,hn,h=>by
  obtain ⟨d,g⟩:=yo.mp hn;by_cases e:x=y
  .subst e
   have:del (x::r) x=r:=by
    unfold del;rw [yS,yy (by rw [yM rfl];decide)];exact List.filter_eq_self.mpr fun a b=>by rw [yl (fun z=>d (by rw [<- z];exact b))];rfl
   rw [this,qat]
  .have c:=(yB.mp h).resolve_left (Yh e);have:del (x::r) y=x::del r y:=by unfold del;rw [yS,yD (by rw [yl e];rfl)]
   rw [this,qat,qat,zN g c];omega
theorem qaE (l:List Str) (y:Str):(del l y).length<=l.length:=yF _ _
section
variable {tps:List (Str×Str)}
theorem qbM (i:∀ a b,tA tps a b->a≠b):∀ (n:Nat) {l:List Str} {f:Str->Option Str},l.length<=n->l.Nodup->Mt tps l f->qbe f l<=2*mo tps n l
 | n,[],f,_,_,_=>YH _
 | 0,x::r,f,h,_,_=>by simp at h
 | n+1,x::r,f,h,hn,hf=>by
  obtain ⟨B,o⟩:=yo.mp hn;have hl:r.length<=n:=by simpa using h
  obtain ⟨C,A,_⟩:=qbn (fun y=>1+mo tps n (del r y)) (r.filter (tB tps x)) (mo tps n r);rw [qat];show _<=2*(r.filter (tB tps x)).foldl (fun m y=>max m (1+mo tps n (del r y))) (mo tps n r)
  cases e:f x with
  | none =>
   have:=qbM i n hl o (f:=f) ⟨hf.sym,hf.tie,fun a b z=>(yB.mp (hf.inn a b z)).resolve_left fun y=>by rw [y,e] at z;cases z⟩;simp only [kf,Yx,xu];omega
  | some y =>
   have j:=i _ _ (hf.tie _ _ e);have d:=hf.sym _ _ e;have p:=(yB.mp (hf.inn y x d)).resolve_left (Yh j);have u:=A y (yp.mpr ⟨p,tB_iff.mpr (hf.tie _ _ e)⟩);have:=qbM i n (l:=del r y) (f:=fun a=>if a=x\/a=y then none else f a) (yi (qaE r y) hl) (o.filter _) ⟨fun a b z=>?_,fun a b z=>?_,fun a b z=>?_⟩
   .rw [zN o p,d,qbH (g:=fun a=>if a=x\/a=y then none else f a) fun s v=>?_]
    .simp only [Xp,Xl]
     (try dsimp only at u)
     omega
    .obtain ⟨h1,q⟩:=mem_del.mp v;rw [yy (fun z=>z.elim (fun z=>B (by rw [<- z];exact h1)) q)]
   ·(try dsimp only at z ⊢)
    split at z
    .cases z
    .rename_i hne
     have c:=hf.sym _ _ z;rw [yy (fun w=>?_)]
     .exact c
     .rcases w with w | w
      .rw [w,e] at c;exact hne (.inr (ym c).symm)
      .rw [w,d] at c;exact hne (.inl (ym c).symm)
   ·(try dsimp only at z)
    split at z
    .cases z
    .exact hf.tie _ _ z
   ·(try dsimp only at z)
    split at z
    .cases z
    .rename_i hne
     have:=(yB.mp (hf.inn a b z)).resolve_left fun w=>hne (.inl w);exact mem_del.mpr ⟨this,fun w=>hne (.inr w)⟩
theorem qca (p:∀ a b,tA tps a b->a≠b):∀ (n:Nat) {l:List Str},l.length<=n->l.Nodup->∃ f,Mt tps l f/\qbe f l=2*mo tps n l
 | n,[],_,_=>⟨fun _=>none,⟨(fun a b z=>by cases z),(fun a b z=>by cases z),(fun a b z=>by cases z)⟩,by cases n<;>rfl⟩
 | 0,x::r,h,_=>by simp at h
 | n+1,x::r,h,hn=>by
  obtain ⟨q,u⟩:=yo.mp hn;have hl:r.length<=n:=by simpa using h
  obtain ⟨_,_,C⟩:=qbn (fun y=>1+mo tps n (del r y)) (r.filter (tB tps x)) (mo tps n r);show ∃ f,_/\_=2*(r.filter (tB tps x)).foldl (fun m y=>max m (1+mo tps n (del r y))) (mo tps n r);rcases C with z | ⟨y,j,z⟩
  .obtain ⟨f,d,c⟩:=qca p n hl u;refine ⟨f,⟨d.sym,d.tie,fun a b e=>yz _ (d.inn a b e)⟩,?_⟩
   have B:f x=none:=by
    cases e:f x with
    | none=>rfl
    | some b=>exact absurd (d.inn _ _ e) q
   rw [qat,B,z,c];rfl
  .obtain ⟨j,ty⟩:=yp.mp j;have ty:=tB_iff.mp ty;have i:=p _ _ ty;obtain ⟨f,d,c⟩:=qca p n (l:=del r y) (yi (qaE r y) hl) (u.filter _)
   have out:∀ {a b:Str},f a=some b->a≠x/\a≠y:=fun e=>by
    obtain ⟨h1,o⟩:=mem_del.mp (d.inn _ _ e);exact ⟨fun w=>q (by rw [<- w];exact h1),o⟩
   refine ⟨fun a=>if a=x then some y else if a=y then some x else f a,⟨fun a b e=>?_,fun a b e=>?_,fun a b e=>?_⟩,?_⟩
   ·(try dsimp only at e ⊢)
    split at e
    .cases e;rename_i w;rw [yy (Yh i),yD rfl,w]
    .split at e
     .cases e;rename_i w;rw [yD rfl,w]
     .have v:=d.sym _ _ e;obtain ⟨D,E⟩:=out v;rw [yy D,yy E];exact v
   ·(try dsimp only at e)
    split at e
    .cases e;rename_i w;rw [w];exact ty
    .split at e
     .cases e;rename_i w;rw [w];exact Or.symm ty
     .exact d.tie _ _ e
   ·(try dsimp only at e)
    split at e
    .rename_i w;rw [w];exact yN
    .split at e
     .rename_i w;rw [w];exact yz _ j
     .exact yz _ (mem_del.mp (d.inn _ _ e)).1
   .rw [qat,zN u j,yD rfl,yy (Yh i),yD rfl,qbH (g:=f) fun s A=>?_]
    .simp only [Xp,Xl];rw [c,z];omega
    .obtain ⟨h1,o⟩:=mem_del.mp A;rw [yy (fun w=>q (by rw [<- w];exact h1)),yy o]
theorem qeF (e:∀ a b,tA tps a b->a≠b) {l:List Str} (h1:l.length<=n) (i:l.length<=m) (h:l.Nodup):mo tps n l=mo tps m l:=by
 obtain ⟨f,j,c⟩:=qca e n h1 h;obtain ⟨g,o,d⟩:=qca e m i h;have:=qbM e m i h j;have:=qbM e n h1 h o;omega
variable {ss:List Str} {qs:List (Str×Str)} {S:FS}
theorem Mt.gr {f:Str->Option Str} (c:∀ a b,tA tps a b->a≠b) (h:Mt tps ss f):Gr (tA tps) f:=⟨fun z=>Or.symm z,fun z=>c _ _ z,fun {a b} e=>h.sym a b e,fun {a b} e=>h.tie a b e⟩
theorem PGo.mt (g:PGo ss tps qs):Mt tps ss (pt qs):=⟨g.fn.sym,g.fn.tie,fun a b e=>by
 rcases qdM e with z | z
 .exact (g.inn _ z).2.1
 .exact (g.inn _ z).2.2.1⟩
theorem mx_mo (h:∀ a b,tA tps a b->a≠b) (e:ss.Nodup) (g:PGo ss tps qs) (m:MxF ss tps qs):qs.length=mo tps ss.length ss:=by
 obtain ⟨S,F⟩:=m;have c:=g.cnt e;have:=qbM h _ (yh _) e g.mt;obtain ⟨f,j,d⟩:=qca h _ (yh _) e;have k:=F.most (j.gr h)
 have p:(ss.filter fun u=>!(f u).isSome&&(S.rows u).isSome).length<=(snL f ss).length:=qdd (e.filter _) fun u l=>by
  obtain ⟨h1,i⟩:=yp.mp l;exact yp.mpr ⟨h1,((yU _ _).mp i).1⟩
 have n:=qbW (f:=f) (ss:=ss);have o:=qbW (f:=pt qs) (ss:=ss);omega
theorem qbI (h:∀ a b,tA tps a b->a≠b) (i:ss.Nodup) (hv:v∈ss):mo tps (del ss v).length (del ss v)<=mo tps ss.length ss/\mo tps ss.length ss<=mo tps (del ss v).length (del ss v)+1:=by
 constructor
 .obtain ⟨f,d,c⟩:=qca h _ (yh _) (i.filter (fun a=>!decide (a=v)))
  have m:f v=none:=by
   cases e:f v with
   | none=>rfl
   | some b=>exact absurd rfl (mem_del.mp (d.inn _ _ e)).2
  have:=qbM h _ (yh _) i (f:=f) ⟨d.sym,d.tie,fun a b e=>(mem_del.mp (d.inn a b e)).1⟩;rw [zN i hv,m] at this;simp only [kf,Yx,xu] at this;have r:qbe f (del ss v)=2*mo tps (del ss v).length (del ss v):=c;omega
 .obtain ⟨f,d,c⟩:=qca h _ (yh _) i;have hnd:(del ss v).Nodup:=i.filter _;rw [zN i hv] at c
  cases e:f v with
  | none =>
   have:=qbM h _ (yh _) hnd (f:=f) ⟨d.sym,d.tie,fun a b z=>mem_del.mpr ⟨d.inn a b z,fun w=>by rw [w,e] at z;cases z⟩⟩;rw [e] at c;simp at c;omega
  | some y =>
   have l:=d.sym _ _ e;have n:=h _ _ (d.tie _ _ e);have o:y∈del ss v:=mem_del.mpr ⟨d.inn _ _ l,Yh n⟩;have:=qbM h _ (yh _) hnd (f:=fun a=>if a=v\/a=y then none else f a) ⟨fun a b z=>?_,fun a b z=>?_,fun a b z=>?_⟩
   .rw [zN hnd o,yD (show y=v\/y=y from .inr rfl)] at this;rw [zN hnd o,e,l,qbH (g:=fun a=>if a=v\/a=y then none else f a) fun s q=>?_] at c
    .simp at c this;omega
    .obtain ⟨h1,p⟩:=mem_del.mp q;rw [yy (fun z=>z.elim (fun z=>(mem_del.mp h1).2 z) p)]
   ·(try dsimp only at z ⊢)
    split at z
    .cases z
    .rename_i hne
     have j:=d.sym _ _ z;rw [yy (fun w=>?_)]
     .exact j
     .rcases w with w | w
      .rw [w,e] at j;exact hne (.inr (ym j).symm)
      .rw [w,l] at j;exact hne (.inl (ym j).symm)
   ·(try dsimp only at z)
    split at z
    .cases z
    .exact d.tie _ _ z
   ·(try dsimp only at z)
    split at z
    .cases z
    .rename_i hne
     exact mem_del.mpr ⟨d.inn a b z,fun w=>hne (.inl w)⟩
theorem qdR (x:∀ a b,tA tps a b->a≠b) (o:ss.Nodup) (g:PGo ss tps qs) (F:Fn (tA tps) (pt qs) S ss) (hv:v∈ss):mo tps (del ss v).length (del ss v)=mo tps ss.length ss↔S.rows v≠none:=by
 have Z:=mx_mo x o g ⟨S,F⟩;have c:=g.cnt o;have hnd:(del ss v).Nodup:=o.filter _;constructor
 .intro e I;obtain ⟨f,l,d⟩:=qca x _ (yh _) hnd
  have q:f v=none:=by
   cases e:f v with
   | none=>rfl
   | some b=>exact absurd rfl (mem_del.mp (l.inn _ _ e)).2
  have R:Mt tps ss f:=⟨l.sym,l.tie,fun a b e=>(mem_del.mp (l.inn a b e)).1⟩;have k:=F.most (R.gr x);have Y:qbe f ss=qbe f (del ss v):=by rw [zN o hv,q];rfl
  have e1:=qbW (f:=f) (ss:=ss);have e2:=qbW (f:=pt qs) (ss:=ss);have A:v∈snL f ss:=mem_sn.mpr ⟨hv,q⟩
  have U:(ss.filter fun u=>!(f u).isSome&&(S.rows u).isSome).length<=((snL f ss).erase v).length:=qdd (o.filter _) fun u H=>by
   obtain ⟨h1,C⟩:=yp.mp H;obtain ⟨O,K⟩:=(yU _ _).mp C;exact (Xd (fun z=>by rw [z,I] at K;cases K)).mpr (yp.mpr ⟨h1,O⟩)
  rw [YQ A] at U;have:=YW A;omega
 .intro E;obtain ⟨r,E⟩:=some_of E;have m:=F.fi.alt v r E;refine xU (qbI x o hv).1 ?_
  suffices h:∃ f,Mt tps ss f/\f v=none/\qbe f ss=qbe (pt qs) ss by
   obtain ⟨f,l,B,J⟩:=h;have:=qbM x _ (yh _) hnd (f:=f) ⟨l.sym,l.tie,fun a b e=>mem_del.mpr ⟨l.inn a b e,fun w=>by rw [w,B] at e;cases e⟩⟩;rw [zN o hv,B] at J;simp only [kf,Yx,xu] at J;omega
  obtain ⟨r0,M⟩:=m.tl;have j:r[r.length-1]?=some v:=by rw [M,yt];simp
  have ho:=m.odd;by_cases h1:r.length=1
  .rw [h1] at j;exact ⟨pt qs,g.mt,m.hd v j,rfl⟩
  .have C:2<=r.length:=by omega
   have lst:∀ s t,r[r.length-1]?=some s->r[r.length-2]?=some t->pt qs s=some t:=fun s t y G=>by
    have:=(m.st (r.length-2) t s G (by rw [show r.length-2+1=r.length-1 by omega];exact y)).2.mpr (by omega);exact g.fn.sym _ _ this
   have T:=qbX g.fn.sym m.nd C m.st m.hd fun s t y G=>.inr (lst s t y G);obtain ⟨f,l⟩:=qeC T;have p:=qeD (ss:=ss) T g.fn (qcR m.st) l;have inn:∀ {a b:Str},tA tps a b->a∈ss:=fun z=>F.inn _ _ z
   have D:∀ s∈r,s∈ss:=fun s y=>by
    obtain ⟨i,n⟩:=yf y;have P:=(yc.mp n).1;by_cases N:i+1<r.length
    .exact inn (m.st i s _ n (yb N)).1
    .rw [show i=r.length-1 by omega,j] at n;rw [<- ym n];exact hv
   obtain ⟨u,H⟩:∃ u,r[r.length-2]?=some u:=⟨_,yb (by omega)⟩;obtain ⟨a,L⟩:∃ a,r[0]?=some a:=⟨_,yb (by omega)⟩
   have B:f v=none:=by
    cases e:f v with
    | none=>rfl
    | some b =>
     rcases (l v b).mp e with ⟨z,_⟩ | ⟨W,X⟩
     .exact absurd (ye j) z
     .rcases W.at_ m.nd j with w | ⟨_,w⟩
      .have:=(yc.mp w).1;omega
      .rw [show r.length-1-1=r.length-2 by omega] at w;exact absurd (lst v b j w) X
   refine ⟨f,⟨p.sym,p.tie,fun a b e=>inn (p.tie a b e)⟩,B,?_⟩;have:=qdQ T l o D L j;rw [m.hd a L,lst v u j H] at this;simp at this;exact this
end
theorem Uh:FnScope ["_law_script","_law_k"] ["_law_script","_law_k"] (qh qbo):=fS
theorem Ua:FnScope ["_law_cell_here"] ["_law_cell_here"] (qh qaV):=fS
theorem KO:FnScope ["_law_state","_law_many","_law_digit","_law_number"] ["_law_state","_law_many"] (qh qbp):=fS
theorem Kq:FnScope ["_law_state","_law_many","_law_letters","_law_at","_law_head","_law_first","_law_found","_law_k","_law_tail"] ["_law_state","_law_many"] (qh zA):=fS
inductive spCeQ (K:W.Frag) (vs:List V) (H:Hp) (Q:VK) (E:XK):Prop|mk (a:Addr) (ns:List Int) (k:Int) (_:vs=[.ref a,.int k]) (_:SqL K H a (ns.map V.int)) (_:0<=k) (_:k<1000) (_:∀ i:Int,Q (.int i) H)
inductive spBgQ (vs:List V) (H:Hp) (Q:VK) (E:XK):Prop|mk (i:Int) (_:vs=[.int i]) (_:∀ (p:Addr) (a b c:Int),H p=none->Q (.ref p) (upd H p (.lst [.int a,.int b,.int c])))
inductive spNmQ (vs:List V) (H:Hp) (Q:VK) (E:XK):Prop|mk (p:Addr) (m:Nat) (_:vs=[.ref p,.int (m:Int)]) (_:Box H p) (_:m<=7) (_:∀ (l:Addr) (ss:List Str) (H':Hp),BB p H H'->H l=none->NL p H' l ss->NOk ss->ss.length=m->Q (.ref l) H')
theorem ok_tkQ (F:Fun K "_law_take" "_law_take" qbp f fd):FnOk P w K mg base CX0 1 f fd ["_law_state","_law_many"] spTake:=by
 refine F.ok KO fun _ _ _ _ H vs Q E l h=>?_
 .obtain ⟨p,m,rfl,⟨a,b,c,g⟩,j,h1,k⟩:=h;have d:=jS l;refine ⟨_,(qc (qV (qj qc0 (qt (qu (K:=K) rfl d) (pv 0) qg (fun _ _=>rfl)) qg (qC _)) (qc (qo (i:=2) KO.nd rfl (yO rfl) (qE zw (qt (qu (K:=K) rfl d) (pv 0) qg (fun _ _=>rfl)) (pv 1)))
 (qc (jN (qE qcZ (qt (qu (K:=K) rfl d) (pv 0) qg (fun _ _=>rfl)) (pv 1)) (jV (pv 0) qg (jW d)))
 (qf (qp (pv 2))))) qx)
 (qc (jN (qE (zy (K:=K) rfl) (qt (qu (K:=K) rfl d) (pv 0) qg (fun _ _=>rfl)) qg) (jV (pv 0) qg (jW d)))
 (qc (qo (i:=3) KO.nd rfl (yO rfl) (qE zw (qE (zy (K:=K) rfl) (qE (zy (K:=K) rfl) (qE qb1 (qt (qu (K:=K) rfl d) (pv 0) qg (fun _ _=>rfl)) qg) (qE qb1 qg (qt (qu (K:=K) rfl d) (pv 0) qg (fun _ _=>rfl)))) qg) qg))
 (qc (qo (i:=3) KO.nd rfl (yO rfl) (qE zw (qE qb1 (pv 3) (pv 3)) qg))
 (qc (qo (i:=3) KO.nd rfl (yO rfl) (qE zw (qE qb1 (qE (zy (K:=K) rfl) (pv 3) (qE qb1 qg (qt (qu (K:=K) rfl d) (pv 0) qg (fun _ _=>rfl)))) qg) qg))
 (qf (qp (qE zw (qE qcZ (qE zw (qE qb1 (pv 3) (pv 3)) qg) qg) (pv 1))))))))),?_⟩
  ext;refine .inl (zc g rfl ?_);ext;refine qW (fun hc=>?_) (fun hc=>?_)
  .ext;refine .inl (zc g rfl ?_);ext;refine vI j ?_;ext;refine .inl (zc g rfl ?_);ext;refine vI ⟨j,h1⟩ ?_;ext;refine .inl (qeZ g rfl ?_);ext;exact k _ _ (xq _ (by omega)) (xl _ j) ⟨fun x o n e=>by rw [qe n];exact e,_,_,_,qb⟩
  .ext;refine .inl (zc g rfl ?_);ext;refine .inl (qeZ g rfl ?_);ext;refine .inl (zc qb rfl ?_);ext;refine qb2 (.inr (by decide)) ?_;ext;refine .inl (zc qb rfl ?_);ext;refine qb2 (.inl (by decide)) ?_;ext;refine vI (by decide) ?_;ext;have q:=xq (b*48271+7919*(c+1)+11) (show (2147483647:Int)≠0 by decide);have r:=xl (b*48271+7919*(c+1)+11) (show (0:Int)<2147483647 by decide);refine qb2 (.inl ⟨by omega,by omega⟩) ?_;ext;refine vI (by decide) ?_;ext;refine .inl (zc qb rfl ?_);ext;refine qb2 (.inl (by decide)) ?_;ext;refine qb2 (.inr (by decide)) ?_;ext;refine vI (by decide) ?_;ext;generalize ((b*48271+7919*(c+1)+11) % 2147483647*((b*48271+7919*(c+1)+11) % 2147483647) % 2147483629+31*(c+1))*69621=z;have s:=xq z (show (2147483587:Int)≠0 by decide);have u:=xl z (show (0:Int)<2147483587 by decide);refine qb2 (.inl ⟨by omega,by omega⟩) ?_;ext;refine vI (by decide) ?_;ext;refine vI ⟨by decide,by decide⟩ ?_;ext;refine vI j ?_;exact k _ _ (xq _ (by omega)) (xl _ j) ⟨fun x o n e=>by rw [qe n];exact e,_,_,_,qb⟩
theorem ok_ceQ (F:Fun K "_law_cell" "_law_cell" qbo f fd) (T:Txt K mg cc cw):FnOk P w K mg base CX0 1 f fd ["_law_script","_law_k"] (spCeQ K):=by
 refine F.ok Uh fun _ _ _ _ H vs Q E l h=>?_
 .obtain ⟨a,ns,k,rfl,e,j,h1,q⟩:=h;have m:=jS l;refine ⟨_,(qc (qV (qj qd3 (pv 1) (qk (zh (K:=K) rfl) rfl T.b_len YO (qa (pv 0) qd)) (qC _)) (qf (qp (qt (qu (K:=K) rfl m) (pv 0) (pv 1) (fun _ _=>rfl)))) qx)
 (qf (qp (qE (zy (K:=K) rfl) (qE qb1 qg (pv 1)) qg)))),?_⟩
  ext;refine zY e ?_;ext;refine qW (fun hc=>?_) (fun hc=>?_)
  .ext;have c:k<(ns.map V.int).length:=yk hc;obtain ⟨v,g,b⟩:=atI_lt j c;rw [yd] at b
   cases d:ns[k.toNat]? with
   | none=>rw [d] at b;cases b
   | some i =>
    rw [d] at b;cases b;exact .inl (vIxLs e g (q i))
  .ext;refine qb2 (.inl (by decide)) ?_;ext;exact q _
theorem ok_bgQ (F:Fun K "_law_begun" "_law_begun" qaV f fd) (T:Txt K mg cc cw):FnOk P w K mg base CX0 1 f fd ["_law_cell_here"] spBgQ:=by
 refine F.ok Ua fun _ _ _ _ H vs Q E b h=>?_
 .obtain ⟨c,rfl,q⟩:=h;refine ⟨_,(qf (qp (qP (qa (qk (qaI rfl) rfl T.b_max boot_max (qa qg (qa (qE zS (pv 0) (qE op_pow qg qg)) qd))) (qa (qE zw (pv 0) qg) (qa qg qd)))))),?_⟩;ext;refine vI ⟨by decide,by decide,by decide⟩ ?_;ext;refine ⟨_,_,rfl,?_⟩;ext;refine vI (by decide) ?_;ext;exact ⟨by show 3<=sizeLine;decide,fun p a=>q p _ _ _ a⟩
theorem five_inj {sh a b:Int} (f:0<=a) (hb:0<=b) (c:a<26) (d:b<26) (e:(sh+5*a) % 26=(sh+5*b) % 26):a=b:=by omega
theorem qdf {i:Int} {Q:VK} (a:0<=i) (h1:i<26) (k:Q (.str ⟨#[97+i.toNat]⟩) H):qgk K (.str L26) (.int i) H Q:=.inl (vIxS (by decide +kernel) (L26_at a h1) k)
theorem qeG {a:List Str} (c:a.length=n) (h1:∀ x∈a,x.length=1/\x.cps.toList.all sg=true):(Txt.join "" a).cps.toList.length=n/\(Txt.join "" a).cps.toList.all sg=true:=by
 constructor
 .have:(Txt.join "" a).length=n:=by rw [join_len fun x b=>(h1 x b).1];exact c
  rw [<- this];simp [Str.length]
 .have e:Txt.join "" a=Str.join "" a:=Ys.mp (join_plain_closes "" a);rw [e];exact qdK fun x b=>(h1 x b).2
theorem ok_nmQ (F:Fun K "_law_names" "_law_names" zA f fd) (T:Txt K mg cc cw) (D:DefOk P w K mg base CX0 1 "_law_take" ["_law_state","_law_many"] spTake):FnOk P w K mg base CX0 2 f fd ["_law_state","_law_many"] spNmQ:=by
 refine F.ok Kq fun _ _ _ s H vs Q E B h=>?_
 .obtain ⟨p,m,rfl,hB,m7,q⟩:=h;have hu:=jS B;refine ⟨_,(qc (qo (i:=2) Kq.nd rfl (Xi rfl) qbs)
 (qc (qo (i:=3) Kq.nd rfl (yO rfl) (qv D (hmR B) qH (qa (pv 0) (qa qg qd))))
 (qc (qo (i:=4) Kq.nd rfl (yO rfl) (qbf (K:=K) rfl PySem.F.plainAttrs_str PySem.F.slot_str_join PySem.F.type_str_join (qfa (K:=K) rfl) qbs (qa (jh (sc:=qh zA) (XN:=["_law_state","_law_many","_law_letters","_law_at","_law_head","_law_first","_law_found","_law_k","_law_tail"]) ["_law_k","_law_letters","_law_state"] 1 [2,0] rfl rfl rfl (by decide +kernel) rfl (by decide +kernel)
  (jj rfl T.b_range (qa (pv 3) qd)) (fun _ _ _ _=>(qr (i:=0) (show (["_law_k","_law_letters","_law_state"]:List Str).Nodup by decide +kernel) rfl (yO rfl))) qR
  (fun _ _ _ _=>jG)
  (fun _ _ _ _=>(qt (qu (K:=K) rfl hu) (pv 1) (qv D (hmR B) qH (qa (pv 2) (qa qg qd))) (fun _ _=>rfl)))) qd)))
 (qc (qo (i:=5) Kq.nd rfl (yO rfl) (qv D (hmR B) qH (qa (pv 0) (qa qg qd))))
 (qc (qo (i:=6) Kq.nd rfl (yO rfl) (qP qd))
 (qc (jl y0 rfl (jj rfl T.b_range (qa (pv 1) qd)) (qr (i:=7) Kq.nd rfl (yO rfl))
 (qc (qo (i:=8) Kq.nd rfl (yO rfl) (qbf (K:=K) rfl PySem.F.plainAttrs_str PySem.F.slot_str_join PySem.F.type_str_join (qfa (K:=K) rfl) qbs (qa (jh (sc:=qh zA) (XN:=["_law_state","_law_many","_law_letters","_law_at","_law_head","_law_first","_law_found","_law_k","_law_tail"]) ["_law_j","_law_letters","_law_state"] 1 [2,0] rfl rfl rfl (by decide +kernel) rfl (by decide +kernel)
  (jj rfl T.b_range (qa (qv D (hmR B) qH (qa (pv 0) (qa (qE zS qg (pv 3)) qd))) qd)) (fun _ _ _ _=>(qr (i:=0) (show (["_law_j","_law_letters","_law_state"]:List Str).Nodup by decide +kernel) rfl (yO rfl))) qR
  (fun _ _ _ _=>jG)
  (fun _ _ _ _=>(qt (qu (K:=K) rfl hu) (pv 1) (qv D (hmR B) qH (qa (pv 2) (qa qg qd))) (fun _ _=>rfl)))) qd)))
 (qf (qI (qbf (K:=K) rfl yL yY yZ qN (pv 6) (qa (qE (zy (K:=K) rfl) (qE (zy (K:=K) rfl) (pv 4) (qt (qu (K:=K) rfl hu) (pv 2) (qE zw (qE (zy (K:=K) rfl) (pv 5) (qE qb1 qg (pv 7))) qg) (fun _ _=>rfl))) (pv 8)) qd))))))
 (qf (qp (pv 6))))))))),?_⟩
  ext;refine ⟨p,4,rfl,hB,by decide,by decide,fun at_ H1 w0 w1 b1=>?_⟩;obtain ⟨G,rfl⟩:=Yv w0;ext;refine ⟨rfl,?_⟩;ext;refine ⟨_,rfl,by omega,by omega,zx (lo:=0) (n:=((G:Int)).toNat) (Signs p H1) (Signs.start b1.2) (fun i ys H' M c=>?_) fun ys H5 c=>?_⟩
  .ext;refine qal ?_;ext;refine ⟨p,26,rfl,c.1.2,by decide,by decide,fun r aa U r1 hb=>?_⟩;refine qdf U r1 ?_;exact ⟨by rw [c.len];exact qi (by omega),c.more hb (qfE (by omega) (by omega))⟩
  .refine ⟨by rw [c.len];exact yX (qi (by omega)),fun l5 h5=>?_⟩;obtain ⟨ac,zs,rfl,hn,h1⟩:=c;have b2:=(b1.trans ac).new (o:=.lst (zs.map V.str)) h5;ext;refine ⟨_,l5,zs,rfl,rfl,SqL.of qb,by rw [qdL fun x hx=>(h1 x hx).1,show ("":Str).length=0 by decide +kernel];exact yX (qi (by omega)),?_⟩;obtain ⟨C,aS⟩:=qeG hn h1;rw [Ym] at C;generalize Txt.join "" zs=a at C aS ⊢;have z:a.length=G:=by rw [<- C];simp [Str.length]
   generalize upd H5 l5 (.lst (zs.map V.str))=H6 at b2 ⊢;ext;refine ⟨p,26,rfl,b2.2,by decide,by decide,fun first H7 f0 f1 b3=>?_⟩;have b7:=b2.trans b3;ext;refine ⟨by decide,fun l hl=>?_⟩;have b8:=b7.new (o:=.lst []) hl;have Z:=b7.apart hl;have O:=b7.free hl;ext;refine ⟨_,rfl,by omega,by omega,jF (fun i σ H'=>BB p H H'/\∃ (ss:List Str) (x9 A:Option V),σ=[some (.ref p),some (.int (m:Int)),some (.str L26),some (.int (G:Int)),some (.str a),some (.int first),some (.ref l),x9,A]/\H' l=some (.lst (ss.map V.str))/\ss.length=i/\∀ (j:Nat) s,ss[j]?=some s->zJ s=true/\s.cps.toList[G]?=some (97+((first+5*(j:Int)) % 26).toNat))
     ⟨b8,[],none,none,rfl,qb,rfl,by simp⟩ (fun i σ H8 M hp=>?_) fun σ H8 hp=>?_⟩
   .obtain ⟨X,ss,x9,A,rfl,y,b,N⟩:=hp;ext;refine ⟨rfl,?_⟩;ext;refine ⟨p,_,rfl,X.2,by omega,by omega,fun r H9 U r1 I=>?_⟩;obtain ⟨r,rfl⟩:=Yv U;have R:=I.1 _ _ Z y;have bb:=X.trans I;refine ⟨_,rfl,by omega,by omega,zx (lo:=0) (n:=((r:Int)).toNat) (Signs p H9) (Signs.start bb.2) (fun i ys H' M c=>?_) fun ys H10 c=>?_⟩
    .ext;refine qal ?_;ext;refine ⟨p,26,rfl,c.1.2,by decide,by decide,fun r aa U r1 hb=>?_⟩;refine qdf U r1 ?_;exact ⟨by rw [c.len];exact qi (by omega),c.more hb (qfE (by omega) (by omega))⟩
    .refine ⟨by rw [c.len];exact yX (qi (by omega)),fun l6 h6=>?_⟩;obtain ⟨L,W,rfl,af,J⟩:=c;have u:=L.1 _ _ Z R;have bc:=(bb.trans L).new (o:=.lst (W.map V.str)) h6;have d:upd H10 l6 (.lst (W.map V.str)) l=some (.lst (ss.map V.str)):=by rw [qe (qm u h6)];exact u
     ext;refine ⟨_,l6,W,rfl,rfl,SqL.of qb,by rw [qdL fun x hx=>(J x hx).1,show ("":Str).length=0 by decide +kernel];exact yX (qi (by omega)),?_⟩;obtain ⟨Y,aT⟩:=qeG af J;rw [Ym] at Y;generalize Txt.join "" W=tl at Y aT ⊢;have ag:tl.length=r:=by rw [<- Y];simp [Str.length]
     generalize upd H10 l6 (.lst (W.map V.str))=H11 at bc d ⊢;ext;refine ⟨.inl ⟨rfl,_,SqL.of d⟩,?_⟩;ext;refine qb2 (.inl ⟨by decide,by decide⟩) ?_;ext;refine vI (by decide) ?_;ext;rw [Xx];refine qdf (xq _ (by decide)) (xl _ (by decide)) ?_;refine qf3 (by rw [z];show _+1<=_;exact yX (qi (by omega))) ?_;have v:(a++(⟨#[97+((first+5*(i:Int)) % 26).toNat]⟩:Str)).cps.toList=a.cps.toList++[97+((first+5*(i:Int)) % 26).toNat]:=by rw [qbk]
     have S:(a++(⟨#[97+((first+5*(i:Int)) % 26).toNat]⟩:Str)).length=G+1:=by
      have:(a++(⟨#[97+((first+5*(i:Int)) % 26).toNat]⟩:Str)).length=(a++(⟨#[97+((first+5*(i:Int)) % 26).toNat]⟩:Str)).cps.toList.length:=by simp [Str.length]
      rw [this,v,yt,C];rfl
     generalize a++(⟨#[97+((first+5*(i:Int)) % 26).toNat]⟩:Str)=nm at v S ⊢;ext;refine qf3 (by rw [S,ag];exact yX (qi (by omega))) ?_;refine ⟨l,_,_,rfl,rfl,d,by rw [ya,b];exact qi (by omega),?_⟩;refine ⟨bc.put O Z,ss++[_],_,_,rfl,by rw [qb,yA];rfl,by rw [yt,b];rfl,fun j s g=>?_⟩;by_cases ae:j<ss.length
     .rw [y8 ae] at g;exact N j s g
     .rw [yG (by omega)] at g;have h0:j-ss.length=0:=by have:=(yc.mp g).1;simp at this;omega
      rw [h0] at g;cases g;have ad:j=i:=by omega
      subst ad;have eF:(nm++tl).cps.toList=a.cps.toList++[97+((first+5*(j:Int)) % 26).toNat]++tl.cps.toList:=by rw [qbk,v]
      have ai:=xl (first+5*(j:Int)) (show (0:Int)<26 by decide);refine ⟨nameS_of eF (by simp;omega) (by simp [C,Y];omega) ?_,?_⟩
      .rw [XZ,XZ,aS,aT,XG,qfE (by omega) (by omega)];rfl
      .rw [eF,Yi,yG (by omega),C,Xw];rfl
   .obtain ⟨X,ss,x9,A,rfl,y,b,N⟩:=hp;ext;rw [Ym] at b;refine q l ss _ X O ⟨y,Z⟩ ⟨by omega,nodup_key fun i j s M g=>?_,fun s c=>?_⟩ b
    .have ei:=(N i s M).2;have ej:=(N j s g).2;have li:=(yc.mp M).1;have lj:=(yc.mp g).1;rw [ei,Option.some.injEq] at ej
     have e4:(i:Int)=(j:Int):=five_inj (sh:=first) (by omega) (by omega) (by omega) (by omega) (by
      have p1:=xq (first+5*(i:Int)) (show (26:Int)≠0 by decide);have p2:=xq (first+5*(j:Int)) (show (26:Int)≠0 by decide);omega)
     omega
    .obtain ⟨j,g,e⟩:=xB c;exact (N j s (by rw [yb g,e])).1
theorem Kw:FnScope ["_law_state","_law_size","_law_way","_law_found","_law_k","_law_sparse","_law_one","_law_other"] ["_law_state","_law_size"] (qh zB):=fS
theorem qeH {X:L2.Cx} {st:List PySem.Stmt} {t:L2.TS} (t':L2.TS) (h:L2.PSs X st t) (k:∀ D σ H,t' D σ H->t D σ H):L2.PSs X st t':=fun a s σ H D I q=>h a s σ H D I (k D σ H q)
noncomputable abbrev iV (k:Nat):V:=.int (k:Int)
theorem qau (a b:Int):(if false=true then !eqV (V.int a) (V.int b) else eqV (V.int a) (V.int b))=decide (a=b):=by
 rw [yy (by decide)];unfold eqV;by_cases h:a=b<;>simp [h]
theorem qa4 {i j:Int} {Q:VK} (q:Q (.bl (decide (i=j))) H):qfC K (.int i) (.int j) H Q:=.inl (.inl (.inl ⟨rfl,rfl,by rw [qau];exact q⟩))
noncomputable abbrev iT (q:Nat×Nat):HO:=.tup [.int (q.1:Int),.int (q.2:Int)]
def IPL (H:Hp) (l:Addr) (ts:List Addr) (TI:List (Nat×Nat)):Prop:=H l=some (.lst (ts.map V.ref))/\All2 (fun t q=>H t=some (iT q)) ts TI
theorem IPL.same {TI:List (Nat×Nat)} (h:IPL H l ts TI) (s:L2.Same H H'):IPL H' l ts TI:=⟨s _ _ h.1,h.2.mono fun _ _ z=>s _ _ z⟩
theorem qgf {a:TA} {R:It->Hp->Prop} (h:a σ H fun vs H1=>∃ i j:Int,vs=[.int i,.int j]/\(-(2 ^ 62)<=i/\i<2 ^ 62/\-(2 ^ 62)<=j/\j<2 ^ 62)/\R (Itr i (j-i).toNat) H1):qfV a σ H R:=h
theorem qcS {q:Nat×Nat} (h:some (iT q')=some (iT q)):q'=q:=by
 injection h with h
 injection h with h
 injection h with h1 h2
 injection h1 with h1
 injection h2 with h2 _
 injection h2 with h2
 exact xF (by omega) (by omega)
theorem qcT {a:Addr} {q:Nat×Nat} (hb:H b=some (iT q')) (f:H a=some (iT q)):EqD K H 1 (.ref b) (.ref a) (decide (q'=q)):=by
 by_cases e:b=a
 .subst e;rw [hb] at f;have:q'=q:=qcS f;rw [yM this];exact .self
 .have z:=EqT.tup (K:=K) (H:=H) (n:=0) (e:=fun j=>if j=0 then eqV (iV q'.1) (iV q.1) else eqV (iV q'.2) (iV q.2)) (SqT.of hb) (SqT.of f) fun j x y c d=>by
   match j,c,d with
   | 0,c,d=>cases c;cases d;exact .flat rfl rfl
   | 1,c,d=>cases c;cases d;exact .flat rfl rfl
   | n+2,c,d=>simp at c
  have l:((List.range (min [iV q'.1,iV q'.2].length [iV q.1,iV q.2].length)).all (fun j=>if j=0 then eqV (iV q'.1) (iV q.1) else eqV (iV q'.2) (iV q.2))&&[iV q'.1,iV q'.2].length==[iV q.1,iV q.2].length)=decide (q'=q):=by
   have g:eqV (iV q'.1) (iV q.1)=decide (q'.1=q.1):=by
    have:=qau (q'.1:Int) (q.1:Int);rw [yy (by decide)] at this;rw [this];exact Yr.mpr (by omega)
   have i:eqV (iV q'.2) (iV q.2)=decide (q'.2=q.2):=by
    have:=qau (q'.2:Int) (q.2:Int);rw [yy (by decide)] at this;rw [this];exact Yr.mpr (by omega)
   show ((if (0:Nat)=0 then eqV (iV q'.1) (iV q.1) else eqV (iV q'.2) (iV q.2))&&((if (1:Nat)=0 then eqV (iV q'.1) (iV q.1) else eqV (iV q'.2) (iV q.2))&&true)&&true)=_;rw [yD rfl,yy (by decide),g,i,k9,k9];rw [Yb,yU,yJ,yJ,yJ];exact ⟨fun h=>xF h.1 h.2,fun h=>by rw [h];exact ⟨rfl,rfl⟩⟩
  rw [l] at z;exact .deep z e
theorem ipl_nin {a:Addr} {TI:List (Nat×Nat)} {Q:VK} (h:IPL H l ts TI) (m:H a=some (iT q0)) (q:Q (.bl (!decide (q0∈TI))) H):qeR K true (.ref a) (.ref l) H Q:=by
 classical
 refine .inr (.inr ⟨l,ts.map V.ref,fun z=>decide (∃ t,z=.ref t/\H t=some (iT q0)),1,rfl,SqL.of h.1,by decide,fun z hz=>?_,?_⟩)
 .obtain ⟨b,hb,rfl⟩:=Ye.mp hz;obtain ⟨q',_,r⟩:=h.2.mem hb;have e:=qcT (K:=K) r m
  have j:decide (∃ t,V.ref b=.ref t/\H t=some (iT q0))=decide (q'=q0):=by
   apply Yr.mpr;constructor
   .rintro ⟨t,f,c⟩;cases f;rw [r] at c;exact qcS c
   .rintro rfl;exact ⟨b,rfl,r⟩
  show EqD K H 1 (.ref b) (.ref a) (decide (∃ t,V.ref b=.ref t/\H t=some (iT q0)));rw [j];exact e
 .have e:((ts.map V.ref).any fun z=>decide (∃ t,z=.ref t/\H t=some (iT q0)))=decide (q0∈TI):=by
   rw [Yb,Yo,yJ];constructor
   .rintro ⟨z,hz,e⟩;obtain ⟨t,o,rfl⟩:=Ye.mp hz;obtain ⟨q',g,r⟩:=h.2.mem o;obtain ⟨t',f,c⟩:=yk e;cases f;rw [r] at c;have:q'=q0:=qcS c;rw [<- this];exact g
   .intro n;obtain ⟨k,i,e⟩:=xB n;have d:k<ts.length:=by rw [h.2.len];exact i
    have r:=h.2.at_ k ts[k] TI[k] (yb d) (yb i);exact ⟨.ref ts[k],Ye.mpr ⟨_,YT d,rfl⟩,yM ⟨ts[k],rfl,by rw [r,e]⟩⟩
  rw [yD rfl,e];exact q
def TJ (m:Nat) (TI:List (Nat×Nat)):Prop:=TI.length<=30/\(∀ q∈TI,q.1<q.2/\q.2<m)/\TI.Nodup
theorem All2.cons {R:α->β->Prop} {l:List α} {m:List β} {x:α} {y:β} (r:R x y) (h:All2 R l m):All2 R (x::l) (y::m):=
 ⟨by rw [yC,yC,h.len],fun k a b c hb=>by
  cases k with
  | zero=>simp at c hb;subst c;subst hb;exact r
  | succ k=>exact h.at_ k a b (by simpa using c) (by simpa using hb)⟩
theorem BB.tup {t:Addr} (b:BB p H H') (c:Box H p) (h:H t=some (.tup xs)):H' t=some (.tup xs):=b.1 _ _ (fun e=>by obtain ⟨x,y,z,a⟩:=c;rw [e,a] at h;cases h) h
theorem IPL.bb {TI:List (Nat×Nat)} (h:IPL H l ts TI) (a:Box H p) (b:BB p H H') (hl:l≠p):IPL H' l ts TI:=⟨b.1 _ _ hl h.1,h.2.mono fun t q z=>b.tup a z⟩
theorem IPL.snoc {t:Addr} {TI:List (Nat×Nat)} {q:Nat×Nat} (h:IPL H l ts TI) (a:H t=some (iT q)):IPL (upd H l (.lst ((ts++[t]).map V.ref))) l (ts++[t]) (TI++[q]):=by
 have key:∀ {u:Addr} {r:Nat×Nat},H u=some (iT r)->upd H l (.lst ((ts++[t]).map V.ref)) u=some (iT r):=fun {u r} e=>by rw [qe (fun z=>by rw [z,h.1] at e;cases e)];exact e
 exact ⟨qb,(h.2.mono fun _ _ z=>key z).snoc (key a)⟩
theorem IPL.lenV {TI:List (Nat×Nat)} (h:IPL H l ts TI):(ts.map V.ref).length=TI.length:=by rw [ya,h.2.len]
structure Fnd (p:Addr) (H J:Hp) (l:Addr) (ts:List Addr) (TI:List (Nat×Nat)):Prop where
 bb:BB p H J
 old:H l=none
 np:l≠p
 li:IPL J l ts TI
theorem Fnd.on {TI:List (Nat×Nat)} (h:Fnd p H J l ts TI) (b:BB p J J'):Fnd p H J' l ts TI:=⟨h.bb.trans b,h.old,h.np,h.li.bb h.bb.2 b h.np⟩
theorem Fnd.app {t:Addr} {TI:List (Nat×Nat)} {q:Nat×Nat} (h:Fnd p H J l ts TI) (a:J t=some (iT q)):Fnd p H (upd J l (.lst (ts.map V.ref++[.ref t]))) l (ts++[t]) (TI++[q]):=by
 have e:ts.map V.ref++[.ref t]=(ts++[t]).map V.ref:=by rw [yA];rfl
 rw [e];exact ⟨h.bb.put h.old h.np,h.old,h.np,h.li.snoc a⟩
theorem TJ.snoc {TI:List (Nat×Nat)} {q:Nat×Nat} (h:TJ m TI) (hl:TI.length<30) (f:q.1<q.2/\q.2<m) (d:q∉TI):TJ m (TI++[q]):=by
 refine ⟨by rw [yt];simp;omega,fun r g=>?_,?_⟩
 .rcases yE.mp g with z | z
  .exact h.2.1 r z
  .rw [yx.mp z];exact f
 .exact yV.mpr ⟨h.2.2,by simp,fun a c b hb e=>d (by rw [yx.mp hb] at e;rw [<- e];exact c)⟩
inductive spShQ (vs:List V) (H:Hp) (Q:VK) (E:XK):Prop|mk (p:Addr) (m:Nat) (_:vs=[.ref p,.int (m:Int)]) (_:Box H p) (_:m<=7) (_:∀ (l:Addr) (ts:List Addr) (TI:List (Nat×Nat)) (H':Hp),Fnd p H H' l ts TI->TJ m TI->Q (.ref l) H')
noncomputable def chT (n:Nat):List (Nat×Nat):=(List.range n).map fun k=>(k,k+1)
theorem qa5 (n:Nat):(chT n).length=n:=by unfold chT;rw [ya,YI]
theorem qdg {q:Nat×Nat} (h:q∈chT n):q.1<n/\q.2=q.1+1:=by
 obtain ⟨k,a,rfl⟩:=Ye.mp h;exact ⟨YJ.mp a,rfl⟩
theorem qfm (n:Nat):(chT n).Nodup:=List.Pairwise.map _ (fun a b h e=>h (congrArg Prod.fst e)) List.nodup_range
theorem qdS (n:Nat):chT (n+1)=chT n++[(n,n+1)]:=by unfold chT;rw [xT,yA];rfl
theorem cat_W5 {a:Addr} {Q:VK} (c:G a=some (.lst xs)) (d:G b=some (.lst ys)) (hl:xs.length+ys.length<=2000) (q:∀ p,G p=none->Q (.ref p) (upd G p (.lst (xs++ys)))):qc4 K (.ref a) (.ref b) G Q:=.inl ⟨a,b,_,_,rfl,rfl,c,d,yi hl (by decide),q⟩
theorem ok_shQ (F:Fun K "_law_shape" "_law_shape" zB f fd) (T:Txt K mg cc cw) (Kd:DefOk P w K mg base CX0 1 "_law_take" ["_law_state","_law_many"] spTake):FnOk P w K mg base CX0 2 f fd ["_law_state","_law_size"] spShQ:=by
 refine F.ok Kw fun _ _ _ _ H vs Q E hr h=>?_
 .obtain ⟨p,m,rfl,hB,m7,q⟩:=h;have W:=jS hr;obtain ⟨TC3,x⟩:∃ C:TS,C=fun D σ J=>(∃ g:Int,σ=[some (.ref p),some (.int (m:Int)),some (.int g),none,none,none,none,none])/\BB p H J/\∀ (l:Addr) (ts:List Addr) (TI:List (Nat×Nat)) (H':Hp),Fnd p H H' l ts TI->TJ m TI->D.rt (.ref l) H':=⟨_,rfl⟩;refine ⟨_,(qc (qo (i:=2) Kw.nd rfl (yO rfl) (qv Kd (hmR hr) qH (qa (pv 0) (qa qg qd))))
 (qc (qV (qj (zi (K:=K) rfl W) (pv 2) qg (qC _)) (qf (qp (jh (sc:=qh zB) (XN:=["_law_state","_law_size","_law_way","_law_found","_law_k","_law_sparse","_law_one","_law_other"]) ["_law_k"] 1 [] rfl rfl rfl (by decide +kernel) rfl (by decide +kernel)
  (jj rfl T.b_range (qa (qE zS (pv 1) qg) qd)) (fun _ _ _ _=>(qr (i:=0) (show (["_law_k"]:List Str).Nodup by decide +kernel) rfl (yO rfl))) qR
  (fun _ _ _ _=>jG)
  (fun _ _ _ _=>(jp (qa (pv 0) (qa (qE (zy (K:=K) rfl) (pv 0) qg) qd))))))) qx)
 (qc (qV (PW.pt (qa9 (qj (zi (K:=K) rfl W) (pv 2) qg (qC _)) (qaA (qj qc0 (pv 1) qg (qC _))))) (qf (qp (qE (zy (K:=K) rfl) (qP (qa (jp (qa qg (qa (qE zS (pv 1) qg) qd))) qd)) (jh (sc:=qh zB) (XN:=["_law_state","_law_size","_law_way","_law_found","_law_k","_law_sparse","_law_one","_law_other"]) ["_law_k"] 1 [] rfl rfl rfl (by decide +kernel) rfl (by decide +kernel)
  (jj rfl T.b_range (qa (qE zS (pv 1) qg) qd)) (fun _ _ _ _=>(qr (i:=0) (show (["_law_k"]:List Str).Nodup by decide +kernel) rfl (yO rfl))) qR
  (fun _ _ _ _=>jG)
  (fun _ _ _ _=>(jp (qa (pv 0) (qa (qE (zy (K:=K) rfl) (pv 0) qg) qd)))))))) qx)
 (qeH TC3 (qc (qo (i:=3) Kw.nd rfl (yO rfl) (qP qd))
 (qc (qV (qj (zi (K:=K) rfl W) (pv 2) qg (qC _)) (qc (jl y0 rfl (qcp rfl T.b_range (qa qg (qa (pv 1) qd))) (qr (i:=4) Kw.nd rfl (yO rfl))
 (qc (qI (qbf (K:=K) rfl yL yY yZ qN (pv 3) (qa (qt (qu (K:=K) rfl W) (qP (qa (jp (qa (qE zS (pv 4) qg) (qa (pv 4) qd))) (qa (jp (qa qg (qa (pv 4) qd))) qd))) (jq qaK rfl T.b_int boot_int (qa (jE (zi (K:=K) rfl W) (qE zw (pv 4) qg) qg (qC _)) qd)) (fun _ _=>rfl)) qd)))
 (qf (qV (qj (zi (K:=K) rfl W) (qE zw (pv 4) qg) qg (qC _)) (qf (qI (qbf (K:=K) rfl yL yY yZ qN (pv 3) (qa (jp (qa (qE zS (pv 4) qg) (qa (pv 4) qd))) qd)))) qx))))
 (qf (qp (pv 3)))) qx)
 (qc (qo (i:=5) Kw.nd rfl (yO rfl) (qE (zy (K:=K) rfl) (qt (qu (K:=K) rfl W) (qP (qa qg (qa qg (qa qg (qa qg qd))))) (qv Kd (hmR hr) qH (qa (pv 0) (qa qg qd))) (fun _ _=>rfl)) (qE qcZ (pv 1) qg)))
 (qc (jl y0 rfl (jj rfl T.b_range (qa (pv 1) qd)) (qr (i:=6) Kw.nd rfl (yO rfl))
 (qf (jl y0 rfl (qcp rfl T.b_range (qa (qE (zy (K:=K) rfl) (pv 6) qg) (qa (pv 1) qd))) (qr (i:=7) Kw.nd rfl (yO rfl))
 (qf (qV (PW.pt (qa9 (qj (zi (K:=K) rfl W) (qv Kd (hmR hr) qH (qa (pv 0) (qa (pv 5) qd))) qg (qC _)) (qaA (qj qd3 (qk (zh (K:=K) rfl) rfl T.b_len YO (qa (pv 3) qd)) qg (qC _))))) (qf (qI (qbf (K:=K) rfl yL yY yZ qN (pv 3) (qa (jp (qa (pv 6) (qa (pv 7) qd))) qd)))) qx)))))
 (qf (qp (pv 3))))))) ?cut3)))),?_⟩
  case cut3 =>
   intro D σ J h;rw [x] at h;obtain ⟨⟨g,rfl⟩,bJ,q⟩:=h;ext;refine ⟨by decide,fun l hl=>?_⟩;have F0:Fnd p H (upd J l (.lst [])) l [] []:=⟨bJ.new hl,bJ.free hl,bJ.apart hl,qb,.nil⟩;generalize upd J l (.lst [])=J0 at F0;ext;refine qa4 ?_;ext;refine qW (fun hw=>?_) fun hw=>?_
   .ext;refine qgf ?_;ext;refine ⟨1,_,rfl,⟨by decide,by decide,by omega,by omega⟩,jF (fun i σ J'=>∃ (x4:Option V) (ts:List Addr) (TI:List (Nat×Nat)),σ=[some (.ref p),some (.int (m:Int)),some (.int g),some (.ref l),x4,none,none,none]/\Fnd p H J' l ts TI/\TI.length<=2*i/\TI.Nodup/\∀ q∈TI,q.1<q.2/\q.2<m/\q.2<i+1)
     ⟨none,[],[],rfl,F0,yh _,.nil,fun _ h=>by cases h⟩ (fun i σ J1 hi A=>?_) fun σ J1 A=>?_⟩
    .obtain ⟨x4,ts,TI,rfl,j,af,hnd,c⟩:=A;have av:i+1<m:=by omega
     ext;refine ⟨.inl ⟨rfl,_,SqL.of j.li.1⟩,?_⟩;ext;refine ⟨by show 2<=sizeLine;decide,fun t1 al=>?_⟩;have O:=j.on ((BB.refl j.bb.2).new (o:=.tup [.int ((1:Int)+(i:Int)-1),.int (1+(i:Int))]) al)
     have n:upd J1 t1 (.tup [.int ((1:Int)+(i:Int)-1),.int (1+(i:Int))]) t1=some (iT (i,i+1)):=by
      rw [qb];have z1:(1:Int)+(i:Int)-1=((i:Nat):Int):=by omega
      have N:(1:Int)+(i:Int)=((i+1:Nat):Int):=by omega
      rw [z1,N]
     generalize upd J1 t1 (.tup [.int ((1:Int)+(i:Int)-1),.int (1+(i:Int))])=J2 at O n;ext;refine ⟨by show 2<=sizeLine;decide,fun t2 am=>?_⟩;have b2:=(BB.refl O.bb.2).new (o:=.tup [.int 0,.int (1+(i:Int))]) am;have X:=O.on b2;replace n:=b2.tup O.bb.2 n
     have S:upd J2 t2 (.tup [.int 0,.int (1+(i:Int))]) t2=some (iT (0,i+1)):=by
      rw [qb];have N:(1:Int)+(i:Int)=((i+1:Nat):Int):=by omega
      rw [N];rfl
     generalize upd J2 t2 (.tup [.int 0,.int (1+(i:Int))])=J3 at X n S;ext;refine ⟨by show 2<=sizeLine;decide,fun t3 an=>?_⟩;have Y:=(BB.refl X.bb.2).new (o:=.lst [.ref t1,.ref t2]) an;have F3:=X.on Y;replace n:=Y.tup X.bb.2 n;replace S:=Y.tup X.bb.2 S;have e3:upd J3 t3 (.lst [.ref t1,.ref t2]) t3=some (.lst [.ref t1,.ref t2]):=qb;generalize upd J3 t3 (.lst [.ref t1,.ref t2])=J4 at F3 n S e3;ext;refine vI (by decide) ?_;ext;refine qa4 ?_;ext;refine .inr ⟨_,rfl,?_⟩
     obtain ⟨tt,q0,aq,ax,ay,ai,Z⟩:∃ (tt:Addr) (q0:Nat×Nat),J4 tt=some (iT q0)/\q0.1<=i/\q0.2=i+1/\((1+(i:Int)) % 3≠1->q0.1=i)/\atI [V.ref t1,V.ref t2] (if decide ((1+(i:Int)) % 3=1)=true then 1 else 0)=some (.ref tt):=by
      by_cases hb:(1+(i:Int)) % 3=1
      .exact ⟨t2,(0,i+1),S,YH _,rfl,fun h=>absurd hb h,by rw [yM hb];rfl⟩
      .exact ⟨t1,(i,i+1),n,yh _,rfl,fun _=>rfl,by rw [yl hb];rfl⟩
     refine .inl (zc e3 Z ?_);refine ⟨l,_,_,rfl,rfl,F3.li.1,by rw [ya,F3.li.2.len];exact qi (by omega),?_⟩;have aa:=F3.li.2.len;have F4:=F3.app aq
     have U:(TI++[q0]).Nodup:=yV.mpr ⟨hnd,by simp,fun a ha b hb e=>by
      rw [yx.mp hb] at e;have:=c a ha;rw [e] at this;omega⟩
     have y:∀ q∈TI++[q0],q.1<q.2/\q.2<m/\q.2<i+1+1:=fun r hr=>by
      rcases yE.mp hr with z | z
      .have:=c r z;omega
      .rw [yx.mp z];omega
     generalize upd J4 l (.lst (ts.map V.ref++[.ref tt]))=J5 at F4;ext;refine vI (by decide) ?_;ext;refine qa4 ?_;ext;refine qW (fun h3=>?_) fun h3=>?_
     .have au:(1+(i:Int)) % 3=0:=yk h3;ext;refine ⟨.inl ⟨rfl,_,SqL.of F4.li.1⟩,?_⟩;ext;refine ⟨by show 2<=sizeLine;decide,fun t5 ao=>?_⟩;have s:=F4.on ((BB.refl F4.bb.2).new (o:=.tup [.int ((1:Int)+(i:Int)-2),.int (1+(i:Int))]) ao)
      have e5:upd J5 t5 (.tup [.int ((1:Int)+(i:Int)-2),.int (1+(i:Int))]) t5=some (iT (i-1,i+1)):=by
       rw [qb];have z1:(1:Int)+(i:Int)-2=((i-1:Nat):Int):=by omega
       have N:(1:Int)+(i:Int)=((i+1:Nat):Int):=by omega
       rw [z1,N]
      generalize upd J5 t5 (.tup [.int ((1:Int)+(i:Int)-2),.int (1+(i:Int))])=J6 at s e5;refine ⟨l,_,_,rfl,rfl,s.li.1,by rw [ya,s.li.2.len,yt];exact qi (by simp;omega),?_⟩;refine ⟨_,_,_,rfl,s.app e5,by rw [yt,yt];simp;omega,?_,fun r hr=>?_⟩
      .refine yV.mpr ⟨U,by simp,fun a ha b hb e=>?_⟩;rw [yx.mp hb] at e;rcases yE.mp ha with z | z
       .have:=c a z;rw [e] at this;have h9:i+1<i+1:=this.2.2;omega
       .rw [yx.mp z] at e;have h8:=ai (by omega);rw [e] at h8;have h9:i-1=i:=h8;omega
      .rcases yE.mp hr with z | z
       .exact y r z
       .rw [yx.mp z];exact ⟨by show i-1<i+1;omega,by show i+1<m;omega,by show i+1<i+1+1;omega⟩
     .exact ⟨_,_,_,rfl,F4,by rw [yt];simp;omega,U,y⟩
    .obtain ⟨x4,ts,TI,rfl,j,af,hnd,c⟩:=A;ext;exact q l ts TI _ j ⟨by omega,fun r hr=>⟨(c r hr).1,(c r hr).2.1⟩,hnd⟩
   .ext;refine ⟨by show 4<=sizeLine;decide,fun l4 ae=>?_⟩;have O:=F0.on ((BB.refl F0.bb.2).new (o:=.lst [.int 1,.int 2,.int 2,.int 3]) ae);have n4:=F0.bb.apart ae;have e4:upd J0 l4 (.lst [.int 1,.int 2,.int 2,.int 3]) l4=some (.lst [.int 1,.int 2,.int 2,.int 3]):=qb;generalize upd J0 l4 (.lst [.int 1,.int 2,.int 2,.int 3])=J1 at O e4;ext;refine ⟨p,4,rfl,O.bb.2,by decide,by decide,fun r J2 r0 r1 b2=>?_⟩;have X:=O.on b2;replace e4:=b2.1 _ _ n4 e4
    obtain ⟨sp,Z,as,az⟩:∃ sp:Int,atI [V.int 1,V.int 2,V.int 2,V.int 3] r=some (.int sp)/\0<sp/\sp<=3:=by
     have aj:r=0\/r=1\/r=2\/r=3:=by omega
     rcases aj with rfl | rfl | rfl | rfl<;>exact ⟨_,rfl,by decide,by decide⟩
    refine .inl (zc e4 Z ?_);ext;refine vI ⟨by decide,by decide⟩ ?_;ext;have ah:(m:Int) / 8=0:=by omega
    rw [ah,Int.add_zero];refine ⟨_,rfl,by omega,by omega,jF (fun i σ J'=>∃ (x6 x7:Option V) (ts:List Addr) (TI:List (Nat×Nat)),σ=[some (.ref p),some (.int (m:Int)),some (.int g),some (.ref l),none,some (.int sp),x6,x7]/\Fnd p H J' l ts TI/\TJ m TI/\∀ q∈TI,q.1<i)
     ⟨none,none,[],[],rfl,X,⟨by decide,(fun _ h=>by cases h),.nil⟩,fun _ h=>by cases h⟩ (fun i σ J3 hi A=>?_) fun σ J3 A=>?_⟩
    .obtain ⟨x6,x7,ts,TI,rfl,j,d,c⟩:=A;ext;refine qgf ?_;ext;refine ⟨_,_,rfl,⟨by omega,by omega,by omega,by omega⟩,jF (fun k σ J'=>∃ (x7:Option V) (ts:List Addr) (TI:List (Nat×Nat)),σ=[some (.ref p),some (.int (m:Int)),some (.int g),some (.ref l),none,some (.int sp),some (.int (0+(i:Int))),x7]/\Fnd p H J' l ts TI/\TJ m TI/\∀ q∈TI,q.1<i\/(q.1=i/\q.2<i+1+k))
      ⟨_,ts,TI,rfl,j,d,fun r hr=>.inl (c r hr)⟩ (fun k σ J4 hk A=>?_) fun σ J4 A=>?_⟩
     .obtain ⟨x7,ts,TI,rfl,j,d,c⟩:=A;ext;refine ⟨p,sp,rfl,j.bb.2,as,by omega,fun r J5 r0 r1 b5=>?_⟩;have s:=j.on b5;ext;refine qa4 ?_;ext;refine qW (fun h5=>?_) fun h5=>?_
      .ext;refine zY (SqL.of s.li.1) ?_;ext;refine qW (fun h6=>?_) fun h6=>?_
       .have ag:TI.length<30:=by have:=yk h6;rw [s.li.lenV] at this;omega
        ext;refine ⟨.inl ⟨rfl,_,SqL.of s.li.1⟩,?_⟩;ext;refine ⟨by show 2<=sizeLine;decide,fun t6 ap=>?_⟩;have F6:=s.on ((BB.refl s.bb.2).new (o:=.tup [.int (0+(i:Int)),.int (0+(i:Int)+1+(k:Int))]) ap)
        have e6:upd J5 t6 (.tup [.int (0+(i:Int)),.int (0+(i:Int)+1+(k:Int))]) t6=some (iT (i,i+1+k)):=by
         rw [qb];have z1:(0:Int)+(i:Int)=((i:Nat):Int):=by omega
         have N:(0:Int)+(i:Int)+1+(k:Int)=((i+1+k:Nat):Int):=by omega
         rw [N,z1]
        generalize upd J5 t6 (.tup [.int (0+(i:Int)),.int (0+(i:Int)+1+(k:Int))])=J6 at F6 e6;refine ⟨l,_,_,rfl,rfl,F6.li.1,by rw [ya,F6.li.2.len];exact qi (by omega),?_⟩;refine ⟨_,_,_,rfl,F6.app e6,d.snoc ag ⟨by show i<i+1+k;omega,by show i+1+k<m;omega⟩ (fun z=>?_),fun r hr=>?_⟩
        .have:=c _ z;have h9:i<i\/(i=i/\i+1+k<i+1+k):=this;omega
        .rcases yE.mp hr with z | z
         .have:=c r z;omega
         .rw [yx.mp z];exact .inr ⟨rfl,by show i+1+k<i+1+(k+1);omega⟩
       .exact ⟨_,_,_,rfl,s,d,fun r hr=>by have:=c r hr;omega⟩
      .exact ⟨_,_,_,rfl,s,d,fun r hr=>by have:=c r hr;omega⟩
     .obtain ⟨x7,ts,TI,rfl,j,d,c⟩:=A;exact ⟨_,_,_,_,rfl,j,d,fun r hr=>by have:=c r hr;omega⟩
    .obtain ⟨x6,x7,ts,TI,rfl,j,d,c⟩:=A;ext;exact q l ts TI _ j d
  ext;refine ⟨p,7,rfl,hB,by decide,by decide,fun g H1 w0 w1 b1=>?_⟩;ext;refine qa4 ?_;ext;refine qW (fun hw=>?_) fun hw=>?_
  .ext;refine ⟨_,rfl,by omega,by omega,zx (lo:=0) (fun i ys G=>BB p H G/\∃ us:List Addr,ys=us.map V.ref/\All2 (fun t q=>G t=some (iT q)) us (chT i)) ⟨b1,[],rfl,.nil⟩ (fun i ys G hi hs=>?_) fun ys G hs=>?_⟩
   .obtain ⟨L,us,rfl,v⟩:=hs;ext;refine qal ?_;ext;refine ⟨by show 2<=sizeLine;decide,fun t ht=>?_⟩;have B:us.length=i:=by rw [v.len,qa5]
    rw [Xx];refine ⟨by rw [ya];exact qi (by omega),L.new ht,us++[t],by rw [yA];rfl,?_⟩;rw [qdS];exact (v.mono fun u r z=>by rw [qe (qm z ht)];exact z).snoc qb
   .obtain ⟨L,us,rfl,v⟩:=hs;have B:=v.len;rw [qa5] at B;refine ⟨by rw [ya];exact yX (qi (by omega)),fun l hl=>?_⟩;refine q l us _ _ ⟨L.new hl,L.free hl,L.apart hl,qb,v.mono fun u r z=>by rw [qe (qm z hl)];exact z⟩ ⟨by rw [qa5];omega,fun r hr=>?_,qfm _⟩;have:=qdg hr;omega
  .ext;refine qa4 ?_;ext;refine qW (fun h1=>?_) fun h1=>?_
   .ext;refine qW (fun h2=>?_) fun h2=>?_
    .have aw:2<m:=by have:=yk h2;omega
     ext;refine ⟨by show 2<=sizeLine;decide,fun C ak=>?_⟩;have bt:=b1.new (o:=.tup [.int 0,.int ((m:Int)-1)]) ak
     have M:upd H1 C (.tup [.int 0,.int ((m:Int)-1)]) C=some (iT (0,m-1)):=by
      rw [qb,show ((m:Int)-1)=((m-1:Nat):Int) by omega];rfl
     generalize upd H1 C (.tup [.int 0,.int ((m:Int)-1)])=H2 at bt M;ext;refine ⟨by show 1<=sizeLine;decide,fun l1 aa=>?_⟩;have Y:=(BB.refl bt.2).new (o:=.lst [.ref C]) aa;have ar:=bt.apart aa;have I:=bt.trans Y;replace M:=Y.tup bt.2 M;have n:upd H2 l1 (.lst [.ref C]) l1=some (.lst [.ref C]):=qb;generalize upd H2 l1 (.lst [.ref C])=H3 at Y I M n;ext;refine ⟨_,rfl,by omega,by omega,zx (lo:=0) (fun i ys G=>BB p H3 G/\∃ us:List Addr,ys=us.map V.ref/\All2 (fun t q=>G t=some (iT q)) us (chT i)) ⟨BB.refl I.2,[],rfl,.nil⟩ (fun i ys G hi hs=>?_) fun ys G hs=>?_⟩
     .obtain ⟨L,us,rfl,v⟩:=hs;ext;refine qal ?_;ext;refine ⟨by show 2<=sizeLine;decide,fun t ht=>?_⟩;have B:us.length=i:=by rw [v.len,qa5]
      rw [Xx];refine ⟨by rw [ya];exact qi (by omega),L.new ht,us++[t],by rw [yA];rfl,?_⟩;rw [qdS];exact (v.mono fun u r z=>by rw [qe (qm z ht)];exact z).snoc qb
     .obtain ⟨L,us,rfl,v⟩:=hs;have B:=v.len;rw [qa5] at B;refine ⟨by rw [ya];exact yX (qi (by omega)),fun l2 ad=>?_⟩;have R:=L.new (o:=.lst (us.map V.ref)) ad;have ac:=v.mono fun u r z=>(show upd G l2 (.lst (us.map V.ref)) u=some (iT r) by rw [qe (qm z ad)];exact z);have S:upd G l2 (.lst (us.map V.ref)) l2=some (.lst (us.map V.ref)):=qb;replace M:=R.tup I.2 M;replace n:=R.1 _ _ ar n;replace R:=I.trans R;generalize upd G l2 (.lst (us.map V.ref))=G2 at R ac M n S;refine cat_W5 n S (by rw [ya];show 1+_<=_;omega) fun l hl=>?_;refine q l (C::us) ((0,m-1)::chT ((m:Int)-1).toNat) _ ⟨R.new hl,R.free hl,R.apart hl,qb,?_⟩ ⟨by rw [yC,qa5];omega,fun r hr=>?_,?_⟩
      .exact All2.cons (by rw [qe (qm M hl)];exact M) (ac.mono fun u r z=>by rw [qe (qm z hl)];exact z)
      .rcases yB.mp hr with rfl | hr
       .exact ⟨by show 0<m-1;omega,by show m-1<m;omega⟩
       .have:=qdg hr;omega
      .refine yo.mpr ⟨fun z=>?_,qfm _⟩;have N:=(qdg z).2;have z3:m-1=0+1:=N;omega
    .rw [x];exact ⟨⟨g,rfl⟩,b1,fun l ts TI H'=>q l ts TI H'⟩
   .rw [x];exact ⟨⟨g,rfl⟩,b1,fun l ts TI H'=>q l ts TI H'⟩
theorem Km:FnScope ["_law_state","_law_most","_law_sizes","_law_size","_law_names_here","_law_ties","_law_turn","_law_one","_law_other","_law_tie"] ["_law_state","_law_most"] (qh qaW):=fS
theorem qgw {i j:Int} {Q:VK} (q:Q (.bl (!decide (i=j))) H):qe0 K true (.int i) (.int j) H Q:=.inl ⟨rfl,rfl,by
 have e:eqV (V.int i) (V.int j)=decide (i=j):=by have:=qau i j;rwa [yy (by decide)] at this
 rw [yD rfl,e];exact q⟩
theorem All2.permQ {TI:List (Nat×Nat)} (h:All2 (fun t q=>H t=some (iT q)) ts TI) (p:us.Perm ts):∃ c:List (Nat×Nat),All2 (fun t q=>H t=some (iT q)) us c/\c.Perm TI:=by
 have key:∀ {us ts:List Addr},us.Perm ts->∀ TI:List (Nat×Nat),All2 (fun t q=>H t=some (iT q)) ts TI->∃ c:List (Nat×Nat),All2 (fun t q=>H t=some (iT q)) us c/\c.Perm TI:=by
  intro us ts p
  induction p with
  | nil=>intro TI h;exact ⟨TI,h,.refl _⟩
  | @cons x l1 l2 p ih =>
   intro TI h
   cases TI with
   | nil=>have:=h.len;simp at this
   | cons q TI =>
    obtain ⟨c,h1,n⟩:=ih TI ⟨by simpa using h.len,fun k a b d hb=>h.at_ (k+1) a b (by simpa using d) (by simpa using hb)⟩;exact ⟨q::c,h1.cons (h.at_ 0 x q rfl rfl),n.cons _⟩
  | @swap x y l =>
   intro TI h
   cases TI with
   | nil=>have:=h.len;simp at this
   | cons q TI =>
    cases TI with
    | nil=>have:=h.len;simp at this
    | cons q' TI =>
     refine ⟨q'::q::TI,All2.cons (h.at_ 1 _ q' rfl rfl) (All2.cons (h.at_ 0 _ q rfl rfl) ⟨by simpa using h.len,fun k a b d hb=>h.at_ (k+2) a b (by simpa using d) (by simpa using hb)⟩),.swap _ _ _⟩
  | trans _ _ ih1 ih2 =>
   intro TI h;obtain ⟨e,g,j⟩:=ih2 TI h;obtain ⟨f,i,m⟩:=ih1 e g;exact ⟨f,i,m.trans j⟩
 exact key p TI h
theorem TJ.perm {TI a:List (Nat×Nat)} (h:TJ m TI) (p:a.Perm TI):TJ m a:=⟨by rw [p.length_eq];exact h.1,fun q b=>h.2.1 q (p.mem_iff.mp b),p.nodup_iff.mpr h.2.2⟩
structure Drw (p:Addr) (H J:Hp) (ln lt:Addr) (ss:List Str) (ts:List Addr) (TI:List (Nat×Nat)):Prop where
 bb:BB p H J
 o1:H ln=none
 o2:H lt=none
 n1:ln≠p
 n2:lt≠p
 n3:ln≠lt
 nm:J ln=some (.lst (ss.map V.str))
 nok:NOk ss
 few:ss.length<=7
 li:IPL J lt ts TI
 tj:TJ ss.length TI
theorem Drw.on {lt:Addr} {TI:List (Nat×Nat)} (h:Drw p H J ln lt ss ts TI) (b:BB p J J'):Drw p H J' ln lt ss ts TI:=
 ⟨h.bb.trans b,h.o1,h.o2,h.n1,h.n2,h.n3,b.1 _ _ h.n1 h.nm,h.nok,h.few,h.li.bb h.bb.2 b h.n2,h.tj⟩
theorem Drw.app {t:Addr} {lt:Addr} {TI:List (Nat×Nat)} {q:Nat×Nat} (h:Drw p H J ln lt ss ts TI) (c:J t=some (iT q)) (b:TJ ss.length (TI++[q])):Drw p H (upd J lt (.lst (ts.map V.ref++[.ref t]))) ln lt ss (ts++[t]) (TI++[q]):=by
 have F:Fnd p H J lt ts TI:=⟨h.bb,h.o2,h.n2,h.li⟩;have a:=F.app c;exact ⟨a.bb,h.o1,h.o2,h.n1,h.n2,h.n3,by rw [qe h.n3];exact h.nm,h.nok,h.few,a.li,b⟩
inductive spDrQ (vs:List V) (H:Hp) (Q:VK) (E:XK):Prop|mk (p:Addr) (_:vs=[.ref p,.int 7]) (_:Box H p) (_:∀ (r ln lt:Addr) (ss:List Str) (ts:List Addr) (TI:List (Nat×Nat)) (H':Hp),Drw p H H' ln lt ss ts TI->H' r=some (.lst [.ref ln,.ref lt])->Q (.ref r) H')
theorem ok_drQ (F:Fun K "_law_drawn" "_law_drawn" qaW f fd) (T:Txt K mg cc cw) (n:DefOk P w K mg base CX0 1 "_law_take" ["_law_state","_law_many"] spTake) (Ui:DefOk P w K mg base CX0 2 "_law_names" ["_law_state","_law_many"] spNmQ) (Uj:DefOk P w K mg base CX0 2 "_law_shape" ["_law_state","_law_size"] spShQ):FnOk P w K mg base CX0 3 f fd ["_law_state","_law_most"] spDrQ:=by
 refine F.ok Km fun _ _ _ _ H vs Q E e h=>?_
 .obtain ⟨p,rfl,hB,q⟩:=h;have U:=jS e;refine ⟨_,(qc (qo (i:=2) Km.nd rfl (yO rfl) (qP (qa (qv n (hmR e) qH (qa (pv 0) (qa qg qd))) (qa (qv n (hmR e) qH (qa (pv 0) (qa (qE (zy (K:=K) rfl) (pv 1) qg) qd))) qd))))
 (qc (qo (i:=3) Km.nd rfl (yO rfl) (qk (qaJ rfl) rfl T.b_min boot_min (qa (pv 1) (qa (qt (qu (K:=K) rfl U) (pv 2) (jq qaK rfl T.b_int boot_int (qa (jE (zi (K:=K) rfl U) (qv n (hmR e) qH (qa (pv 0) (qa qg qd))) qg (qC _)) qd)) (fun _ _=>rfl)) qd))))
 (qc (qo (i:=4) Km.nd rfl (yO rfl) (qv Ui (hmR e) qH (qa (pv 0) (qa (pv 3) qd))))
 (qc (qo (i:=5) Km.nd rfl (yO rfl) (qv Uj (hmR e) qH (qa (pv 0) (qa (pv 3) qd))))
 (qc (jl y0 rfl (jj rfl T.b_range (qa (qE qb1 (qv n (hmR e) qH (qa (pv 0) (qa qg qd))) (jq qaK rfl T.b_int boot_int (qa (jE qc0 (pv 3) qg (qC _)) qd))) qd)) (qr (i:=6) Km.nd rfl (yO rfl))
 (qc (qo (i:=7) Km.nd rfl (yO rfl) (qv n (hmR e) qH (qa (pv 0) (qa (pv 3) qd))))
 (qc (qo (i:=8) Km.nd rfl (yO rfl) (qv n (hmR e) qH (qa (pv 0) (qa (pv 3) qd))))
 (qc (qo (i:=9) Km.nd rfl (yO rfl) (jp (qa (qk (qaJ rfl) rfl T.b_min boot_min (qa (pv 7) (qa (pv 8) qd))) (qa (qk (qaI rfl) rfl T.b_max boot_max (qa (pv 7) (qa (pv 8) qd))) qd))))
 (qf (qV (PW.pt (qa9 (qj (zZ (K:=K) rfl U) (pv 7) (pv 8) (qC _)) (qa9 (qj (zH (K:=K) rfl U) (pv 9) (pv 5) (by with_unfolding_all rfl)) (qaA (qj qd3 (qk (zh (K:=K) rfl) rfl T.b_len YO (qa (pv 5) qd)) qg (qC _)))))) (qf (qI (qbf (K:=K) rfl yL yY yZ qN (pv 5) (qa (pv 9) qd)))) qx))))))
 (qf (qp (qP (qa (pv 4) (qa (qk (k_sortT) rfl T.b_sorted boot_sorted (qa (pv 5) qd)) qd)))))))))),?_⟩
  ext;refine ⟨p,8,rfl,hB,by decide,by decide,fun v H1 al ap b1=>?_⟩;ext;refine ⟨p,_,rfl,b1.2,by decide,by decide,fun x H2 am aq R=>?_⟩;replace R:=b1.trans R;refine ⟨by show 2<=sizeLine;decide,fun y G=>?_⟩;have X:=R.new (o:=.lst [.int v,.int x]) G;have S:upd H2 y (.lst [.int v,.int x]) y=some (.lst [.int v,.int x]):=qb;have n3:=R.apart G;generalize upd H2 y (.lst [.int v,.int x])=H3 at X S;ext;refine ⟨p,8,rfl,X.2,by decide,by decide,fun r3 H4 ar as s=>?_⟩;replace S:=s.1 _ _ n3 S;replace s:=X.trans s;ext;refine qa4 ?_;ext;refine .inr ⟨_,rfl,?_⟩
  obtain ⟨m,ae,C⟩:∃ m:Nat,atI [V.int v,V.int x] (if decide (r3=7)=true then 1 else 0)=some (.int (m:Int))/\m<=7:=by
   by_cases hb:r3=7
   .exact ⟨x.toNat,by rw [yM hb,Int.toNat_of_nonneg am];rfl,by omega⟩
   .exact ⟨v.toNat,by rw [yl hb,Int.toNat_of_nonneg al];rfl,by omega⟩
  refine .inl (zc S ae ?_);ext;refine ⟨_,_,rfl,?_⟩;have em:(if (m:Int)<7 then (m:Int) else 7)=(m:Int):=by split<;>omega
  rw [em];ext;refine ⟨p,m,rfl,s.2,C,fun ln ss H5 b5 af d ac ai=>?_⟩;have B:=s.trans b5;have aj:=s.free af;ext;refine ⟨p,m,rfl,b5.2,C,fun lt ts TI H6 j ad=>?_⟩;have D6:Drw p H H6 ln lt ss ts TI:=⟨B.trans j.bb,aj,B.free j.old,d.2,j.np,(fun z=>by rw [z] at d;have:=d.1;rw [j.old] at this;cases this),j.bb.1 _ _ d.2 d.1,ac,by omega,j.li,by rw [ai];exact ad⟩;ext;refine ⟨p,3,rfl,j.bb.2,by decide,by decide,fun r4 H7 au av b7=>?_⟩;have D7:=D6.on b7;ext;refine .inr ⟨_,rfl,?_⟩;ext;refine qb2 (.inl ⟨by omega,by omega⟩) ?_;ext;refine ⟨_,rfl,by split<;>omega,by split<;>omega,jF (fun i σ J=>∃ (L M N O:Option V) (ts:List Addr) (TI:List (Nat×Nat)),σ=[some (.ref p),some (.int 7),some (.ref y),some (.int (m:Int)),some (.ref ln),some (.ref lt),L,M,N,O]/\Drw p H J ln lt ss ts TI)
   ⟨none,none,none,none,ts,TI,rfl,D7⟩ (fun i σ J hi hp=>?_) fun σ J hp=>?_⟩
  .obtain ⟨L,M,N,O,ts,TI,rfl,c⟩:=hp
   have ao:1<m:=by
    apply YE;intro z;have z':¬ (1:Int)<(m:Int):=by omega
    rw [yl z'] at hi;simp at hi
   ext;refine ⟨p,m,rfl,c.bb.2,by omega,by omega,fun one J1 o0 o1 c1=>?_⟩;have D1:=c.on c1;ext;refine ⟨p,m,rfl,D1.bb.2,by omega,by omega,fun ak J2 t0 t1 c2=>?_⟩;have D2:=D1.on c2;obtain ⟨a,rfl⟩:=Yv o0;obtain ⟨b,rfl⟩:=Yv t0;ext;refine ⟨_,_,rfl,?_⟩;ext;refine ⟨_,_,rfl,?_⟩;ext;refine ⟨by show 2<=sizeLine;decide,fun t ht=>?_⟩;have e1:(if (b:Int)<(a:Int) then (b:Int) else (a:Int))=((min a b:Nat):Int):=by split<;>omega
   have e2:(if (b:Int)>(a:Int) then (b:Int) else (a:Int))=((max a b:Nat):Int):=by split<;>omega
   rw [e1,e2];have g:=D2.on ((BB.refl D2.bb.2).new (o:=.tup [.int ((min a b:Nat):Int),.int ((max a b:Nat):Int)]) ht);have Y:upd J2 t (.tup [.int ((min a b:Nat):Int),.int ((max a b:Nat):Int)]) t=some (iT (min a b,max a b)):=qb;generalize upd J2 t (.tup [.int ((min a b:Nat):Int),.int ((max a b:Nat):Int)])=J3 at g Y;ext;refine qgw ?_;ext;have go:∃ (L M N O:Option V) (ts:List Addr) (TI:List (Nat×Nat)),[some (V.ref p),some (.int 7),some (.ref y),some (.int (m:Int)),some (.ref ln),some (.ref lt),some (.int (0+(i:Int))),some (.int (a:Int)),some (.int (b:Int)),some (.ref t)]=[some (.ref p),some (.int 7),some (.ref y),some (.int (m:Int)),some (.ref ln),some (.ref lt),L,M,N,O]/\Drw p H J3 ln lt ss ts TI:=⟨_,_,_,_,_,_,rfl,g⟩;refine qW (fun h1=>?_) fun h1=>go;have an:a≠b:=fun z=>by subst z;simp at h1
   ext;refine ipl_nin g.li Y ?_;ext;refine qW (fun h2=>?_) fun h2=>go;have ag:(min a b,max a b)∉TI:=by simpa using h2
   ext;refine zY (SqL.of g.li.1) ?_;ext;refine qW (fun h3=>?_) fun h3=>go;have Z:TI.length<30:=by have:=yk h3;rw [g.li.lenV] at this;omega
   ext;refine ⟨.inl ⟨rfl,_,SqL.of g.li.1⟩,?_⟩;ext;refine ⟨lt,_,_,rfl,rfl,g.li.1,by rw [ya,g.li.2.len];exact qi (by omega),?_⟩;exact ⟨_,_,_,_,_,_,rfl,g.app Y (g.tj.snoc Z ⟨by show min a b<max a b;omega,by show max a b<_;omega⟩ ag)⟩
  .obtain ⟨L,M,N,O,ts,TI,rfl,c⟩:=hp;ext;refine ⟨lt,ts,rfl,c.li.1,by rw [c.li.2.len];have:=c.tj.1;omega,fun t ht=>?_,fun l us hl D=>?_⟩
   .obtain ⟨q',_,r⟩:=c.li.2.mem ht;exact ⟨_,_,r⟩
   .obtain ⟨A,aa,ah⟩:=c.li.2.permQ D;have b8:=(BB.refl c.bb.2).new (o:=.lst (us.map V.ref)) hl;have I:ln≠l:=qm c.nm hl;have W:Drw p H (upd J l (.lst (us.map V.ref))) ln l ss us A:=⟨c.bb.trans b8,c.o1,c.bb.free hl,c.n1,c.bb.apart hl,I,by rw [qe I];exact c.nm,c.nok,c.few,⟨qb,aa.mono fun u r z=>by rw [qe (qm z hl)];exact z⟩,c.tj.perm ah⟩;generalize upd J l (.lst (us.map V.ref))=J8 at W;ext;refine ⟨by show 2<=sizeLine;decide,fun r e=>?_⟩;exact q r ln l ss us A _ (W.on ((BB.refl W.bb.2).new e)) qb
theorem KZ:FnScope ["_law_state","_law_names_here","_law_ties","_law_found","_law_one","_law_other","_law_tie"] ["_law_state","_law_names_here","_law_ties"] (qh qcb):=fS
def TEq (ss:List Str) (TI:List (Nat×Nat)) (tps:List (Str×Str)):Prop:=∀ (i j:Nat) (s t:Str),ss[i]?=some s->ss[j]?=some t->(tA tps s t↔((i,j)∈TI\/(j,i)∈TI))
def NmP (ss:List Str) (q:Nat×Nat) (ab:Str×Str):Prop:=(ss[q.1]?=some ab.1/\ss[q.2]?=some ab.2)\/(ss[q.1]?=some ab.2/\ss[q.2]?=some ab.1)
theorem NmP.key (nd:ss.Nodup) {q r:Nat×Nat} {n:Str×Str} (o:q.1<q.2) (p:r.1<r.2) (h:NmP ss q ab) (g:NmP ss r n) (e:ab=n\/ab=(n.2,n.1)):q=r:=by
 obtain ⟨a,b⟩:=ab;obtain ⟨c,d⟩:=n;unfold NmP at h g;dsimp only at h g e;have inj:∀ {i j:Nat} {s:Str},ss[i]?=some s->ss[j]?=some s->i=j:=fun x y=>qw nd x y;rcases e with e | e
 .injection e with e1 e2
  subst e1 e2;rcases h with ⟨h1,m⟩ | ⟨h1,m⟩<;>rcases g with ⟨f,l⟩ | ⟨f,l⟩
  .exact xF (inj h1 f) (inj m l)
  .have:=inj h1 l;have:=inj m f;omega
  .have:=inj h1 l;have:=inj m f;omega
  .exact xF (inj h1 f) (inj m l)
 .injection e with e1 e2
  subst e1 e2;rcases h with ⟨h1,m⟩ | ⟨h1,m⟩<;>rcases g with ⟨f,l⟩ | ⟨f,l⟩
  .have:=inj h1 l;have:=inj m f;omega
  .exact xF (inj h1 f) (inj m l)
  .exact xF (inj h1 f) (inj m l)
  .have:=inj h1 l;have:=inj m f;omega
theorem NmP.inn {q:Nat×Nat} (h:NmP ss q ab):ab.1∈ss/\ab.2∈ss:=h.elim (fun z=>⟨ye z.1,ye z.2⟩) fun z=>⟨ye z.2,ye z.1⟩
theorem NmP.ne (nd:ss.Nodup) {q:Nat×Nat} (b:q.1<q.2) (h:NmP ss q ab):ab.1≠ab.2:=fun e=>by
 rcases h with ⟨h1,a⟩ | ⟨h1,a⟩
 .rw [e] at h1;have:=qw nd h1 a;omega
 .rw [<- e] at h1;have:=qw nd h1 a;omega
theorem qgg (nd:ss.Nodup) {TI:List (Nat×Nat)} (u:TJ ss.length TI) (h:All2 (NmP ss) TI tps):TGo ss tps/\TEq ss TI tps:=by
 refine ⟨⟨by rw [<- h.len];exact u.1,fun ab g=>?_,?_⟩,fun i j s t d f=>⟨fun z=>?_,fun z=>?_⟩⟩
 .obtain ⟨k,o⟩:=yf g;obtain ⟨q,w⟩:∃ q,TI[k]?=some q:=⟨_,yb (by rw [h.len];exact (yc.mp o).1)⟩;have:=h.at_ k q ab w o;exact ⟨this.inn.1,this.inn.2,this.ne nd (u.2.1 q (ye w)).1⟩
 .refine YY.mpr fun i j B v A=>?_;have p:i<TI.length:=by rw [h.len];exact B
  have r:j<TI.length:=by rw [h.len];exact v
  have C:=h.at_ i TI[i] tps[i] (yb p) (yb B);have D:=h.at_ j TI[j] tps[j] (yb r) (yb v);have l1:=(u.2.1 _ (YT p)).1;have l2:=(u.2.1 _ (YT r)).1
  have key:∀ e:tps[i]=tps[j]\/tps[i]=(tps[j].2,tps[j].1),False:=fun e=>by
   have:=NmP.key nd l1 l2 C D e;exact (YY.mp u.2.2 i j p r A) this
  exact ⟨fun e=>key (.inl e),fun e=>key (.inr e)⟩
 .have c:∀ {s t:Str} {i j:Nat},ss[i]?=some s->ss[j]?=some t->(s,t)∈tps->((i,j)∈TI\/(j,i)∈TI):=fun {s t i j} d f l=>by
   obtain ⟨k,o⟩:=yf l;obtain ⟨q,w⟩:∃ q,TI[k]?=some q:=⟨_,yb (by rw [h.len];exact (yc.mp o).1)⟩;have l:=ye w;rcases h.at_ k q _ w o with ⟨m,n⟩ | ⟨m,n⟩
   .have x:=qw nd m d;have y:=qw nd n f;left;rw [<- x,<- y];exact l
   .have x:=qw nd m f;have y:=qw nd n d;right;rw [<- x,<- y];exact l
  rcases z with z | z
  .exact c d f z
  .exact (c f d z).symm
 .have c:∀ {s t:Str} {i j:Nat},ss[i]?=some s->ss[j]?=some t->(i,j)∈TI->tA tps s t:=fun {s t i j} d f l=>by
   obtain ⟨k,o⟩:=yf l;obtain ⟨ab,g⟩:∃ ab,tps[k]?=some ab:=⟨_,yb (by rw [<- h.len];exact (yc.mp o).1)⟩;have l:=ye g;obtain ⟨a,b⟩:=ab;rcases h.at_ k _ _ o g with ⟨m,n⟩ | ⟨m,n⟩
   .rw [d] at m;rw [f] at n;cases m;cases n;exact .inl l
   .rw [d] at m;rw [f] at n;cases m;cases n;exact .inr l
  rcases z with z | z
  .exact c d f z
  .exact Or.symm (c f d z)
theorem All2.revQ {R:α->β->Prop} {l:List α} {m:List β} (h:All2 R l m):All2 R l.reverse m.reverse:=by
 refine ⟨by rw [Yq,Yq,h.len],fun k a b c hb=>?_⟩;have hl:=h.len;have h1:k<l.length:=by have:=(yc.mp c).1;rwa [Yq] at this
 rw [xX h1] at c;rw [xX (by omega),<- hl] at hb;exact h.at_ _ a b c hb
theorem TJ.rev {TI:List (Nat×Nat)} (h:TJ m TI):TJ m TI.reverse:=h.perm (kt _)
theorem TEq.rev {TI:List (Nat×Nat)} (h:TEq ss TI.reverse tps):TEq ss TI tps:=fun i j s t a b=>by
 have:=h i j s t a b
 rwa [Xf,Xf] at this
theorem wt_newQ {y:Addr} (h:WebN H0 cw H y ss ns) (hb:qbb ss ns kps) (g:TGo ss kps):Wt cw H y ss ns kps:=
 ⟨h.web,fun a b s t d c=>by rw [hb.2.2 a b s t d c,yJ],g.inn⟩
inductive spWbQ (cw:Addr) (vs:List V) (H:Hp) (Q:VK) (E:XK):Prop|mk (p ln lt:Addr) (ss:List Str) (ts:List Addr) (TI:List (Nat×Nat)) (_:vs=[.ref p,.ref ln,.ref lt]) (_:Box H p) (_:ln≠p) (_:lt≠p) (_:H ln=some (.lst (ss.map V.str))) (_:NOk ss) (_:ss.length<=7) (_:IPL H lt ts TI) (_:TJ ss.length TI) (_:∀ (x:Addr) (ns:List Nat) (tps:List (Str×Str)) (H':Hp),BB p H H'->Wt cw H' x ss ns tps->(∀ J,BB p H' J->Wt cw J x ss ns tps)->TEq ss TI tps->Q (.ref x) H')
theorem qfn {m y:Addr} {Q:VK} (M:LTu G m (ss.map V.str)) (j:NOk ss) (v:PLT G l us kps) (x:TGo ss kps) (i:G y=none) (L:G dx=none) (q:dx≠y) (K:Box G p)
  (h:∀ ns H2,L2.Same G H2->Wt cw H2 y ss ns kps->(∀ J,BB p H2 J->Wt cw J y ss ns kps)->Q .non H2):spWeb cw [.ref y,.ref m,.ref l] (upd (upd G dx (.own y)) y (.ins cw dx [])) Q E:=by
 have f:=qL (qL (Sr G) (o:=.own y) L) (o:=.ins cw dx []) (show upd G dx (.own y) y=none by rw [qe (Yh q)];exact i);refine ⟨y,dx,m,l,ss,us,kps,rfl,qb,M.same f,j.few,j.nd,j.nm,⟨v.1.same f,v.2.mono fun _ _ z=>f _ _ z⟩,x,fun ns H' b a hb=>?_⟩;obtain ⟨R,S,T,u⟩:=K;have O:L2.Same G H':=fun c o e=>b c o (fun z=>by rw [z,i] at e;cases e) (f _ _ e);have W:=wt_newQ a hb x;refine h ns H' O W fun J g=>⟨?_,W.adj,W.ok⟩;obtain ⟨P,d,ol,n,h1,A,B,C,D,F,H,I⟩:=a;have r:=f _ _ u;have s:∀ {c:Addr},upd (upd G dx (.own y)) y (.ins cw dx []) c=none->c≠p:=fun z w=>by rw [w,r] at z;cases z
 have N:y≠p:=fun w=>by rw [w,u] at i;cases i
 exact ⟨P,d,ol,n,g.1 _ _ N h1,g.1 _ _ (s F) A,g.1 _ _ (s H) B,g.1 _ _ (s I) C,D⟩
theorem ok_wbQ (F:Fun K "_law_web" "_law_web" qcb f fd) (T:Txt K mg cc cw) (Kd:DefOk P w K mg base CX0 1 "_law_take" ["_law_state","_law_many"] spTake) (uO:MakeOk P w K mg base CX0 5 cw "Web" ["self","names","ties"] (spWeb cw)):FnOk P w K mg base CX0 7 f fd ["_law_state","_law_names_here","_law_ties"] (spWbQ cw):=by
 refine F.ok KZ fun _ _ _ s H vs Q E hr h=>?_
 .obtain ⟨p,ln,lt,ss,ts,TI,rfl,hB,n1,n2,ah,hN,few,hI,hJ,q⟩:=h;have hu:=jS hr;have ak:=hJ.1;refine ⟨_,(qc (qo (i:=3) KZ.nd rfl (yO rfl) (qP qd))
 (qc (jl y0 rfl (ki_lst (K:=K) rfl (pv 2)) (qd2 rfl (qag (qr (i:=4) KZ.nd rfl (yO rfl)) (qag (qr (i:=5) KZ.nd rfl (yO rfl)) qcX)))
 (qc (qo (i:=6) KZ.nd rfl (yO rfl) (jp (qa (qt (qu (K:=K) rfl hu) (pv 1) (pv 4) (fun _ _=>rfl)) (qa (qt (qu (K:=K) rfl hu) (pv 1) (pv 5) (fun _ _=>rfl)) qd))))
 (qf (qI (qbf (K:=K) rfl yL yY yZ qN (pv 3) (qa (qt (qu (K:=K) rfl hu) (qP (qa (pv 6) (qa (pe_rev (K:=K) rfl (pv 6) (j4 (qav j5 qg))) qd))) (qv Kd (hmR hr) qH (qa (pv 0) (qa qg qd))) (fun _ _=>rfl)) qd))))))
 (qc (qV (qj (zi (K:=K) rfl hu) (qv Kd (hmR hr) qH (qa (pv 0) (qa qg qd))) qg (qC _)) (qf (qp (zI uO (hmR hr) (qa (jq (qbA (K:=K) rfl rfl) rfl T.b_list xp (qa (pv 1) qd)) (qa (qeo (K:=K) rfl (pv 3) (j4 (qav j5 qg))) qd))))) qx)
 (qf (qp (zI uO (hmR hr) (qa (jq (qdB (K:=K) rfl) rfl T.b_tuple XF (qa (pv 1) qd)) (qa (jq (qdB (K:=K) rfl) rfl T.b_tuple XF (qa (pv 3) qd)) qd)))))))),?_⟩
  ext;refine ⟨by decide,fun j S=>?_⟩;have b0:=(BB.refl hB).new (o:=.lst []) S;have nf:=(BB.refl hB).apart S;have P0:PL (upd H j (.lst [])) j [] []:=⟨qb,.nil⟩;generalize upd H j (.lst [])=H0 at b0 P0;ext;refine viLst ?_;ext;refine ⟨lt,_,rfl,.of (b0.1 _ _ n2 hI.1),ju (xs:=ts.map V.ref) (fun i σ J=>∃ (x4 x5 x6:Option V) (us:List Addr) (tps:List (Str×Str)),σ=[some (.ref p),some (.ref ln),some (.ref lt),some (.ref j),x4,x5,x6]/\BB p H J/\PL J j us tps/\All2 (NmP ss) (TI.take i) tps)
   ⟨none,none,none,[],[],rfl,b0,P0,by rw [ke];exact .nil⟩ (fun i σ J _ hp=>by obtain ⟨_,_,_,_,_,_,b,_⟩:=hp;exact .of (b.1 _ _ n2 hI.1)) (fun i y σ J hy hp=>?_) fun σ J hp=>?_⟩
  .obtain ⟨x4,x5,x6,us,tps,rfl,N,hP,O⟩:=hp;rw [yd] at hy;obtain ⟨t,ht,rfl⟩:=yn.mp hy;have hi:i<TI.length:=by rw [<- hI.2.len];exact (yc.mp ht).1
   obtain ⟨qq,Z⟩:∃ q,TI[i]?=some q:=⟨_,yb hi⟩;have et:=N.tup hB (hI.2.at_ i t qq ht Z);have as:TI.take (i+1)=TI.take i++[qq]:=by rw [yK,Z];rfl
   have hq:=hJ.2.1 qq (ye Z);obtain ⟨C,aa⟩:∃ s,ss[qq.1]?=some s:=⟨_,yb (by omega)⟩;obtain ⟨D,ac⟩:∃ s,ss[qq.2]?=some s:=⟨_,yb (by omega)⟩;have ag:=N.1 _ _ n1 ah;refine ⟨t,_,rfl,.of et,rfl,_,_,rfl,_,_,rfl,rfl,?_⟩;ext;refine .inl (zc ag (v:=.str C) (qy (by rw [yd,aa];rfl)) ?_);ext;refine .inl (zc ag (v:=.str D) (qy (by rw [yd,ac];rfl)) ?_);refine ⟨by show 2<=sizeLine;decide,fun t1 aq=>?_⟩;have keepP:∀ {J J':Hp},L2.Same J J'->PL J j us tps->PL J' j us tps:=fun s h=>h.same s;have s1:=qL (Sr J) (o:=.tup [.str C,.str D]) aq;have I:=N.same s1;have l:=hP.same s1;have B:upd J t1 (.tup [.str C,.str D]) t1=some (.tup [.str C,.str D]):=qb;generalize upd J t1 (.tup [.str C,.str D])=n at s1 I l B;ext;refine ⟨.inl ⟨rfl,_,SqL.of l.1⟩,?_⟩;ext;refine vU ?_;ext;refine ⟨rfl,t1,_,_,rfl,SqT.of B,fun t2 ar=>?_⟩;have m:=qL (Sr n) (o:=.tup [.str D,.str C]) ar;have e:=I.same m;have a:=l.same m;replace B:=m _ _ B;have c:upd n t2 (.tup [.str D,.str C]) t2=some (.tup [.str D,.str C]):=qb;generalize upd n t2 (.tup [.str D,.str C])=A at m e a B c;ext;refine ⟨by show 2<=sizeLine;decide,fun t3 ai=>?_⟩;have g:=qL (Sr A) (o:=.lst [.ref t1,.ref t2]) ai;have n3:=e.apart ai;have b3:=e.same g;have d:=a.same g;replace B:=g _ _ B;replace c:=g _ _ c;have L:upd A t3 (.lst [.ref t1,.ref t2]) t3=some (.lst [.ref t1,.ref t2]):=qb;generalize upd A t3 (.lst [.ref t1,.ref t2])=J3 at g b3 d B c L;ext;refine ⟨p,2,rfl,b3.2,by decide,by decide,fun r J4 r0 r1 b4=>?_⟩;have G:∀ {u:Addr} {xs:List V},J3 u=some (.tup xs)->J4 u=some (.tup xs):=fun z=>b4.tup b3.2 z;have M:PL J4 j us tps:=⟨b4.1 _ _ nf d.1,d.2.mono fun u ab z=>G z⟩;replace B:=G B;replace c:=G c;replace L:=b4.1 _ _ n3 L;replace b4:=b3.trans b4
   obtain ⟨tt,ab,an,aj,am⟩:∃ (tt:Addr) (ab:Str×Str),atI [V.ref t1,V.ref t2] r=some (.ref tt)/\J4 tt=some (.tup [.str ab.1,.str ab.2])/\NmP ss qq ab:=by
    have ap:r=0\/r=1:=by omega
    rcases ap with rfl | rfl
    .exact ⟨t1,(C,D),rfl,B,.inl ⟨aa,ac⟩⟩
    .exact ⟨t2,(D,C),rfl,c,.inr ⟨aa,ac⟩⟩
   refine .inl (zc L an ?_);refine ⟨j,_,_,rfl,rfl,M.1,by rw [ya,M.2.len,<- O.len,yT];exact qi (by omega),?_⟩;have ae:H j=none:=S;have nt:∀ {u:Addr} {xs:List V},J4 u=some (.tup xs)->u≠j:=fun z w=>by rw [w,M.1] at z;cases z
   refine ⟨_,_,_,us++[tt],tps++[ab],rfl,b4.put ae nf,⟨by rw [qb,yA];rfl,(M.2.mono fun u cd z=>by rw [qe (nt z)];exact z).snoc (by rw [qe (nt aj)];exact aj)⟩,?_⟩;rw [as];exact O.snoc am
  .obtain ⟨x4,x5,x6,us,tps,rfl,N,hP,O⟩:=hp;have e0:(ts.map V.ref).length=TI.length:=by rw [ya,hI.2.len]
   rw [e0,yR] at O;obtain ⟨hg,hE⟩:=qgg hN.nd hJ O;obtain ⟨ao,al⟩:=qgg hN.nd hJ.rev O.revQ;have au:tps.length<=30:=by rw [<- O.len];exact ak
   ext;refine ⟨p,2,rfl,N.2,by decide,by decide,fun r n r0 r1 I=>?_⟩;have l:PL n j us tps:=⟨I.1 _ _ nf hP.1,hP.2.mono fun u ab z=>I.tup N.2 z⟩;replace I:=N.trans I;have af:=I.1 _ _ n1 ah;ext;refine qa4 ?_;ext;refine qW (fun h1=>?_) fun h1=>?_
   .ext;refine .inl ⟨ln,_,rfl,.inl (SqL.of af),fun l2 U=>?_⟩;have m:=qL (Sr n) (o:=.lst (ss.map V.str)) U;have c:upd n l2 (.lst (ss.map V.str)) l2=some (.lst (ss.map V.str)):=qb;have e:=I.same m;have a:=l.same m;generalize upd n l2 (.lst (ss.map V.str))=A at m c e a;ext;refine qgv ?_;ext;refine vU ?_;ext;refine ⟨rfl,j,_,rfl,SqL.of a.1,fun l3 X=>?_⟩;have g:=qL (Sr A) (o:=.lst (us.map V.ref).reverse) X;have L:upd A l3 (.lst (us.map V.ref).reverse) l3=some (.lst (us.reverse.map V.ref)):=by rw [qb,kL]
    replace c:=g _ _ c;have d:=a.same g;replace e:=e.same g;generalize upd A l3 (.lst (us.map V.ref).reverse)=J3 at g c L e d;ext;intro x dx hx R Y;refine qfn (p:=p) (.inl c) hN ⟨.inl L,d.2.revQ⟩ ao hx R Y e.2 fun ns H2 sH W ad=>⟨rfl,?_⟩;exact q x ns _ H2 (e.same sH) W ad al.rev
   .ext;refine ⟨ln,_,rfl,.inl ⟨SqL.of af,fun l2 U=>?_⟩⟩;have m:=qL (Sr n) (o:=.tup (ss.map V.str)) U;have c:upd n l2 (.tup (ss.map V.str)) l2=some (.tup (ss.map V.str)):=qb;have e:=I.same m;have a:=l.same m;generalize upd n l2 (.tup (ss.map V.str))=A at m c e a;ext;refine ⟨j,_,rfl,.inl ⟨SqL.of a.1,fun l3 X=>?_⟩⟩;have g:=qL (Sr A) (o:=.tup (us.map V.ref)) X;have L:upd A l3 (.tup (us.map V.ref)) l3=some (.tup (us.map V.ref)):=qb;replace c:=g _ _ c;have d:=a.same g;replace e:=e.same g;generalize upd A l3 (.tup (us.map V.ref))=J3 at g c L e d;ext;intro x dx hx R Y;refine qfn (p:=p) (.inr c) hN ⟨.inr L,d.2⟩ hg hx R Y e.2 fun ns H2 sH W ad=>⟨rfl,?_⟩;exact q x ns _ H2 (e.same sH) W ad hE
theorem K2:FnScope ["_law_size","_law_ties","_law_found","_law_k"] ["_law_size","_law_ties"] (qh zC):=fS
theorem ipl_in {a:Addr} {TI:List (Nat×Nat)} {Q:VK} (h:IPL H l ts TI) (m:H a=some (iT q0)) (q:Q (.bl (decide (q0∈TI))) H):qeR K false (.ref a) (.ref l) H Q:=by
 classical
 refine .inr (.inr ⟨l,ts.map V.ref,fun z=>decide (∃ t,z=.ref t/\H t=some (iT q0)),1,rfl,SqL.of h.1,by decide,fun z hz=>?_,?_⟩)
 .obtain ⟨b,hb,rfl⟩:=Ye.mp hz;obtain ⟨q',_,r⟩:=h.2.mem hb;have e:=qcT (K:=K) r m
  have j:decide (∃ t,V.ref b=.ref t/\H t=some (iT q0))=decide (q'=q0):=by
   apply Yr.mpr;constructor
   .rintro ⟨t,f,c⟩;cases f;rw [r] at c;exact qcS c
   .rintro rfl;exact ⟨b,rfl,r⟩
  show EqD K H 1 (.ref b) (.ref a) (decide (∃ t,V.ref b=.ref t/\H t=some (iT q0)));rw [j];exact e
 .have e:((ts.map V.ref).any fun z=>decide (∃ t,z=.ref t/\H t=some (iT q0)))=decide (q0∈TI):=by
   rw [Yb,Yo,yJ];constructor
   .rintro ⟨z,hz,e⟩;obtain ⟨t,o,rfl⟩:=Ye.mp hz;obtain ⟨q',g,r⟩:=h.2.mem o;obtain ⟨t',f,c⟩:=yk e;cases f;rw [r] at c;have:q'=q0:=qcS c;rw [<- this];exact g
   .intro n;obtain ⟨k,i,e⟩:=xB n;have d:k<ts.length:=by rw [h.2.len];exact i
    have r:=h.2.at_ k ts[k] TI[k] (yb d) (yb i);exact ⟨.ref ts[k],Ye.mpr ⟨_,YT d,rfl⟩,yM ⟨ts[k],rfl,by rw [r,e]⟩⟩
  rw [yy (by decide),e];exact q
noncomputable def nbQ (TI:List (Nat×Nat)) (n k:Nat):List Nat:=(List.range n).filter fun j=>decide ((min j k,max j k)∈TI)
theorem qbc {TI:List (Nat×Nat)} {k:Nat} (h:j∈nbQ TI n k):j<n:=YJ.mp (yp.mp h).1
theorem qcc (TI:List (Nat×Nat)) (n k:Nat):(nbQ TI n k).length<=n:=yi (yF _ _) (by rw [YI];exact yh _)
def BsL (H:Hp) (l:Addr) (b:List Addr) (TI:List (Nat×Nat)) (n:Nat):Prop:=H l=some (.lst (b.map V.ref))/\All2 (fun a k=>H a=some (.lst ((nbQ TI n k).map iV))) b (List.range n)
theorem BsL.same {a:List Addr} {TI:List (Nat×Nat)} (h:BsL H l a TI n) (s:L2.Same H H'):BsL H' l a TI n:=⟨s _ _ h.1,h.2.mono fun _ _ z=>s _ _ z⟩
inductive spBsQ (vs:List V) (H:Hp) (Q:VK) (E:XK):Prop|mk (lt:Addr) (n:Nat) (ts:List Addr) (TI:List (Nat×Nat)) (_:vs=[.int (n:Int),.ref lt]) (_:n<=7) (_:IPL H lt ts TI) (_:∀ (l:Addr) (ls:List Addr) (H':Hp),L2.Same H H'->H l=none->(∀ a∈ls,H a=none)->BsL H' l ls TI n->Q (.ref l) H')
theorem ok_bsQ (F:Fun K "_law_beside" "_law_beside" zC f fd) (T:Txt K mg cc cw):FnOk P w K mg base CX0 1 f fd ["_law_size","_law_ties"] spBsQ:=by
 refine F.ok K2 fun _ _ _ _ H vs Q E Z h=>?_
 .obtain ⟨lt,n,ts,TI,rfl,n7,X,q⟩:=h;have hu:=jS Z;refine ⟨_,(qc (qo (i:=2) K2.nd rfl (yO rfl) (qP qd))
 (qc (jl y0 rfl (jj rfl T.b_range (qa (pv 0) qd)) (qr (i:=3) K2.nd rfl (Xi rfl))
 (qf (qI (qbf (K:=K) rfl yL yY yZ qN (pv 2) (qa (jh (sc:=qh zC) (XN:=["_law_size","_law_ties","_law_found","_law_k"]) ["_law_j","_law_ties","_law_k"] 1 [1,3] rfl rfl rfl (by decide +kernel) rfl (by decide +kernel)
  (jj rfl T.b_range (qa (pv 0) qd)) (fun _ _ _ _=>(qr (i:=0) (show (["_law_j","_law_ties","_law_k"]:List Str).Nodup by decide +kernel) rfl (yO rfl))) qR
  (fun _ _ _ _=>(q9 (qj (zT (K:=K) rfl hu) (jp (qa (qk (qaJ rfl) rfl T.b_min boot_min (qa (pv 0) (qa (pv 2) qd))) (qa (qk (qaI rfl) rfl T.b_max boot_max (qa (pv 0) (qa (pv 2) qd))) qd))) (pv 1) (by with_unfolding_all rfl))))
  (fun _ _ _ _=>(pv 0))) qd)))))
 (qf (qp (pv 2))))),?_⟩
  ext;refine ⟨by decide,fun l hl=>?_⟩;have R:=qL (Sr H) (o:=.lst []) hl;have M:upd H l (.lst []) l=some (.lst []):=qb;generalize upd H l (.lst [])=H0 at R M;ext;refine ⟨_,rfl,by omega,by omega,jF (fun i σ J=>∃ (L:Option V) (c:List Addr),σ=[some (.int (n:Int)),some (.ref lt),some (.ref l),L]/\L2.Same H J/\J l=some (.lst (c.map V.ref))/\All2 (fun a k=>J a=some (.lst ((nbQ TI n k).map iV))/\a≠l/\H a=none) c (List.range i))
   ⟨none,[],rfl,R,M,.nil⟩ (fun i σ J hi C=>?_) fun σ J C=>?_⟩
  .obtain ⟨L,c,rfl,x,d,e⟩:=C;have Y:i<n:=by omega
   ext;refine ⟨.inl ⟨rfl,_,SqL.of d⟩,?_⟩;ext;refine ⟨_,rfl,by omega,by omega,zx (lo:=0) (fun j ys G=>L2.Same J G/\ys=(((List.range j).filter fun j=>decide ((min j i,max j i)∈TI)).map iV)) ⟨L2.Same.refl J,rfl⟩ (fun j ys G hj D=>?_) fun ys G D=>?_⟩
   .obtain ⟨u,rfl⟩:=D;have W:(0:Int)+(j:Int)=(j:Int):=Xx _;have U:(0:Int)+(i:Int)=(i:Int):=Xx _;ext;refine ⟨_,_,rfl,?_⟩;ext;refine ⟨_,_,rfl,?_⟩;rw [W,U];have z1:(if (i:Int)<(j:Int) then (i:Int) else (j:Int))=((min j i:Nat):Int):=by split<;>omega
    have z2:(if (i:Int)>(j:Int) then (i:Int) else (j:Int))=((max j i:Nat):Int):=by split<;>omega
    rw [z1];ext;rw [z2];refine ⟨by show 2<=sizeLine;decide,fun t ht=>?_⟩;have y:=qL u (o:=iT (min j i,max j i)) ht;have O:upd G t (iT (min j i,max j i)) t=some (iT (min j i,max j i)):=qb;have B:upd G t (.tup [.int ((min j i:Nat):Int),.int ((max j i:Nat):Int)])=upd G t (iT (min j i,max j i)):=rfl;rw [B];generalize upd G t (iT (min j i,max j i))=S at y O;ext;refine ipl_in (X.same (x.trans y)) O ?_;ext
    have I:(List.range (j+1)).filter (fun j=>decide ((min j i,max j i)∈TI))=(List.range j).filter (fun j=>decide ((min j i,max j i)∈TI))++(if (min j i,max j i)∈TI then [j] else []):=by
     rw [xT,y9,yS,Yj];simp only [xv]
    have g:((List.range j).filter (fun j=>decide ((min j i,max j i)∈TI))).length<=j:=yi (yF _ _) (by rw [YI];exact yh _);rw [I];refine qW (fun h=>?_) fun h=>?_
    .rw [yD (yk h)];ext;exact ⟨by rw [ya];exact qi (by omega),y,by rw [yA];rfl⟩
    .rw [yy (fun z=>h (yM z)),Yc];exact ⟨y,rfl⟩
   .obtain ⟨u,rfl⟩:=D;have g:((List.range ((n:Int)).toNat).filter (fun j=>decide ((min j i,max j i)∈TI))).length<=n:=yi (yF _ _) (by rw [YI,Ym];exact yh _);refine ⟨by rw [ya];exact yX (qi (by omega)),fun m p=>?_⟩;rw [Ym];have b:=qL u (o:=.lst ((nbQ TI n i).map iV)) p;have N:upd G m (.lst ((nbQ TI n i).map iV)) m=some (.lst ((nbQ TI n i).map iV)):=qb;have B:upd G m (.lst (((List.range n).filter fun j=>decide ((min j i,max j i)∈TI)).map iV))=upd G m (.lst ((nbQ TI n i).map iV)):=rfl;rw [B];generalize upd G m (.lst ((nbQ TI n i).map iV))=S at b N;have A:=b _ _ d;have s:m≠l:=fun z=>by rw [z] at p;rw [u _ _ d] at p;cases p
    refine ⟨l,_,_,rfl,rfl,A,by rw [ya,e.len,YI];exact qi (by omega),?_⟩;refine ⟨_,c++[m],rfl,qaz (x.trans b) hl,by rw [qb,yA];rfl,?_⟩;rw [xT];exact (e.mono fun a k z=>⟨by rw [qe z.2.1];exact b _ _ z.1,z.2⟩).snoc ⟨by rw [qe s];exact N,s,(x.trans u).free p⟩
  .obtain ⟨L,c,rfl,x,d,e⟩:=C;ext;exact q l c J x hl (fun v hv=>by obtain ⟨k,_,r⟩:=e.mem hv;exact r.2.2) ⟨d,e.mono fun _ _ z=>z.1⟩
theorem Kx:FnScope ["_law_beside_here","_law_many","_law_wins","_law_bits","_law_at","_law_free"] ["_law_beside_here"] (qh ze):=fS
noncomputable def wF (nb:Nat->List Nat):Nat->Nat->Nat->Bool
 | 0,_,_=>false
 | f+1,b,a=>(nb a).any fun k=>!(b.testBit k)&&!(wF nb f (b ||| 2 ^ k) k)
theorem qeI {b k:Nat} (h:b.testBit k=false):b<b ||| 2 ^ k:=by
 rcases Kc b (b ||| 2 ^ k) with z | z
 .exact z
 .have h1:=k7 (n:=b) (m:=2 ^ k);have e:b ||| 2 ^ k=b:=by omega
  have:=congrArg (fun x=>x.testBit k) e;simp [h] at this
theorem qdZ {b k:Nat} (h:b<2 ^ n) (a:k<n):b ||| 2 ^ k<2 ^ n:=kq h (XJ (by decide) a)
theorem qfJ (d:∀ a,∀ k∈nb a,k<n):∀ (f g b a:Nat),b<2 ^ n->2 ^ n-b<=f->2 ^ n-b<=g->wF nb f b a=wF nb g b a
 | 0,g,b,a,h,h1,_=>by omega
 | f+1,0,b,a,h,_,h2=>by omega
 | f+1,g+1,b,a,h,h1,h2=>by
  unfold wF;rw [Yb,Yo,Yo]
  have key:∀ k∈nb a,(!(b.testBit k)&&!(wF nb f (b ||| 2 ^ k) k))=(!(b.testBit k)&&!(wF nb g (b ||| 2 ^ k) k)):=fun k c=>by
   cases e:b.testBit k with
   | true=>rfl
   | false =>
    have i:=qeI e;rw [qfJ d f g (b ||| 2 ^ k) k (qdZ h (d a k c)) (by omega) (by omega)]
  exact ⟨fun ⟨k,c,e⟩=>⟨k,c,by rw [<- key k c];exact e⟩,fun ⟨k,c,e⟩=>⟨k,c,by rw [key k c];exact e⟩⟩
noncomputable def wQ (nb:Nat->List Nat) (n b a:Nat):Bool:=wF nb (2 ^ n) b a
theorem qfK (d:∀ a,∀ k∈nb a,k<n) {b a:Nat} (i:0<b) (h:b<2 ^ n):wQ nb n b a=(nb a).any fun k=>!(b.testBit k)&&!(wQ nb n (b ||| 2 ^ k) k):=by
 have e:wQ nb n b a=wF nb (2 ^ n-1+1) b a:=qfJ d _ _ b a h (by omega) (by omega);rw [e];show ((nb a).any fun k=>!(b.testBit k)&&!(wF nb (2 ^ n-1) (b ||| 2 ^ k) k))=_
 have key:∀ k∈nb a,(!(b.testBit k)&&!(wF nb (2 ^ n-1) (b ||| 2 ^ k) k))=(!(b.testBit k)&&!(wQ nb n (b ||| 2 ^ k) k)):=fun k c=>by
  cases e:b.testBit k with
  | true=>rfl
  | false =>
   have g:=qeI e;have f:wF nb (2 ^ n-1) (b ||| 2 ^ k) k=wQ nb n (b ||| 2 ^ k) k:=qfJ d _ _ _ k (qdZ h (d a k c)) (by omega) (by omega);rw [f]
 rw [Yb,Yo,Yo];exact ⟨fun ⟨k,c,e⟩=>⟨k,c,by rw [<- key k c];exact e⟩,fun ⟨k,c,e⟩=>⟨k,c,by rw [key k c];exact e⟩⟩
noncomputable abbrev kT (b a:Nat):List Key:=[Sum.inl (b:Int),Sum.inl (a:Int)]
theorem kT_inj {b a c d:Nat}:kT b a=kT c d↔b=c/\a=d:=by
 constructor
 .intro e
  injection e with e1 e2
  injection e1 with e1
  injection e2 with e2 _
  injection e2 with e2
  omega
 .rintro ⟨rfl,rfl⟩;rfl
def SvD (nb:Nat->List Nat) (n:Nat) (kvs:List (List Key×V)) (m j:Nat):Prop:=∀ b a,0<b->b<2 ^ n->a<n->b.testBit a=true->(m<b\/(b=m/\a<j))->jP kvs (kT b a)=some (.bl (wQ nb n b a))
theorem SvD.put (h:SvD nb n kvs m j):SvD nb n (zr kvs (kT m j) (.bl (wQ nb n m j))) m (j+1):=fun b a c h1 d f g=>by
 rw [qak];by_cases e:kT b a=kT m j
 .obtain ⟨rfl,rfl⟩:=kT_inj.mp e;rw [yD rfl]
 .rw [yy e];refine h b a c h1 d f ?_;rcases g with z | ⟨z1,z2⟩
  .exact .inl z
  .refine .inr ⟨z1,?_⟩;have:a≠j:=fun z=>e (kT_inj.mpr ⟨z1,z⟩);omega
theorem SvD.skip (h:SvD nb n kvs m j) (hb:m.testBit j=false):SvD nb n kvs m (j+1):=fun b a d h1 e c f=>by
 refine h b a d h1 e c ?_;rcases f with z | ⟨z1,z2⟩
 .exact .inl z
 .refine .inr ⟨z1,?_⟩;have:a≠j:=fun z=>by rw [z,z1] at c;rw [c] at hb;cases hb
  omega
theorem SvD.next (h:SvD nb n kvs (m+1) n):SvD nb n kvs m 0:=fun b a d h1 c f g=>by
 refine h b a d h1 c f ?_;rcases g with z | ⟨_,z⟩
 .by_cases e:b=m+1
  .exact .inr ⟨e,c⟩
  .exact .inl (by omega)
 .omega
inductive spSvQ (vs:List V) (H:Hp) (Q:VK) (E:XK):Prop|mk (lb:Addr) (ls:List Addr) (TI:List (Nat×Nat)) (n:Nat) (_:vs=[.ref lb]) (_:BsL H lb ls TI n) (_:n<=7) (_:∀ (d:Addr) (kvs:List (List Key×V)) (H':Hp),L2.Same H H'->H' d=some (.dT kvs)->SvD (nbQ TI n) n kvs 0 0->Q (.ref d) H')
theorem qeJ (m j:Nat):decide (Builtin.bitAnd ((m:Int) / 2 ^ (j:Int).toNat) 1=0)=!m.testBit j:=by
 rw [PyProof.Rows.bitAnd_m1,Nat.testBit_eq_decide_div_mod_eq];rw [Ym];have e:(m:Int) / 2 ^ j=((m / 2 ^ j:Nat):Int):=by rw [Int.natCast_ediv,Xm];rfl
 rw [e];generalize m / 2 ^ j=x;rw [Yb,Y5,yJ,xM];omega
theorem qeK {z:Addr} {xs:List Nat} {Q:VK} (hl:H l=some (.lst (xs.map iV))) (hz:H z=some (.lst [])) (q:Q (.bl (!xs.isEmpty)) H):qe0 K true (.ref l) (.ref z) H Q:=by
 cases xs with
 | nil=>exact .inr (.inl ⟨l,z,true,1,rfl,rfl,by decide,EqT.lst (n:=0) (e:=fun _=>true) (SqL.of hl) (SqL.of hz) rfl fun j x y h=>by (simp at h),q⟩)
 | cons x r=>exact .inr (.inl ⟨l,z,false,1,rfl,rfl,by decide,EqT.lstL (SqL.of hl) (SqL.of hz) (by simp),q⟩)
theorem flat_ints (l:List Nat):(l.map iV).all zV=true:=YS.mpr fun v hv=>by
 obtain ⟨k,_,rfl⟩:=Ye.mp hv;rfl
theorem ok_svQ (F:Fun K "_law_solved" "_law_solved" ze f fd) (T:Txt K mg cc cw):FnOk P w K mg base CX0 1 f fd ["_law_beside_here"] spSvQ:=by
 refine F.ok Kx fun _ _ _ _ H vs Q E hr h=>?_
 .obtain ⟨lb,ls,TI,n,rfl,hB,n7,q⟩:=h;have S:=jS hr;have ao:ls.length=n:=by rw [hB.2.len,YI]
  have p7:2 ^ n<=128:=Nat.pow_le_pow_right (by decide) n7;have p0:0<2 ^ n:=Nat.two_pow_pos n;refine ⟨_,(qc (qo (i:=1) Kx.nd rfl (yO rfl) (qk (zh (K:=K) rfl) rfl T.b_len YO (qa (pv 0) qd)))
 (qc (qo (i:=2) Kx.nd rfl (Xi rfl) pe_dnewT)
 (qc (jl y0 rfl (pi_down rfl T.b_range (qa (qE zS (qE qbN qg (pv 1)) qg) (qa qg (qa (qav j5 qg) qd)))) (qr (i:=3) Kx.nd rfl (Xi rfl))
 (qf (jl y0 rfl (jj rfl T.b_range (qa (pv 1) qd)) (qr (i:=4) Kx.nd rfl (yO rfl))
 (qf (qV (qj (zi (K:=K) rfl S) (qE qdr (qE qdq (pv 3) (pv 4)) qg) qg (qC _)) (qc (zX (sc:=qh ze) (XN:=["_law_beside_here","_law_many","_law_wins","_law_bits","_law_at","_law_free"]) ["_law_k","_law_bits"] 1 [3] rfl rfl rfl (by decide +kernel) rfl (by decide +kernel) (i:=5) Kx.nd rfl rfl
  (qT (K:=K) rfl (qt (qu (K:=K) rfl S) (pv 0) (pv 4) (fun _ _=>rfl))) (fun _ _ _ _=>(qr (i:=0) (show (["_law_k","_law_bits"]:List Str).Nodup by decide +kernel) rfl (yO rfl))) qR
  (fun _ _ _ _=>(q9 (qj (zi (K:=K) rfl S) (qE qdr (qE qdq (pv 1) (pv 0)) qg) qg (qC _))))
  (fun _ _ _ _=>(pv 0)))
 (qf (jN (jE (zZ (K:=K) rfl S) (jh (sc:=qh ze) (XN:=["_law_beside_here","_law_many","_law_wins","_law_bits","_law_at","_law_free"]) ["_law_k","_law_wins","_law_bits"] 1 [2,3] rfl rfl rfl (by decide +kernel) rfl (by decide +kernel)
  (qT (K:=K) rfl (pv 5)) (fun _ _ _ _=>(qr (i:=0) (show (["_law_k","_law_wins","_law_bits"]:List Str).Nodup by decide +kernel) rfl (yO rfl))) qR
  (fun _ _ _ _=>(q9 (jf (qZ (qt (qu (K:=K) rfl S) (pv 1) (jp (qa (qE qeW (pv 2) (qE qbN qg (pv 0))) (qa (pv 0) qd))) (fun _ _=>rfl))))))
  (fun _ _ _ _=>(pv 0))) (qP qd) (qC _)) (jV (pv 2) (jp (qa (pv 3) (qa (pv 4) qd))) (jW S))))) qx)))))
 (qf (qp (pv 2)))))),?_⟩
  ext;refine zY (SqL.of hB.1) ?_;rw [ya,ao];ext;intro d hd;have s0:=qL (Sr H) (o:=.dT []) hd;have e0:upd H d (.dT []) d=some (.dT []):=qb;generalize upd H d (.dT [])=H0 at s0 e0;ext;refine vDown ?_;ext;refine vI ⟨by omega,by omega,by decide⟩ ?_;ext;refine vU ?_;ext
  have eN:(1*2 ^ ((n:Int)).toNat-1:Int)=((2 ^ n-1:Nat):Int):=by
   rw [Ym,Int.one_mul];have:((2 ^ n:Nat):Int)=(2:Int) ^ n:=by rw [Xm];rfl
   omega
  generalize hN:2 ^ n-1=N at eN;refine ⟨N,by rw [eN],by omega,for_down (fun i σ J=>∃ (x3 O R:Option V) (kvs:List (List Key×V)),σ=[some (.ref lb),some (.int (n:Int)),some (.ref d),x3,O,R]/\L2.Same H J/\J d=some (.dT kvs)/\SvD (nbQ TI n) n kvs (N-i) 0/\kvs.length<=7*i)
   ⟨none,none,none,[],rfl,s0,e0,fun b a h0 h1 h2 h3 h4=>by omega,yh _⟩ (fun i σ J hi L=>?_) fun σ J L=>?_⟩
  .obtain ⟨x3,O,R,kvs,rfl,z,A,u,p⟩:=L;obtain ⟨m,hm⟩:∃ m,N-i=m:=⟨_,rfl⟩;have ap:0<m:=by omega
   have ac:m<2 ^ n:=by omega
   have em:(N:Int)-(i:Int)=(m:Int):=by omega
   rw [em];rw [hm] at u;ext;refine ⟨_,rfl,by omega,by omega,jF (fun j σ J=>∃ (O R:Option V) (kvs:List (List Key×V)),σ=[some (.ref lb),some (.int (n:Int)),some (.ref d),some (.int (m:Int)),O,R]/\L2.Same H J/\J d=some (.dT kvs)/\SvD (nbQ TI n) n kvs m j/\kvs.length<=7*i+j)
    ⟨_,_,kvs,rfl,z,A,u,by omega⟩ (fun j σ J hj L=>?_) fun σ J L=>?_⟩
   .obtain ⟨O,R,kvs,rfl,z,A,u,p⟩:=L;have ak:j<n:=by omega
    rw [Xx];ext;refine vI (by omega) ?_;ext;refine qa4 ?_;rw [qb5];ext;refine qW (fun hb=>?_) fun hb=>⟨_,_,kvs,rfl,z,A,u.skip (by simpa using hb),by omega⟩;have Y:=hB.same z;obtain ⟨la,aa⟩:∃ a,ls[j]?=some a:=⟨_,yb (by omega)⟩;have C:=Y.2.at_ j la j aa (X5 ak);generalize I:nbQ TI n j=l at C;have ah:l.length<=7:=by rw [<- I];exact yi (qcc _ _ _) n7
    have Z:∀ k∈l,k<n:=fun k x=>qbc (by rw [I];exact x);ext;refine .inl (zc Y.1 (v:=.ref la) (qy (by rw [yd,aa];rfl)) ?_);refine .inl ⟨⟨_,.of C⟩,qK (xs:=l.map iV) (fun k ys G=>G=J/\ys=((l.take k).filter fun k=>!m.testBit k).map iV) ⟨rfl,rfl⟩ (fun k ys G _ c=>by rw [c.1];exact .of C) (fun k y ys G hy c=>?_) fun ys G c=>?_⟩
    .obtain ⟨rfl,rfl⟩:=c;rw [yd] at hy;obtain ⟨v,hv,rfl⟩:=yn.mp hy;have al:k<l.length:=(yc.mp hv).1
     have M:(l.take (k+1)).filter (fun k=>!m.testBit k)=(l.take k).filter (fun k=>!m.testBit k)++(if (!m.testBit v)=true then [v] else []):=by
      rw [yK,hv,y9];show _++[v].filter _=_;rw [yS,Yj]
     have ai:((l.take k).filter (fun k=>!m.testBit k)).length<=k:=yi (yF _ _) (by rw [yT];omega);ext;refine vI (by show (0:Int)<=(v:Int);omega) ?_;ext;refine qa4 ?_;rw [qeJ,M];ext;refine qW (fun h=>?_) fun h=>?_
     .rw [yD h];ext;exact ⟨by rw [ya];exact qi (by omega),rfl,by rw [yA];rfl⟩
     .rw [yy h,Yc];exact ⟨rfl,rfl⟩
    .obtain ⟨rfl,rfl⟩:=c;have e1:(l.map iV).length=l.length:=ya _;rw [e1,yR];generalize D:l.filter (fun k=>!m.testBit k)=g;have ae:g.length<=7:=by rw [<- D];exact yi (yF _ _) ah
     have af:∀ k∈g,k<n/\m.testBit k=false:=fun k x=>by
      rw [<- D] at x;obtain ⟨z1,z2⟩:=yp.mp x;exact ⟨Z k z1,by simpa using z2⟩
     refine ⟨by rw [ya];exact yX (qi (by omega)),fun fr aj=>?_⟩;have s2:=qL (Sr G) (o:=.lst (g.map iV)) aj;have B:upd G fr (.lst (g.map iV)) fr=some (.lst (g.map iV)):=qb;generalize upd G fr (.lst (g.map iV))=J2 at s2 B;have aq:=z.trans s2;have W:=s2 _ _ A;ext;refine .inl ⟨⟨_,.of B⟩,qK (xs:=g.map iV) (fun k ys G=>L2.Same J2 G/\ys=((g.take k).filter fun k=>!wQ (nbQ TI n) n (m ||| 2 ^ k) k).map iV) ⟨L2.Same.refl J2,rfl⟩ (fun k ys G _ c=>.of (c.1 _ _ B)) (fun k y ys G hy c=>?_) fun ys G c=>?_⟩
     .obtain ⟨sG,rfl⟩:=c;rw [yd] at hy;obtain ⟨v,hv,rfl⟩:=yn.mp hy;have al:k<g.length:=(yc.mp hv).1;obtain ⟨v1,v2⟩:=af v (ye hv)
      have M:(g.take (k+1)).filter (fun k=>!wQ (nbQ TI n) n (m ||| 2 ^ k) k)=(g.take k).filter (fun k=>!wQ (nbQ TI n) n (m ||| 2 ^ k) k)++(if (!wQ (nbQ TI n) n (m ||| 2 ^ v) v)=true then [v] else []):=by
       rw [yK,hv,y9];show _++[v].filter _=_;rw [yS,Yj]
      have ai:((g.take k).filter (fun k=>!wQ (nbQ TI n) n (m ||| 2 ^ k) k)).length<=k:=yi (yF _ _) (by rw [yT];omega);ext;refine vI ⟨by show (0:Int)<=(v:Int);omega,by show (v:Int)<=1000000;omega,by decide⟩ ?_;ext;rw [qdH];refine ⟨by show 2<=sizeLine;decide,fun t ht=>?_⟩;have s3:=qL sG (o:=.tup [.int ((m ||| 2 ^ v:Nat):Int),.int (v:Int)]) ht;have X:upd G t (.tup [.int ((m ||| 2 ^ v:Nat):Int),.int (v:Int)]) t=some (.tup ((kT (m ||| 2 ^ v) v).map kV)):=qb;generalize upd G t (.tup [.int ((m ||| 2 ^ v:Nat):Int),.int (v:Int)])=G2 at s3 X;have gt:=qeI v2;have s:=u (m ||| 2 ^ v) v (by omega) (qdZ ac v1) v1 (by rw [Xc,Nat.testBit_two_pow_self,Bool.or_true]) (.inl gt);have dg:=DGet.t (k:=kT (m ||| 2 ^ v) v) (s3 _ _ W) X;rw [s] at dg;refine .inr ⟨d,_,rfl,dg,?_⟩;rw [M];ext;refine qW (fun h=>?_) fun h=>?_
      .rw [yD h];ext;exact ⟨by rw [ya];exact qi (by omega),s3,by rw [yA];rfl⟩
      .rw [yy h,Yc];exact ⟨s3,rfl⟩
     .obtain ⟨sG,rfl⟩:=c;have e2:(g.map iV).length=g.length:=ya _;rw [e2,yR]
      have s:(!(g.filter fun k=>!wQ (nbQ TI n) n (m ||| 2 ^ k) k).isEmpty)=wQ (nbQ TI n) n m j:=by
       rw [qfK (fun a k x=>qbc x) ap ac,I,<- D,Yb,Y5,Yo];constructor
       .intro h
        cases e:(l.filter fun k=>!m.testBit k).filter fun k=>!wQ (nbQ TI n) n (m ||| 2 ^ k) k with
        | nil=>rw [e] at h;cases h
        | cons k r =>
         have x:k∈(l.filter fun k=>!m.testBit k).filter fun k=>!wQ (nbQ TI n) n (m ||| 2 ^ k) k:=by rw [e];exact yN
         obtain ⟨z1,z2⟩:=yp.mp x;obtain ⟨z3,z4⟩:=yp.mp z1;exact ⟨k,z3,by rw [z4,z2];rfl⟩
       .rintro ⟨k,x,e⟩;obtain ⟨z1,z2⟩:=(yU _ _).mp e;have hm:k∈(l.filter fun k=>!m.testBit k).filter fun k=>!wQ (nbQ TI n) n (m ||| 2 ^ k) k:=yp.mpr ⟨yp.mpr ⟨x,z1⟩,z2⟩
        cases e:(l.filter fun k=>!m.testBit k).filter fun k=>!wQ (nbQ TI n) n (m ||| 2 ^ k) k with
        | nil=>rw [e] at hm;cases hm
        | cons k r=>rfl
      have ag:(g.filter fun k=>!wQ (nbQ TI n) n (m ||| 2 ^ k) k).length<=7:=yi (yF _ _) ae;generalize (g.filter fun k=>!wQ (nbQ TI n) n (m ||| 2 ^ k) k)=LL at s ag;refine ⟨by rw [ya];exact yX (qi (by omega)),fun l3 am=>?_⟩;have s4:=qL sG (o:=.lst (LL.map iV)) am;have U:upd G l3 (.lst (LL.map iV)) l3=some (.lst (LL.map iV)):=qb;generalize upd G l3 (.lst (LL.map iV))=G3 at s4 U;ext;refine ⟨by decide,fun l4 an=>?_⟩;have s5:=qL (Sr G3) (o:=.lst []) an;have e4:upd G3 l4 (.lst []) l4=some (.lst []):=qb;replace U:=s5 _ _ U;generalize upd G3 l4 (.lst [])=G4 at s5 U e4;ext;refine qeK U e4 ?_;rw [s];ext;refine ⟨by show 2<=sizeLine;decide,fun t ht=>?_⟩;have s6:=qL s5 (o:=.tup [.int (m:Int),.int (j:Int)]) ht;have X:upd G4 t (.tup [.int (m:Int),.int (j:Int)]) t=some (.tup ((kT m j).map kV)):=qb;generalize upd G4 t (.tup [.int (m:Int),.int (j:Int)])=G5 at s6 X;have sA:=(aq.trans s4).trans s6;have ad:=(s4.trans s6) _ _ W;refine .inr ⟨d,_,rfl,DPut.t (k:=kT m j) ad X (qi (by omega)),?_⟩;refine ⟨_,_,_,rfl,qaz sA hd,qb,u.put,?_⟩;have:=jr kvs (kT m j) (.bl (wQ (nbQ TI n) n m j));omega
   .obtain ⟨O,R,kvs,rfl,z,A,u,p⟩:=L;rw [Ym] at u p;refine ⟨_,_,_,kvs,rfl,z,A,?_,by omega⟩;have e:N-(i+1)+1=m:=by omega
    rw [<- e] at u;exact u.next
  .obtain ⟨x3,O,R,kvs,rfl,z,A,u,p⟩:=L;ext;rw [Xw] at u;exact q d kvs J z A u
section
variable {tps:List (Str×Str)}
theorem qdh (j:∀ a b,tA tps a b->a≠b) {l:List Str} (g:l.Nodup) (p:l.Perm l') (h1:l.length<=n) (h:l'.length<=m):mo tps n l=mo tps m l':=by
 have d:∀ {l l':List Str} {n m:Nat},l.Nodup->l.Perm l'->l.length<=n->l'.length<=m->mo tps n l<=mo tps m l':=fun {l l' n m} g p h1 h=>by
  obtain ⟨f,i,c⟩:=qca j n h1 g;have:=qbM j m h (p.nodup_iff.mp g) (f:=f) ⟨i.sym,i.tie,fun a b e=>p.mem_iff.mp (i.inn a b e)⟩;have e:qbe f l=qbe f l':=by unfold qbe;exact (p.filter _).length_eq
  omega
 exact xU (d g p h1 h) (d (p.nodup_iff.mp g) p.symm h h1)
theorem qcd {l:List Str} (b:l.Nodup) (c:y∈l):l.Perm (y::del l y):=by
 refine (List.perm_ext_iff_of_nodup b (yo.mpr ⟨fun z=>(mem_del.mp z).2 rfl,b.filter _⟩)).mpr fun a=>?_;rw [yB,mem_del];constructor
 .intro h;by_cases e:a=y
  .exact .inl e
  .exact .inr ⟨h,e⟩
 .rintro (e | e)
  .rw [e];exact c
  .exact e.1
noncomputable def rmL (ss:List Str) (b:Nat):List Str:=ss.filter fun s=>!b.testBit (ss.idxOf s)
theorem qad (ss:List Str) (b:Nat):(rmL ss b).length<=ss.length:=yF _ _
theorem qeL (d:ss.Nodup) {b k:Nat} (c:ss[k]?=some y):rmL ss (b ||| 2 ^ k)=del (rmL ss b) y:=by
 unfold rmL del;rw [xm];refine YD fun s f=>?_;rw [Xc,xC];have a:ss[ss.idxOf s]?=some s:=by rw [yb (Yg f),Yy]
 have e:decide (k=ss.idxOf s)=decide (s=y):=Yr.mpr ⟨fun z=>by rw [<- z,c] at a;exact (ym a).symm,fun z=>by rw [z] at a;rw [z];exact qw d c a⟩;rw [e,Bool.not_or,Bool.and_comm]
theorem qa6 (c:ss.Nodup) {b k:Nat} (a:ss[k]?=some y):y∈rmL ss b↔b.testBit k=false:=by
 unfold rmL;rw [yp,qbE c a,Y5];exact ⟨fun z=>z.2,fun z=>⟨ye a,z⟩⟩
theorem qdT {TI:List (Nat×Nat)} (b:TJ ss.length TI) (e:TEq ss TI tps) {a k:Nat} (f:ss[a]?=some s) (d:ss[k]?=some y):k∈nbQ TI ss.length a↔tA tps s y:=by
 unfold nbQ;rw [yp,YJ,yJ,e a k s y f d];have c:=(yc.mp d).1;constructor
 .rintro ⟨_,z⟩;rcases Kb a k with l | l
  .rw [XE l,kW l] at z;exact .inl z
  .rw [XW l,kM l] at z;exact .inr z
 .rintro (z | z)
  .have:=(b.2.1 _ z).1;dsimp only at this;exact ⟨c,by rw [XE (by omega),kW (by omega)];exact z⟩
  .have:=(b.2.1 _ z).1;dsimp only at this;exact ⟨c,by rw [XW (by omega),kM (by omega)];exact z⟩
theorem qgx {TI:List (Nat×Nat)} (r:∀ a b,tA tps a b->a≠b) (g:ss.Nodup) (l:TJ ss.length TI) (j:TEq ss TI tps):∀ (d b a:Nat) (s:Str),2 ^ ss.length-b<=d->0<b->b<2 ^ ss.length->ss[a]?=some s ->
  (wQ (nbQ TI ss.length) ss.length b a=true↔mo tps ss.length (rmL ss b)<mo tps (ss.length+1) (s::rmL ss b))
 | 0,b,a,s,h,_,h2,_=>by omega
 | d+1,b,a,s,h,h1,h2,hs=>by
  have q:(rmL ss b).Nodup:=g.filter _;obtain ⟨G,A,B⟩:=qbn (fun y=>1+mo tps ss.length (del (rmL ss b) y)) ((rmL ss b).filter (tB tps s)) (mo tps ss.length (rmL ss b));show _↔_<((rmL ss b).filter (tB tps s)).foldl (fun m y=>max m (1+mo tps ss.length (del (rmL ss b) y))) (mo tps ss.length (rmL ss b))
  have step:∀ {k:Nat} {y:Str},ss[k]?=some y->b.testBit k=false->(wQ (nbQ TI ss.length) ss.length (b ||| 2 ^ k) k=false↔mo tps ss.length (rmL ss b)<=mo tps ss.length (del (rmL ss b) y)):=fun {k y} c hb=>by
   have H:=qeI hb;have f:=(yc.mp c).1;have i:=qgx r g l j d (b ||| 2 ^ k) k y (by omega) (by omega) (qdZ h2 f) c;rw [qeL g c] at i;have D:=(qa6 g c (b:=b)).mpr hb;have e:=qdh r (n:=ss.length) (m:=ss.length+1) q (qcd q D) (qad _ _) (by rw [yC];have:=qaE (rmL ss b) y;have:=qad ss b;omega);rw [<- e] at i
   cases w:wQ (nbQ TI ss.length) ss.length (b ||| 2 ^ k) k with
   | true=>rw [w] at i;have:=i.mp rfl;constructor<;>intro z<;>first | cases z | omega
   | false =>
    rw [w] at i;refine ⟨fun _=>?_,fun _=>rfl⟩;rcases Kc (mo tps ss.length (del (rmL ss b) y)) (mo tps ss.length (rmL ss b)) with z | z
    .have:=i.mpr z;cases this
    .exact z
  rw [qfK (fun a k f=>qbc f) h1 h2,Yo];constructor
  .rintro ⟨k,f,e⟩;obtain ⟨v,x⟩:=(yU _ _).mp e;have o:=qbc f;have c:ss[k]?=some ss[k]:=yb o;generalize ss[k]=y at c;have hb:b.testBit k=false:=by simpa using v
   have E:=A y (yp.mpr ⟨(qa6 g c).mpr hb,tB_iff.mpr ((qdT l j hs c).mp f)⟩);have:=(step c hb).mp (by simpa using x)
   (try dsimp only at E)
   omega
  .intro C;rcases B with z | ⟨y,c,z⟩
   .omega
   .obtain ⟨u,F⟩:=yp.mp c;have p:y∈ss:=(yp.mp u).1;obtain ⟨k,f⟩:=yf p;have hb:=(qa6 g f (b:=b)).mp u
    (try dsimp only at z)
    refine ⟨k,(qdT l j hs f).mpr (tB_iff.mp F),?_⟩;rw [hb,(step f hb).mpr (by omega)];rfl
end
theorem Ut:FnScope ["web"] ["web"] (qh qce):=fS
theorem Uk:FnScope ["web","start"] ["web","start"] (qh qbq):=fS
theorem KW:FnScope ["web","free","hands","place"] ["web"] (qh qaX):=fS
theorem Wt.ir (W:Wt cw H x ss ns tps):∀ a b,tA tps a b->a≠b:=fun a b z e=>by
 rcases z with z | z
 .exact (W.ok _ z).2.2 e
 .exact (W.ok _ z).2.2 e.symm
theorem mx_le {rs:List (Str×Str)} (d:∀ a b,tA tps a b->a≠b) (c:ss.Nodup) (g:PGo ss tps qs) (m:MxF ss tps qs) (g':PGo ss tps rs):rs.length<=qs.length:=by
 obtain ⟨S,F⟩:=m;have h1:=F.most (g'.mt.gr d)
 have n:(ss.filter fun u=>!(pt rs u).isSome&&(S.rows u).isSome).length<=(snL (pt rs) ss).length:=by
  unfold snL
  exact qdd (c.filter _) fun x e=>by
   obtain ⟨a,b⟩:=yp.mp e;rw [yU] at b;exact yp.mpr ⟨a,b.1⟩
 have h:=qbW (f:=pt qs) (ss:=ss);have i:=qbW (f:=pt rs) (ss:=ss);have j:=g.cnt c;have l:=g'.cnt c;omega
noncomputable def reL (S:FS) (ss:List Str):List Str:=ss.filter fun s=>(S.rows s).isSome
inductive spLo (cw:Addr) (vs:List V) (H:Hp) (Q:VK) (E:XK):Prop|mk (x:Addr) (ss:List Str) (ns:List Nat) (tps:List (Str×Str)) (_:vs=[.ref x]) (_:Wt cw H x ss ns tps) (_:∀ (l:Addr) (S:FS) (rs:List (Str×Str)) (H':Hp),L2.Same H H'->PGo ss tps rs->Fn (tA tps) (pt rs) S ss->H' l=some (.lst ((reL S ss).map V.str))->Q (.ref l) H')
noncomputable def hnd (S:FS) (s:Str):Int:=if (S.rows s).isSome=true then 1 else 0
noncomputable def hdK (S:FS) (ss:List Str):List (Key×V):=ss.map fun s=>((.inr s:Key),V.int (hnd S s))
theorem qdi:∀ {ss:List Str},jP (hdK S ss) (.inr v:Key)=if v∈ss then some (.int (hnd S v)) else none
 | []=>rfl
 | s::r=>by
  have e:jP (hdK S (s::r)) (.inr v:Key)=if s=v then some (.int (hnd S s)) else jP (hdK S r) (.inr v:Key):=by
   show Option.map _ (List.find? _ (((.inr s:Key),V.int (hnd S s))::hdK S r))=_;rw [Y6];by_cases h:s=v
   .subst h;simp
   .rw [yy h];have:decide ((Sum.inr s:Key)=Sum.inr v)=false:=yl (fun z=>h (Y8 z));simp only [this];rfl
  rw [e,qdi];by_cases h:s=v
  .subst h;rw [yD rfl,yD yN]
  .rw [yy h];by_cases a:v∈r
   .rw [yD a,yD (yz _ a)]
   .rw [yy a,yy (fun z=>(yB.mp z).elim (fun w=>h w.symm) a)]
theorem hdK_put (h:v∉ss):zr (hdK S ss) (.inr v:Key) (.int (hnd S v))=hdK S (ss++[v]):=by
 rw [qaL _ (by rw [qdi,yy h])];unfold hdK;rw [yA];rfl
theorem hdK_len (S:FS) (ss:List Str):(hdK S ss).length=ss.length:=by unfold hdK;rw [ya]
inductive spWnQ (cw:Addr) (vs:List V) (H:Hp) (Q:VK) (E:XK):Prop|mk (x:Addr) (ss:List Str) (ns:List Nat) (tps:List (Str×Str)) (_:vs=[.ref x]) (_:Wt cw H x ss ns tps) (_:∀ (d:Addr) (S:FS) (rs:List (Str×Str)) (H':Hp),L2.Same H H'->H d=none->PGo ss tps rs->Fn (tA tps) (pt rs) S ss->H' d=some (.dK (hdK S ss))->Q (.ref d) H')
inductive spWiQ (cw:Addr) (vs:List V) (H:Hp) (Q:VK) (E:XK):Prop|mk (x:Addr) (ss:List Str) (ns:List Nat) (tps:List (Str×Str)) (v:Str) (_:vs=[.ref x,.str v]) (_:Wt cw H x ss ns tps) (_:v∈ss) (_:∀ (S:FS) (rs:List (Str×Str)) (H':Hp),L2.Same H H'->PGo ss tps rs->Fn (tA tps) (pt rs) S ss->Q (.int (hnd S v)) H')
def TdQ (H:Hp) (t:Addr) (ss:List Str) (tps:List (Str×Str)):Prop:=∃ (t1 t2:Addr) (a:List Addr),H t=some (.tup [.ref t1,.ref t2])/\H t1=some (.tup (ss.map V.str))/\H t2=some (.tup (a.map V.ref))/\All2 (fun u ab=>H u=some (.tup [.str ab.1,.str ab.2])) a tps
inductive spTdQ (cw:Addr) (vs:List V) (H:Hp) (Q:VK) (E:XK):Prop|mk (x:Addr) (ss:List Str) (ns:List Nat) (_:vs=[.ref x]) (_:WebAt cw H x ss ns) (_:∀ (t:Addr) (H':Hp),L2.Same H H'->TdQ H' t ss (qO ss ns ss.length)->Q (.ref t) H')
theorem qcf {m:Addr} {l:List Str} {Q:VK} (e:H m=some (.lst (l.map V.str))) (q:Q (.bl (decide (s∈l))) H):qeR K false (.str s) (.ref m) H Q:=
 .inl ⟨m,_,rfl,.inl (SqL.of e),rfl,qbF l,by rw [yy (by decide),qb6];exact q⟩
theorem ok_lo (F:Fun K "loose" "loose" qce f fd) (T:Txt K mg cc cw) (z:DefOk P w K mg base CX0 14 "greatest" ["web"] (spGr cw)) (v:MakeOk P w K mg base CX0 10 (cc 9) "Forest" ["self","web","pairs"] (spFi cc cw)) (R:MethOk P w K mg base CX0 2 (cc 9) "reached" ["self"] (spFd2 cc cw)):FnOk P w K mg base CX0 15 f fd ["web"] (spLo cw):=by
 refine F.ok Ut fun _ _ _ _ H vs Q E n h=>?_
 .obtain ⟨x,ss,ns,tps,rfl,W,q⟩:=h;refine ⟨_,(qf (qp (qF R (hmR n) (zI v (hmR n) (qa (pv 0) (qa (qv z (hmR n) qH (qa (pv 0) qd)) qd)))))),?_⟩;ext;refine ⟨x,ss,ns,tps,rfl,W,fun l Y rs H1 s J b I=>?_⟩;have p:=W.same s;ext;refine fun y dx M i m=>qfI p J b M i m fun H0 U a S dn wt lo A c N=>?_;subst A;refine ⟨rfl,?_⟩;obtain ⟨C,B,d,_,_,_,g⟩:=id c.fo.obj;have o:=s.trans N;ext;refine ⟨a.x,C,B,rfl,d,g _ (by decide +kernel),?_⟩;ext;refine ⟨H0,a,ss,ns,rs,S,dn,wt,lo,_,rfl,c,W.wok.few,fun hl=>?_,fun hl l' u O _ j=>?_⟩
  .rcases c.en with ⟨e,_⟩ | ⟨t,r,e,_,_,G,L⟩
   .exact absurd e hl
   .obtain ⟨D,X⟩:=qeE W.wok W.adj W.ok b G (by omega);have:=mx_le W.ir W.wok.nd b I D;omega
  .subst hl;exact q l' S rs u (o.trans O) b (qge c (p.wb b)) j
theorem ok_wnQ (F:Fun K "winners" "winners" qaX f fd) (T:Txt K mg cc cw) (uE:DefOk P w K mg base CX0 15 "loose" ["web"] (spLo cw)) (Ko:MethOk P w K mg base CX0 1 cw "places" ["self"] (spPls cw)):FnOk P w K mg base CX0 16 f fd ["web"] (spWnQ cw):=by
 refine F.ok KW fun _ _ _ _ H vs Q E I h=>?_
 .obtain ⟨x,ss,ns,tps,rfl,W,q⟩:=h;have X:=jS I;refine ⟨_,(qc (qo (i:=1) KW.nd rfl (yO rfl) (qv uE (hmR I) qH (qa (pv 0) qd)))
 (qc (qo (i:=2) KW.nd rfl (yO rfl) j6)
 (qc (jl y0 rfl (qT (K:=K) rfl (qF Ko (hmR I) (pv 0))) (qr (i:=3) KW.nd rfl (yO rfl))
 (qf (jN (qbY (qj (zT (K:=K) rfl X) (pv 3) (pv 1) (by with_unfolding_all rfl)) qg qg) (jV (pv 2) (pv 3) (jW X)))))
 (qf (qp (pv 2)))))),?_⟩
  ext;refine ⟨x,ss,ns,tps,rfl,W,fun l S rs H1 Z hG hF hl=>?_⟩;ext;intro d C;have j:=qL Z (o:=.dK []) C;have n:=Z.free C;have c:upd H1 d (.dK []) d=some (.dK (hdK S [])):=qb;have g:upd H1 d (.dK []) l=some (.lst ((reL S ss).map V.str)):=by rw [qe (qm hl C)];exact hl
  generalize upd H1 d (.dK [])=H2 at j c g;have O:=W.same j;obtain ⟨wx,dd,ol,nn,hb,_⟩:=id O.web;have hw:=W.wok;ext;refine ⟨x,wx,_,rfl,hb,jY (by decide +kernel),?_⟩;ext;refine ⟨x,ss,ns,rfl,O.web,fun pl G=>?_⟩;have A:=qL (Sr H2) (o:=.lst (ss.map V.str)) G;have a:upd H2 pl (.lst (ss.map V.str)) pl=some (.lst (ss.map V.str)):=qb;replace c:=A _ _ c;replace g:=A _ _ g;replace j:=j.trans A;generalize upd H2 pl (.lst (ss.map V.str))=H3 at A a c g j;have L:l≠d:=jO g c (by intro z;cases z);have M:pl≠d:=jO a c (by intro z;cases z);refine .inl ⟨⟨_,.of a⟩,ju (xs:=ss.map V.str) (fun i σ J=>∃ s,σ=[some (.ref x),some (.ref l),some (.ref d),s]/\L2.Same H J/\J pl=some (.lst (ss.map V.str))/\J l=some (.lst ((reL S ss).map V.str))/\J d=some (.dK (hdK S (ss.take i)))) ⟨none,rfl,j,a,g,by rw [ke];exact c⟩ (fun i σ J _ p=>by obtain ⟨_,_,_,z,_⟩:=p;exact .of z) (fun i y σ J Y p=>?_) fun σ J p=>?_⟩
  .obtain ⟨s,rfl,N,R,B,m⟩:=p;rw [yd] at Y;obtain ⟨v,hv,rfl⟩:=yn.mp Y;have aa:i<ss.length:=(yc.mp hv).1;have r:ss.take (i+1)=ss.take i++[v]:=by rw [yK,hv];rfl
   have hm:v∉ss.take i:=fun z=>by
    have U:(ss.take (i+1)).Nodup:=hw.nd.sublist (xY _ _);rw [r] at U;exact (yV.mp U).2.2 _ z v (by simp) rfl
   have b:(hdK S (ss.take i)).length<sizeLine:=by rw [hdK_len,yT];exact qi (by have:=hw.few;omega)
   have D:decide (v∈reL S ss)=(S.rows v).isSome:=by
    unfold reL;rw [Yb,yJ,yp];exact ⟨fun z=>z.2,fun z=>⟨ye hv,z⟩⟩
   have put:∀ J',J'=upd J d (.dK (zr (hdK S (ss.take i)) (.inr v:Key) (.int (hnd S v))))->∃ s,[some (V.ref x),some (.ref l),some (.ref d),some (.str v)]=[some (.ref x),some (.ref l),some (.ref d),s]/\L2.Same H J'/\J' pl=some (.lst (ss.map V.str))/\J' l=some (.lst ((reL S ss).map V.str))/\J' d=some (.dK (hdK S (ss.take (i+1)))):=fun J' e=>by
    rw [e,r,<- hdK_put hm];exact ⟨_,rfl,qaz N n,by rw [qe M];exact R,by rw [qe L];exact B,qb⟩
   ext;refine qcf B ?_;rw [D];ext;have u:hnd S v=if (S.rows v).isSome=true then 1 else 0:=rfl;refine qW (fun h=>?_) fun h=>?_
   .rw [yD h] at u;ext;refine .inr ⟨d,_,rfl,DPut.k (k:=Sum.inr v) m b,?_⟩;exact put _ (by rw [u])
   .rw [yy h] at u;ext;refine .inr ⟨d,_,rfl,DPut.k (k:=Sum.inr v) m b,?_⟩;exact put _ (by rw [u])
  .obtain ⟨s,rfl,N,R,B,m⟩:=p;rw [ya,yR] at m;ext;exact q d S rs J N n hG hF m
theorem ok_wiQ (F:Fun K "winner" "winner" qbq f fd) (T:Txt K mg cc cw) (g:DefOk P w K mg base CX0 16 "winners" ["web"] (spWnQ cw)) (e:MethOk P w K mg base CX0 4 cw "number_of" ["self","place"] (spNum cw)):FnOk P w K mg base CX0 17 f fd ["web","start"] (spWiQ cw):=by
 refine F.ok Uk fun _ _ _ _ H vs Q E a h=>?_
 .obtain ⟨x,ss,ns,tps,v,rfl,W,hv,q⟩:=h;have p:=jS a;obtain ⟨s,u,ol,y,hb,_⟩:=id W.web;obtain ⟨j,l⟩:=yf hv;refine ⟨_,(qc (qI (qD e (hmR a) (pv 0) (qa (pv 1) qd)))
 (qf (qp (qt (qu (K:=K) rfl p) (qv g (hmR a) qH (qa (pv 0) qd)) (pv 1) (fun _ _=>rfl))))),?_⟩
  ext;refine ⟨x,s,_,rfl,hb,jY (by decide +kernel),?_⟩;ext;refine ⟨x,ss,ns,v,j,rfl,W.web,l,fun H1 c=>?_⟩;ext;refine ⟨x,ss,ns,tps,rfl,W.same c,fun d S rs H2 r o n m i=>?_⟩;ext;have b:=DGet.k (k:=Sum.inr v) i;rw [qdi,yD hv] at b;exact .inr ⟨d,_,rfl,b,q S rs H2 (c.trans r) n m⟩
theorem uR:FnScope ["self","web","start"] ["self","web","start"] (qh zO):=fS
theorem ue:FnScope ["self"] ["self"] (qh jC):=fS
theorem uS:FnScope ["self"] ["self"] (qh zP):=fS
theorem uT:FnScope ["self"] ["self"] (qh zQ):=fS
theorem uv:FnScope ["self","thing"] ["self","thing"] (qh jU):=fS
theorem uU:FnScope ["self"] ["self"] (qh zR):=fS
theorem uN:FnScope ["self"] ["self"] (qh zq):=fS
theorem ul:FnScope ["self","names"] ["self","names"] (qh jt):=fS
theorem Uc:FnScope ["self","name"] ["self","name"] (qh qaY):=fS
def PlayAt (cp cw:Addr) (H:Hp) (x b p:Addr) (ss:List Str) (ns:List Nat) (tr:List Str):Prop:=∃ dx,H x=some (.ins cp dx (qG "path" (.ref p) (qG "board" (.ref b) [])))/\H p=some (.lst (tr.map V.str))/\WebAt cw H b ss ns
theorem PlayAt.same {tr:List Str} (h:PlayAt cp cw H x b p ss ns tr) (s:L2.Same H H'):PlayAt cp cw H' x b p ss ns tr:=by
 obtain ⟨dx,h1,a,c⟩:=h;exact ⟨dx,s _ _ h1,s _ _ a,c.same s⟩
theorem qae:List.lookup ("path":Str) (qG "path" (V.ref p) (qG "board" (V.ref b) []))=some (V.ref p):=by rw [qz,yD rfl]
theorem qdU:List.lookup ("board":Str) (qG "path" (V.ref p) (qG "board" (V.ref b) []))=some (V.ref b):=by rw [qz,yy (by decide +kernel),qz,yD rfl]
theorem WebAt.but {c:Addr} {fs:List (Str×V)} (h:WebAt cw H b ss ns) (a:H x=some (.ins c dx fs)) (ne:b≠x) (k:But x H H'):WebAt cw H' b ss ns:=by
 obtain ⟨j,d,ol,n,h1,e,f,g,i⟩:=h;exact ⟨j,d,ol,n,k _ _ ne h1,k _ _ (jO e a (by intro z;cases z)) e,k _ _ (jO f a (by intro z;cases z)) f,k _ _ (jO g a (by intro z;cases z)) g,i⟩
inductive spWkI (cc:Nat->Addr) (cw:Addr) (vs:List V) (H:Hp) (Q:VK) (E:XK):Prop|mk (x dx b:Addr) (st:Str) (ss:List Str) (ns:List Nat) (_:vs=[.ref x,.ref b,.str st]) (_:H x=some (.ins (cc 8) dx [])) (_:WebAt cw H b ss ns) (_:st∈ss) (_:∀ (p:Addr) (H':Hp),But x H H'->H p=none->PlayAt (cc 8) cw H' x b p ss ns [st]->Q .non H')
theorem ok_wkI (F:Fun K "__init__" "Walk.__init__" zO f fd) (T:Txt K mg cc cw) (B:MethOk P w K mg base CX0 3 cw "has_place" ["self","thing"] (spHas cw)):FnOk P w K mg base CX0 5 f fd ["self","web","start"] (spWkI cc cw):=by
 refine F.ok uR fun _ _ _ _ H vs Q E z h=>?_
 .obtain ⟨x,dx,b,st,ss,ns,rfl,s,m,i,q⟩:=h;have I:=jS z;refine ⟨_,(qc (qV (jf (qZ (qD B (hmR z) (pv 1) (qa (pv 2) qd)))) (qf jg) qx)
 (qc (jH (K:=K) rfl (pv 0) (pv 1) rfl)
 (qf (jH (K:=K) rfl (pv 0) (qP (qa (pv 2) qd)) rfl)))),?_⟩
  obtain ⟨D,d,ol,n,hb,_,_,_,hw⟩:=id m;have C:=hw.nm _ i;have u:b≠x:=fun e=>by subst e;rw [s] at hb;injection hb with hb;injection hb with _ _ hb;cases hb
  ext;refine ⟨b,D,_,rfl,hb,jY (by decide +kernel),?_⟩;ext;refine ⟨b,ss,ns,st,rfl,m,i,fun H1 A=>?_⟩;ext;refine yq ?_;ext;refine .inl ⟨x,cc 8,dx,[],rfl,A _ _ s,T.pcl,T.pb,by decide,?_⟩;have l:=((But.refl x H).same A).put (o:=.ins (cc 8) dx (qG "board" (.ref b) []));have a:upd H1 x (.ins (cc 8) dx (qG "board" (.ref b) [])) x=some (.ins (cc 8) dx (qG "board" (.ref b) [])):=qb;generalize upd H1 x (.ins (cc 8) dx (qG "board" (.ref b) []))=H2 at l a ⊢;ext;refine ⟨by show 1<=sizeLine;decide,fun p g=>?_⟩;have c:p≠x:=fun e=>by rw [e,a] at g;cases g
  have r:H p=none:=by
   cases e:H p with
   | none=>rfl
   | some o=>rw [l p o c e] at g;cases g
  have v:=l.new (o:=.lst [.str st]) g;have j:upd H2 p (.lst [.str st]) x=some (.ins (cc 8) dx (qG "board" (.ref b) [])):=by rw [qe c.symm];exact a
  have ep:upd H2 p (.lst [.str st]) p=some (.lst [.str st]):=qb;generalize upd H2 p (.lst [.str st])=G at v j ep ⊢;ext;refine .inl ⟨x,cc 8,dx,_,rfl,j,T.pcl,T.pp,Yu (jo _ _ _) (by decide),?_⟩;have y:=v.put (o:=.ins (cc 8) dx (qG "path" (.ref p) (qG "board" (.ref b) [])));exact q p _ y r ⟨dx,qb,by rw [qe c];exact ep,m.but s u y⟩
inductive spPwP (cc:Nat->Addr) (cw:Addr) (vs:List V) (H:Hp) (Q:VK) (E:XK):Prop|mk (x b p:Addr) (ss:List Str) (ns:List Nat) (tr:List Str) (_:vs=[.ref x]) (_:PlayAt (cc 8) cw H x b p ss ns tr) (_:Q (.ref b) H)
inductive spPsP (cc:Nat->Addr) (cw:Addr) (vs:List V) (H:Hp) (Q:VK) (E:XK):Prop|mk (x b p:Addr) (ss:List Str) (ns:List Nat) (tr:List Str) (z:Str) (_:vs=[.ref x]) (_:PlayAt (cc 8) cw H x b p ss ns tr) (_:tr.getLast?=some z) (_:Q (.str z) H)
inductive spPgP (cc:Nat->Addr) (cw:Addr) (vs:List V) (H:Hp) (Q:VK) (E:XK):Prop|mk (x b p:Addr) (ss:List Str) (ns:List Nat) (tr:List Str) (_:vs=[.ref x]) (_:PlayAt (cc 8) cw H x b p ss ns tr) (_:∀ l,H l=none->Q (.ref l) (upd H l (.lst (tr.map V.str))))
inductive spPhP (cc:Nat->Addr) (cw:Addr) (vs:List V) (H:Hp) (Q:VK) (E:XK):Prop|mk (x b p:Addr) (ss:List Str) (ns:List Nat) (tr:List Str) (_:vs=[.ref x]) (_:PlayAt (cc 8) cw H x b p ss ns tr) (_:Q (.int (((tr.length:Int)-1) % 2)) H)
theorem last_at {xs:List Str} (h:xs.getLast?=some z):atI (xs.map V.str) (-1)=some (.str z):=by
 have e:(xs.map V.str).getLast?=some (.str z):=by rw [List.getLast?_map,h];rfl
 rw [List.getLast?_eq_getElem?] at e;have hl:=(yc.mp e).1;unfold atI ixN;rw [yy (by decide),yD (by omega)];have a:(-1+((xs.map V.str).length:Int)).toNat=(xs.map V.str).length-1:=by omega
 show (xs.map V.str)[(-1+((xs.map V.str).length:Int)).toNat]?=_;rw [a];exact e
theorem ok_ps (F:Fun K "stands_at" "Walk.stands_at" jC f fd) (T:Txt K mg cc cw):FnOk P w K mg base CX0 1 f fd ["self"] (spPsP cc cw):=by
 refine F.ok ue fun _ _ _ _ H vs Q E c h=>?_
 .obtain ⟨x,b,p,ss,ns,tr,z,rfl,⟨dx,e,a,g⟩,hz,q⟩:=h;have d:=jS c;refine ⟨_,(qf (qp (qt (qu (K:=K) rfl d) (qA (K:=K) rfl (pv 0) rfl) (qav j5 qg) (fun _ _=>rfl)))),?_⟩;ext;refine .inl ⟨x,cc 8,dx,_,.ref p,rfl,e,T.pcl,T.pp,qae,?_⟩;ext;refine vU ?_;exact .inl (zc a (last_at hz) q)
theorem ok_pgn (F:Fun K "gone" "Walk.gone" zP f fd) (T:Txt K mg cc cw):FnOk P w K mg base CX0 1 f fd ["self"] (spPgP cc cw):=by
 refine F.ok uS fun _ _ _ _ H vs Q E e h=>?_
 .obtain ⟨x,b,p,ss,ns,tr,rfl,⟨dx,c,a,d⟩,q⟩:=h;refine ⟨_,(qf (qp (jq (qbA (K:=K) rfl rfl) rfl T.b_list xp (qa (qA (K:=K) rfl (pv 0) rfl) qd)))),?_⟩;ext;refine .inl ⟨x,cc 8,dx,_,.ref p,rfl,c,T.pcl,T.pp,qae,?_⟩;ext;exact .inl ⟨p,_,rfl,.inl (SqL.of a),q⟩
theorem ok_ph (F:Fun K "hand" "Walk.hand" zQ f fd) (T:Txt K mg cc cw):FnOk P w K mg base CX0 1 f fd ["self"] (spPhP cc cw):=by
 refine F.ok uT fun _ _ _ _ H vs Q E e h=>?_
 .obtain ⟨x,b,p,ss,ns,tr,rfl,⟨dx,c,a,d⟩,q⟩:=h;refine ⟨_,(qf (qp (qE zw (qE zS (qk (zh (K:=K) rfl) rfl T.b_len YO (qa (qA (K:=K) rfl (pv 0) rfl) qd)) qg) qg))),?_⟩;ext;refine .inl ⟨x,cc 8,dx,_,.ref p,rfl,c,T.pcl,T.pp,qae,?_⟩;ext;refine qek a ?_;rw [ya];ext;exact vI (by decide) q
noncomputable def ngS (tr xs:List Str):List Str:=xs.filter fun o=>!decide (o∈tr)
noncomputable def mvS (ss:List Str) (ns:List Nat) (tr:List Str) (z:Str):List Str:=ngS tr (inB ss 0 (ns.getD (ss.idxOf z) 0))
inductive spPnP (cc:Nat->Addr) (cw:Addr) (vs:List V) (H:Hp) (Q:VK) (E:XK):Prop|mk (x b p l:Addr) (ss:List Str) (ns:List Nat) (tr xs:List Str) (_:vs=[.ref x,.ref l]) (_:PlayAt (cc 8) cw H x b p ss ns tr) (_:H l=some (.lst (xs.map V.str))) (_:xs.length<=14) (_:∀ r,H r=none->Q (.ref r) (upd H r (.lst ((ngS tr xs).map V.str))))
inductive spPmP (cc:Nat->Addr) (cw:Addr) (vs:List V) (H:Hp) (Q:VK) (E:XK):Prop|mk (x b p:Addr) (ss:List Str) (ns:List Nat) (tr:List Str) (z:Str) (_:vs=[.ref x]) (_:PlayAt (cc 8) cw H x b p ss ns tr) (_:tr.getLast?=some z) (_:z∈ss) (_:∀ (r:Addr) (H':Hp),L2.Same H H'->H r=none->H' r=some (.lst ((mvS ss ns tr z).map V.str))->Q (.ref r) H')
inductive spPgoP (cc:Nat->Addr) (cw:Addr) (vs:List V) (H:Hp) (Q:VK) (E:XK):Prop|mk (x b p:Addr) (ss:List Str) (ns:List Nat) (tr:List Str) (z v:Str) (_:vs=[.ref x,.str v]) (_:PlayAt (cc 8) cw H x b p ss ns tr) (_:tr.length<=100) (_:tr.getLast?=some z) (_:z∈ss) (_:v∈mvS ss ns tr z) (_:∀ H',But p H H'->H' p=some (.lst ((tr++[v]).map V.str))->Q .non H')
inductive spPbP (cc:Nat->Addr) (cw:Addr) (vs:List V) (H:Hp) (Q:VK) (E:XK):Prop|mk (x b p:Addr) (ss:List Str) (ns:List Nat) (tr:List Str) (z:Str) (_:vs=[.ref x]) (_:PlayAt (cc 8) cw H x b p ss ns (tr++[z])) (_:tr≠[]) (_:tr.length<=100) (_:Q (.str z) (upd H p (.lst (tr.map V.str))))
theorem j0 {f:Str} {p b:V} (h:(f=="path"||f=="board")=false:=by decide +kernel):List.lookup f (qG "path" p (qG "board" b []))=none:=by
 simp only [Bool.or_eq_false_iff,YC] at h;rw [qz,yy h.1,qz,yy h.2];rfl
theorem ok_ng (F:Fun K "not_gone" "Play.not_gone" jt f fd) (T:Txt K mg cc cw):FnOk P w K mg base CX0 1 f fd ["self","names"] (spPnP cc cw):=by
 refine F.ok ul fun _ _ _ _ H vs Q E s h=>?_
 .obtain ⟨x,b,p,l,ss,ns,tr,xs,rfl,⟨dx,v,g,z⟩,hl,few,q⟩:=h;have u:=jS s;refine ⟨_,(qf (qp (jh (sc:=qh jt) (XN:=["self","names"]) ["name","self"] 1 [0] rfl rfl rfl (by decide +kernel) rfl (by decide +kernel)
  (qT (K:=K) rfl (pv 1)) (fun _ _ _ _=>(qr (i:=0) (show (["name","self"]:List Str).Nodup by decide +kernel) rfl (yO rfl))) qR
  (fun _ _ _ _=>(q9 (qj (zH (K:=K) rfl u) (pv 0) (qA (K:=K) rfl (pv 1) rfl) (by with_unfolding_all rfl))))
  (fun _ _ _ _=>(pv 0))))),?_⟩
  ext;refine .inl ⟨⟨_,SqL.of hl⟩,qK (K:=K) (fun m ys H'=>H'=H/\ys=(ngS tr (xs.take m)).map V.str) ⟨rfl,rfl⟩ (fun m ys H' _ g=>by rw [g.1];exact SqL.of hl) (fun m y ys H' n a=>?_) fun ys H' a=>?_⟩
  .obtain ⟨rfl,rfl⟩:=a;rw [yd] at n;obtain ⟨o,r,rfl⟩:=yn.mp n;have j:xs.take (m+1)=xs.take m++[o]:=by rw [yK,r];rfl
   have c:((ngS tr (xs.take m)).map V.str).length<sizeLine:=by
    rw [ya];exact qi (yi (yF _ _) (by rw [yT];omega))
   have d:ngS tr (xs.take (m+1))=ngS tr (xs.take m)++(if (!decide (o∈tr))=true then [o] else []):=by
    unfold ngS;rw [j,y9,yS];rfl
   rw [d,yA];ext;refine .inl ⟨x,cc 8,dx,_,.ref p,rfl,v,T.pcl,T.pp,qae,?_⟩;refine .inl ⟨p,_,rfl,.inl (SqL.of g),rfl,qbF _,?_⟩;rw [qb6];ext;refine qW (fun h=>?_) fun h=>?_
   .ext;refine ⟨c,rfl,?_⟩;have h:(!decide (o∈tr))=true:=h;rw [yD h];rfl
   .refine ⟨rfl,?_⟩;have h:¬ (!decide (o∈tr))=true:=h;rw [yy h];simp
  .obtain ⟨rfl,rfl⟩:=a;have e:xs.take (xs.map V.str).length=xs:=by rw [ya,yR]
   rw [e];exact ⟨by rw [ya];exact yX (qi (yi (yF _ _) (by omega))),q⟩
theorem ok_pm (F:Fun K "moves" "Play.moves" zq f fd) (T:Txt K mg cc cw) (A:MethOk P w K mg base CX0 6 cw "beside" ["self","place"] (spBs cw)) (y:MethOk P w K mg base CX0 1 (cc 8) "stands_at" ["self"] (spPsP cc cw)) (G:MethOk P w K mg base CX0 1 (cc 8) "not_gone" ["self","names"] (spPnP cc cw)):FnOk P w K mg base CX0 7 f fd ["self"] (spPmP cc cw):=by
 refine F.ok uN fun _ _ _ _ H vs Q E e h=>?_
 .obtain ⟨x,b,p,ss,ns,tr,z,rfl,i,hz,c,q⟩:=h;obtain ⟨dx,m,J,v⟩:=id i;have L:=jS e;refine ⟨_,(qf (qp (qD G (hmR e) (pv 0) (qa (qD A (hmR e) (qA (K:=K) rfl (pv 0) rfl) (qa (qF y (hmR e) (pv 0)) qd)) qd)))),?_⟩;obtain ⟨I,d,ol,n,hb,_,_,_,hw⟩:=id v;have C:=hw.nm _ c;have j:ss[ss.idxOf z]?=some z:=by rw [yb (Yg c)];exact congrArg some (Yy _)
  ext;refine ⟨x,dx,_,rfl,m,j0,?_⟩;ext;refine .inl ⟨x,cc 8,dx,_,.ref b,rfl,m,T.pcl,T.pb,qdU,?_⟩;ext;refine ⟨b,I,_,rfl,hb,jY (by decide +kernel),?_⟩;ext;refine ⟨x,dx,_,rfl,m,j0,?_⟩;ext;refine ⟨x,b,p,ss,ns,tr,z,rfl,i,hz,?_⟩;ext;refine ⟨b,ss,ns,z,ss.idxOf z,rfl,v,j,fun H1 D l hl=>?_⟩;have s:=qL (Sr H1) (o:=.lst ((inB ss 0 (ns.getD (ss.idxOf z) 0)).map V.str)) hl;have u:upd H1 l (.lst ((inB ss 0 (ns.getD (ss.idxOf z) 0)).map V.str)) l=some (.lst ((inB ss 0 (ns.getD (ss.idxOf z) 0)).map V.str)):=qb;have g:=D.trans s;generalize upd H1 l (.lst ((inB ss 0 (ns.getD (ss.idxOf z) 0)).map V.str))=H2 at g u ⊢;have few:=hw.few;have B:(inB ss 0 (ns.getD (ss.idxOf z) 0)).length<=ss.length:=qa3 _ _ _;ext;refine ⟨x,b,p,l,ss,ns,tr,_,rfl,i.same g,u,by omega,fun r a=>?_⟩;exact q r _ (qL g a) (g.free a) qb
theorem ok_mvt (F:Fun K "move_to" "Walk.move_to" jU f fd) (T:Txt K mg cc cw) (o:MethOk P w K mg base CX0 7 (cc 8) "moves" ["self"] (spPmP cc cw)):FnOk P w K mg base CX0 8 f fd ["self","thing"] (spPgoP cc cw):=by
 refine F.ok uv fun _ _ _ _ H vs Q E i h=>?_
 .obtain ⟨x,b,p,ss,ns,tr,z,v,rfl,e,l,hz,d,hv,q⟩:=h;obtain ⟨dx,j,g,s⟩:=id e;have n:=jS i;refine ⟨_,(qc (qV (qj (zH (K:=K) rfl n) (pv 1) (qF o (hmR i) (pv 0)) (by with_unfolding_all rfl)) (qf jg) qx)
 (qf (qI (qbf (K:=K) rfl yL yY yZ qN (qA (K:=K) rfl (pv 0) rfl) (qa (pv 1) qd))))),?_⟩
  ext;refine ⟨x,dx,_,rfl,j,j0,?_⟩;ext;refine ⟨x,b,p,ss,ns,tr,z,rfl,e,hz,d,fun r H1 a m c=>?_⟩;refine .inl ⟨r,_,rfl,.inl (SqL.of c),rfl,qbF _,?_⟩;rw [qb6];ext;refine qW (fun h=>?_) fun _=>?_
  .have h:(!decide (v∈mvS ss ns tr z))=true:=h;rw [yM hv] at h;cases h
  ext;refine .inl ⟨x,cc 8,dx,_,.ref p,rfl,a _ _ j,T.pcl,T.pp,qae,?_⟩;ext;refine ⟨.inl ⟨rfl,_,SqL.of (a _ _ g)⟩,?_⟩;ext;refine ⟨p,_,_,rfl,rfl,a _ _ g,by rw [ya];exact qi (by omega),?_⟩;exact q _ ((But.refl p H).same a).put (by rw [qb,yA];rfl)
theorem ok_pgo (F:Fun K "go" "Play.go" qaY f fd) (T:Txt K mg cc cw) (i:MethOk P w K mg base CX0 8 (cc 8) "move_to" ["self","thing"] (spPgoP cc cw)):FnOk P w K mg base CX0 9 f fd ["self","name"] (spPgoP cc cw):=by
 refine F.ok Uc fun _ _ _ _ H vs Q E e h=>?_
 .obtain ⟨x,b,p,ss,ns,tr,z,v,rfl,d,a,hz,c,hv,q⟩:=h;obtain ⟨dx,g,l,j⟩:=id d;refine ⟨_,(qf (qI (qD i (hmR e) (pv 0) (qa (pv 1) qd)))),?_⟩;ext;refine ⟨x,dx,_,rfl,g,j0,?_⟩;ext;exact ⟨x,b,p,ss,ns,tr,z,v,rfl,d,a,hz,c,hv,q⟩
theorem ok_pbk (F:Fun K "back" "Walk.back" zR f fd) (T:Txt K mg cc cw):FnOk P w K mg base CX0 1 f fd ["self"] (spPbP cc cw):=by
 refine F.ok uU fun _ _ _ _ H vs Q E i h=>?_
 .obtain ⟨x,b,p,ss,ns,tr,z,rfl,g,a,e,q⟩:=h;obtain ⟨dx,d,c,m⟩:=id g;have l:=jS i;refine ⟨_,(qc (qV (qj (zi (K:=K) rfl l) (qk (zh (K:=K) rfl) rfl T.b_len YO (qa (qA (K:=K) rfl (pv 0) rfl) qd)) qg (qC _)) (qf jg) qx)
 (qf (qp (qf4 (K:=K) rfl yL Xz XA qen (qA (K:=K) rfl (pv 0) rfl))))),?_⟩
  ext;refine .inl ⟨x,cc 8,dx,_,.ref p,rfl,d,T.pcl,T.pp,qae,?_⟩;ext;refine qek c ?_;ext;refine .inl (.inl (.inl ⟨rfl,rfl,?_⟩));ext;have j:0<tr.length:=X3.mpr a;refine qW (fun h=>?_) fun _=>?_
  .have h:eqV (V.int ((tr++[z]).map V.str).length) (V.int 1)=true:=h;rw [ya,yt] at h;have h:((tr.length+1:Nat):Int)=1:=by simpa [eqV] using h
   omega
  ext;refine .inl ⟨x,cc 8,dx,_,.ref p,rfl,d,T.pcl,T.pp,qae,?_⟩;ext;refine ⟨.inl ⟨rfl,_,SqL.of c⟩,?_⟩;refine ⟨p,_,.str z,rfl,rfl,c,by simp,?_⟩;rw [show ((tr++[z]).map V.str).dropLast=tr.map V.str by simp];exact q
theorem Kt:FnScope ["self","places","out","place","names","kept"] ["self","places"] (qh jw):=fS
noncomputable def tri:Nat->Nat
 | 0=>0
 | k+1=>tri k+(6-k)
theorem tri_le:∀ n,n<=7->tri n<=21:=by decide
theorem qdV (hw:WOk ss ns) (b:ss.length<=7):(qO ss ns ss.length).length<=21:=by
 have row:∀ i,(qet ss ns i).length<=ss.length-(i+1):=fun i=>by
  unfold qet;rw [ya,<- XC];refine qdd (by rw [zd hw.nd];exact (hw.nd.filter _).filter _) fun o d=>?_;obtain ⟨h1,a⟩:=yp.mp d;have a:=yk a;have c:=(qdc hw.nd h1).1;refine ye (i:=ss.idxOf o-(i+1)) ?_;rw [List.getElem?_drop,show i+1+(ss.idxOf o-(i+1))=ss.idxOf o by omega,yb (Yg c),Yy]
 have key:∀ k,(qO ss ns k).length<=tri k:=fun k=>by
  induction k with
  | zero=>exact yh _
  | succ k ih =>
   unfold qO at ih ⊢;rw [xT,xD,yt];have:=row k;have e:([k].flatMap (qet ss ns)).length=(qet ss ns k).length:=by simp
   rw [e];show _<=tri k+(6-k);omega
 exact yi (key _) (tri_le _ b)
theorem qbr {t1 t2:List (Str×Str)}:∀ (n:Nat) {l:List Str},(∀ a∈l,∀ b∈l,tB t1 a b=tB t2 a b)->mo t1 n l=mo t2 n l
 | 0,_,_=>rfl
 | n+1,[],_=>rfl
 | n+1,x::r,h=>by
  have d:∀ a∈r,∀ b∈r,tB t1 a b=tB t2 a b:=fun a c b hb=>h a (yz _ c) b (yz _ hb);show (r.filter (tB t1 x)).foldl (fun m y=>max m (1+mo t1 n (del r y))) (mo t1 n r)=(r.filter (tB t2 x)).foldl (fun m y=>max m (1+mo t2 n (del r y))) (mo t2 n r);rw [YD (q:=tB t2 x) (fun b hb=>h x yN b (yz _ hb)),qbr n d]
  have:(fun m y=>max m (1+mo t1 n (del r y)))=fun m y=>max m (1+mo t2 n (del r y)):=by
   funext m y;rw [qbr n (l:=del r y) fun a c b hb=>d a (mem_del.mp c).1 b (mem_del.mp hb).1]
  rw [this]
theorem wt_new {y:Addr} (h:WebN H0 cw H y ss ns) (hb:qbb ss ns kps) (g:TGo ss kps):Wt cw H y ss ns kps:=
 ⟨h.web,fun a b s t d c=>by rw [hb.2.2 a b s t d c,yJ],g.inn⟩
theorem Wt.to {y:Addr} (h:Wt cw H y ss ns kps) (ok:∀ ab∈tps,ab.1∈ss/\ab.2∈ss/\ab.1≠ab.2) (e:∀ a b,a∈ss->b∈ss->(tA kps a b↔tA tps a b)):Wt cw H y ss ns tps:=
 ⟨h.web,fun a b s t c hb=>(h.adj a b s t c hb).trans (e s t (ye c) (ye hb)),ok⟩
noncomputable def je (l:List Str) (tps:List (Str×Str)):List (Str×Str):=tps.filter fun q=>decide (q.1∈l)&&decide (q.2∈l)
noncomputable def qS (l a:List Str):List Str:=l.filter fun s=>!decide (s∈a)
theorem qaZ (l a:List Str):(qS l a).length<=l.length:=yF _ _
theorem mem_out {l b:List Str}:a∈qS l b↔a∈l/\a∉b:=by unfold qS;rw [yp];simp
def OutN (ss:List Str) (kvs:List (Key×V)) (xs:List Str):Prop:=∀ (j:Nat) (s:Str),ss[j]?=some s->(jP kvs (.inl (j:Int):Key)).isSome=decide (s∈xs)
inductive spWo (cw:Addr) (vs:List V) (H:Hp) (Q:VK) (E:XK):Prop|mk (x a:Addr) (ss:List Str) (ns:List Nat) (tps:List (Str×Str)) (bar:List Str) (_:vs=[.ref x,.ref a]) (_:Wt cw H x ss ns tps) (_:(qO ss ns ss.length).length<=30) (_:H a=some (.lst (bar.map V.str))) (_:(∀ s∈bar,s∈ss)) (_:bar.length<=14) (_:∀ (y:Addr) (ms:List Nat) (H':Hp),L2.Same H H'->Wt cw H' y (qS ss bar) ms (je (qS ss bar) tps)->Q (.ref y) H')
theorem wmake {m y:Addr} {Q:VK} (H:G m=some (.lst (ss.map V.str))) (g:ss.length<=14) (nd:ss.Nodup) (I:∀ s∈ss,zJ s=true) (j:PL G l us kps) (p:TGo ss kps) (q:G y=none) (F:G dx=none) (i:dx≠y)
  (h:∀ ns H2,L2.Same G H2->WebN G cw H2 y ss ns->Wt cw H2 y ss ns kps->Q .non H2):spWeb cw [.ref y,.ref m,.ref l] (upd (upd G dx (.own y)) y (.ins cw dx [])) Q E:=by
 have f:=qL (qL (Sr G) (o:=.own y) F) (o:=.ins cw dx []) (show upd G dx (.own y) y=none by rw [qe (Yh i)];exact q);refine ⟨y,dx,m,l,ss,us,kps,rfl,qb,.inl (f _ _ H),g,nd,I,⟨.inl (f _ _ j.1),(j.same f).2⟩,p,fun ns H' b D C=>?_⟩
 have a:WebN G cw H' y ss ns:=by
  obtain ⟨J,d,ol,n,h1,r,u,v,w,x,A,B⟩:=D
  have k:∀ c,upd (upd G dx (.own y)) y (.ins cw dx []) c=none->G c=none:=fun c z=>by
   cases e:G c with
   | none=>rfl
   | some o=>rw [f _ _ e] at z;cases z
  exact ⟨J,d,ol,n,h1,r,u,v,w,k _ x,k _ A,k _ B⟩
 refine h ns H' (fun c o e=>b c o (fun z=>by rw [z,q] at e;cases e) (f _ _ e)) a (wt_new a C p)
theorem ok_wo (F:Fun K "without" "Web.without" jw f fd) (T:Txt K mg cc cw) (Kj:MethOk P w K mg base CX0 4 cw "number_of" ["self","place"] (spNum cw)) (KG:MethOk P w K mg base CX0 7 cw "ties" ["self"] (spTs cw)) (uO:MakeOk P w K mg base CX0 5 cw "Web" ["self","names","ties"] (spWeb cw)):FnOk P w K mg base CX0 8 f fd ["self","places"] (spWo cw):=by
 refine F.ok Kt fun _ _ _ _ H vs Q E hr h=>?_
 .obtain ⟨x,a,ss,ns,tps,c,rfl,W,ah,A,hv,aq,q⟩:=h;have hu:=jS hr;obtain ⟨wx,dd,ol,nn,hb,aj,an,aw,hw⟩:=id W.web;have few:=hw.few;refine ⟨_,(qc (qV (jf (qZ (qk (qc6 (K:=K) rfl) rfl T.b_isinstance YG (qa (pv 1) (qa (jp (qa (jD (v:=.ty "list") rfl T.b_list xp rfl) (qa (jD (v:=.ty "tuple") rfl T.b_tuple XF rfl) qd))) qd))))) (qf jg) qx)
 (qc (qo (i:=2) Kt.nd rfl (Xi rfl) j6)
 (qc (jl y0 rfl (qT (K:=K) rfl (pv 1)) (qr (i:=3) Kt.nd rfl (yO rfl))
 (qf (jN zg (jV (pv 2) (qD Kj (hmR hr) (pv 0) (qa (pv 3) qd)) (jW hu)))))
 (qc (qo (i:=4) Kt.nd rfl (Xi rfl) (jh (sc:=qh jw) (XN:=["self","places","out","place","names","kept"]) ["name","out","self"] 1 [2,0] rfl rfl rfl (by decide +kernel) rfl (by decide +kernel)
  (qT (K:=K) rfl (qA (K:=K) rfl (pv 0) rfl)) (fun _ _ _ _=>(qr (i:=0) (show (["name","out","self"]:List Str).Nodup by decide +kernel) rfl (yO rfl))) qR
  (fun _ _ _ _=>(q9 (qj (zH (K:=K) rfl hu) (qt (qu (K:=K) rfl hu) (qA (K:=K) rfl (pv 2) rfl) (pv 0) (fun _ _=>rfl)) (pv 1) (by with_unfolding_all rfl))))
  (fun _ _ _ _=>(pv 0))))
 (qc (zX (sc:=qh jw) (XN:=["self","places","out","place","names","kept"]) ["tie","names"] 1 [4] rfl rfl rfl (by decide +kernel) rfl (by decide +kernel) (i:=5) Kt.nd rfl rfl
  (qT (K:=K) rfl (qF KG (hmR hr) (pv 0))) (fun _ _ _ _=>(qr (i:=0) (show (["tie","names"]:List Str).Nodup by decide +kernel) rfl (yO rfl))) qR
  (fun _ _ _ _=>(q9 (PW.pt (qa9 (qj (zT (K:=K) rfl hu) (qt (qu (K:=K) rfl hu) (pv 0) qg (fun _ _=>rfl)) (pv 1) (by with_unfolding_all rfl)) (qaA (qj (zT (K:=K) rfl hu) (qt (qu (K:=K) rfl hu) (pv 0) qg (fun _ _=>rfl)) (pv 1) (by with_unfolding_all rfl)))))))
  (fun _ _ _ _=>(pv 0)))
 (qf (qp (zI uO (hmR hr) (qa (pv 4) (qa (pv 5) qd)))))))))),?_⟩
  ext;refine ⟨by show 2<=sizeLine;decide,fun g hg=>?_⟩;have s0:=qL (Sr H) (o:=.tup [.ty "list",.ty "tuple"]) hg;ext;refine qer (s0 _ _ A) qb ?_;ext;refine yq ?_;ext;intro d hd;have s1:=qL s0 (o:=.dK []) hd;have ed:upd (upd H g (.tup [.ty "list",.ty "tuple"])) d (.dK []) d=some (.dK []):=qb;have ai:H d=none:=s0.free hd;generalize upd (upd H g (.tup [.ty "list",.ty "tuple"])) d (.dK [])=H1 at s1 ed;ext;refine .inl ⟨⟨_,.of (s1 _ _ A)⟩,ju (xs:=c.map V.str) (fun i σ J=>L2.Same H J/\∃ (kvs:List (Key×V)) (y3 y4 y5:Option V),σ=[some (.ref x),some (.ref a),some (.ref d),y3,y4,y5]/\J d=some (.dK kvs)/\kvs.length<=i/\OutN ss kvs (c.take i)) ⟨s1,[],_,_,_,rfl,ed,yh _,fun j s' _=>by simp [jP]⟩ (fun i σ J _ D=>.of (D.1 _ _ A)) (fun i y σ J O D=>?_) fun σ J D=>?_⟩
  .obtain ⟨R,kvs,y3,y4,y5,rfl,U,Y,s⟩:=D;obtain ⟨v,gv,rfl⟩:=str_eq_list O;have al:=(yc.mp gv).1;have ao:c.take (i+1)=c.take i++[v]:=by rw [yK,gv];rfl
   obtain ⟨j,gj⟩:=yf (hv v (ye gv));ext;refine ⟨x,wx,_,rfl,R _ _ hb,jY (by decide +kernel),?_⟩;ext;refine ⟨x,ss,ns,v,j,rfl,W.web.same R,gj,fun J2 s2=>?_⟩;refine .inr ⟨d,_,rfl,DPut.k (k:=Sum.inl (j:Int)) (s2 _ _ U) (qi (by omega)),?_⟩;refine ⟨qaz (R.trans s2) ai,_,_,_,_,rfl,qb,?_,fun j' s' M=>?_⟩
   .have:=jr kvs (Sum.inl (j:Int):Key) (V.bl true);omega
   .rw [qak,ao];by_cases e:j'=j
    .subst e;rw [yD rfl];have:s'=v:=by rw [M] at gj;exact ym gj
     simp [this]
    .rw [yy (fun z=>e (by have:=Sum.inl.inj z;omega)),s j' s' M];have C:¬ s'=v:=fun z=>e (qw hw.nd (by rw [z] at M;exact M) gj);simp [C]
  .obtain ⟨R,kvs,y3,y4,y5,rfl,U,_,s⟩:=D;rw [show (c.map V.str).length=c.length from ya _,yR] at s;have S:=R _ _ an;ext;refine .inl ⟨x,cw,wx,_,.ref ol,rfl,R _ _ hb,T.wcl,T.wo,qbi,?_⟩;refine .inl ⟨⟨_,SqL.of S⟩,qK (K:=K) (fun i ys H'=>H'=J/\ys=(qS (ss.take i) c).map V.str) ⟨rfl,rfl⟩ (fun i ys H' _ D=>by rw [D.1];exact SqL.of S) (fun i y ys H' O D=>?_) fun ys H' D=>?_⟩
   .obtain ⟨rfl,rfl⟩:=D;rw [yd] at O;obtain ⟨sy,gi,rfl⟩:=yn.mp O;have al:=(yc.mp gi).1;obtain ⟨i',as,ag,vi⟩:=jX (i:=0) (ye gi);rw [xw,qw hw.nd ag gi] at vi;have av:(qS (ss.take i) c).length<=i:=yi (qaZ _ _) (by rw [yT];omega)
    have Z:qS (ss.take (i+1)) c=qS (ss.take i) c++(if (!decide (sy∈c))=true then [sy] else []):=by
     unfold qS;rw [yK,gi,y9];show _++[sy].filter _=_;rw [yS,Yj]
    ext;refine .inl ⟨x,cw,wx,_,.ref dd,rfl,R _ _ hb,T.wcl,T.wn,jQ,?_⟩;ext;refine .inr ⟨dd,.int i,rfl,?_,?_⟩
    .have:=DGet.k (k:=Sum.inr sy) (R _ _ aj);rw [vi] at this;exact this
    ext;refine .inr (.inl ⟨d,_,rfl,DGet.k (k:=Sum.inl (i:Int)) U,?_⟩);have ev:(if true=true then !(jP kvs (Sum.inl (i:Int):Key)).isSome else (jP kvs (Sum.inl (i:Int):Key)).isSome)=!decide (sy∈c):=by rw [yD rfl,s i sy gi]
    rw [ev,Z];refine ⟨_,rfl,?_⟩
    cases (!decide (sy∈c)) with
    | true =>
     refine qal ?_;ext;exact ⟨by rw [ya];exact qi (by omega),rfl,by rw [yD rfl,yA];rfl⟩
    | false=>exact qW (fun h=>by cases h) fun _=>⟨rfl,by rw [yy (by decide),Yc]⟩
   .obtain ⟨rfl,rfl⟩:=D;rw [show (ss.map V.str).length=ss.length from ya _,yR];have ar:=qaZ ss c;refine ⟨by rw [ya];exact yX (qi (by omega)),fun m hm=>?_⟩;have s3:=qL R (o:=.lst ((qS ss c).map V.str)) hm;have em:upd H' m (.lst ((qS ss c).map V.str)) m=some (.lst ((qS ss c).map V.str)):=qb;generalize upd H' m (.lst ((qS ss c).map V.str))=J3 at s3 em;ext;refine ⟨x,wx,_,rfl,s3 _ _ hb,jY (by decide +kernel),?_⟩;ext;refine ⟨x,ss,ns,rfl,W.web.same s3,fun l ts J4 s4 au hl am N=>?_⟩;have X:=s4 _ _ em;obtain ⟨n,u⟩:∃ n,n=qO ss ns ss.length:=⟨_,rfl⟩;rw [<- u] at N;refine .inl ⟨⟨_,.of hl⟩,qK (xs:=ts.map V.ref) (fun i ys G=>G=J4/\∃ us:List Addr,ys=us.map V.ref/\us.length<=i/\All2 (fun t ab=>J4 t=some (.tup [.str ab.1,.str ab.2])) us (je (qS ss c) (n.take i))) ⟨rfl,[],rfl,yh _,.nil⟩ (fun i ys G _ I=>by rw [I.1];exact .of hl) (fun i y ys G O I=>?_) fun ys G I=>?_⟩
    .obtain ⟨rfl,us,rfl,ae,hU⟩:=I;rw [yd] at O;obtain ⟨t,ht,rfl⟩:=yn.mp O;have hi:=(yc.mp ht).1;obtain ⟨ab,p⟩:∃ ab,n[i]?=some ab:=⟨_,yb (by rw [<- N.len];exact hi)⟩;obtain ⟨_,_,z3⟩:=N.at_ i t ab ht p
     have Z:je (qS ss c) (n.take (i+1))=je (qS ss c) (n.take i)++(if (decide (ab.1∈qS ss c)&&decide (ab.2∈qS ss c))=true then [ab] else []):=by
      unfold je;rw [yK,p,y9];show _++[ab].filter _=_;rw [yS,Yj]
     rw [Z];ext;refine .inl (qaw z3 (v:=.str ab.1) (qy (j:=0) rfl) ?_);ext;refine qcf X ?_;refine ⟨_,rfl,?_⟩
     cases decide (ab.1∈qS ss c) with
     | false=>exact qW (fun h=>by cases h) fun _=>qW (fun h=>by cases h) fun _=>⟨rfl,us,rfl,by omega,by rw [kX,yy (by decide),Yc];exact hU⟩
     | true =>
      refine qal ?_;ext;refine .inl (qaw z3 (v:=.str ab.2) (qy (j:=1) rfl) ?_);ext;refine qcf X ?_;refine ⟨_,rfl,?_⟩;rw [Bool.true_and]
      cases decide (ab.2∈qS ss c) with
      | false=>exact qW (fun h=>by cases h) fun _=>⟨rfl,us,rfl,by omega,by rw [yy (by decide),Yc];exact hU⟩
      | true =>
       refine qal ?_;ext;exact ⟨by rw [ya];exact qi (by omega),rfl,us++[t],by rw [yA];rfl,by rw [yt];simp;omega,by rw [yD rfl];exact hU.snoc z3⟩
    .obtain ⟨rfl,us,rfl,ae,hU⟩:=I;rw [show (ts.map V.ref).length=n.length by rw [ya,N.len],yR] at hU;rw [ya] at ae;refine ⟨by rw [ya];exact yX (qi (by omega)),fun kl Y=>?_⟩;have ap:=s3.trans s4;have s5:=qL ap (o:=.lst (us.map V.ref)) Y;have af:=qL (Sr G) (o:=.lst (us.map V.ref)) Y;have aa:upd G kl (.lst (us.map V.ref)) kl=some (.lst (us.map V.ref)):=qb;have ad:PL (upd G kl (.lst (us.map V.ref))) kl us (je (qS ss c) n):=⟨aa,hU.mono fun _ _ z=>af _ _ z⟩;have ac:=af _ _ X;generalize upd G kl (.lst (us.map V.ref))=G5 at s5 aa ad ac
     have L:∀ {a b:Str},(a,b)∈je (qS ss c) n↔(a,b)∈n/\a∈qS ss c/\b∈qS ss c:=fun {a b}=>by
      unfold je;rw [yp,yU,yJ,yJ]
     have hg:TGo (qS ss c) (je (qS ss c) n):=by
      refine ⟨yi (yF _ _) (by rw [u];exact ah),fun ab p=>?_,?_⟩
      .obtain ⟨h1,h2,h3⟩:=L.mp p;rw [u] at h1;exact ⟨h2,h3,W.ir _ _ ((zu hw W.adj).mp h1).1⟩
      .refine Y2 (fun {q r} hq hr C=>⟨C,fun z=>?_⟩) ((X4).nodup (by rw [u];exact qfk hw):(je (qS ss c) n).Nodup);have q1:=(L.mp hq).1;have r1:=(L.mp hr).1;rw [u] at q1 r1;obtain ⟨_,i1,j1,l1,a1,b1⟩:=(zu hw W.adj).mp q1;obtain ⟨_,i2,j2,l2,a2,b2⟩:=(zu hw W.adj).mp r1;rw [z] at a1 b1;have:=qw hw.nd a1 b2;have:=qw hw.nd b1 a2;omega
     ext;refine fun y dx O ak C=>wmake ac (by omega) (hw.nd.filter _) (fun z hz=>hw.nm z (mem_out.mp hz).1) ad hg O ak C fun ms H9 s9 _ W9=>⟨rfl,?_⟩;refine q y ms H9 (s5.trans s9) (W9.to (fun ab p=>?_) fun a b A B=>?_)
     .unfold je at p;obtain ⟨h1,h2⟩:=yp.mp p;rw [yU,yJ,yJ] at h2;exact ⟨h2.1,h2.2,(W.ok _ h1).2.2⟩
     .have k1:∀ {a b:Str},a∈qS ss c->b∈qS ss c->((a,b)∈je (qS ss c) tps↔(a,b)∈tps):=fun A hb=>by
       unfold je;rw [yp,yU,yJ,yJ];exact ⟨fun z=>z.1,fun z=>⟨z,A,hb⟩⟩
      unfold tA;rw [k1 A B,k1 B A,L,L,u];constructor
      .rintro (z | z)
       .exact ((zu hw W.adj).mp z.1).1
       .exact ((zu hw W.adj).mp z.1).1.symm
      .intro z;obtain ⟨ia,ga⟩:=yf (mem_out.mp A).1;obtain ⟨ib,gb⟩:=yf (mem_out.mp B).1;rcases ko ia ib with k | k | k
       .exact .inl ⟨(zu hw W.adj).mpr ⟨z,ia,ib,k,ga,gb⟩,A,B⟩
       .subst k;rw [ga] at gb;exact absurd (ym gb) (W.ir _ _ z)
       .exact .inr ⟨(zu hw W.adj).mpr ⟨z.symm,ib,ia,k,gb,ga⟩,B,A⟩
theorem and_or_dis:∀ (a b:Nat),a &&& b=0->a+b=a ||| b:=by
 intro a
 induction a using Nat.strongRecOn with
 | ind a ih =>
  intro b h;by_cases d:a=0
  .subst d;simp
  .have c:(a / 2) &&& (b / 2)=0:=by rw [<- Nat.and_div_two,h]
   have e:=ih (a / 2) (by omega) (b / 2) c
   have h1:(a % 2) &&& (b % 2)=0:=by
    have:=congrArg (· % 2) h;simpa [Nat.and_mod_two_pow (n:=1)] using this
   have j:(a ||| b) / 2=a / 2 ||| b / 2:=Nat.or_div_two
   have i:(a ||| b) % 2=(a % 2) ||| (b % 2):=by
    simpa using Nat.or_mod_two_pow (a:=a) (b:=b) (n:=1)
   have g:(a % 2) ||| (b % 2)=a % 2+b % 2:=by
    rcases Xe a with x | x<;>rcases Xe b with y | y<;>rw [x,y] at h1 ⊢<;>first | rfl | exact absurd h1 (by decide)
   have f:=Nat.div_add_mod (a ||| b) 2;rw [j,i,g,<- e] at f;omega
noncomputable def bsT (is:List Nat):Nat:=(is.map fun k=>2 ^ k).sum
theorem qcg:∀ {is:List Nat},is.Nodup->∀ k,(bsT is).testBit k=decide (k∈is)
 | [],_,k=>by unfold bsT;simp
 | i::r,nd,k=>by
  obtain ⟨c,d⟩:=yo.mp nd;have a:=qcg d;have e:bsT (i::r)=2 ^ i+bsT r:=by unfold bsT;rw [Yt,XI]
  have b:2 ^ i &&& bsT r=0:=by
   apply Nat.eq_of_testBit_eq;intro j;rw [Nat.testBit_and,xC,Nat.zero_testBit,a];by_cases h:i=j
   .subst h;rw [yl c,Bool.and_false]
   .rw [yl h,kX]
  rw [e,and_or_dis _ _ b,Xc,xC,a,Yb,XU,yJ,yJ,yJ,yB];exact ⟨fun z=>z.imp Eq.symm id,fun z=>z.imp Eq.symm id⟩
theorem qeM (nd:is.Nodup) (h:∀ k∈is,k<n):bsT is<2 ^ n:=by
 refine Nat.lt_pow_two_of_testBit _ fun i a=>?_;rw [qcg nd];exact yl fun z=>by have:=h i z;omega
theorem qdj {k:Nat} (nd:is.Nodup) (h:k∈is):0<bsT is:=by
 rcases Nat.eq_zero_or_pos (bsT is) with z | z
 .have:=qcg nd k;rw [z,Nat.zero_testBit,yM h] at this;cases this
 .exact z
noncomputable def nmL (ss:List Str) (is:List Nat):List Str:=is.filterMap fun k=>ss[k]?
theorem qch (c:ss.Nodup) {k:Nat} (a:ss[k]?=some y):y∈nmL ss is↔k∈is:=by
 unfold nmL;rw [Xn];constructor
 .rintro ⟨j,b,e⟩;rw [qw c a e];exact b
 .intro h;exact ⟨k,h,a⟩
theorem qeN (h:y∈nmL ss is):y∈ss:=by
 obtain ⟨k,_,e⟩:=Xn.mp h;exact ye e
theorem qa7 (ss:List Str) (is a:List Nat):nmL ss (is++a)=nmL ss is++nmL ss a:=List.filterMap_append
theorem qa8 {k:Nat} (h:ss[k]?=some y):nmL ss [k]=[y]:=by unfold nmL;simp [h]
theorem zf:∀ {is:List Nat},(∀ k∈is,k<ss.length)->(nmL ss is).length=is.length
 | [],_=>rfl
 | k::r,h=>by
  obtain ⟨y,b⟩:∃ y,ss[k]?=some y:=⟨_,yb (h k yN)⟩;have e:nmL ss (k::r)=y::nmL ss r:=by unfold nmL;rw [Xh,b]
  rw [e,yC,yC,zf fun j a=>h j (yz _ a)]
theorem nmL_filter (c:ss.Nodup) (f:Nat->Bool):nmL ss ((List.range ss.length).filter f)=ss.filter fun s=>f (ss.idxOf s):=by
 have key:∀ k,k<=ss.length->nmL ss ((List.range k).filter f)=(ss.take k).filter fun s=>f (ss.idxOf s):=fun k=>by
  induction k with
  | zero=>intro _;rfl
  | succ k ih =>
   intro e;have a:ss[k]?=some ss[k]:=yb (by omega);generalize ss[k]=d at a;have b:ss.take (k+1)=ss.take k++[d]:=by rw [yK,a];rfl
   rw [xT,y9,qa7,ih (by omega),b,y9,yS,Yj,yS,Yj,qbE c a]
   cases f k with
   | true=>rw [yD rfl,yD rfl,qa8 a]
   | false=>rfl
 have:=key ss.length (yh _)
 rwa [yR] at this
noncomputable def gdI (TI:List (Nat×Nat)) (n b a:Nat):List Nat:=((nbQ TI n a).filter fun k=>!b.testBit k).filter fun k=>!wQ (nbQ TI n) n (b ||| 2 ^ k) k
section
variable {tps:List (Str×Str)}
theorem qfo {TI:List (Nat×Nat)} (f:∀ a b,tA tps a b->a≠b) (g:ss.Nodup) (r:TJ ss.length TI) (q:TEq ss TI tps) {b k:Nat} (h1:0<b) (p:b<2 ^ ss.length) (h:ss[k]?=some y) (hb:b.testBit k=false) :
  (wQ (nbQ TI ss.length) ss.length (b ||| 2 ^ k) k=false↔mo tps ss.length (del (rmL ss b) y)=mo tps ss.length (rmL ss b)):=by
 have v:=qeI hb;have s:=(yc.mp h).1;have d:(rmL ss b).Nodup:=g.filter _;have c:=qgx f g r q _ (b ||| 2 ^ k) k y (yh _) (by omega) (qdZ p s) h;rw [qeL g h] at c;have i:=(qa6 g h (b:=b)).mpr hb;have e:=qdh f (n:=ss.length) (m:=ss.length+1) d (qcd d i) (qad _ _) (by rw [yC];have:=qaE (rmL ss b) y;have:=qad ss b;omega);rw [<- e] at c;have u:=(qbI f d i).1;have j:=qeF f (n:=ss.length) (m:=(del (rmL ss b) y).length) (l:=del (rmL ss b) y) (yi (qaE _ _) (qad _ _)) (yh _) (d.filter _);have o:=qeF f (n:=ss.length) (m:=(rmL ss b).length) (l:=rmL ss b) (qad _ _) (yh _) d;rw [<- j,<- o] at u
 cases w:wQ (nbQ TI ss.length) ss.length (b ||| 2 ^ k) k with
 | true=>rw [w] at c;have:=c.mp rfl;constructor<;>intro z<;>first | cases z | omega
 | false =>
  rw [w] at c;refine ⟨fun _=>?_,fun _=>rfl⟩;rcases Kc (mo tps ss.length (del (rmL ss b) y)) (mo tps ss.length (rmL ss b)) with z | z
  .have:=c.mpr z;cases this
  .omega
theorem qfp (b:ss.Nodup) (nd:is.Nodup):qS ss (nmL ss is)=rmL ss (bsT is):=by
 unfold qS rmL;refine YD fun s c=>?_;obtain ⟨k,a⟩:=yf c;rw [qbE b a,qcg nd]
 congr 1
 exact Yr.mpr (qch b a)
theorem out_out (l a b:List Str):qS (qS l a) b=qS l (a++b):=by
 unfold qS;rw [xm];refine YD fun s _=>?_;rw [Yb];simp;exact ⟨fun z=>⟨z.2,z.1⟩,fun z=>⟨z.2,z.1⟩⟩
theorem keep_tA {l:List Str} {b:Str} (c:a∈l) (hb:b∈l):tA (je l tps) a b↔tA tps a b:=by
 have d:∀ {a b:Str},a∈l->b∈l->((a,b)∈je l tps↔(a,b)∈tps):=fun c hb=>by
  unfold je;rw [yp,yU,yJ,yJ];exact ⟨fun z=>z.1,fun z=>⟨z,c,hb⟩⟩
 unfold tA;rw [d c hb,d hb c]
theorem qbJ {l:List Str} {b:Str} (c:a∈l) (hb:b∈l):tB (je l tps) a b=tB tps a b:=by
 rw [Yb,tB_iff,tB_iff];exact keep_tA c hb
theorem good_eq {TI:List (Nat×Nat)} (B:∀ a b,tA tps a b->a≠b) (c:ss.Nodup) (K:TJ ss.length TI) (I:TEq ss TI tps) {a:Nat} (nd:(is++[a]).Nodup) (L:∀ k∈is++[a],k<ss.length) (hz:ss[a]?=some z)
  (g:PGo (qS ss (nmL ss (is++[a]))) (je (qS ss (nmL ss (is++[a]))) (je (qS ss (nmL ss is)) tps)) qs) (F:Fn (tA (je (qS ss (nmL ss (is++[a]))) (je (qS ss (nmL ss is)) tps))) (pt qs) S (qS ss (nmL ss (is++[a])))) :
  ((qS ss (nmL ss is)).filter fun o=>tB (je (qS ss (nmL ss is)) tps) z o&&decide (o∈reL S (qS ss (nmL ss (is++[a])))))=nmL ss (gdI TI ss.length (bsT (is++[a])) a):=by
 have R:gdI TI ss.length (bsT (is++[a])) a=(List.range ss.length).filter fun k=>(decide ((min k a,max k a)∈TI)&&!(bsT (is++[a])).testBit k)&&!wQ (nbQ TI ss.length) ss.length (bsT (is++[a]) ||| 2 ^ k) k:=by
  unfold gdI
  conv=>lhs;unfold nbQ
  rw [xm,xm];refine YD fun k _=>?_;rw [Yb];simp only [yU];exact ⟨fun z=>⟨⟨z.2,z.1.2⟩,z.1.1⟩,fun z=>⟨⟨z.2,z.1.2⟩,z.1.1⟩⟩
 rw [R,nmL_filter c];have P:∀ f:Str->Bool,(qS ss (nmL ss is)).filter f=ss.filter fun o=>f o&&!decide (o∈nmL ss is):=fun f=>by unfold qS;rw [xm]
 rw [P];refine YD fun o N=>?_;obtain ⟨k,u⟩:=yf N;rw [qbE c u];have J:=qfp c nd;rw [J] at g F;have X:is.Nodup:=(yV.mp nd).1;have j:=qdj nd (yP is (yx.mpr rfl));have h:=qeM nd L
 have G:z∈qS ss (nmL ss is):=mem_out.mpr ⟨ye hz,fun w=>by
  have:=(qch c hz).mp w;exact (yV.mp nd).2.2 a this a (by simp) rfl⟩
 have E:=qdT K I hz u
 have i:k∈nbQ TI ss.length a↔(min k a,max k a)∈TI:=by
  unfold nbQ;rw [yp,YJ,yJ];exact ⟨fun w=>w.2,fun w=>⟨(yc.mp u).1,w⟩⟩
 have r:∀ x∈rmL ss (bsT (is++[a])),x∈qS ss (nmL ss is):=fun x e=>by
  rw [<- J] at e;obtain ⟨h1,p⟩:=mem_out.mp e;exact mem_out.mpr ⟨h1,fun w=>p (by rw [qa7];exact yH _ w)⟩
 have sub:∀ x y,tA (je (rmL ss (bsT (is++[a]))) (je (qS ss (nmL ss is)) tps)) x y->tA tps x y:=fun x y w=>w.imp (fun q=>(yp.mp (yp.mp q).1).1) fun q=>(yp.mp (yp.mp q).1).1
 have A:∀ (n:Nat) (l:List Str),(∀ x∈l,x∈rmL ss (bsT (is++[a])))->mo (je (rmL ss (bsT (is++[a]))) (je (qS ss (nmL ss is)) tps)) n l=mo tps n l:=fun n l hl=>qbr n fun x e y O=>by
  rw [qbJ (hl x e) (hl y O),qbJ (r x (hl x e)) (r y (hl y O))]
 have s:(rmL ss (bsT (is++[a]))).Nodup:=c.filter _
 have C:o∈rmL ss (bsT (is++[a]))->((S.rows o).isSome=true↔mo tps ss.length (del (rmL ss (bsT (is++[a]))) o)=mo tps ss.length (rmL ss (bsT (is++[a])))):=fun D=>by
  have l:=qdR (fun x y w=>B x y (sub x y w)) s g F D;rw [A _ _ (fun x e=>(mem_del.mp e).1),A _ _ (fun x e=>e)] at l;have T:=qeF B (n:=ss.length) (m:=(del (rmL ss (bsT (is++[a]))) o).length) (l:=del (rmL ss (bsT (is++[a]))) o) (yi (qaE _ _) (qad _ _)) (yh _) (s.filter _);have U:=qeF B (n:=ss.length) (m:=(rmL ss (bsT (is++[a]))).length) (l:=rmL ss (bsT (is++[a]))) (qad _ _) (yh _) s;rw [T,U,l]
  cases S.rows o with
  | none=>exact ⟨(fun w=>by cases w),fun w=>absurd rfl w⟩
  | some v=>exact ⟨(fun _ w=>by cases w),fun _=>rfl⟩
 rw [Yb];simp only [yU,xv,Y5,xM];rw [J];constructor
 .rintro ⟨⟨h1,p⟩,H⟩;have d:o∈qS ss (nmL ss is):=mem_out.mpr ⟨N,H⟩;rw [qbJ G d] at h1;unfold reL at p;obtain ⟨M,W⟩:=yp.mp p;have hb:=(qa6 c u).mp M;refine ⟨⟨i.mp (E.mpr (tB_iff.mp h1)),hb⟩,?_⟩;exact (qfo B c K I j h u hb).mpr ((C M).mp W)
 .rintro ⟨⟨h1,p⟩,H⟩;have D:=(qa6 c u).mpr p;have d:=r o D;refine ⟨⟨?_,?_⟩,(mem_out.mp d).2⟩
  .rw [qbJ G d];exact tB_iff.mpr (E.mp (i.mpr h1))
  .unfold reL;exact yp.mpr ⟨D,(C D).mpr ((qfo B c K I j h u p).mp H)⟩
end
theorem K7:FnScope ["web","start","free"] ["web","start"] (qh j3):=fS
theorem um:FnScope ["self"] ["self"] (qh jM):=fS
theorem cut_last (xs:List V) (h:xs≠[]):qcx xs none (some (-1))=xs.dropLast:=by
 have hl:0<xs.length:=X3.mpr h;unfold qcx;rw [HT.sIx_none]
 have e:HT.sIx xs.length xs.length (some (-1))=xs.length-1:=by
  show (if (-1:Int)<0 then (-1+(xs.length:Int)).toNat else min (-1:Int).toNat xs.length)=_;rw [yD (by decide)];omega
 rw [e,List.drop_zero,kR,List.dropLast_eq_take]
theorem Wt.bes2 (h:Wt cw H x ss ns tps) (hz:ss[j]?=some z):inB ss 0 (ns.getD j 0)=ss.filter (tB tps z):=by
 rw [zd h.wok.nd];refine YD fun s a=>?_;rw [Yb,tB_iff];exact h.adj j _ z s hz (by rw [yb (Yg a),Yy])
noncomputable def gmS (ss:List Str) (tps:List (Str×Str)) (S:FS) (z:Str):List Str:=ss.filter fun o=>tB tps z o&&decide (o∈reL S (qS ss [z]))
inductive spGmQ (cw:Addr) (vs:List V) (H:Hp) (Q:VK) (E:XK):Prop|mk (x:Addr) (ss:List Str) (ns:List Nat) (tps:List (Str×Str)) (z:Str) (_:vs=[.ref x,.str z]) (_:Wt cw H x ss ns tps) (_:z∈ss) (_:ss.length<=7) (_:∀ (l:Addr) (S:FS) (rs:List (Str×Str)) (H':Hp),L2.Same H H'->H l=none->PGo (qS ss [z]) (je (qS ss [z]) tps) rs->Fn (tA (je (qS ss [z]) tps)) (pt rs) S (qS ss [z])->H' l=some (.lst ((gmS ss tps S z).map V.str))->Q (.ref l) H')
inductive spWlP (cc:Nat->Addr) (cw:Addr) (vs:List V) (H:Hp) (Q:VK) (E:XK):Prop|mk (x b p:Addr) (ss:List Str) (ns:List Nat) (tr:List Str) (z:Str) (tps:List (Str×Str)) (_:vs=[.ref x]) (_:PlayAt (cc 8) cw H x b p ss ns (tr++[z])) (_:Wt cw H b ss ns tps) (_:ss.length<=7) (_:tr.length<=14) (_:(∀ s∈tr,s∈ss)) (_:∀ (y:Addr) (ms:List Nat) (H':Hp),L2.Same H H'->Wt cw H' y (qS ss tr) ms (je (qS ss tr) tps)->Q (.ref y) H')
theorem ok_gmQ (F:Fun K "good_moves" "good_moves" j3 f fd) (T:Txt K mg cc cw) (uE:DefOk P w K mg base CX0 15 "loose" ["web"] (spLo cw)) (N:MethOk P w K mg base CX0 8 cw "without" ["self","places"] (spWo cw)) (O:MethOk P w K mg base CX0 6 cw "beside" ["self","place"] (spBs cw)):FnOk P w K mg base CX0 16 f fd ["web","start"] (spGmQ cw):=by
 refine F.ok K7 fun _ _ _ s H vs Q E g h=>?_
 .obtain ⟨x,ss,ns,tps,z,rfl,W,hz,u,q⟩:=h;have hu:=jS g;obtain ⟨L,dd,ol,nn,hb,_⟩:=id W.web;obtain ⟨j,I⟩:=yf hz;refine ⟨_,(qc (qo (i:=2) K7.nd rfl (Xi rfl) (qv uE (hmR g) qH (qa (qD N (hmR g) (pv 0) (qa (qP (qa (pv 1) qd)) qd)) qd)))
 (qf (qp (jh (sc:=qh j3) (XN:=["web","start","free"]) ["place","free"] 1 [2] rfl rfl rfl (by decide +kernel) rfl (by decide +kernel)
  (qT (K:=K) rfl (qD O (hmR g) (pv 0) (qa (pv 1) qd))) (fun _ _ _ _=>(qr (i:=0) (show (["place","free"]:List Str).Nodup by decide +kernel) rfl (yO rfl))) qR
  (fun _ _ _ _=>(q9 (qj (zT (K:=K) rfl hu) (pv 0) (pv 1) (by with_unfolding_all rfl))))
  (fun _ _ _ _=>(pv 0)))))),?_⟩
  ext;refine ⟨x,L,_,rfl,hb,jY (by decide +kernel),?_⟩;ext;refine ⟨by show 1<=sizeLine;decide,fun a ha=>?_⟩;have B:=qL (Sr H) (o:=.lst [.str z]) ha;have D:upd H a (.lst [.str z]) a=some (.lst ([z].map V.str)):=qb;generalize upd H a (.lst [.str z])=H1 at B D;ext;refine ⟨x,a,ss,ns,tps,[z],rfl,W.same B,yi (qdV W.wok u) (by decide),D,(fun s hs=>by rw [yx.mp hs];exact hz),by show 1<=14;decide,fun y ms H2 s2 R=>?_⟩;ext;refine ⟨y,_,ms,_,rfl,R,fun lf S rs H3 s3 Z Y v=>?_⟩;have c:=(B.trans s2).trans s3;ext;refine ⟨x,L,_,rfl,c _ _ hb,jY (by decide +kernel),?_⟩;ext;refine ⟨x,ss,ns,z,j,rfl,W.web.same c,I,fun C s4 m hm=>?_⟩;rw [W.bes2 I];generalize d:ss.filter (tB tps z)=b;have aa:b.length<=7:=by rw [<- d];exact yi (yF _ _) u
  have n:=qL s4 (o:=.lst (b.map V.str)) hm;have r:upd C m (.lst (b.map V.str)) m=some (.lst (b.map V.str)):=qb;generalize upd C m (.lst (b.map V.str))=M at n r;have p:=n _ _ v;refine .inl ⟨⟨_,.of r⟩,qK (xs:=b.map V.str) (fun i ys G=>G=M/\ys=((b.take i).filter fun o=>decide (o∈reL S (qS ss [z]))).map V.str) ⟨rfl,rfl⟩ (fun i ys G _ e=>by rw [e.1];exact .of r) (fun i y ys G J e=>?_) fun ys G e=>?_⟩
  .obtain ⟨rfl,rfl⟩:=e;rw [yd] at J;obtain ⟨o,ho,rfl⟩:=yn.mp J
   have A:(b.take (i+1)).filter (fun o=>decide (o∈reL S (qS ss [z])))=(b.take i).filter (fun o=>decide (o∈reL S (qS ss [z])))++(if decide (o∈reL S (qS ss [z]))=true then [o] else []):=by
    rw [yK,ho,y9];show _++[o].filter _=_;rw [yS,Yj]
   have ac:((b.take i).filter (fun o=>decide (o∈reL S (qS ss [z])))).length<=7:=yi (yF _ _) (by rw [yT];omega);ext;refine qcf p ?_;rw [A];ext;refine qW (fun h=>?_) fun h=>?_
   .rw [yD h];ext;exact ⟨by rw [ya];exact qi (by omega),rfl,by rw [yA];rfl⟩
   .rw [yy h,Yc];exact ⟨rfl,rfl⟩
  .obtain ⟨rfl,rfl⟩:=e;have U:(b.map V.str).length=b.length:=ya _;rw [U,yR]
   have X:b.filter (fun o=>decide (o∈reL S (qS ss [z])))=gmS ss tps S z:=by
    rw [<- d,xm];unfold gmS;exact YD fun o _=>Bool.and_comm _ _
   have ad:(gmS ss tps S z).length<=7:=yi (yF _ _) u;rw [X];refine ⟨by rw [ya];exact yX (qi (by omega)),fun l hl=>?_⟩;have s6:=qL (c.trans n) (o:=.lst ((gmS ss tps S z).map V.str)) hl;exact q l S rs _ s6 ((c.trans n).free hl) Z Y qb
theorem ok_wlP (F:Fun K "web_left" "Play.web_left" jM f fd) (T:Txt K mg cc cw) (m:MethOk P w K mg base CX0 8 cw "without" ["self","places"] (spWo cw)):FnOk P w K mg base CX0 9 f fd ["self"] (spWlP cc cw):=by
 refine F.ok um fun _ _ _ _ H vs Q E i h=>?_
 .obtain ⟨x,b,p,ss,ns,tr,z,tps,rfl,v,W,u,a,c,q⟩:=h;have I:=jS i;obtain ⟨dx,j,B,A⟩:=id v;obtain ⟨G,d,ol,n,hb,_,_,_,hw⟩:=id A;refine ⟨_,(qf (qp (qD m (hmR i) (qA (K:=K) rfl (pv 0) rfl) (qa (zj (qe9 (K:=K) rfl) (qA (K:=K) rfl (pv 0) rfl) zU (j4 (qav j5 qg))) qd)))),?_⟩;ext;refine .inl ⟨x,cc 8,dx,_,.ref b,rfl,j,T.pcl,T.pb,qdU,?_⟩;ext;refine ⟨b,G,_,rfl,hb,jY (by decide +kernel),?_⟩;ext;refine .inl ⟨x,cc 8,dx,_,.ref p,rfl,j,T.pcl,T.pp,qae,?_⟩;ext;refine vU ?_;ext;refine .inl ⟨p,_,rfl,SqL.of B,fun l hl=>?_⟩
  have s:qcx ((tr++[z]).map V.str) none (some (-1))=tr.map V.str:=by
   rw [cut_last _ (by simp)];simp
  rw [s];have e:=qL (Sr H) (o:=.lst (tr.map V.str)) hl;have g:upd H l (.lst (tr.map V.str)) l=some (.lst (tr.map V.str)):=qb;generalize upd H l (.lst (tr.map V.str))=H1 at e g ⊢;ext;exact ⟨b,l,ss,ns,tps,tr,rfl,W.same e,yi (qdV W.wok u) (by decide),g,c,a,fun y C H2 D r=>q y C H2 (e.trans D) r⟩
noncomputable def gdN (ss:List Str) (TI:List (Nat×Nat)) (is:List Nat) (a:Nat):List Str:=nmL ss (gdI TI ss.length (bsT (is++[a])) a)
theorem qfq {TI:List (Nat×Nat)} {b a k:Nat} (h:k∈gdI TI n b a):k<n:=qbc (yp.mp (yp.mp h).1).1
theorem gdI_len (TI:List (Nat×Nat)) (n b a:Nat):(gdI TI n b a).length<=n:=yi (yF _ _) (yi (yF _ _) (qcc _ _ _))
theorem qeO (ss:List Str) (TI:List (Nat×Nat)) (is:List Nat) (a:Nat):(gdN ss TI is a).length<=ss.length:=by
 unfold gdN;rw [zf fun k b=>qfq b];exact gdI_len _ _ _ _
theorem gdN_emp {TI:List (Nat×Nat)} {a:Nat}:(gdN ss TI is a).isEmpty=(gdI TI ss.length (bsT (is++[a])) a).isEmpty:=by
 have e:=zf (ss:=ss) (is:=gdI TI ss.length (bsT (is++[a])) a) fun k b=>qfq b;unfold gdN;generalize gdI TI ss.length (bsT (is++[a])) a=L at e ⊢;generalize nmL ss L=M at e ⊢;cases L<;>cases M<;>simp at e ⊢
theorem qg3:∀ {l m:List Nat},l.Nodup->(∀ x∈l,x∈m)->l.length<=m.length
 | [],_,_,_=>YH _
 | x::r,m,hn,hs=>by
  obtain ⟨h1,c⟩:=yo.mp hn;have a:=hs x yN;have:=qg3 (l:=r) (m:=m.erase x) c fun y b=>(Xd (fun e=>h1 (by rw [<- e];exact b))).mpr (hs y (yz _ b));rw [YQ a] at this;have:0<m.length:=YW a;simp only [yC];omega
theorem gd_win {TI:List (Nat×Nat)} {b a:Nat} (h1:0<b) (i:b<2 ^ n):wQ (nbQ TI n) n b a=!(gdI TI n b a).isEmpty:=by
 rw [qfK (fun a k c=>qbc c) h1 i,Yb,Yo,Y5];unfold gdI;constructor
 .rintro ⟨k,c,e⟩;obtain ⟨d,f⟩:=(yU _ _).mp e;have g:k∈((nbQ TI n a).filter fun k=>!b.testBit k).filter fun k=>!wQ (nbQ TI n) n (b ||| 2 ^ k) k:=yp.mpr ⟨yp.mpr ⟨c,d⟩,f⟩
  cases e:((nbQ TI n a).filter fun k=>!b.testBit k).filter fun k=>!wQ (nbQ TI n) n (b ||| 2 ^ k) k with
  | nil=>rw [e] at g;cases g
  | cons k r=>rfl
 .intro h
  cases e:((nbQ TI n a).filter fun k=>!b.testBit k).filter fun k=>!wQ (nbQ TI n) n (b ||| 2 ^ k) k with
  | nil=>rw [e] at h;cases h
  | cons k r =>
   have c:k∈((nbQ TI n a).filter fun k=>!b.testBit k).filter fun k=>!wQ (nbQ TI n) n (b ||| 2 ^ k) k:=by rw [e];exact yN
   obtain ⟨d,f⟩:=yp.mp c;obtain ⟨j,l⟩:=yp.mp d;exact ⟨k,j,by rw [l,f];rfl⟩
structure Pos (ss:List Str) (ns:List Nat) (tps:List (Str×Str)) (TI:List (Nat×Nat)) (is:List Nat) (a:Nat):Prop where
 nd:(is++[a]).Nodup
 lt:∀ k∈is++[a],k<ss.length
 few:ss.length<=7
 tj:TJ ss.length TI
 te:TEq ss TI tps
section
variable {ss:List Str} {ns:List Nat} {tps:List (Str×Str)} {TI:List (Nat×Nat)} {is:List Nat} {a:Nat} {z:Str}
theorem Pos.len (h:Pos ss ns tps TI is a):is.length+1<=7:=by
 have:=qg3 (l:=is++[a]) (m:=List.range ss.length) h.nd fun k b=>YJ.mpr (h.lt k b);rw [yt,YI] at this;have:=h.few;simp at *;omega
theorem Pos.at_ (h:Pos ss ns tps TI is a):∃ z,ss[a]?=some z:=⟨_,yb (h.lt a (by simp))⟩
theorem Pos.tr (h:Pos ss ns tps TI is a) (hz:ss[a]?=some z):nmL ss (is++[a])=nmL ss is++[z]:=by rw [qa7,qa8 hz]
theorem Pos.out (h:Pos ss ns tps TI is a) (hz:ss[a]?=some z):qS (qS ss (nmL ss is)) [z]=qS ss (nmL ss (is++[a])):=by rw [out_out,h.tr hz]
theorem Pos.inL (h:Pos ss ns tps TI is a) (b:ss.Nodup) (hz:ss[a]?=some z):z∈qS ss (nmL ss is):=mem_out.mpr ⟨ye hz,fun w=>(yV.mp h.nd).2.2 a ((qch b hz).mp w) a (by simp) rfl⟩
theorem Pos.good (h:Pos ss ns tps TI is a) (c:∀ a b,tA tps a b->a≠b) (d:ss.Nodup) (hz:ss[a]?=some z) {rs:List (Str×Str)} (g:PGo (qS (qS ss (nmL ss is)) [z]) (je (qS (qS ss (nmL ss is)) [z]) (je (qS ss (nmL ss is)) tps)) rs) (F:Fn (tA (je (qS (qS ss (nmL ss is)) [z]) (je (qS ss (nmL ss is)) tps))) (pt rs) S (qS (qS ss (nmL ss is)) [z])):gmS (qS ss (nmL ss is)) (je (qS ss (nmL ss is)) tps) S z=gdN ss TI is a:=by
 rw [h.out hz] at g F;unfold gmS gdN;rw [h.out hz];exact good_eq c d h.tj h.te h.nd h.lt hz g F
theorem Pos.win (h:Pos ss ns tps TI is a) (j:∀ a b,tA tps a b->a≠b) (p:ss.Nodup) (hz:ss[a]?=some z) {rs:List (Str×Str)} (g:PGo (qS ss (nmL ss is)) (je (qS ss (nmL ss is)) tps) rs) (F:Fn (tA (je (qS ss (nmL ss is)) tps)) (pt rs) S (qS ss (nmL ss is))):hnd S z=if (gdN ss TI is a).isEmpty=true then 1 else 0:=by
 have f:=h.inL p hz;have c:(qS ss (nmL ss is)).Nodup:=p.filter _;have sub:∀ x y,tA (je (qS ss (nmL ss is)) tps) x y->tA tps x y:=fun x y w=>w.imp (fun q=>(yp.mp q).1) fun q=>(yp.mp q).1;have l:=qdR (fun x y w=>j x y (sub x y w)) c g F f;have i:∀ (n:Nat) (l:List Str),(∀ x∈l,x∈qS ss (nmL ss is))->mo (je (qS ss (nmL ss is)) tps) n l=mo tps n l:=fun n l hl=>qbr n fun x o y H=>qbJ (hl x o) (hl y H);rw [i _ _ (fun x o=>(mem_del.mp o).1),i _ _ (fun x o=>o)] at l
 have D:del (qS ss (nmL ss is)) z=rmL ss (bsT (is++[a])):=by
  rw [<- qfp p h.nd,<- h.out hz];unfold del
  conv=>rhs;unfold qS
  exact YD fun s _=>by simp
 have e:=qdj h.nd (yP is (yx.mpr rfl));have d:=qeM h.nd h.lt;have w:=qgx j p h.tj h.te _ (bsT (is++[a])) a z (yh _) e d hz;rw [<- D] at w;have C:(qS ss (nmL ss is)).length<=ss.length:=qaZ _ _;have E:=qaE (qS ss (nmL ss is)) z;have A:=qdh j (n:=(qS ss (nmL ss is)).length) (m:=ss.length+1) c (qcd c f) (yh _) (by rw [yC];omega);have B:=qeF j (n:=ss.length) (m:=(del (qS ss (nmL ss is)) z).length) (l:=del (qS ss (nmL ss is)) z) (by omega) (yh _) (c.filter _);rw [<- A,B] at w;have I:=(qbI j c f).1;rw [gd_win e d] at w;rw [gdN_emp];unfold hnd
 cases u:(gdI TI ss.length (bsT (is++[a])) a).isEmpty with
 | true =>
  rw [u] at w;have G:¬ mo tps (del (qS ss (nmL ss is)) z).length (del (qS ss (nmL ss is)) z)<mo tps (qS ss (nmL ss is)).length (qS ss (nmL ss is)):=fun q=>by have:=w.mpr q;cases this
  have:=l.mp (by omega)
  cases r:S.rows z with
  | none=>exact absurd r this
  | some v=>rfl
 | false =>
  rw [u] at w;have:=w.mp rfl
  cases r:S.rows z with
  | none=>rfl
  | some v=>have:=l.mpr (by rw [r];intro q;cases q);omega
end
theorem uz:FnScope ["play","names"] ["play"] (qh qa0):=fS
theorem K0:FnScope ["_law_names_here","_law_beside_here","_law_wins","_law_trail","_law_bits","_law_free","_law_good","_law_hand"] ["_law_names_here","_law_beside_here","_law_wins","_law_trail"] (qh qaF):=fS
noncomputable def hdV (ss:List Str) (TI:List (Nat×Nat)) (is:List Nat) (a:Nat):Int:=if (gdN ss TI is a).isEmpty=true then 1-(is.length:Int) % 2 else (is.length:Int) % 2
def DuT (H:Hp) (t g:Addr) (ss:List Str) (TI:List (Nat×Nat)) (is:List Nat) (a:Nat):Prop:=H t=some (.tup [.int (hdV ss TI is a),.ref g])/\H g=some (.lst ((gdN ss TI is a).map V.str))
theorem DuT.same {t g:Addr} {TI:List (Nat×Nat)} {a:Nat} (h:DuT H t g ss TI is a) (s:L2.Same H H'):DuT H' t g ss TI is a:=⟨s _ _ h.1,s _ _ h.2⟩
structure PlP (cc:Nat->Addr) (cw:Addr) (H:Hp) (x b p:Addr) (ss:List Str) (ns:List Nat) (tps:List (Str×Str)) (TI:List (Nat×Nat)) (is:List Nat) (a:Nat):Prop where
 pl:PlayAt (cc 8) cw H x b p ss ns (nmL ss (is++[a]))
 wt:Wt cw H b ss ns tps
 po:Pos ss ns tps TI is a
theorem PlP.same {TI:List (Nat×Nat)} {a:Nat} (h:PlP cc cw H x b p ss ns tps TI is a) (s:L2.Same H H'):PlP cc cw H' x b p ss ns tps TI is a:=⟨h.pl.same s,h.wt.same s,h.po⟩
inductive spOpQ (cc:Nat->Addr) (cw:Addr) (vs:List V) (H:Hp) (Q:VK) (E:XK):Prop|mk (x b p:Addr) (ss:List Str) (ns:List Nat) (tps:List (Str×Str)) (TI:List (Nat×Nat)) (is:List Nat) (a:Nat) (_:vs=[.ref x]) (_:PlP cc cw H x b p ss ns tps TI is a) (_:∀ (t g:Addr) (H':Hp),L2.Same H H'->H g=none->DuT H' t g ss TI is a->Q (.ref t) H')
structure TrP (H:Hp) (ln lb wd tn:Addr) (ss:List Str) (ns:List Nat) (tps:List (Str×Str)) (TI:List (Nat×Nat)) (is:List Nat) (a:Nat):Prop where
 nm:H ln=some (.lst (ss.map V.str))
 bs:∃ ls,BsL H lb ls TI ss.length
 wn:∃ kvs,H wd=some (.dT kvs)/\SvD (nbQ TI ss.length) ss.length kvs 0 0
 tr:H tn=some (.lst ((is++[a]).map iV))
 po:Pos ss ns tps TI is a
inductive spDuQ (vs:List V) (H:Hp) (Q:VK) (E:XK):Prop|mk (ln lb wd tn:Addr) (ss:List Str) (ns:List Nat) (tps:List (Str×Str)) (TI:List (Nat×Nat)) (is:List Nat) (a:Nat) (_:vs=[.ref ln,.ref lb,.ref wd,.ref tn]) (_:ss.Nodup) (_:TrP H ln lb wd tn ss ns tps TI is a) (_:∀ (t g:Addr) (H':Hp),L2.Same H H'->H g=none->DuT H' t g ss TI is a->Q (.ref t) H')
theorem qdk (is:List Nat) (a:Nat):atI ((is++[a]).map iV) (-1)=some (iV a):=by
 have:=qdO (xs:=(is++[a]).map iV) (j:=1) (v:=iV a) (by decide) (by simp) (by simp);exact this
theorem bsT_sum (is:List Nat):(is.map fun (k:Nat)=>(1*2 ^ ((k:Int)).toNat:Int)).sum=((bsT is:Nat):Int):=by
 unfold bsT
 induction is with
 | nil=>rfl
 | cons i r ih =>
  rw [Yt,XI,Yt,XI,ih,Ym,Int.one_mul];have:((2 ^ i:Nat):Int)=(2:Int) ^ i:=by rw [Xm];rfl
  omega
theorem qeP {z:Addr} {xs:List Str} {Q:VK} (hl:H l=some (.lst (xs.map V.str))) (hz:H z=some (.lst [])) (q:Q (.bl xs.isEmpty) H):qfC K (.ref l) (.ref z) H Q:=by
 cases xs with
 | nil=>exact .inl (.inl (.inr (.inl ⟨l,z,true,1,rfl,rfl,by decide,EqT.lst (n:=0) (e:=fun _=>true) (SqL.of hl) (SqL.of hz) rfl fun j x y h=>by (simp at h),q⟩)))
 | cons x r=>exact .inl (.inl (.inr (.inl ⟨l,z,false,1,rfl,rfl,by decide,EqT.lstL (SqL.of hl) (SqL.of hz) (by simp),q⟩)))
theorem ok_opQ (F:Fun K "of_play" "of_play" qa0 f fd) (T:Txt K mg cc cw) (U:DefOk P w K mg base CX0 16 "good_moves" ["web","start"] (spGmQ cw)) (O:MethOk P w K mg base CX0 9 (cc 8) "web_left" ["self"] (spWlP cc cw)) (R:MethOk P w K mg base CX0 1 (cc 8) "stands_at" ["self"] (spPsP cc cw)) (I:MethOk P w K mg base CX0 1 (cc 8) "hand" ["self"] (spPhP cc cw)):FnOk P w K mg base CX0 17 f fd ["play"] (spOpQ cc cw):=by
 refine F.ok uz fun _ _ _ s H vs Q E l h=>?_
 .obtain ⟨x,b,p,ss,ns,tps,TI,is,a,rfl,c,q⟩:=h;have hu:=jS l;obtain ⟨z,hz⟩:=c.po.at_;have N:=c.wt.wok.nd;have Z:=c.wt.ir;have M:=c.po.len;have v:=c.po.tr hz;have d:=c.pl;rw [v] at d;obtain ⟨dx,u,hp,hW⟩:=id d;have C:(nmL ss is).length<=14:=by rw [zf fun k A=>c.po.lt k (yH _ A)];omega
  refine ⟨_,(qc (qo (i:=1) uz.nd rfl (yO rfl) (qv U (hmR l) qH (qa (qF O (hmR l) (pv 0)) (qa (qF R (hmR l) (pv 0)) qd))))
 (qf (qp (jp (qa (qbY (qj (zi (K:=K) rfl hu) (pv 1) (qP qd) (qC _)) (qE zS qg (qF I (hmR l) (pv 0))) (qF I (hmR l) (pv 0))) (qa (pv 1) qd)))))),?_⟩
  ext;refine ⟨x,dx,_,rfl,u,j0,?_⟩;ext;refine ⟨x,b,p,ss,ns,nmL ss is,z,tps,rfl,d,c.wt,c.po.few,C,fun s hs=>qeN hs,fun y ms H1 r W=>?_⟩;ext;refine ⟨x,dx,_,rfl,r _ _ u,j0,?_⟩;ext;refine ⟨x,b,p,ss,ns,_,z,rfl,d.same r,by simp,?_⟩;ext;refine ⟨y,_,ms,_,z,rfl,W,c.po.inL N hz,yi (qaZ _ _) c.po.few,fun g S rs H2 s2 m Y X j=>?_⟩;rw [c.po.good Z N hz Y X] at j;have G:=r.trans s2;ext;refine ⟨by decide,fun D B=>?_⟩;have e:=qL (Sr H2) (o:=.lst []) B;have J:upd H2 D (.lst []) D=some (.lst []):=qb;replace j:=e _ _ j;replace e:=G.trans e;generalize upd H2 D (.lst [])=H3 at e J j;ext;refine qeP j J ?_;ext
  have L:((((nmL ss is++[z]).length:Nat):Int)-1) % 2=(is.length:Int) % 2:=by
   rw [yt,zf fun k A=>c.po.lt k (yH _ A)];simp
  have hv:hdV ss TI is a=if (gdN ss TI is a).isEmpty=true then 1-(is.length:Int) % 2 else (is.length:Int) % 2:=rfl;refine qW (fun h=>?_) fun h=>?_
  .rw [yD h] at hv;ext;refine ⟨x,dx,_,rfl,e _ _ u,j0,?_⟩;ext;refine ⟨x,b,p,ss,ns,_,rfl,d.same e,?_⟩;rw [L];ext;rw [<- hv];refine ⟨by show 2<=sizeLine;decide,fun t n=>?_⟩;exact q t g _ (qL e n) (r.free m) ⟨qb,by rw [qe (qm j n)];exact j⟩
  .rw [yy h] at hv;ext;refine ⟨x,dx,_,rfl,e _ _ u,j0,?_⟩;ext;refine ⟨x,b,p,ss,ns,_,rfl,d.same e,?_⟩;rw [L,<- hv];ext;refine ⟨by show 2<=sizeLine;decide,fun t n=>?_⟩;exact q t g _ (qL e n) (r.free m) ⟨qb,by rw [qe (qm j n)];exact j⟩
theorem ok_duQ (F:Fun K "_law_due" "_law_due" qaF f fd) (T:Txt K mg cc cw):FnOk P w K mg base CX0 1 f fd ["_law_names_here","_law_beside_here","_law_wins","_law_trail"] spDuQ:=by
 refine F.ok K0 fun _ _ _ _ H vs Q E hr h=>?_
 .obtain ⟨ln,lb,wd,tn,ss,ns,tps,TI,is,a,rfl,hn,n,q⟩:=h;have O:=jS hr;have au:=n.po.len;have few:=n.po.few;have ak:a<ss.length:=n.po.lt a (by simp);obtain ⟨ls,hB⟩:=n.bs;obtain ⟨kvs,ai,hS⟩:=n.wn;have x:=n.tr;have d:=qdj n.po.nd (yP is (yx.mpr rfl));have u:=qeM n.po.nd n.po.lt;refine ⟨_,(qc (qo (i:=4) K0.nd rfl (Xi rfl) (qk (k_sum (K:=K) rfl rfl) rfl T.b_sum PyProof.Rows.boot_sum (qa (jh (sc:=qh qaF) (XN:=["_law_names_here","_law_beside_here","_law_wins","_law_trail","_law_bits","_law_free","_law_good","_law_hand"]) ["_law_k"] 1 [] rfl rfl rfl (by decide +kernel) rfl (by decide +kernel)
  (qT (K:=K) rfl (pv 3)) (fun _ _ _ _=>(qr (i:=0) (show (["_law_k"]:List Str).Nodup by decide +kernel) rfl (yO rfl))) qR
  (fun _ _ _ _=>jG)
  (fun _ _ _ _=>(qE qbN qg (pv 0)))) qd)))
 (qc (zX (sc:=qh qaF) (XN:=["_law_names_here","_law_beside_here","_law_wins","_law_trail","_law_bits","_law_free","_law_good","_law_hand"]) ["_law_k","_law_bits"] 1 [4] rfl rfl rfl (by decide +kernel) rfl (by decide +kernel) (i:=5) K0.nd rfl rfl
  (qT (K:=K) rfl (qt (qu (K:=K) rfl O) (pv 1) (qt (qu (K:=K) rfl O) (pv 3) (qav j5 qg) (fun _ _=>rfl)) (fun _ _=>rfl))) (fun _ _ _ _=>(qr (i:=0) (show (["_law_k","_law_bits"]:List Str).Nodup by decide +kernel) rfl (yO rfl))) qR
  (fun _ _ _ _=>(q9 (qj (zi (K:=K) rfl O) (qE qdr (qE qdq (pv 1) (pv 0)) qg) qg (qC _))))
  (fun _ _ _ _=>(pv 0)))
 (qc (zX (sc:=qh qaF) (XN:=["_law_names_here","_law_beside_here","_law_wins","_law_trail","_law_bits","_law_free","_law_good","_law_hand"]) ["_law_k","_law_names_here","_law_wins","_law_bits"] 1 [0,2,4] rfl rfl rfl (by decide +kernel) rfl (by decide +kernel) (i:=6) K0.nd rfl rfl
  (qT (K:=K) rfl (pv 5)) (fun _ _ _ _=>(qr (i:=0) (show (["_law_k","_law_names_here","_law_wins","_law_bits"]:List Str).Nodup by decide +kernel) rfl (yO rfl))) qR
  (fun _ _ _ _=>(q9 (jf (qZ (qt (qu (K:=K) rfl O) (pv 2) (jp (qa (qE qeW (pv 3) (qE qbN qg (pv 0))) (qa (pv 0) qd))) (fun _ _=>rfl))))))
  (fun _ _ _ _=>(qt (qu (K:=K) rfl O) (pv 1) (pv 0) (fun _ _=>rfl))))
 (qc (qo (i:=7) K0.nd rfl (yO rfl) (qE zw (qE zS (qk (zh (K:=K) rfl) rfl T.b_len YO (qa (pv 3) qd)) qg) qg))
 (qf (qp (qt (qu (K:=K) rfl O) (qP (qa (jp (qa (pv 7) (qa (pv 6) qd))) (qa (jp (qa (qE zS qg (pv 7)) (qa (pv 6) qd))) qd))) (jq qaK rfl T.b_int boot_int (qa (jE (zi (K:=K) rfl O) (pv 6) (qP qd) (qC _)) qd)) (fun _ _=>rfl)))))))),?_⟩
  ext;have as:(is++[a]).length<=7:=by simp;omega
  have ae:=bsT_sum (is++[a]);have p:gdN ss TI is a=nmL ss (((nbQ TI ss.length a).filter fun k=>!(bsT (is++[a])).testBit k).filter fun k=>!wQ (nbQ TI ss.length) ss.length (bsT (is++[a]) ||| 2 ^ k) k):=rfl;have r:((((is++[a]).length:Nat):Int)-1) % 2=(is.length:Int) % 2:=by simp
  have s:=qdk is a;have ad:∀ k∈is++[a],k<ss.length:=n.po.lt;generalize aw:is++[a]=B at x as ae p r s ad d u;refine .inl ⟨⟨_,.of x⟩,qK (xs:=B.map iV) (fun i ys G=>G=H/\ys=((B.take i).map fun (k:Nat)=>(1*2 ^ ((k:Int)).toNat:Int)).map V.int) ⟨rfl,rfl⟩ (fun i ys G _ hp=>by rw [hp.1];exact .of x) (fun i y ys G z hp=>?_) fun ys G hp=>?_⟩
  .obtain ⟨rfl,rfl⟩:=hp;rw [yd] at z;obtain ⟨k,M,rfl⟩:=yn.mp z;have ay:=ad k (ye M);ext;refine qal ?_;ext;refine vI ⟨by show (0:Int)<=(k:Int);omega,by show (k:Int)<=1000000;omega,by decide⟩ ?_;refine ⟨by rw [ya,ya,yT];exact qi (by omega),rfl,?_⟩;rw [yK,M,yA,yA];rfl
  .obtain ⟨rfl,rfl⟩:=hp;have e1:(B.map iV).length=B.length:=ya _;rw [e1,yR];refine ⟨by rw [ya,ya];exact yX (qi (by omega)),fun l1 an=>?_⟩;have s1:=qL (Sr G) (o:=.lst ((B.map fun (k:Nat)=>(1*2 ^ ((k:Int)).toNat:Int)).map V.int)) an;have X:upd G l1 (.lst ((B.map fun (k:Nat)=>(1*2 ^ ((k:Int)).toNat:Int)).map V.int)) l1=some (.lst ((B.map fun (k:Nat)=>(1*2 ^ ((k:Int)).toNat:Int)).map V.int)):=qb;generalize upd G l1 (.lst ((B.map fun (k:Nat)=>(1*2 ^ ((k:Int)).toNat:Int)).map V.int))=H1 at s1 X;ext;refine ⟨l1,_,rfl,SqL.of X,?_⟩;rw [ae];generalize bsT B=m at d u p;ext;refine vU ?_;ext;refine .inl (zc (s1 _ _ x) s ?_);have hB1:=hB.same s1;have az:ls.length=ss.length:=by rw [hB.2.len,YI]
   obtain ⟨la,af⟩:∃ q,ls[a]?=some q:=⟨_,yb (by omega)⟩;have L:=hB1.2.at_ a la a af (X5 ak);refine .inl (zc hB1.1 (v:=.ref la) (qy (by rw [yd,af];rfl)) ?_);generalize aa:nbQ TI ss.length a=A at L p;have aj:A.length<=7:=by rw [<- aa];exact yi (qcc _ _ _) few
   have ac:∀ k∈A,k<ss.length:=fun k M=>qbc (by rw [aa];exact M);refine .inl ⟨⟨_,.of L⟩,qK (xs:=A.map iV) (fun k ys S=>S=H1/\ys=((A.take k).filter fun k=>!m.testBit k).map iV) ⟨rfl,rfl⟩ (fun k ys S _ b=>by rw [b.1];exact .of L) (fun k y ys S z b=>?_) fun ys S b=>?_⟩
   .obtain ⟨rfl,rfl⟩:=b;rw [yd] at z;obtain ⟨v,hv,rfl⟩:=yn.mp z
    have N:(A.take (k+1)).filter (fun k=>!m.testBit k)=(A.take k).filter (fun k=>!m.testBit k)++(if (!m.testBit v)=true then [v] else []):=by
     rw [yK,hv,y9];show _++[v].filter _=_;rw [yS,Yj]
    have al:((A.take k).filter (fun k=>!m.testBit k)).length<=7:=yi (yF _ _) (by rw [yT];omega);ext;refine vI (by show (0:Int)<=(v:Int);omega) ?_;ext;refine qa4 ?_;rw [qeJ,N];ext;refine qW (fun h=>?_) fun h=>?_
    .rw [yD h];ext;exact ⟨by rw [ya];exact qi (by omega),rfl,by rw [yA];rfl⟩
    .rw [yy h,Yc];exact ⟨rfl,rfl⟩
   .obtain ⟨rfl,rfl⟩:=b;have e2:(A.map iV).length=A.length:=ya _;rw [e2,yR];generalize Y:A.filter (fun k=>!m.testBit k)=e at p;have av:e.length<=7:=by rw [<- Y];exact yi (yF _ _) aj
    have Z:∀ k∈e,k<ss.length/\m.testBit k=false:=fun k M=>by
     rw [<- Y] at M;obtain ⟨z1,z2⟩:=yp.mp M;exact ⟨ac k z1,by simpa using z2⟩
    refine ⟨by rw [ya];exact yX (qi (by omega)),fun fr am=>?_⟩;have s2:=qL s1 (o:=.lst (e.map iV)) am;have J:upd S fr (.lst (e.map iV)) fr=some (.lst (e.map iV)):=qb;generalize upd S fr (.lst (e.map iV))=H2 at s2 J;ext;refine .inl ⟨⟨_,.of J⟩,qK (xs:=e.map iV) (fun k ys D=>L2.Same H2 D/\ys=(nmL ss ((e.take k).filter fun k=>!wQ (nbQ TI ss.length) ss.length (m ||| 2 ^ k) k)).map V.str) ⟨L2.Same.refl H2,rfl⟩ (fun k ys D _ b=>.of (b.1 _ _ J)) (fun k y ys D z b=>?_) fun ys D b=>?_⟩
    .obtain ⟨sG,rfl⟩:=b;rw [yd] at z;obtain ⟨v,hv,rfl⟩:=yn.mp z;obtain ⟨v1,v2⟩:=Z v (ye hv);obtain ⟨y,z⟩:∃ y,ss[v]?=some y:=⟨_,yb v1⟩
     have N:nmL ss ((e.take (k+1)).filter (fun k=>!wQ (nbQ TI ss.length) ss.length (m ||| 2 ^ k) k))=nmL ss ((e.take k).filter (fun k=>!wQ (nbQ TI ss.length) ss.length (m ||| 2 ^ k) k))++(if (!wQ (nbQ TI ss.length) ss.length (m ||| 2 ^ v) v)=true then [y] else []):=by
      rw [yK,hv,y9,qa7]
      congr 1
      show nmL ss ([v].filter _)=_;rw [yS,Yj];split
      .exact qa8 z
      .rfl
     have al:(nmL ss ((e.take k).filter (fun k=>!wQ (nbQ TI ss.length) ss.length (m ||| 2 ^ k) k))).length<=7:=by
      rw [zf fun j hj=>(Z j (List.mem_of_mem_take (yp.mp hj).1)).1];exact yi (yF _ _) (by rw [yT];omega)
     ext;refine vI ⟨by show (0:Int)<=(v:Int);omega,by show (v:Int)<=1000000;omega,by decide⟩ ?_;ext;rw [qdH];refine ⟨by show 2<=sizeLine;decide,fun t ht=>?_⟩;have s3:=qL sG (o:=.tup [.int ((m ||| 2 ^ v:Nat):Int),.int (v:Int)]) ht;have et:upd D t (.tup [.int ((m ||| 2 ^ v:Nat):Int),.int (v:Int)]) t=some (.tup ((kT (m ||| 2 ^ v) v).map kV)):=qb;generalize upd D t (.tup [.int ((m ||| 2 ^ v:Nat):Int),.int (v:Int)])=G4 at s3 et;have ag:=hS (m ||| 2 ^ v) v (yj d k7) (qdZ u v1) v1 (by rw [Xc,Nat.testBit_two_pow_self,Bool.or_true]) (.inl (yj d k7));have dg:=DGet.t (k:=kT (m ||| 2 ^ v) v) ((s2.trans s3) _ _ ai) et;rw [ag] at dg;refine .inr ⟨wd,_,rfl,dg,?_⟩;rw [N];ext;refine qW (fun h=>?_) fun h=>?_
     .rw [yD h];ext;refine .inl (zc ((s2.trans s3) _ _ n.nm) (v:=.str y) (qy (by rw [yd,z];rfl)) ?_);exact ⟨by rw [ya];exact qi (by omega),s3,by rw [yA];rfl⟩
     .rw [yy h,Yc];exact ⟨s3,rfl⟩
    .obtain ⟨sG,rfl⟩:=b;have e3:(e.map iV).length=e.length:=ya _;rw [e3,yR,<- p];have ax:=qeO ss TI is a;refine ⟨by rw [ya];exact yX (qi (by omega)),fun g hg=>?_⟩;have ah:=s2.trans sG;have g0:=ah.free hg;have s4:=qL ah (o:=.lst ((gdN ss TI is a).map V.str)) hg;have c:upd D g (.lst ((gdN ss TI is a).map V.str)) g=some (.lst ((gdN ss TI is a).map V.str)):=qb;generalize upd D g (.lst ((gdN ss TI is a).map V.str))=H4 at s4 c;ext;refine zY (SqL.of (s4 _ _ x)) ?_;rw [ya];ext;refine vI (by decide) ?_;rw [r];ext;refine ⟨by show 2<=sizeLine;decide,fun t1 aq=>?_⟩;have s5:=qL (Sr H4) (o:=.tup [.int ((is.length:Int) % 2),.ref g]) aq;have l:upd H4 t1 (.tup [.int ((is.length:Int) % 2),.ref g]) t1=some (.tup [.int ((is.length:Int) % 2),.ref g]):=qb;replace c:=s5 _ _ c;replace s5:=s4.trans s5;generalize upd H4 t1 (.tup [.int ((is.length:Int) % 2),.ref g])=H5 at s5 l c;ext;refine ⟨by show 2<=sizeLine;decide,fun t2 ar=>?_⟩;have W:=qL (Sr H5) (o:=.tup [.int (1-(is.length:Int) % 2),.ref g]) ar;have I:upd H5 t2 (.tup [.int (1-(is.length:Int) % 2),.ref g]) t2=some (.tup [.int (1-(is.length:Int) % 2),.ref g]):=qb;replace c:=W _ _ c;replace l:=W _ _ l;replace W:=s5.trans W;generalize upd H5 t2 (.tup [.int (1-(is.length:Int) % 2),.ref g])=H6 at W l I c;ext;refine ⟨by show 2<=sizeLine;decide,fun l7 ao=>?_⟩;have R:=qL (Sr H6) (o:=.lst [.ref t1,.ref t2]) ao;have U:upd H6 l7 (.lst [.ref t1,.ref t2]) l7=some (.lst [.ref t1,.ref t2]):=qb;replace c:=R _ _ c;replace l:=R _ _ l;replace I:=R _ _ I;replace R:=W.trans R;generalize upd H6 l7 (.lst [.ref t1,.ref t2])=H7 at R l I U c;ext;refine ⟨by decide,fun l8 ap=>?_⟩;have C:=qL (Sr H7) (o:=.lst []) ap;have e8:upd H7 l8 (.lst []) l8=some (.lst []):=qb;replace c:=C _ _ c;replace l:=C _ _ l;replace I:=C _ _ I;replace U:=C _ _ U;replace C:=R.trans C;generalize upd H7 l8 (.lst [])=H8 at C l I U e8 c;ext;refine qeP c e8 ?_;ext;refine .inr ⟨_,rfl,?_⟩;have hv:hdV ss TI is a=if (gdN ss TI is a).isEmpty=true then 1-(is.length:Int) % 2 else (is.length:Int) % 2:=rfl
     cases hE:(gdN ss TI is a).isEmpty with
     | true =>
      rw [hE,yD rfl] at hv;refine .inl (zc U (v:=.ref t2) rfl ?_);exact q t2 g _ C g0 ⟨by rw [hv];exact I,c⟩
     | false =>
      rw [hE,yy (by decide)] at hv;refine .inl (zc U (v:=.ref t1) rfl ?_);exact q t1 g _ C g0 ⟨by rw [hv];exact l,c⟩
theorem KB:FnScope ["_law_play","_law_names_here","_law_due_here","_law_trail","_law_first","_law_rest","_law_hand","_law_found","_law_told"] ["_law_play","_law_names_here","_law_due_here","_law_trail","_law_first"] (qh zD):=fS
theorem tup_eqT {a:Addr} (c:H a=some (.tup xs)) (hb:H b=some (.tup ys)) (hl:xs.length=ys.length) (d:∀ (j:Nat) x y,xs[j]?=some x->ys[j]?=some y->EqD K H n x y true):EqT K H (n+1) a b true:=by
 have z:=EqT.tup (K:=K) (H:=H) (n:=n) (e:=fun _=>true) (SqT.of c) (SqT.of hb) d
 have e:((List.range (min xs.length ys.length)).all (fun _=>true)&&xs.length==ys.length)=true:=by
  rw [hl,xi,k9];exact YS.mpr fun _ _=>rfl
 rw [e] at z;exact z
theorem str_eqD (v:Str):EqD K H n (.str v) (.str v) true:=by
 have e:eqV (.str v) (.str v)=true:=by rw [qey];exact yM rfl
 have:=EqD.flat (K:=K) (H:=H) (n:=n) (x:=.str v) (y:=.str v) rfl rfl
 rwa [e] at this
theorem qci {a:Addr} {l:List Str} (f:H a=some (.lst (l.map V.str))) (hb:H b=some (.lst (l.map V.str))):EqT K H (n+1) a b true:=by
 have z:=EqT.lst (K:=K) (H:=H) (n:=n) (e:=fun _=>true) (SqL.of f) (SqL.of hb) rfl fun j x y c d=>by
  rw [c] at d;cases d;rw [yd] at c;obtain ⟨v,_,rfl⟩:=yn.mp c;exact str_eqD v
 have e:((List.range (l.map V.str).length).all fun _=>true)=true:=YS.mpr fun _ _=>rfl;rw [e] at z;exact z
theorem qcj {a:Addr} {l:List Str} {Q:VK} (c:H a=some (.lst (l.map V.str))) (hb:H b=some (.lst (l.map V.str))) (q:Q (.bl false) H):qe0 K true (.ref a) (.ref b) H Q:=.inr (.inl ⟨a,b,true,1,rfl,rfl,by decide,qci c hb,q⟩)
theorem eq_selfZ {a:Addr} {l:List Str} {Q:VK} (c:H a=some (.lst (l.map V.str))) (hb:H b=some (.lst (l.map V.str))) (q:Q (.bl true) H):qfC K (.ref a) (.ref b) H Q:=.inl (.inl (.inr (.inl ⟨a,b,true,1,rfl,rfl,by decide,qci c hb,q⟩)))
theorem int_eqD (v:Int):EqD K H n (.int v) (.int v) true:=by
 have e:eqV (.int v) (.int v)=true:=by have:=qau v v;rw [yy (by decide)] at this;rw [this];exact yM rfl
 have:=EqD.flat (K:=K) (H:=H) (n:=n) (x:=.int v) (y:=.int v) rfl rfl
 rwa [e] at this
theorem qfr {t t' g g':Addr} {TI:List (Nat×Nat)} {a:Nat} {Q:VK} (h:DuT H t g ss TI is a) (h':DuT H t' g' ss TI is a) (q:Q (.bl false) H):qe0 K true (.ref t) (.ref t') H Q:=by
 refine .inr (.inl ⟨t,t',true,2,rfl,rfl,by decide,?_,q⟩);refine tup_eqT h.1 h'.1 rfl fun j x y b c=>?_
 match j,b,c with
 | 0,b,c=>cases b;cases c;exact int_eqD _
 | 1,b,c =>
  cases b;cases c;by_cases e:g=g'
  .subst e;exact .self
  .exact .deep (qci h.2 h'.2) e
 | j+2,b,_=>simp at b
structure StF (cc:Nat->Addr) (cw:Addr) (H:Hp) (x b p ln t g tn:Addr) (ss:List Str) (ns:List Nat) (tps:List (Str×Str)) (TI:List (Nat×Nat)) (is:List Nat) (a:Nat):Prop where
 pp:PlP cc cw H x b p ss ns tps TI is a
 nm:H ln=some (.lst (ss.map V.str))
 tr:H tn=some (.lst ((is++[a]).map iV))
 du:DuT H t g ss TI is a
theorem StF.same {t g:Addr} {TI:List (Nat×Nat)} {a:Nat} (h:StF cc cw H x b p ln t g tn ss ns tps TI is a) (s:L2.Same H H'):StF cc cw H' x b p ln t g tn ss ns tps TI is a:=⟨h.pp.same s,s _ _ h.nm,s _ _ h.tr,h.du.same s⟩
inductive spStQ (cc:Nat->Addr) (cw:Addr) (vs:List V) (H:Hp) (Q:VK) (E:XK):Prop|mk (x b p ln t g tn:Addr) (ss:List Str) (ns:List Nat) (tps:List (Str×Str)) (TI:List (Nat×Nat)) (is:List Nat) (a:Nat) (fi:Int) (_:vs=[.ref x,.ref ln,.ref t,.ref tn,.int fi]) (_:StF cc cw H x b p ln t g tn ss ns tps TI is a) (_:∀ H',L2.Same H H'->Q (.bl true) H')
theorem qdl {y:Addr} {e:List Nat} {TI:List (Nat×Nat)} {a:Nat} {Q:VK} (c:Pos ss ns tps TI is a) (i:∀ a b,tA tps a b->a≠b) (d:ss.Nodup) (hz:ss[a]?=some z) (W:Wt cw J y (qS ss (nmL ss is)) e (je (qS ss (nmL ss is)) tps))
  (q:∀ (l:Addr) (J':Hp),L2.Same J J'->J l=none->J' l=some (.lst ((gdN ss TI is a).map V.str))->Q (.ref l) J'):spGmQ cw [.ref y,.str z] J Q E:=by
 refine ⟨y,_,e,_,z,rfl,W,c.inL d hz,yi (qaZ _ _) c.few,fun l S rs J' s f h g hl=>?_⟩;rw [c.good i d hz h g] at hl;exact q l J' s f hl
theorem ok_stQ (F:Fun K "_law_stands" "_law_stands" zD f fd) (T:Txt K mg cc cw) (KH:MethOk P w K mg base CX0 9 (cc 8) "web_left" ["self"] (spWlP cc cw)) (KM:MethOk P w K mg base CX0 1 (cc 8) "hand" ["self"] (spPhP cc cw)) (Kz:DefOk P w K mg base CX0 16 "good_moves" ["web","start"] (spGmQ cw)) (Kg:MethOk P w K mg base CX0 1 (cc 8) "stands_at" ["self"] (spPsP cc cw)) (uH:DefOk P w K mg base CX0 17 "of_play" ["play"] (spOpQ cc cw)) (Uu:DefOk P w K mg base CX0 17 "winner" ["web","start"] (spWiQ cw)) (u4:MethOk P w K mg base CX0 1 (cc 8) "gone" ["self"] (spPgP cc cw)):FnOk P w K mg base CX0 18 f fd ["_law_play","_law_names_here","_law_due_here","_law_trail","_law_first"] (spStQ cc cw):=by
 refine F.ok KB fun _ _ _ s H vs Q E l h=>?_
 .obtain ⟨x,b,p,ln,t,g,tn,ss,ns,tps,TI,is,a,fi,rfl,S0,q⟩:=h;have e:=jS l;have c:=S0.pp.po;obtain ⟨z,hz⟩:=c.at_;have hn:=S0.pp.wt.wok.nd;have hi:=S0.pp.wt.ir;have av:=c.len;have few:=c.few;have aj:=c.tr hz;have ap:(nmL ss is).length=is.length:=zf fun k hk=>c.lt k (yH _ hk)
  have eh:((((nmL ss is++[z]).length:Nat):Int)-1) % 2=(is.length:Int) % 2:=by
   rw [yt,ap];simp
  have aw:=qeO ss TI is a;have d:∀ {J:Hp},StF cc cw J x b p ln t g tn ss ns tps TI is a->PlayAt (cc 8) cw J x b p ss ns (nmL ss is++[z]):=fun h=>by have:=h.pp.pl;rwa [aj] at this
  obtain ⟨TC3,m⟩:∃ t0:TS,t0=fun D σ J=>∃ (y:Addr) (U:List Nat),σ=[some (.ref x),some (.ref ln),some (.ref t),some (.ref tn),some (.int fi),some (.ref y),some (.int ((is.length:Int) % 2)),none,none]/\L2.Same H J/\Wt cw J y (qS ss (nmL ss is)) U (je (qS ss (nmL ss is)) tps)/\∀ J',L2.Same H J'->D.rt (.bl true) J':=⟨_,rfl⟩;refine ⟨_,(qc (qo (i:=5) KB.nd rfl (yO rfl) (qF KH (hmR l) (pv 0)))
 (qc (qo (i:=6) KB.nd rfl (yO rfl) (qF KM (hmR l) (pv 0)))
 (qc (qV (PW.pt (qa9 (qj (zi (K:=K) rfl e) (pv 4) qg (qC _)) (qaA (qj (zZ (K:=K) rfl e) (qv Kz (hmR l) qH (qa (pv 5) (qa (qF Kg (hmR l) (pv 0)) qd))) (qt (qu (K:=K) rfl e) (pv 2) qg (fun _ _=>rfl)) (qC _))))) (qf (qp zg)) qx)
 (qeH TC3 (qc (qo (i:=7) KB.nd rfl (yO rfl) (qv uH (hmR l) qH (qa (pv 0) qd)))
 (qc (qV (PW.pt (qaH (jf (qZ (qk (qaQ (K:=K) rfl) rfl T.b_isinstance YG (qa (pv 7) (qa (jD (v:=.ty "tuple") rfl T.b_tuple XF rfl) qd))))) (qaH (qj (zZ (K:=K) rfl e) (qk (zh (K:=K) rfl) rfl T.b_len YO (qa (pv 7) qd)) qg (qC _)) (qaH (jf (qZ (qk (qaQ (K:=K) rfl) rfl T.b_isinstance YG (qa (qt (qu (K:=K) rfl e) (pv 7) qg (fun _ _=>rfl)) (qa (jD (v:=.ty "list") rfl T.b_list xp rfl) qd))))) (qay (qj (zZ (K:=K) rfl e) (pv 7) (pv 2) (qC _))))))) (qf (qp zg)) qx)
 (qc (qV (PW.pt (qaH (jf (qZ (qk (qaQ (K:=K) rfl) rfl T.b_isinstance YG (qa (qt (qu (K:=K) rfl e) (pv 7) qg (fun _ _=>rfl)) (qa (jD (v:=.ty "int") rfl T.b_int boot_int rfl) qd))))) (qay (qZ (qk (qaQ (K:=K) rfl) rfl T.b_isinstance YG (qa (qt (qu (K:=K) rfl e) (pv 7) qg (fun _ _=>rfl)) (qa (jD (v:=.ty "bool") rfl T.b_bool boot_bool rfl) qd))))))) (qf (qp zg)) qx)
 (qc (qI (qbf (K:=K) rfl yL yY yZ qN (qt (qu (K:=K) rfl e) (pv 7) qg (fun _ _=>rfl)) (qa qbs qd)))
 (qc (qo (i:=8) KB.nd rfl (yO rfl) (qv Kz (hmR l) qH (qa (pv 5) (qa (qF Kg (hmR l) (pv 0)) qd))))
 (qc (qV (PW.pt (qaH (jf (qZ (qk (qaQ (K:=K) rfl) rfl T.b_isinstance YG (qa (pv 8) (qa (jD (v:=.ty "list") rfl T.b_list xp rfl) qd))))) (qaH (qj (zZ (K:=K) rfl e) (pv 8) (qt (qu (K:=K) rfl e) (pv 2) qg (fun _ _=>rfl)) (qC _)) (qay (qj (zZ (K:=K) rfl e) (qv Uu (hmR l) qH (qa (pv 5) (qa (qF Kg (hmR l) (pv 0)) qd))) (qE zw (qE (zy (K:=K) rfl) (pv 6) (qt (qu (K:=K) rfl e) (pv 2) qg (fun _ _=>rfl))) qg) (qC _)))))) (qf (qp zg)) qx)
 (qc (qI (qbf (K:=K) rfl yL yY yZ qN (pv 8) (qa qbs qd)))
 (qc (qV (PW.pt (qaH (qj (zZ (K:=K) rfl e) (qv Kz (hmR l) qH (qa (pv 5) (qa (qF Kg (hmR l) (pv 0)) qd))) (qt (qu (K:=K) rfl e) (pv 2) qg (fun _ _=>rfl)) (qC _)) (qay (qj (zZ (K:=K) rfl e) (qv uH (hmR l) qH (qa (pv 0) qd)) (pv 2) (qC _))))) (qf (qp zg)) qx)
 (qf (qp (jE (zi (K:=K) rfl e) (qF u4 (hmR l) (pv 0)) (jh (sc:=qh zD) (XN:=["_law_play","_law_names_here","_law_due_here","_law_trail","_law_first","_law_rest","_law_hand","_law_found","_law_told"]) ["_law_k","_law_names_here"] 1 [1] rfl rfl rfl (by decide +kernel) rfl (by decide +kernel)
  (qT (K:=K) rfl (pv 3)) (fun _ _ _ _=>(qr (i:=0) (show (["_law_k","_law_names_here"]:List Str).Nodup by decide +kernel) rfl (yO rfl))) qR
  (fun _ _ _ _=>jG)
  (fun _ _ _ _=>(qt (qu (K:=K) rfl e) (pv 1) (pv 0) (fun _ _=>rfl)))) (qC _)))))))))))) ?cut3)))),?_⟩
  case cut3 =>
   intro D σ J h;rw [m] at h;obtain ⟨y,U,rfl,sJ,Wy,rt⟩:=h;have B:=S0.same sJ;ext;refine ⟨x,b,p,ss,ns,tps,TI,is,a,rfl,B.pp,fun t2 g2 J1 L al A=>?_⟩;have X:=B.same L;ext;refine qb4 (.inl (.tup A.1)) rfl (zG K "tuple" (by simp) "tuple" (by simp)) ?_;ext;refine yq ?_;ext;refine qfA A.1 ?_;ext;refine qgw ?_;ext;refine yq ?_;ext;refine .inl (qaw A.1 (v:=.ref g2) (qy (j:=1) rfl) ?_);ext;refine qb4 (.inl (.lst A.2)) rfl (zG K "list" (by simp) "list" (by simp)) ?_;ext;refine yq ?_;ext;refine qfr A X.du ?_;ext;refine yq ?_;ext;refine .inl (qaw A.1 (v:=.int (hdV ss TI is a)) (qy (j:=0) rfl) ?_);ext;refine qb4 (.inl (.int _)) rfl (zG K "int" (by simp) "int" (by simp)) ?_;ext;refine yq ?_;ext;refine .inl (qaw A.1 (v:=.int (hdV ss TI is a)) (qy (j:=0) rfl) ?_);ext;refine qb4 (.inl (.int _)) rfl (zG K "int" (by simp) "bool" (by simp)) ?_;ext;refine yq ?_;ext;refine .inl (qaw A.1 (v:=.ref g2) (qy (j:=1) rfl) ?_);refine ⟨.inl ⟨rfl,_,SqL.of A.2⟩,?_⟩;ext;refine ⟨g2,_,_,rfl,rfl,A.2,by rw [ya];exact qi (by omega),?_⟩;have s2:=qaz (o:=.lst ((gdN ss TI is a).map V.str++[.str "a"])) L al;generalize upd J1 g2 (.lst ((gdN ss TI is a).map V.str++[.str "a"]))=J2 at s2;have S2:=B.same s2;obtain ⟨dx,O,_⟩:=id (d S2);ext;refine ⟨x,dx,_,rfl,O,j0,?_⟩;ext;refine ⟨x,b,p,ss,ns,_,z,rfl,d S2,by simp,?_⟩;ext;refine qdl c hi hn hz (Wy.same s2) fun g3 J3 W I n=>?_;have M:=s2.trans W;have N:=B.same M;ext;refine qb4 (.inl (.lst n)) rfl (zG K "list" (by simp) "list" (by simp)) ?_;ext;refine yq ?_;ext;refine .inl (qaw N.du.1 (v:=.ref g) (qy (j:=1) rfl) ?_);refine qcj n N.du.2 ?_;ext;refine yq ?_;ext;refine ⟨x,dx,_,rfl,W _ _ O,j0,?_⟩;ext;refine ⟨x,b,p,ss,ns,_,z,rfl,d N,by simp,?_⟩;ext;refine ⟨y,_,U,_,z,rfl,Wy.same M,c.inL hn hz,fun S rs J4 s4 hG hF=>?_⟩;rw [c.win hi hn hz hG hF];have ad:=M.trans s4;have S4:=B.same ad;ext;refine .inl (qaw S4.du.1 (v:=.int (hdV ss TI is a)) (qy (j:=0) rfl) ?_);ext;refine vI (by decide) ?_;ext;refine qgw ?_
   have ew:(if (gdN ss TI is a).isEmpty=true then (1:Int) else 0)=((is.length:Int) % 2+hdV ss TI is a) % 2:=by
    unfold hdV;cases (gdN ss TI is a).isEmpty
    .simp only [Yx,xu];omega
    .simp only [Xl];omega
   rw [yM ew];ext;refine yq ?_;have Y:=s4 _ _ n;ext;refine ⟨.inl ⟨rfl,_,SqL.of Y⟩,?_⟩;ext;refine ⟨g3,_,_,rfl,rfl,Y,by rw [ya];exact qi (by omega),?_⟩;have s5:=qaz (o:=.lst ((gdN ss TI is a).map V.str++[.str "a"])) ad (s2.free I);generalize upd J4 g3 (.lst ((gdN ss TI is a).map V.str++[.str "a"]))=J5 at s5;have S5:=B.same s5;obtain ⟨ag,aq,_⟩:=id (d S5);ext;refine ⟨x,ag,_,rfl,aq,j0,?_⟩;ext;refine ⟨x,b,p,ss,ns,_,z,rfl,d S5,by simp,?_⟩;ext;refine qdl c hi hn hz (Wy.same s5) fun g6 J6 s6 as am=>?_;have ae:=s5.trans s6;have S6:=B.same ae;ext;refine .inl (qaw S6.du.1 (v:=.ref g) (qy (j:=1) rfl) ?_);refine qcj am S6.du.2 ?_;ext;refine yq ?_;ext;refine ⟨x,b,p,ss,ns,tps,TI,is,a,rfl,S6.pp,fun t7 g7 J7 s7 au ak=>?_⟩;have af:=ae.trans s7;have S7:=B.same af;ext;refine qfr ak S7.du ?_;ext;refine yq ?_;obtain ⟨ah,ar,_⟩:=id (d S7);ext;refine ⟨x,ah,_,rfl,ar,j0,?_⟩;ext;refine ⟨x,b,p,ss,ns,_,rfl,S7.pp.pl,fun l8 ao=>?_⟩;have s8:=qL af (o:=.lst ((nmL ss (is++[a])).map V.str)) ao;have e8:upd J7 l8 (.lst ((nmL ss (is++[a])).map V.str)) l8=some (.lst ((nmL ss (is++[a])).map V.str)):=qb;generalize upd J7 l8 (.lst ((nmL ss (is++[a])).map V.str))=J8 at s8 e8;have S8:=B.same s8;have C:=c.lt;have an:(is++[a]).length<=7:=by simp;omega
   have r:=S8.tr;have aa:=S8.nm;generalize is++[a]=R at e8 C an r;ext;refine .inl ⟨⟨_,.of r⟩,qK (xs:=R.map iV) (fun i ys G=>G=J8/\ys=(nmL ss (R.take i)).map V.str) ⟨rfl,rfl⟩ (fun i ys G _ hp=>by rw [hp.1];exact .of r) (fun i v ys G hy hp=>?_) fun ys G hp=>?_⟩
   .obtain ⟨rfl,rfl⟩:=hp;rw [yd] at hy;obtain ⟨k,hk,rfl⟩:=yn.mp hy;obtain ⟨u,ac⟩:∃ u,ss[k]?=some u:=⟨_,yb (C k (ye hk))⟩;ext;refine qal ?_;ext;refine .inl (zc aa (v:=.str u) (qy (by rw [yd,ac];rfl)) ?_);refine ⟨?_,rfl,?_⟩
    .rw [ya,zf fun j hj=>C j (List.mem_of_mem_take hj),yT];exact qi (by omega)
    .rw [yK,hk,qa7,yA];show _=_++(nmL ss [k]).map V.str;rw [qa8 ac];rfl
   .obtain ⟨rfl,rfl⟩:=hp;have e9:(R.map iV).length=R.length:=ya _;rw [e9,yR];refine ⟨by rw [ya,zf C];exact yX (qi (by omega)),fun l9 Z=>?_⟩;have ai:upd G l9 (.lst ((nmL ss R).map V.str)) l8=some (.lst ((nmL ss R).map V.str)):=by rw [qe (qm e8 Z)];exact e8
    refine eq_selfZ ai qb ?_;exact rt _ (qL (sJ.trans s8) Z)
  obtain ⟨dx,O,_⟩:=id (d S0);ext;refine ⟨x,dx,_,rfl,O,j0,?_⟩;ext;refine ⟨x,b,p,ss,ns,nmL ss is,z,tps,rfl,d S0,S0.pp.wt,few,by omega,fun s hs=>qeN hs,fun y U H1 L W1=>?_⟩;have X:=S0.same L;ext;refine ⟨x,dx,_,rfl,L _ _ O,j0,?_⟩;ext;refine ⟨x,b,p,ss,ns,_,rfl,d X,?_⟩;rw [eh];ext;refine qa4 ?_;ext;refine qW (fun h=>?_) fun h=>?_
  .ext;refine ⟨x,dx,_,rfl,L _ _ O,j0,?_⟩;ext;refine ⟨x,b,p,ss,ns,_,z,rfl,d X,by simp,?_⟩;ext;refine qdl c hi hn hz W1 fun g3 J3 W I n=>?_;have N:=X.same W;ext;refine .inl (qaw N.du.1 (v:=.ref g) (qy (j:=1) rfl) ?_);refine qcj n N.du.2 ?_;ext;refine yq ?_;rw [m];exact ⟨y,U,rfl,L.trans W,W1.same W,fun J' s'=>q J' s'⟩
  .rw [m];exact ⟨y,U,rfl,L,W1,fun J' s'=>q J' s'⟩
theorem uA:FnScope ["_law_state","_law_play","_law_names_here","_law_beside_here","_law_trail","_law_free"] ["_law_state","_law_play","_law_names_here","_law_beside_here","_law_trail"] (qh qaf):=fS
structure Ev (q cw:Addr) (H0:Hp) (b ln lb wd:Addr) (ss:List Str) (ns:List Nat) (tps:List (Str×Str)) (TI:List (Nat×Nat)):Prop where
 box:Box H0 q
 wt:∀ J,BB q H0 J->Wt cw J b ss ns tps
 nm:∀ J,BB q H0 J->J ln=some (.lst (ss.map V.str))
 bs:∀ J,BB q H0 J->∃ ls,BsL J lb ls TI ss.length
 wn:∀ J,BB q H0 J->∃ kvs,J wd=some (.dT kvs)/\SvD (nbQ TI ss.length) ss.length kvs 0 0
structure PlR (cp q:Addr) (H0 J:Hp) (x b p tn:Addr) (ss:List Str) (is:List Nat) (a:Nat):Prop where
 ob:∃ dx,J x=some (.ins cp dx (qG "path" (.ref p) (qG "board" (.ref b) [])))
 pa:J p=some (.lst ((nmL ss (is++[a])).map V.str))
 tr:J tn=some (.lst ((is++[a]).map iV))
 p0:H0 p=none
 t0:H0 tn=none
 pq:p≠q
 tq:tn≠q
 pt:p≠tn
theorem PlR.same {a:Nat} (h:PlR cp q H0 J x b p tn ss is a) (s:L2.Same J J'):PlR cp q H0 J' x b p tn ss is a:=by
 obtain ⟨⟨dx,h1⟩,c,d,e,f,g,i,j⟩:=h;exact ⟨⟨dx,s _ _ h1⟩,s _ _ c,s _ _ d,e,f,g,i,j⟩
theorem PlR.bb {a:Nat} (h:PlR cp q H0 J x b p tn ss is a) (m:Box J q) (s:BB q J J'):PlR cp q H0 J' x b p tn ss is a:=by
 obtain ⟨⟨dx,h1⟩,f,g,i,j,c,d,l⟩:=h;exact ⟨⟨dx,s.1 _ _ (fun e=>by obtain ⟨u,v,w,z⟩:=m;rw [e,z] at h1;cases h1) h1⟩,s.1 _ _ c f,s.1 _ _ d g,i,j,c,d,l⟩
theorem PlR.pp {c e:Addr} {TI:List (Nat×Nat)} {a:Nat} (h:PlR (cc 8) q H0 J x b p tn ss is a) (E:Ev q cw H0 b ln c e ss ns tps TI) (hb:BB q H0 J) (d:Pos ss ns tps TI is a):PlP cc cw J x b p ss ns tps TI is a:=by
 obtain ⟨dx,h1⟩:=h.ob;exact ⟨⟨dx,h1,h.pa,(E.wt J hb).web⟩,E.wt J hb,d⟩
def M3 (q p tn:Addr) (J J':Hp):Prop:=∀ c o,c≠q->c≠p->c≠tn->J c=some o->J' c=some o
inductive spMvQ (cc:Nat->Addr) (cw:Addr) (vs:List V) (J:Hp) (Q:VK) (E:XK):Prop|mk (H0:Hp) (q x b p tn ln lb wd:Addr) (ss:List Str) (ns:List Nat) (tps:List (Str×Str)) (TI:List (Nat×Nat)) (is:List Nat) (a:Nat) (_:vs=[.ref q,.ref x,.ref ln,.ref lb,.ref tn]) (_:Ev q cw H0 b ln lb wd ss ns tps TI) (_:BB q H0 J) (_:PlR (cc 8) q H0 J x b p tn ss is a) (_:Pos ss ns tps TI is a) (_:∀ (J':Hp) (is':List Nat) (a':Nat),M3 q p tn J J'->BB q H0 J'->PlR (cc 8) q H0 J' x b p tn ss is' a'->Pos ss ns tps TI is' a'->Q .non J')
theorem inV_int (c:Nat) (l:List Nat):inV (iV c) (l.map iV)=decide (c∈l):=by
 unfold inV;rw [Yb,Yo,yJ]
 have e:∀ x:Nat,eqV (iV x) (iV c)=decide (x=c):=fun x=>by
  have:=qau (x:Int) (c:Int);rw [yy (by decide)] at this;rw [this];exact Yr.mpr (by omega)
 constructor
 .rintro ⟨v,hv,h⟩;obtain ⟨x,a,rfl⟩:=Ye.mp hv;rw [e] at h;rw [<- yk h];exact a
 .intro h;exact ⟨_,Ye.mpr ⟨c,h,rfl⟩,by rw [e];exact yM rfl⟩
theorem Pos.go {TI:List (Nat×Nat)} {a k:Nat} (h:Pos ss ns tps TI is a) (c:k<ss.length) (d:k∉is++[a]):Pos ss ns tps TI (is++[a]) k:=by
 refine ⟨yV.mpr ⟨h.nd,by simp,fun u f v hv e=>d (by rw [yx.mp hv] at e;rw [<- e];exact f)⟩,fun j b=>?_,h.few,h.tj,h.te⟩;rcases yE.mp b with z | z
 .exact h.lt j z
 .rw [yx.mp z];exact c
theorem Pos.back {TI:List (Nat×Nat)} {a k:Nat} (h:Pos ss ns tps TI (is++[a]) k):Pos ss ns tps TI is a:=⟨(yV.mp h.nd).1,fun j b=>h.lt j (yH _ b),h.few,h.tj,h.te⟩
theorem split3 {a:Bool} {t u:TT} {A B:Hp->Prop} (d c:Hp->Prop) (g:a=true->∀ J,d J->A J) (e:∀ J,c J->B J) (f:a=false->c H)
  (h1:a=true->∀ k:Bool->Hp->Prop,(∀ J,d J->k true J)->(∀ J,c J->k false J)->tOr t u σ H k):if a=true then tOr t u σ H (fun b J=>if b=true then A J else B J) else B H:=by
 cases a with
 | true=>rw [yD rfl];exact h1 rfl _ (fun J h=>by rw [yD rfl];exact g rfl J h) fun J h=>by rw [yy (by decide)];exact e J h
 | false=>rw [yy (by decide)];exact e H (f rfl)
theorem eq_nilI {z:Addr} {xs:List Nat} {Q:VK} (hl:H l=some (.lst (xs.map iV))) (hz:H z=some (.lst [])) (q:Q (.bl xs.isEmpty) H):qfC K (.ref l) (.ref z) H Q:=by
 cases xs with
 | nil=>exact .inl (.inl (.inr (.inl ⟨l,z,true,1,rfl,rfl,by decide,EqT.lst (n:=0) (e:=fun _=>true) (SqL.of hl) (SqL.of hz) rfl fun j x y h=>by (simp at h),q⟩)))
 | cons x r=>exact .inl (.inl (.inr (.inl ⟨l,z,false,1,rfl,rfl,by decide,EqT.lstL (SqL.of hl) (SqL.of hz) (by simp),q⟩)))
theorem ok_mvQ (F:Fun K "_law_moved" "_law_moved" qaf f fd) (T:Txt K mg cc cw) (Kd:DefOk P w K mg base CX0 1 "_law_take" ["_law_state","_law_many"] spTake) (u5:MethOk P w K mg base CX0 1 (cc 8) "back" ["self"] (spPbP cc cw)) (Um:MethOk P w K mg base CX0 9 (cc 8) "go" ["self","name"] (spPgoP cc cw)):FnOk P w K mg base CX0 10 f fd ["_law_state","_law_play","_law_names_here","_law_beside_here","_law_trail"] (spMvQ cc cw):=by
 refine F.ok uA fun _ _ _ _ H vs Q E hr h=>?_
 .obtain ⟨H0,q,x,b,p,tn,ln,lb,wd,ss,ns,tps,TI,is,a,rfl,hE,bJ,l,j,k⟩:=h;have S:=jS hr;have ap:=j.len;have few:=j.few;have bd:a<ss.length:=j.lt a (by simp);obtain ⟨ls,hB⟩:=hE.bs H bJ;obtain ⟨z,hz⟩:=j.at_;have hn:=(hE.wt H bJ).wok.nd;have bo:ls.length=ss.length:=by rw [hB.2.len,YI]
  obtain ⟨la,ao⟩:∃ v,ls[a]?=some v:=⟨_,yb (by omega)⟩;have aa:=hB.2.at_ a la a ao (X5 bd);have ah:=qdk is a;obtain ⟨dx,hx⟩:=l.ob;refine ⟨_,(qc (zX (sc:=qh qaf) (XN:=["_law_state","_law_play","_law_names_here","_law_beside_here","_law_trail","_law_free"]) ["_law_k","_law_trail"] 1 [4] rfl rfl rfl (by decide +kernel) rfl (by decide +kernel) (i:=5) uA.nd rfl rfl
  (qT (K:=K) rfl (qt (qu (K:=K) rfl S) (pv 3) (qt (qu (K:=K) rfl S) (pv 4) (qav j5 qg) (fun _ _=>rfl)) (fun _ _=>rfl))) (fun _ _ _ _=>(qr (i:=0) (show (["_law_k","_law_trail"]:List Str).Nodup by decide +kernel) rfl (yO rfl))) qR
  (fun _ _ _ _=>(q9 (qj (zH (K:=K) rfl S) (pv 0) (pv 1) (by with_unfolding_all rfl))))
  (fun _ _ _ _=>(pv 0)))
 (qf (qV (PW.pt (qa9 (qj qc0 (qk (zh (K:=K) rfl) rfl T.b_len YO (qa (pv 4) qd)) qg (qC _)) (qaA (PW.pt (qaH (qj (zi (K:=K) rfl S) (pv 5) (qP qd) (qC _)) (qay (qj (zi (K:=K) rfl S) (qv Kd (hmR hr) qH (qa (pv 0) (qa qg qd))) qg (qC _)))))))) (qc (qI (qF u5 (hmR hr) (pv 1)))
 (qf (qI (qf4 (K:=K) rfl yL Xz XA qen (pv 4))))) (qf (qV (qj (zZ (K:=K) rfl S) (pv 5) (qP qd) (qC _)) (qc (qI (qbf (K:=K) rfl yL yY yZ qN (pv 4) (qa (qt (qu (K:=K) rfl S) (pv 5) (qv Kd (hmR hr) qH (qa (pv 0) (qa (qk (zh (K:=K) rfl) rfl T.b_len YO (qa (pv 5) qd)) qd))) (fun _ _=>rfl)) qd)))
 (qf (qI (qD Um (hmR hr) (pv 1) (qa (qt (qu (K:=K) rfl S) (pv 2) (qt (qu (K:=K) rfl S) (pv 4) (qav j5 qg) (fun _ _=>rfl)) (fun _ _=>rfl)) qd))))) qx))))),?_⟩
  ext;refine vU ?_;ext;refine .inl (zc l.tr ah ?_);refine .inl (zc hB.1 (v:=.ref la) (qy (by rw [yd,ao];rfl)) ?_);generalize am:nbQ TI ss.length a=L at aa;have bc:L.length<=7:=by rw [<- am];exact yi (qcc _ _ _) few
  refine .inl ⟨⟨_,.of aa⟩,qK (xs:=L.map iV) (fun i ys G=>G=H/\ys=((L.take i).filter fun k=>!decide (k∈is++[a])).map iV) ⟨rfl,rfl⟩ (fun i ys G _ hp=>by rw [hp.1];exact .of aa) (fun i y ys G hy hp=>?_) fun ys G hp=>?_⟩
  .obtain ⟨rfl,rfl⟩:=hp;rw [yd] at hy;obtain ⟨v,hv,rfl⟩:=yn.mp hy
   have bh:(L.take (i+1)).filter (fun k=>!decide (k∈is++[a]))=(L.take i).filter (fun k=>!decide (k∈is++[a]))++(if (!decide (v∈is++[a]))=true then [v] else []):=by
    rw [yK,hv,y9];show _++[v].filter _=_;rw [yS,Yj]
   have bn:((L.take i).filter (fun k=>!decide (k∈is++[a]))).length<=7:=yi (yF _ _) (by rw [yT];omega);ext;refine .inl ⟨tn,_,rfl,.inl (SqL.of l.tr),rfl,flat_ints _,?_⟩;rw [yD rfl,inV_int,bh];ext;refine qW (fun h=>?_) fun h=>?_
   .rw [yD h];ext;exact ⟨by rw [ya];exact qi (by omega),rfl,by rw [yA];rfl⟩
   .rw [yy h,Yc];exact ⟨rfl,rfl⟩
  .obtain ⟨rfl,rfl⟩:=hp;have e1:(L.map iV).length=L.length:=ya _;rw [e1,yR];generalize al:L.filter (fun k=>!decide (k∈is++[a]))=I;have bi:I.length<=7:=by rw [<- al];exact yi (yF _ _) bc
   have ba:∀ v∈I,v∈nbQ TI ss.length a/\v∉is++[a]:=fun v hv=>by
    rw [<- al] at hv;obtain ⟨z1,z2⟩:=yp.mp hv;exact ⟨by rw [am];exact z1,by simpa using z2⟩
   refine ⟨by rw [ya];exact yX (qi (by omega)),fun fr an=>?_⟩;have s1:=qL (Sr G) (o:=.lst (I.map iV)) an;have Z:upd G fr (.lst (I.map iV)) fr=some (.lst (I.map iV)):=qb;generalize upd G fr (.lst (I.map iV))=H1 at s1 Z;have b1:=bJ.same s1;have R1:=l.same s1;have aw:fr≠q:=bJ.apart an;have ar:((is++[a]).map iV).length=is.length+1:=by simp
   ext;refine zY (SqL.of R1.tr) ?_;rw [ar];ext;have m3:∀ {J J':Hp},BB q J J'->M3 q p tn J J':=fun h c o c1 _ _ e=>h.1 c o c1 e;have C:∀ {J J':Hp},L2.Same J J'->M3 q p tn J J':=fun h c o _ _ _ e=>h c o e;have m:∀ {J J' ai:Hp},M3 q p tn J J'->M3 q p tn J' ai->M3 q p tn J ai:=fun h g c o c1 c2 c3 e=>g c o c1 c2 c3 (h c o c1 c2 c3 e);refine split3 (BB q H1) (BB q H1) (fun hc J N=>?_) (fun J N=>?_) (fun _=>BB.refl b1.2) fun _ k' kA kB=>?_
   .have ak:1<is.length+1:=by have:=yk hc;omega
    obtain ⟨d,n,rfl⟩:∃ d n,is=d++[n]:=⟨is.dropLast,is.getLast (by intro z;rw [z] at ak;simp at ak),(YR _).symm⟩;have RJ:=R1.bb b1.2 N;have M:=b1.trans N;have PJ:=RJ.pp hE M j;have az:=j.tr hz;have af:=PJ.pl;rw [az] at af;obtain ⟨Y,U,bg,bm⟩:=id af;have B:(nmL ss (d++[n])).length=(d++[n]).length:=zf fun k hk=>j.lt k (yH _ hk);ext;refine ⟨x,Y,_,rfl,U,j0,?_⟩;ext;refine ⟨x,b,p,ss,ns,nmL ss (d++[n]),z,rfl,af,(fun e=>by rw [e] at B;simp at B),by rw [B];simp at ap ⊢;omega,?_⟩;have R:upd J p (.lst ((nmL ss (d++[n])).map V.str)) tn=some (.lst (((d++[n])++[a]).map iV)):=by rw [qe l.pt.symm];exact RJ.tr
    have b3:=M.put (o:=.lst ((nmL ss (d++[n])).map V.str)) l.p0 l.pq;have ep:upd J p (.lst ((nmL ss (d++[n])).map V.str)) p=some (.lst ((nmL ss (d++[n])).map V.str)):=qb;have mm:M3 q p tn J (upd J p (.lst ((nmL ss (d++[n])).map V.str))):=fun c o _ c2 _ e=>by rw [qe c2];exact e
    have ex:upd J p (.lst ((nmL ss (d++[n])).map V.str)) x=some (.ins (cc 8) Y (qG "path" (.ref p) (qG "board" (.ref b) []))):=by rw [qe (fun e=>by rw [e,bg] at U;cases U)];exact U
    generalize upd J p (.lst ((nmL ss (d++[n])).map V.str))=J3 at R b3 ep mm ex;ext;refine ⟨.inl ⟨rfl,_,SqL.of R⟩,?_⟩;refine ⟨tn,_,iV a,rfl,rfl,R,by simp,?_⟩;have ed:(((d++[n])++[a]).map iV).dropLast=(d++[n]).map iV:=by simp
    rw [ed];refine k _ d n (m (m (C s1) (m3 N)) (m mm fun c o _ _ c3 e=>by rw [qe c3];exact e)) (b3.put l.t0 l.tq) ⟨⟨Y,by rw [qe (fun e=>by rw [e,R] at ex;cases ex)];exact ex⟩,by rw [qe l.pt];exact ep,qb,l.p0,l.t0,l.pq,l.tq,l.pt⟩ j.back
   .have RJ:=R1.bb b1.2 N;have M:=b1.trans N;have s:=N.1 _ _ aw Z;ext;refine ⟨by decide,fun l5 ag=>?_⟩;have D:=qL (Sr J) (o:=.lst []) ag;have e5:upd J l5 (.lst []) l5=some (.lst []):=qb;replace s:=D _ _ s;have R5:=RJ.same D;have A:=M.same D;generalize upd J l5 (.lst [])=J5 at D e5 s R5 A;ext;refine qeK s e5 ?_;ext;refine qW (fun h=>?_) fun h=>?_
    .have bj:0<I.length:=by cases hf:I with | nil=>rw [hf] at h;cases h | cons v r=>simp
     ext;refine ⟨.inl ⟨rfl,_,SqL.of R5.tr⟩,?_⟩;ext;refine zY (SqL.of s) ?_;rw [ya];ext;refine ⟨q,_,rfl,A.2,by omega,by omega,fun r W r0 r1 X=>?_⟩;have R6:=R5.bb A.2 X;have ax:=A.trans X;have ay:=X.1 _ _ aw s;obtain ⟨ri,rfl⟩:=Yv r0;obtain ⟨v,hv⟩:∃ v,I[ri]?=some v:=⟨_,yb (by omega)⟩;obtain ⟨as,au⟩:=ba v (ye hv);have av:=qbc as;obtain ⟨y,hy⟩:∃ y,ss[v]?=some y:=⟨_,yb av⟩;refine .inl (zc ay (v:=iV v) (qy (by rw [yd,hv];rfl)) ?_);refine ⟨tn,_,_,rfl,rfl,R6.tr,by rw [ar];exact qi (by omega),?_⟩;have ad:upd W tn (.lst ((is++[a]).map iV++[iV v])) tn=some (.lst (((is++[a])++[v]).map iV)):=by rw [qb,yA (l₁:=is++[a])];rfl
     have b7:=ax.put (o:=.lst ((is++[a]).map iV++[iV v])) l.t0 l.tq;have mm:M3 q p tn W (upd W tn (.lst ((is++[a]).map iV++[iV v]))):=fun c o _ _ c3 e=>by rw [qe c3];exact e
     obtain ⟨O,ae⟩:=R6.ob;have u:upd W tn (.lst ((is++[a]).map iV++[iV v])) x=some (.ins (cc 8) O (qG "path" (.ref p) (qG "board" (.ref b) []))):=by rw [qe (fun e=>by rw [e,R6.tr] at ae;cases ae)];exact ae
     have ac:upd W tn (.lst ((is++[a]).map iV++[iV v])) p=some (.lst ((nmL ss (is++[a])).map V.str)):=by rw [qe l.pt];exact R6.pa
     generalize upd W tn (.lst ((is++[a]).map iV++[iV v]))=J7 at ad b7 mm u ac;have W7:=hE.wt J7 b7;ext;refine ⟨x,O,_,rfl,u,j0,?_⟩;ext;refine vU ?_;ext;refine .inl (zc ad (qdk (is++[a]) v) ?_);refine .inl (zc (hE.nm J7 b7) (v:=.str y) (qy (by rw [yd,hy];rfl)) ?_);have B:(nmL ss (is++[a])).length=(is++[a]).length:=zf j.lt
     have be:y∈mvS ss ns (nmL ss (is++[a])) z:=by
      unfold mvS ngS;refine yp.mpr ⟨?_,?_⟩
      .rw [qbE hn hz];exact (W7.bes a z y hz).mpr ((qdT j.tj j.te hz hy).mp as)
      .rw [yl (fun w=>au ((qch hn hy).mp w))];rfl
     refine ⟨x,b,p,ss,ns,_,z,y,rfl,⟨O,u,ac,W7.web⟩,by rw [B];simp;omega,by rw [j.tr hz];simp,ye hz,be,fun J8 b8 bf=>?_⟩;refine k J8 (is++[a]) v (m (m (C s1) (m (m3 N) (m (C D) (m3 X)))) (m mm fun c o _ c2 _ e=>b8 c o c2 e)) ⟨fun c o cq e=>?_,?_⟩ ⟨⟨O,b8 _ _ (fun e=>by rw [e,ac] at u;cases u) u⟩,?_,b8 _ _ l.pt.symm ad,l.p0,l.t0,l.pq,l.tq,l.pt⟩ (j.go av au)
     .exact b8 c o (fun w=>by rw [w,l.p0] at e;cases e) (b7.1 c o cq e)
     .obtain ⟨u1,u2,u3,eq⟩:=b7.2;exact ⟨u1,u2,u3,b8 _ _ l.pq.symm eq⟩
     .rw [bf,qa7 ss (is++[a]) [v],qa8 hy]
    .exact k J5 is a (m (C s1) (m (m3 N) (C D))) A R5 j
   .ext;refine ⟨by decide,fun l5 ag=>?_⟩;have D:=qL (Sr H1) (o:=.lst []) ag;have e5:upd H1 l5 (.lst []) l5=some (.lst []):=qb;have aj:=D _ _ Z;have A:=(BB.refl b1.2).same D;generalize upd H1 l5 (.lst [])=J5 at D e5 aj A;ext;refine eq_nilI aj e5 ?_;ext;refine qW (fun h=>kA _ A) fun h=>?_;ext;refine ⟨q,5,rfl,A.2,by decide,by decide,fun r W r0 r1 X=>?_⟩;ext;refine qa4 ?_;ext;by_cases aq:r=0
    .rw [yM aq];exact kA _ (A.trans X)
    .rw [yl aq];exact kB _ (A.trans X)
theorem Ku:FnScope ["_law_script","_law_k","_law_state","_law_names_here","_law_ties","_law_web_here","_law_beside_here","_law_wins","_law_trails","_law_plays","_law_turn","_law_at","_law_due_here"] ["_law_script"] (qh qcU):=fS
inductive spLaw (K:W.Frag) (vs:List V) (H:Hp) (Q:VK) (E:XK):Prop|mk (a:Addr) (ns:List Int) (_:vs=[.ref a]) (_:SqL K H a (ns.map V.int)) (_:ns.length<=63) (_:∀ H',Q (.bl true) H')
theorem BB.out (s:L2.Same H H1) (a:H p=none) (b:BB p H1 H2):L2.Same H H2:=fun c o e=>b.1 c o (fun z=>by subst z;rw [a] at e;cases e) (s c o e)
theorem two_strs {u v:Addr} {l:List Str}:(HO.lst [V.ref u,V.ref v])≠HO.lst (l.map V.str):=fun e=>by
 injection e with e
 cases l<;>simp at e
theorem two_ints {u v:Addr} {l:List Nat}:(HO.lst [V.ref u,V.ref v])≠HO.lst (l.map iV):=fun e=>by
 injection e with e
 cases l<;>simp at e
theorem PlR.m3 {r e c:Addr} {f:List Nat} {a i:Nat} (h:PlR cp q H0 J x b p tn ss is a) (g:PlR cp q H0 J r b e c ss f i) (o:Box J q) (m:M3 q e c J J') (h1:p≠e) (j:p≠c) (l:tn≠e) (n:tn≠c):PlR cp q H0 J' x b p tn ss is a:=by
 obtain ⟨dx,d⟩:=h.ob;obtain ⟨u,v,w,eq⟩:=o;exact ⟨⟨dx,m _ _ (jO d eq (by intro z;cases z)) (jO d g.pa (by intro z;cases z)) (jO d g.tr (by intro z;cases z)) d⟩,m _ _ h.pq h1 j h.pa,m _ _ h.tq l n h.tr,h.p0,h.t0,h.pq,h.tq,h.pt⟩
theorem qdW {lo u v:Addr} {a:Nat} (h:J lo=some (.lst [.ref u,.ref v])) (g:PlR cp q H0 J x b p tn ss is a) (c:Box J q) (m:M3 q p tn J J'):J' lo=some (.lst [.ref u,.ref v]):=by
 obtain ⟨d,e,f,eq⟩:=c;exact m _ _ (jO h eq (by intro z;cases z)) (jO h g.pa two_strs) (jO h g.tr two_ints) h
theorem qfs {lo u v:Addr} (h:J lo=some (.lst [.ref u,.ref v])) (a:Box J q) (m:BB q J J'):J' lo=some (.lst [.ref u,.ref v]):=by
 obtain ⟨b,c,d,eq⟩:=a;exact m.1 _ _ (jO h eq (by intro z;cases z)) h
structure L2p (cp q:Addr) (H0 J:Hp) (b lo lp x1 p1 t1 x2 p2 t2:Addr) (ss:List Str) (ns:List Nat) (tps:List (Str×Str)) (TI:List (Nat×Nat)):Prop where
 bb:BB q H0 J
 lo:J lo=some (.lst [.ref t1,.ref t2])
 lp:J lp=some (.lst [.ref x1,.ref x2])
 one:∃ is a,PlR cp q H0 J x1 b p1 t1 ss is a/\Pos ss ns tps TI is a
 two:∃ is a,PlR cp q H0 J x2 b p2 t2 ss is a/\Pos ss ns tps TI is a
theorem L2p.same {lo:Addr} {TI:List (Nat×Nat)} (h:L2p cp q H0 J b lo lp x1 p1 t1 x2 p2 t2 ss ns tps TI) (s:L2.Same J J'):L2p cp q H0 J' b lo lp x1 p1 t1 x2 p2 t2 ss ns tps TI:=by
 obtain ⟨d,a,i,f⟩:=h.one;obtain ⟨e,c,j,g⟩:=h.two;exact ⟨h.bb.same s,s _ _ h.lo,s _ _ h.lp,⟨d,a,i.same s,f⟩,⟨e,c,j.same s,g⟩⟩
theorem L2p.box {lo:Addr} {TI:List (Nat×Nat)} (h:L2p cp q H0 J b lo lp x1 p1 t1 x2 p2 t2 ss ns tps TI) (s:BB q J J'):L2p cp q H0 J' b lo lp x1 p1 t1 x2 p2 t2 ss ns tps TI:=by
 obtain ⟨d,a,i,f⟩:=h.one;obtain ⟨e,c,j,g⟩:=h.two;exact ⟨h.bb.trans s,qfs h.lo h.bb.2 s,qfs h.lp h.bb.2 s,⟨d,a,i.bb h.bb.2 s,f⟩,⟨e,c,j.bb h.bb.2 s,g⟩⟩
theorem L2p.pick {lo:Addr} {TI:List (Nat×Nat)} (h:L2p cp q H0 J b lo lp x1 p1 t1 x2 p2 t2 ss ns tps TI) (h1:p1≠p2) (s:p1≠t2) (u:t1≠p2) (v:t1≠t2) {r:Int} (G:0<=r) (H:r<2) :
  ∃ (x p tn:Addr) (is:List Nat) (a:Nat),atI [V.ref x1,V.ref x2] r=some (.ref x)/\atI [V.ref t1,V.ref t2] r=some (.ref tn)/\PlR cp q H0 J x b p tn ss is a/\Pos ss ns tps TI is a /\
   ∀ (f J':Hp) (c:List Nat) (e:Nat),L2p cp q H0 f b lo lp x1 p1 t1 x2 p2 t2 ss ns tps TI->PlR cp q H0 f x b p tn ss is a->M3 q p tn f J'->BB q H0 J'->PlR cp q H0 J' x b p tn ss c e->Pos ss ns tps TI c e->L2p cp q H0 J' b lo lp x1 p1 t1 x2 p2 t2 ss ns tps TI:=by
 obtain ⟨C,w,z,E⟩:=h.one;obtain ⟨D,y,A,F⟩:=h.two;have B:r=0\/r=1:=by omega
 rcases B with rfl | rfl
 .refine ⟨x1,p1,t1,C,w,rfl,rfl,z,E,fun f J' c e L g m d g' n=>?_⟩;obtain ⟨l,i,j,o⟩:=L.two;exact ⟨d,qdW L.lo g L.bb.2 m,qdW L.lp g L.bb.2 m,⟨c,e,g',n⟩,⟨l,i,j.m3 g L.bb.2 m h1.symm u.symm s.symm v.symm,o⟩⟩
 .refine ⟨x2,p2,t2,D,y,rfl,rfl,A,F,fun f J' c e L g m d g' n=>?_⟩;obtain ⟨l,i,j,o⟩:=L.one;exact ⟨d,qdW L.lo g L.bb.2 m,qdW L.lp g L.bb.2 m,⟨l,i,j.m3 g L.bb.2 m h1 s u v,o⟩,⟨c,e,g',n⟩⟩
def Mde (cp b:Addr) (a G:Hp) (ss:List Str) (c:Nat->Nat) (L:List (Addr×Addr)):Prop:=(∀ (j:Nat) v,L[j]?=some v->(∃ dx,G v.1=some (.ins cp dx (qG "path" (.ref v.2) (qG "board" (.ref b) []))))/\G v.2=some (.lst ((nmL ss [c j]).map V.str))/\a v.2=none)/\L.Pairwise fun u v=>u.2≠v.2
theorem ok_law55 (F:Fun K "law" "law" qcU f fd) (T:Txt K mg cc cw) (Uv:DefOk P w K mg base CX0 1 "_law_cell" ["_law_script","_law_k"] (spCeQ K)) (Uo:DefOk P w K mg base CX0 1 "_law_begun" ["_law_cell_here"] spBgQ) (Kd:DefOk P w K mg base CX0 1 "_law_take" ["_law_state","_law_many"] spTake) (Up:DefOk P w K mg base CX0 3 "_law_drawn" ["_law_state","_law_most"] spDrQ) (Uw:DefOk P w K mg base CX0 7 "_law_web" ["_law_state","_law_names_here","_law_ties"] (spWbQ cw)) (Ud:DefOk P w K mg base CX0 1 "_law_beside" ["_law_size","_law_ties"] spBsQ) (Ue:DefOk P w K mg base CX0 1 "_law_solved" ["_law_beside_here"] spSvQ) (Uy:MakeOk P w K mg base CX0 5 (cc 8) "Play" ["self","web","start"] (spWkI cc cw)) (Ux:DefOk P w K mg base CX0 1 "_law_due" ["_law_names_here","_law_beside_here","_law_wins","_law_trail"] spDuQ) (Uf:DefOk P w K mg base CX0 18 "_law_stands" ["_law_play","_law_names_here","_law_due_here","_law_trail","_law_first"] (spStQ cc cw)) (Uq:DefOk P w K mg base CX0 10 "_law_moved" ["_law_state","_law_play","_law_names_here","_law_beside_here","_law_trail"] (spMvQ cc cw)):FnOk P w K mg base CX0 19 f fd ["_law_script"] (spLaw K):=by
 refine F.ok Ku fun _ _ _ _ H vs Q E n h=>?_
 .obtain ⟨a,zs,rfl,ha,hl,q⟩:=h;have X:=jS n;refine ⟨_,(qc (jl y0 rfl (jj rfl T.b_range (qa (qk (qaI rfl) rfl T.b_max boot_max (qa qg (qa (qk (qaJ rfl) rfl T.b_min boot_min (qa qg (qa (qk (zh (K:=K) rfl) rfl T.b_len YO (qa (pv 0) qd)) qd))) qd))) qd)) (qr (i:=1) Ku.nd rfl (yO rfl))
 (qc (qo (i:=2) Ku.nd rfl (yO rfl) (qv Uo (hmR n) qH (qa (qv Uv (hmR n) qH (qa (pv 0) (qa (pv 1) qd))) qd)))
 (qc (jN (qv Up (hmR n) qH (qa (pv 2) (qa qg qd))) (pg_tupU rfl (qag (qr (i:=3) Ku.nd rfl (Xi rfl)) (qag (qr (i:=4) Ku.nd rfl (yO rfl)) qcX))))
 (qf (qV (qj (zZ (K:=K) rfl X) (pv 3) (qP qd) (qC _)) (qc (qo (i:=5) Ku.nd rfl (Xi rfl) (qv Uw (hmR n) qH (qa (pv 2) (qa (pv 3) (qa (pv 4) qd)))))
 (qc (qo (i:=6) Ku.nd rfl (yO rfl) (qv Ud (hmR n) qH (qa (qk (zh (K:=K) rfl) rfl T.b_len YO (qa (pv 3) qd)) (qa (pv 4) qd))))
 (qc (qo (i:=7) Ku.nd rfl (yO rfl) (qv Ue (hmR n) qH (qa (pv 6) qd)))
 (qc (qo (i:=8) Ku.nd rfl (yO rfl) (qP (qa (qP (qa (qv Kd (hmR n) qH (qa (pv 2) (qa (qk (zh (K:=K) rfl) rfl T.b_len YO (qa (pv 3) qd)) qd))) qd)) (qa (qP (qa (qv Kd (hmR n) qH (qa (pv 2) (qa (qk (zh (K:=K) rfl) rfl T.b_len YO (qa (pv 3) qd)) qd))) qd)) qd))))
 (qc (zX (sc:=qh qcU) (XN:=["_law_script","_law_k","_law_state","_law_names_here","_law_ties","_law_web_here","_law_beside_here","_law_wins","_law_trails","_law_plays","_law_turn","_law_at","_law_due_here"]) ["_law_trail","_law_web_here","_law_names_here"] 1 [5,3] rfl rfl rfl (by decide +kernel) rfl (by decide +kernel) (i:=9) Ku.nd rfl rfl
  (qT (K:=K) rfl (pv 8)) (fun _ _ _ _=>(qr (i:=0) (show (["_law_trail","_law_web_here","_law_names_here"]:List Str).Nodup by decide +kernel) rfl (yO rfl))) qR
  (fun _ _ _ _=>jG)
  (fun _ _ _ _=>(zI Uy (hmR n) (qa (pv 1) (qa (qt (qu (K:=K) rfl X) (pv 2) (qt (qu (K:=K) rfl X) (pv 0) qg (fun _ _=>rfl)) (fun _ _=>rfl)) qd)))))
 (qf (jl y0 rfl (jj rfl T.b_range (qa qg qd)) (qr (i:=10) Ku.nd rfl (yO rfl))
 (qc (qo (i:=11) Ku.nd rfl (yO rfl) (qv Kd (hmR n) qH (qa (pv 2) (qa qg qd))))
 (qc (qo (i:=12) Ku.nd rfl (yO rfl) (qv Ux (hmR n) qH (qa (pv 3) (qa (pv 6) (qa (pv 7) (qa (qt (qu (K:=K) rfl X) (pv 8) (pv 11) (fun _ _=>rfl)) qd))))))
 (qc (qV (jf (qZ (qv Uf (hmR n) qH (qa (qt (qu (K:=K) rfl X) (pv 9) (pv 11) (fun _ _=>rfl)) (qa (pv 3) (qa (pv 12) (qa (qt (qu (K:=K) rfl X) (pv 8) (pv 11) (fun _ _=>rfl)) (qa (qv Kd (hmR n) qH (qa (pv 2) (qa qg qd))) qd)))))))) (qf (qp zg)) qx)
 (qf (qI (qv Uq (hmR n) qH (qa (pv 2) (qa (qt (qu (K:=K) rfl X) (pv 9) (pv 11) (fun _ _=>rfl)) (qa (pv 3) (qa (pv 6) (qa (qt (qu (K:=K) rfl X) (pv 8) (pv 11) (fun _ _=>rfl)) qd)))))))))))))))))) qx)))))
 (qf (qp zg))),?_⟩
  ext;refine zY ha ?_;ext;refine ⟨_,_,rfl,?_⟩;ext;refine ⟨_,_,rfl,?_⟩;ext;rw [ya];refine ⟨_,rfl,by split<;>split<;>omega,by split<;>split<;>omega,?_⟩;generalize hN:(Int.toNat _)=N;have dq:N<=63:=by rw [<- hN];split<;>split<;>omega
  clear hN;refine jF (fun i σ H'=>L2.Same H H'/\∃ x1 x2 x3 x4 x5 x6 x7 x8 x9 R S U,σ=[some (.ref a),x1,x2,x3,x4,x5,x6,x7,x8,x9,R,S,U]) ⟨L2.Same.refl H,none,none,none,none,none,none,none,none,none,none,none,none,rfl⟩ (fun i σ H1 hi C=>?_) fun σ H1 C=>?_
  .obtain ⟨s1,x1,x2,x3,x4,x5,x6,x7,x8,x9,R,S,U,rfl⟩:=C;ext;refine ⟨a,zs,_,rfl,s1.seq ha,by omega,by omega,fun c=>?_⟩;ext;refine ⟨c,rfl,fun p u1 u2 u3 bn=>?_⟩;have s2:=qL s1 (o:=.lst [.int u1,.int u2,.int u3]) bn;have hB:Box (upd H1 p (.lst [.int u1,.int u2,.int u3])) p:=⟨u1,u2,u3,qb⟩;have bo:H p=none:=s1.free bn;generalize upd H1 p (.lst [.int u1,.int u2,.int u3])=H2 at s2 hB;ext;refine vAsgU ?_;ext;refine ⟨p,rfl,hB,fun r ln lt ss ts TI H3 D3 cu=>?_⟩;refine ⟨r,_,rfl,.inr (.of cu),rfl,_,_,rfl,_,_,rfl,rfl,?_⟩;have few:=D3.few;ext;refine ⟨by decide,fun l4 cr=>?_⟩;have g:=D3.on ((BB.refl D3.bb.2).new (o:=.lst []) cr);have e4:upd H3 l4 (.lst []) l4=some (.lst []):=qb;generalize upd H3 l4 (.lst [])=H4 at g e4;ext;refine ne_nil g.nm e4 ?_;ext;refine qW (fun af=>?_) fun _=>⟨BB.out s2 bo g.bb,_,_,_,_,_,_,_,_,_,_,_,_,rfl⟩;have dr:0<ss.length:=by cases hs:ss with | nil=>rw [hs] at af;cases af | cons v r=>simp
   ext;refine ⟨p,ln,lt,ss,ts,TI,rfl,g.bb.2,g.n1,g.n2,g.nm,g.nok,few,g.li,g.tj,fun b ns tps H5 b5 W5 keep hE=>?_⟩;have cd:=g.bb.trans b5;have B:=b5.1 _ _ g.n1 g.nm;have bi:=g.li.bb g.bb.2 b5 g.n2;have hnd:=g.nok.nd;ext;refine zY (SqL.of B) ?_;rw [ya];ext;refine ⟨lt,ss.length,ts,TI,rfl,few,bi,fun lb ls H6 s6 bh bm ae=>?_⟩;ext;refine ⟨lb,ls,TI,ss.length,rfl,ae,few,fun wd kvs H7 s7 am hS=>?_⟩;have O:=s6.trans s7;have ac:=cd.same O;have fq:∀ {v:Addr},H5 v=none->v≠p:=fun {v} h e=>by obtain ⟨y1,y2,y3,z⟩:=b5.2;rw [e,z] at h;cases h
   have m:Ev p cw H7 b ln lb wd ss ns tps TI:=by
    refine ⟨ac.2,fun J bJ=>keep J (((BB.refl b5.2).same O).trans bJ),fun J bJ=>bJ.1 _ _ g.n1 (O _ _ B),fun J bJ=>⟨ls,bJ.1 _ _ (fq bh) (s7 _ _ ae.1),⟨ae.2.len,fun k v j hv hj=>bJ.1 _ _ (fq (bm v (ye hv))) (s7 _ _ (ae.2.at_ k v j hv hj))⟩⟩,fun J bJ=>⟨kvs,bJ.1 _ _ (fun e=>by obtain ⟨y1,y2,y3,z⟩:=ac.2;rw [e,z] at am;cases am) am,hS⟩⟩
   have bq:∀ k,k<ss.length->Pos ss ns tps TI [] k:=fun k hk=>⟨by simp,fun j hj=>by rw [List.nil_append] at hj;rw [yx.mp hj];exact hk,few,g.tj,hE⟩;ext;refine zY (SqL.of (O _ _ B)) ?_;rw [ya];ext;refine ⟨p,_,rfl,ac.2,by omega,by omega,fun ra J1 de ds c1=>?_⟩;obtain ⟨Y,rfl⟩:=Yv de;ext;refine ⟨by show 1<=sizeLine;decide,fun t1 au=>?_⟩;have d2:=c1.new (o:=.lst [.int (Y:Int)]) au;have bz:=c1.apart au;have I:upd J1 t1 (.lst [.int (Y:Int)]) t1=some (.lst [iV Y]):=qb;have dh:=c1.free au;generalize upd J1 t1 (.lst [.int (Y:Int)])=J2 at d2 I;ext;refine zY (SqL.of (d2.1 _ _ g.n1 (O _ _ B))) ?_;rw [ya];ext;refine ⟨p,_,rfl,d2.2,by omega,by omega,fun rb J3 df du c3=>?_⟩;obtain ⟨Z,rfl⟩:=Yv df;have d3:=d2.trans c3;replace I:=c3.1 _ _ bz I;ext;refine ⟨by show 1<=sizeLine;decide,fun t2 ag=>?_⟩;have d4:=d3.new (o:=.lst [.int (Z:Int)]) ag;have cz:=d3.apart ag;have di:=d3.free ag;have l:upd J3 t2 (.lst [.int (Z:Int)]) t2=some (.lst [iV Z]):=qb;have al:t1≠t2:=qm I ag;have d:upd J3 t2 (.lst [.int (Z:Int)]) t1=some (.lst [iV Y]):=by rw [qe al];exact I
   generalize upd J3 t2 (.lst [.int (Z:Int)])=J4 at d4 l d;ext;refine ⟨by show 2<=sizeLine;decide,fun lo cs=>?_⟩;have s5:=qL (Sr J4) (o:=.lst [.ref t1,.ref t2]) cs;have ad:upd J4 lo (.lst [.ref t1,.ref t2]) lo=some (.lst [.ref t1,.ref t2]):=qb;replace d:=s5 _ _ d;replace l:=s5 _ _ l;have d5:=d4.same s5;generalize upd J4 lo (.lst [.ref t1,.ref t2])=J5 at s5 ad d l d5;have bf:Y<ss.length:=by omega
   have bg:Z<ss.length:=by omega
   obtain ⟨kk,aq,ar⟩:∃ kk:Nat->Nat,kk 0=Y/\kk 1=Z:=⟨fun j=>if j=0 then Y else Z,rfl,rfl⟩;ext;refine .inl ⟨⟨_,.of ad⟩,qK (xs:=[.ref t1,.ref t2]) (fun i ys G=>L2.Same J5 G/\∃ L:List (Addr×Addr),ys=L.map (fun v=>V.ref v.1)/\L.length=i/\Mde (cc 8) b J5 G ss kk L) ⟨L2.Same.refl J5,[],rfl,rfl,(fun j v h=>by simp at h),.nil⟩ (fun i ys G _ C=>.of (C.1 _ _ ad)) (fun i y ys G hy C=>?_) fun ys G C=>?_⟩
   .obtain ⟨sG,L,rfl,ao,M,ap⟩:=C;have be:i<2:=(yc.mp hy).1
    obtain ⟨tj,cv,cj⟩:∃ tj,y=.ref tj/\J5 tj=some (.lst [iV (kk i)]):=by
     match i,be,hy with
     | 0,_,hy=>cases hy;exact ⟨t1,rfl,by rw [aq];exact d⟩
     | 1,_,hy=>cases hy;exact ⟨t2,rfl,by rw [ar];exact l⟩
    subst cv
    have cq:kk i<ss.length:=by
     match i,be with
     | 0,_=>rw [aq];exact bf
     | 1,_=>rw [ar];exact bg
    obtain ⟨st,as⟩:∃ st,ss[kk i]?=some st:=⟨_,yb cq⟩;have bG:=d5.same sG;have WG:=m.wt G bG;ext;refine qal ?_;ext;refine .inl (zc (sG _ _ cj) (v:=iV (kk i)) rfl ?_);refine .inl (zc (m.nm G bG) (v:=.str st) (qy (by rw [yd,as];rfl)) ?_);intro x dx br bd af;have sX:=qL (qL (Sr G) (o:=.own x) bd) (o:=.ins (cc 8) dx []) (show upd G dx (.own x) x=none by rw [qe (Yh af)];exact br);refine ⟨x,dx,b,st,ss,ns,rfl,qb,WG.web.same sX,ye as,fun pp G2 bt ct cn=>⟨rfl,?_⟩⟩;have ay:L2.Same G G2:=fun c o e=>bt c o (fun z=>by rw [z,br] at e;cases e) (sX _ _ e);obtain ⟨ce,h1,h2,h3⟩:=cn;have ak:=sX.free ct;refine ⟨by rw [ya];exact qi (by omega),sG.trans ay,L++[(x,pp)],by rw [yA];rfl,by rw [yt,ao];rfl,fun j v hv=>?_,?_⟩
    .by_cases hj:j<L.length
     .rw [y8 hj] at hv;obtain ⟨⟨cf,z1⟩,z2,z3⟩:=M j v hv;exact ⟨⟨cf,ay _ _ z1⟩,ay _ _ z2,z3⟩
     .rw [yG (by omega)] at hv;have h0:j-L.length=0:=by have:=(yc.mp hv).1;simp at this;omega
      rw [h0] at hv;cases hv;have co:j=i:=by omega
      subst co;exact ⟨⟨ce,h1⟩,by rw [qa8 as];exact h2,sG.free ak⟩
    .refine List.pairwise_append.mpr ⟨ap,by simp,fun u X v hv e=>?_⟩;rw [yx.mp hv] at e;obtain ⟨j,hj⟩:=yf X;have z2:=(M j u hj).2.1;rw [e] at z2;have z3:G pp=none:=ak;rw [z3] at z2;cases z2
   .obtain ⟨sG,L,rfl,ao,M,ap⟩:=C;have cm:L.length=2:=ao
    obtain ⟨⟨W,pa⟩,⟨D,pb⟩,rfl⟩:∃ u v,L=[u,v]:=by
     match L,cm with
     | [u,v],_=>exact ⟨u,v,rfl⟩
    obtain ⟨⟨cg,bv⟩,aw,s⟩:=M 0 (W,pa) rfl;obtain ⟨⟨ch,bw⟩,ax,A⟩:=M 1 (D,pb) rfl;have bp:pa≠pb:=(List.pairwise_cons.mp ap).1 (D,pb) (by simp);rw [aq] at aw;rw [ar] at ax;dsimp only at bv aw s bw ax A;refine ⟨by show 2<=sizeLine;decide,fun lp bj=>?_⟩;have s6:=qL sG (o:=.lst [.ref W,.ref D]) bj;have ah:=qL (Sr G) (o:=.lst [.ref W,.ref D]) bj;have ci:upd G lp (.lst [.ref W,.ref D]) lp=some (.lst [.ref W,.ref D]):=qb;have eu:upd G lp (.lst ([(W,pa),(D,pb)].map fun v=>V.ref v.1))=upd G lp (.lst [.ref W,.ref D]):=rfl;rw [eu];have bx:∀ {v:Addr},J5 v=none->v≠p:=fun {v} h e=>by obtain ⟨y1,y2,y3,z⟩:=d5.2;rw [e,z] at h;cases h
    have L0:L2p (cc 8) p H7 (upd G lp (.lst [.ref W,.ref D])) b lo lp W pa t1 D pb t2 ss ns tps TI:=⟨d5.same s6,s6 _ _ ad,ci,⟨[],Y,⟨⟨cg,ah _ _ bv⟩,ah _ _ aw,s6 _ _ d,d5.free s,dh,bx s,bz,(fun e=>by rw [e,d] at s;cases s)⟩,bq Y bf⟩,⟨[],Z,⟨⟨ch,ah _ _ bw⟩,ah _ _ ax,s6 _ _ l,d5.free A,di,bx A,cz,(fun e=>by rw [e,l] at A;cases A)⟩,bq Z bg⟩⟩;have h2:pa≠t2:=fun e=>by rw [e,l] at s;cases s
    have h3:t1≠pb:=fun e=>by rw [<- e,d] at A;cases A
    generalize upd G lp (.lst [.ref W,.ref D])=J6 at L0;ext;refine ⟨_,rfl,by decide,by decide,jF (fun j σ J=>(∃ R S U,σ=[some (.ref a),some (.int (0+(i:Int))),some (.ref p),some (.ref ln),some (.ref lt),some (.ref b),some (.ref lb),some (.ref wd),some (.ref lo),some (.ref lp),R,S,U])/\L2p (cc 8) p H7 J b lo lp W pa t1 D pb t2 ss ns tps TI) ⟨⟨_,_,_,rfl⟩,L0⟩ (fun j σ J hj C=>?_) fun σ J C=>?_⟩
    .obtain ⟨⟨dj,dk,dl,rfl⟩,LJ⟩:=C;ext;refine ⟨p,2,rfl,LJ.bb.2,by decide,by decide,fun r9 J9 dc dd b9=>?_⟩;have L9:=LJ.box b9;obtain ⟨x,pp,tn,is,ai,bu,av,g9,o9,back⟩:=L9.pick bp h2 h3 al dc dd;ext;refine .inl (zc L9.lo av ?_);refine ⟨ln,lb,wd,tn,ss,ns,tps,TI,is,ai,rfl,hnd,⟨m.nm J9 L9.bb,m.bs J9 L9.bb,m.wn J9 L9.bb,g9.tr,o9⟩,fun dt dg J10 ca aj hD=>?_⟩;have L10:=L9.same ca;have ck:=g9.same ca;have cy:dg≠p:=fun e=>by obtain ⟨y1,y2,y3,z⟩:=L9.bb.2;rw [e,z] at aj;cases aj
     ext;refine .inl (zc L10.lp bu ?_);ext;refine .inl (zc L10.lo av ?_);ext;refine ⟨p,2,rfl,L10.bb.2,by decide,by decide,fun db J11 dm dp aa=>?_⟩;have L11:=L10.box aa;have an:=ck.bb L10.bb.2 aa;have bc:DuT J11 dt dg ss TI is ai:=⟨aa.tup L10.bb.2 hD.1,aa.1 _ _ cy hD.2⟩;ext;refine ⟨x,b,pp,ln,dt,dg,tn,ss,ns,tps,TI,is,ai,db,rfl,⟨an.pp m L11.bb o9,m.nm J11 L11.bb,an.tr,bc⟩,fun J12 cb=>?_⟩;have L12:=L11.same cb;have ba:=an.same cb;refine ⟨_,rfl,qW (fun h=>by cases h) fun _=>?_⟩;ext;refine .inl (zc L12.lp bu ?_);ext;refine .inl (zc L12.lo av ?_);ext;refine ⟨H7,p,x,b,pp,tn,ln,lb,wd,ss,ns,tps,TI,is,ai,rfl,m,L12.bb,ba,o9,fun J13 cx a' m3 az cl da=>?_⟩;exact ⟨⟨_,_,_,rfl⟩,back J12 J13 cx a' L12 ba m3 az cl da⟩
    .obtain ⟨⟨dj,dk,dl,rfl⟩,LJ⟩:=C;exact ⟨BB.out s2 bo (ac.trans LJ.bb),_,_,_,_,_,_,_,_,_,_,_,_,rfl⟩
  .obtain ⟨s1,x1,x2,x3,x4,x5,x6,x7,x8,x9,R,S,U,rfl⟩:=C;ext;exact q H1
end
theorem all_mk {l:W.OpenLaw} {w:World} {h:Heap} {p:Str->Option Value} {fa g b j :Addr} {q r u:Tok} (X:K.In h) (G:h.Ns mainGlobals p) (D:p "law"=some (.ref fa))
  (Cw_:W.nsIn K mainGlobals "Web"=some (some (.ref g)))
  (Cf_:W.nsIn K mainGlobals "Forest"=some (some (.ref b)))
  (Cp_:W.nsIn K mainGlobals "Play"=some (some (.ref j)))
  (vV:FG K "are_pairs" zL)
  (vg:FG K "partners_in" j8)
  (vF:FG K "told_pairs" jZ)
  (V0:FG K "is_row" qbl)
  (UL:FG K "are_unlike_places" ji)
  (U1:FG K "goes_by_turns" qX)
  (v6:FG K "can_turn" qar)
  (V1:FG K "turned" qaU)
  (v7:FG K "greatest" qas)
  (U2:FG K "greatest_from" jL)
  (Wn:FG K "loose" qce)
  (Vq:FG K "is_name" qaa)
  (V2:FG K "winner" qbq)
  (Vr:FG K "winners" qaX)
  (vG:FG K "good_moves" j3)
  (Vs:FG K "of_play" qa0)
  (Vt:FG K "has_bit" qaR)
  (v8:FG K "is_place" qan)
  (UT:FG K "are_two_places" jB)
  (vH:FG K "numbers_of" zl)
  (Vu:FG K "near_of" qaS)
  (V3:FG K "_law_cell" qbo)
  (Vv:FG K "_law_begun" qaV)
  (V4:FG K "_law_take" qbp)
  (Vw:FG K "_law_names" zA)
  (Vx:FG K "_law_shape" zB)
  (Vy:FG K "_law_drawn" qaW)
  (Wo:FG K "_law_web" qcb)
  (v9:FG K "_law_beside" zC)
  (Va:FG K "_law_solved" ze)
  (Wp:FG K "_law_due" qaF)
  (Vb:FG K "_law_stands" zD)
  (Vz:FG K "_law_moved" qaf)
  (WA:FG K "law" qcU)
  (WY:FM K g "__init__" "Web.__init__" qao)
  (Vc:FM K g "places" "Web.places" zm)
  (V5:FM K g "ties" "Web.ties" qaq)
  (vh:FM K g "has_place" "Web.has_place" jI)
  (vW:FM K g "has_tie" "Web.has_tie" j7)
  (vk:FM K g "number_of" "Web.number_of" jJ)
  (Vd:FM K g "beside" "Web.beside" zn)
  (U3:FM K g "bits_beside" "Web.bits_beside" jv)
  (V6:FM K g "tied" "Web.tied" qap)
  (vJ:FM K g "names_in" "Web.names_in" jA)
  (vX:FM K g "without" "Web.without" jw)
  (vm:FM K b "__init__" "Forest.__init__" za)
  (V7:FM K b "row" "Forest.row" zo)
  (vK:FM K b "reached" "Forest.reached" jk)
  (VA:FM K b "grow" "Forest.grow" j9)
  (Ve:FM K b "reach" "Forest.reach" jT)
  (UU:FM K b "look_around" "Forest.look_around" jd)
  (UM:FM K b "bring_together" "Forest.bring_together" qM)
  (UE:FM K b "bases_down_from" "Forest.bases_down_from" qU)
  (UV:FM K b "reach_round" "Forest.reach_round" jc)
  (VB:FM K b "fold" "Forest.fold" jK)
  (vn:FM K j "__init__" "Walk.__init__" zO)
  (U8:FM K j "stands_at" "Walk.stands_at" jC)
  (VC:FM K j "gone" "Walk.gone" zP)
  (VD:FM K j "hand" "Walk.hand" zQ)
  (vL:FM K j "move_to" "Walk.move_to" jU)
  (VE:FM K j "back" "Walk.back" zR)
  (Vf:FM K j "moves" "Play.moves" zq)
  (vo:FM K j "not_gone" "Play.not_gone" jt)
  (Wq:FM K j "go" "Play.go" qaY)
  (vp:FM K j "web_left" "Play.web_left" jM)
  (w1:W.plainGet K g Str.empty=true)
  (w2:W.hasDictIn K g=true)
  (w3:W.plainOver K g=true)
  (w4:W.findIn K (.ref g) "__setattr__"=some (some (.builtin "object.__setattr__")))
  (w5:W.makesIn K g=true)
  (w6:W.keepIn K (.ref g)=true)
  (w7:W.findIn K (.ref g) "numbers"=some none)
  (w8:W.findIn K (.ref g) "order"=some none)
  (w9:W.findIn K (.ref g) "near"=some none)
  (P:W.plainGet K b Str.empty=true)
  (R:W.hasDictIn K b=true)
  (S:W.plainOver K b=true)
  (U:W.findIn K (.ref b) "__setattr__"=some (some (.builtin "object.__setattr__")))
  (Y:W.makesIn K b=true)
  (Z:W.keepIn K (.ref b)=true)
  (ae:W.findIn K (.ref b) "board"=some none)
  (af:W.findIn K (.ref b) "partners"=some none)
  (ag:W.findIn K (.ref b) "rows"=some none)
  (ah:W.findIn K (.ref b) "parents"=some none)
  (ai:W.findIn K (.ref b) "bases"=some none)
  (aj:W.findIn K (.ref b) "rings"=some none)
  (ak:W.findIn K (.ref b) "waiting"=some none)
  (al:W.findIn K (.ref b) "longer"=some none)
  (ad:W.nsIn K mainGlobals "zip"=some none)
  (y:W.nsIn K mainGlobals "sorted"=some none)
  (x:W.nsIn K mainGlobals "dict"=some none)
  (z:W.nsIn K mainGlobals "sum"=some none)
  (F:W.plainGet K j Str.empty=true)
  (H:W.hasDictIn K j=true)
  (I:W.plainOver K j=true)
  (J:W.findIn K (.ref j) "__setattr__"=some (some (.builtin "object.__setattr__")))
  (L:W.makesIn K j=true)
  (M:W.keepIn K (.ref j)=true)
  (N:W.findIn K (.ref j) "board"=some none)
  (O:W.findIn K (.ref j) "path"=some none)
  (z0:W.nsIn K mainGlobals "len"=some none)
  (z1:W.nsIn K mainGlobals "int"=some none)
  (z2:W.nsIn K mainGlobals "enumerate"=some none)
  (z3:W.nsIn K mainGlobals "all"=some none)
  (z4:W.nsIn K mainGlobals "max"=some none)
  (z5:W.nsIn K mainGlobals "min"=some none)
  (z6:W.nsIn K mainGlobals "isinstance"=some none)
  (z7:W.nsIn K mainGlobals "bool"=some none)
  (z8:W.nsIn K mainGlobals "str"=some none)
  (z9:W.nsIn K mainGlobals "range"=some none)
  (aa:W.nsIn K mainGlobals "list"=some none)
  (ac:W.nsIn K mainGlobals "tuple"=some none)
  (u0:W.nsIn K mainGlobals "LONGEST_NAME"=some (some (.int 6 q)))
  (u1:W.nsIn K mainGlobals "MOST_PLACES"=some (some (.int 14 r)))
  (u2:W.nsIn K mainGlobals "MOST_TIES"=some (some (.int 30 u))) :
  ∃ fd:FuncData,(∀ (s:Shared) (v:Value),BindsTo s fd ⟨[v],[]⟩ [("_law_script",v)])/\∀ d:Heap,K.In d->d.Ns mainGlobals p->FnOk l.prog w K p d CX0 19 fa fd ["_law_script"] (spLaw K):=by
 obtain ⟨_,_,vY,wj⟩:=vV;obtain ⟨_,_,vq,wm⟩:=vg;obtain ⟨_,_,vM,wq⟩:=vF;obtain ⟨_,_,V8,wu⟩:=V0;obtain ⟨_,_,UO,wv⟩:=UL;obtain ⟨_,_,U4,ww⟩:=U1;obtain ⟨_,_,Vg,wy⟩:=v6;obtain ⟨_,_,V9,wz⟩:=V1;obtain ⟨_,_,Vh,wA⟩:=v7;obtain ⟨_,_,U5,wB⟩:=U2;obtain ⟨_,_,Wr,wC⟩:=Wn;obtain ⟨_,_,VF,wD⟩:=Vq;obtain ⟨_,_,wa,wE⟩:=V2;obtain ⟨_,_,VG,wG⟩:=Vr;obtain ⟨_,_,vN,wH⟩:=vG;obtain ⟨_,_,VH,wI⟩:=Vs;obtain ⟨_,_,VI,wJ⟩:=Vt;obtain ⟨_,_,Vi,wK⟩:=v8;obtain ⟨_,_,UW,wL⟩:=UT;obtain ⟨_,_,vO,wM⟩:=vH;obtain ⟨_,_,VJ,wN⟩:=Vu;obtain ⟨_,_,wc,wO⟩:=V3;obtain ⟨_,_,VL,wP⟩:=Vv;obtain ⟨_,_,we,wR⟩:=V4;obtain ⟨_,_,VM,wS⟩:=Vw;obtain ⟨_,_,VN,wT⟩:=Vx;obtain ⟨_,_,VO,wU⟩:=Vy;obtain ⟨_,_,Ws,wV⟩:=Wo;obtain ⟨_,_,Vj,wW⟩:=v9;obtain ⟨_,_,Vk,wX⟩:=Va;obtain ⟨_,_,Wu,wY⟩:=Wp;obtain ⟨_,_,Vl,wZ⟩:=Vb;obtain ⟨_,_,VP,Wa⟩:=Vz;obtain ⟨_,_,WB,Wc⟩:=WA;obtain ⟨_,_,WZ,W0,Wz⟩:=WY;obtain ⟨_,_,WC,WD,Wd⟩:=Vc;obtain ⟨_,_,WE,WF,We⟩:=V5;obtain ⟨_,_,WH,WI,Wf⟩:=vh;obtain ⟨_,_,WJ,WK,Wg⟩:=vW;obtain ⟨_,_,WL,WM,Wh⟩:=vk;obtain ⟨_,_,WN,WO,Wi⟩:=Vd;obtain ⟨_,_,WP,WQ,Wj⟩:=U3;obtain ⟨_,_,WR,WS,Wk⟩:=V6;obtain ⟨_,_,WT,WV,Wl⟩:=vJ;obtain ⟨_,_,WW,WX,Wm⟩:=vX;obtain ⟨_,_,vv,vw,UH⟩:=vm;obtain ⟨_,_,wf,wg,vP⟩:=V7;obtain ⟨_,_,vQ,vR,UR⟩:=vK;obtain ⟨_,_,VQ,VR,vb⟩:=VA;obtain ⟨_,_,Vm,Vn,U6⟩:=Ve;obtain ⟨_,_,UX,UY,UB⟩:=UU;obtain ⟨_,_,UP,UQ,UA⟩:=UM;obtain ⟨_,_,UF,UG,Uz⟩:=UE;obtain ⟨_,_,UZ,U0,UC⟩:=UV;obtain ⟨_,_,VS,VT,vc⟩:=VB;obtain ⟨_,_,vx,vy,UI⟩:=vn;obtain ⟨_,_,U9,va,UD⟩:=U8;obtain ⟨_,_,VU,VV,vd⟩:=VC;obtain ⟨_,_,VW,VX,ve⟩:=VD;obtain ⟨_,_,vS,vT,US⟩:=vL;obtain ⟨_,_,VY,VZ,vf⟩:=VE;obtain ⟨_,_,Vo,Vp,U7⟩:=Vf;obtain ⟨_,_,vz,vA,UJ⟩:=vo;obtain ⟨_,_,Ww,Wx,vZ⟩:=Wq;obtain ⟨_,_,vD,vE,UK⟩:=vp;have e:=D.symm.trans (k8 X G WB);cases e;have m:Cls K g:=⟨w1,w2,w3,w4⟩;have n:Cls K b:=⟨P,R,S,U⟩;have o:Cls K j:=⟨F,H,I,J⟩
 have E:∀ a∈fAtt,NoAttr K b a:=fun a C=>by
  unfold fAtt at C;simp only [yB,Yd,Y0] at C;rcases C with rfl | rfl | rfl | rfl | rfl | rfl | rfl | rfl<;>assumption
 have T:Txt K p (fun i=>([b,b,b,b,b,b,b,b,j]:List Addr).getD i b) g:=⟨YF X G z0,
  YF X G z1,
  YF X G z2,
  YF X G z3,
  YF X G z4,
  YF X G z5,
  YF X G z6,
  YF X G z7,
  YF X G z8,
  YF X G z9,
  YF X G aa,
  YF X G ac,
  ⟨q,k8 X G u0⟩,
  ⟨r,k8 X G u1⟩,
  ⟨u,k8 X G u2⟩,
  m,
  w7,
  w8,
  w9,
  k8 X G Cw_,
  k8 X G Cf_,
  n,
  E,
  YF X G ad,
  YF X G y,
  YF X G x,
  YF X G z,
  k8 X G Cp_,
  o,
  N,
  O⟩
 obtain ⟨oc,od,kV,A,pm,an,cd,ct,sl,rfl,lk,hc⟩:=Wc.ex;refine ⟨W.fnOf "law" "law" (qaB qcU) (zW qcU) (qh qcU) .none kV A pm an cd ct,fun s v=>.of_eq rfl,fun d _ _=>?_⟩;have c:=@fg_mk l.prog w K p d h;have f:=@fm_mk l.prog w K p d;have B:=@fw_mk l.prog w K p d h;have d_name:=c X G VF wD (ok_name wD T);have d_place:=c X G Vi wK (ok_place wK d_name);have d_two:=c X G UW wL (ok_two wL T d_place);have d_bit:=c X G VI wJ (ok_bit wJ);have d_nums:=c X G vO wM (ok_nums wM T d_name);have d_near:=c X G VJ wN (ok_near wN T d_two d_bit);have q_web:MakeOk l.prog w K p d CX0 5 g "Web" ["self","names","ties"] (spWeb g):=B X G Cw_ w5 w6 WZ W0 Wz (ok_web Wz T d_nums d_near);have m_has:=f m WH WI Wf (ok_has Wf T d_place);have m_num:=f m WL WM Wh (ok_num Wh T m_has);have m_bb:=f m WP WQ Wj (ok_bb Wj T m_num);have m_nin:=f m WT WV Wl (ok_nin Wl T d_bit);have m_bs:=f m WN WO Wi (ok_bs Wi T m_bb m_nin);have m_tied:=f m WR WS Wk (ok_tied Wk T m_bb m_num d_bit);have m_pls:=f m WC WD Wd (ok_pls Wd T);have m_ts:=f m WE WF We (ok_ts We T m_bs);have m_ht:=f m WJ WK Wg (ok_ht Wg T d_two m_tied);have d_ap:=c X G vY wj (ok_ap wj T m_ht);have d_pn:=c X G vq wm (ok_pn wm T d_ap);have d_tp:=c X G vM wq (ok_tp wq T d_pn m_ts);have d_ul:=c X G UO wv (ok_ul wv T m_has);have d_gt:=c X G U4 ww (ok_gt ww T m_ht);have d_ir:=c X G V8 wu (ok_ir wu T d_pn d_ul d_gt);have d_ct:=c X G Vg wy (ok_ct wy T d_pn d_ir);have d_tu:=c X G V9 wz (ok_tu wz T d_pn m_ts d_ct);have p_re:=f n Vm Vn U6 (ok_re U6 T);have p_bd:=f n UF UG Uz (ok_bd Uz T);have p_rr:=f n UZ U0 UC (ok_rr UC T p_re);have p_fd:=f n VS VT vc (ok_fdF vc T m_pls);have p_bt:=f n UP UQ UA (ok_bt UA T p_bd p_rr p_fd);have p_la:=f n UX UY UB (ok_la UB T m_bs p_bt p_re);have p_gw:=f n VQ VR vb (ok_gw vb T m_pls p_re p_la);have p_mk:MakeOk l.prog w K p d CX0 10 b "Forest" ["self","web","pairs"] (spFi (fun i=>([b,b,b,b,b,b,b,b,j]:List Addr).getD i b) g):=B X G Cf_ Y Z vv vw UH (ok_fi UH T d_pn p_gw);have p_row:=f n wf wg vP (ok_fr vP T);have p_rch:=f n vQ vR UR (ok_fd2 UR T m_pls);have d_gf:=c X G U5 wB (ok_gf wB T d_tp p_mk p_row d_tu);have d_gr:=c X G Vh wA (ok_gr wA T d_gf);have d_lo:=c X G Wr wC (ok_lo wC T d_gr p_mk p_rch);have m_wo:=f m WW WX Wm (ok_wo Wm T m_num m_ts q_web);have d_wn:=c X G VG wG (ok_wnQ wG T d_lo m_pls);have d_wi:=c X G wa wE (ok_wiQ wE T d_wn m_num);have m_play:MakeOk l.prog w K p d CX0 5 j "Play" ["self","web","start"] (spWkI (fun i=>([b,b,b,b,b,b,b,b,j]:List Addr).getD i b) g):=B X G Cp_ L M vx vy UI (ok_wkI UI T m_has);have p_st:=f o U9 va UD (ok_ps UD T);have p_gn:=f o VU VV vd (ok_pgn vd T);have p_hd:=f o VW VX ve (ok_ph ve T);have p_ng:=f o vz vA UJ (ok_ng UJ T);have p_mv:=f o Vo Vp U7 (ok_pm U7 T m_bs p_st p_ng);have p_mt:=f o vS vT US (ok_mvt US T p_mv);have p_go:=f o Ww Wx vZ (ok_pgo vZ T p_mt);have p_bk:=f o VY VZ vf (ok_pbk vf T);have p_wl:=f o vD vE UK (ok_wlP UK T m_wo);have d_gm:=c X G vN wH (ok_gmQ wH T d_lo m_wo m_bs);have d_op:=c X G VH wI (ok_opQ wI T d_gm p_wl p_st p_hd);have d_tk:=c X G we wR (ok_tkQ wR);have d_nmq:=c X G VM wS (ok_nmQ wS T d_tk);have d_sh:=c X G VN wT (ok_shQ wT T d_tk);have d_dr:=c X G VO wU (ok_drQ wU T d_tk d_nmq d_sh);have d_wb:=c X G Ws wV (ok_wbQ wV T d_tk q_web);have d_du:=c X G Wu wY (ok_duQ wY T);have d_std:=c X G Vl wZ (ok_stQ wZ T p_wl p_hd d_gm p_st d_op d_wi p_gn) (hb:=fun _ _ _ _ _ _=>lN5 fun _ _ _ _ _=>rfl);have d_mvd:=c X G VP Wa (ok_mvQ Wa T d_tk p_bk p_go) (hb:=fun _ _ _ _ _ _=>lN5 fun _ _ _ _ _=>rfl);exact ok_law55 Wc T (c X G wc wO (ok_ceQ wO T)) (c X G VL wP (ok_bgQ wP T)) d_tk d_dr d_wb (c X G Vj wW (ok_bsQ wW T)) (c X G Vk wX (ok_svQ wX T)) m_play d_du d_std d_mvd
theorem walk {l:PySem.W.OpenLaw} {q:Program} {loose:List Str} {XP:(Str->Option Value)->Heap->Prop} {YP:World->Heap->Prop} {d:DefRec} {K:Params->yg} (o:l.most=some 63) (e:d.params.defaults=[])
  (m:∀ (w:World) (h:Heap),YP w h->(K w.params).In h)
  (F:∀ (w:World) (c:Str->Option Value) (g:Addr) (h:Heap),(K w.params).In h->h.Ns mainGlobals c->c d.name=some (.ref g) ->
   ∃ i:FuncData,(∀ (s:Shared) (u:Value),BindsTo s i ⟨[u],[]⟩ [("_law_script",u)])/\∀ b:Heap,(K w.params).In b->b.Ns mainGlobals c->FnOk l.prog w (K w.params) c b CX0 19 g i ["_law_script"] (spLaw (K w.params))) :
  PySem.W.WalkO q loose XP YP l.row.toRowW d [] (fun f vs=>PySem.call f vs):=
 L2.walk_of (n:=63) (k:=19) (x:="_law_script") (CX:=fun _=>CX0) (sp:=fun w=>spLaw (K w.params)) o (by decide) e ⟨rfl,by decide,by decide,rfl⟩ m F (fun _ _ a ns hl _ j=>⟨a,ns,rfl,j,hl,fun _=>rfl⟩) fun _ _ _ _ _ z=>z
end K55
set_option maxRecDepth 100000 in
set_option maxHeartbeats 0 in
theorem PySem.Challenge.cw_onceroad_k55_whole_every_position_holds : PySem.Challenge.rw_onceroad_k55_whole_every_position.Holds := by
  w_on; o_law
  refine PySem.W.holds_open (q := K55.Q) (loose := []) (Xt := K55.Xt) (XP := PySem.W.XL K55.Q []) (Yf := PySem.W.Hook.obs K55.Hk) (Ya := PySem.W.Hook.val K55.Hk) (YP := PySem.W.Hook.says (PySem.W.kHook K55.Kf K55.ks K55.ks_eq)) (N := K55.NN) K55.hl (PySem.W.Hook.of K55.Hk) (PySem.W.Hook.keeps K55.Hk) (fun s e => PySem.W.xl_of s (Bool.and_eq_true_iff.mp e).1) PySem.W.XL.keeps (by rfl) (by rfl) (by rfl) (fun s e => PySem.W.recFacts_of (Bool.and_eq_true_iff.mp e).2) (by rfl) (by first | assumption | decide +kernel) (by decide +kernel) ⟨rfl, rfl, rfl, rfl, rfl, by decide +kernel⟩ ?hw ?hc
  (case hw => w_witness2)
  k_fill
  refine K55.walk (l := PySem.Challenge.rw_onceroad_k55_whole_every_position) rfl rfl (fun w h Y => PySem.W.kIn_of Y) ?F
  case F =>
    intro w mg fa h KX G hmg
    refine' K55.all_mk KX G hmg ?_ ?_ ?_ ?_ ?_ ?_ ?_ ?_ ?_ ?_ ?_ ?_ ?_ ?_ ?_ ?_ ?_ ?_ ?_ ?_ ?_ ?_ ?_ ?_ ?_ ?_ ?_ ?_ ?_ ?_ ?_ ?_ ?_ ?_ ?_ ?_ ?_ ?_ ?_ ?_ ?_ ?_ ?_ ?_ ?_ ?_ ?_ ?_ ?_ ?_ ?_ ?_ ?_ ?_ ?_ ?_ ?_ ?_ ?_ ?_ ?_ ?_ ?_ ?_ ?_ ?_ ?_ ?_ ?_ ?_ ?_ ?_ ?_ ?_ ?_ ?_ ?_ ?_ ?_ ?_ ?_ ?_ ?_ ?_ ?_ ?_ ?_ ?_ ?_ ?_ ?_ ?_ ?_ ?_ ?_ ?_ ?_ ?_ ?_ ?_ ?_ ?_ ?_ ?_ ?_ ?_ ?_ ?_ ?_ ?_ ?_ ?_ ?_ ?_ ?_ ?_ ?_ ?_
    any_goals first | k_is | decide
    any_goals first | k_is | decide | exact ⟨_, _, by k_is, L2.fun_mk (by k_is) (by k_is) (by k_is)⟩ | exact ⟨_, _, by k_is, by k_is, L2.fun_mk (by k_is) (by k_is) (by k_is)⟩ | exact ⟨_, _, _, _, _, _, _, _, _, _, _, _, _, _, _, by k_is⟩ | exact ⟨by k_is, by k_is, by k_is, by k_is, by k_is, by k_is, by k_is, by k_is⟩ | kernel_rfl | fail
