import PyProof.Rows.All
import Wide.All
import OpenK.AllK
import Wide.FinOn
import PyProof.EqAt
import PyProof.EqKinds
import PyProof.TupleCall
import Lean
import PySem.Challenge.RW_onceroad_k31_a_row_or_greatest
set_option Elab.async false
set_option linter.all false
set_option maxRecDepth 100000
theorem ya {a b:Type} {as:List a} (f:a→b):(as.map f).length=as.length:=List.length_map f
theorem yb {a:Type} {l:List a} {i:Nat} (h:i<l.length):l[i]?=some l[i]:=List.getElem?_eq_getElem h
theorem yc {b:Type} {l:List b} {i:Nat} {a:b}:l[i]?=some a↔∃h:i<l.length,l[i]=a:=List.getElem?_eq_some_iff
theorem yd {a b:Type} {f:a→b} {l:List a} {i:Nat}:(l.map f)[i]?=l[i]?.map f:=List.getElem?_map
theorem ye {b:Type} {l:List b} {i:Nat} {a:b} (h:l[i]?=some a):a∈l:=List.mem_of_getElem? h
theorem yf {b:Type} {a:b} {l:List b} (h:a∈l):∃i:Nat,l[i]?=some a:=List.getElem?_of_mem h
noncomputable abbrev yg:=PySem.W.Frag
theorem yh (n:Nat):n≤n:=Nat.le_refl n
theorem yi {a b c:Nat} (h:a≤b) (k:b≤c):a≤c:=Nat.le_trans h k
theorem yj {a b c:Nat} (h:a<b) (k:b≤c):a<c:=Nat.lt_of_lt_of_le h k
theorem yk {p:Prop} [Decidable p] (h:decide p=true):p:=of_decide_eq_true h
theorem yl {p:Prop} [Decidable p] (h:¬p):decide p=false:=decide_eq_false h
theorem ym {c:Type} {a b:c} (h:some a=some b):a=b:=Option.some.inj h
theorem yn {c d:Type} {f:c→d} {x:Option c} {b:d}:x.map f=some b↔∃a,x=some a∧f a=b:=Option.map_eq_some_iff
theorem yo {b:Type} {a:b} {l:List b}:(a::l).Nodup↔a∉l∧l.Nodup:=List.nodup_cons
theorem yp {a:Type} {p:a→Bool} {as:List a} {x:a}:x∈as.filter p↔x∈as∧p x=true:=List.mem_filter
theorem yq {A B:Prop} (h:B):if false=true then A else B:=h
def yr:=@PySem.wpAny_bind
def yt:=@List.length_append
def yu:=@PySem.wpAny_pure
def yv:=@PySem.Heap.get?_push_of_some
def yw:=@List.size_toArray
def yx:=@List.mem_append
def yy:=@List.mem_cons
def yz:=@List.getElem?_append_right
def yA:=@List.length_cons
def yB:=@List.mem_singleton
def yC:=@List.mem_cons_of_mem
def yD:=@if_neg
def yE:=@List.mem_append_left
def yF:=@List.map_append
def yG:=@List.take_add_one
def yH:=@List.mem_append_right
def yI:=@List.length_filter_le
def yJ:=@List.length_take
def yK:=@if_pos
def yL:=@PySem.Heap.get?_push_size
def yM:=@PySem.Heap.lt_size
def yN:=@List.take_length
def yO:=@List.mem_cons_self
def yP:=@PySem.F.plainAttrs_list
def yQ:=@decide_eq_true
def yR:=@Or.inl
def yS:=@Nat.le_of_lt
def yT:=@List.getElem?_append_left
def yU:=@PySem.PassesOwn.never
def yV:=@List.filter_cons
def yW:=@Bool.and_eq_true
def yX:=@List.not_mem_nil
def yY:=@List.append_assoc
def yZ:=@List.nodup_append
def y0:=@Nat.ne_of_lt
def y9:=@List.filter_append
def Yb:=@Ne.symm
def Yc:=@PySem.wpAny_newObj_type
def Yd:=@Bool.false_ne_true
def Ye:=@decide_eq_true_iff
def Yg:=@List.append_of_mem
def Yh:=@Array.length_toList
def Yi:=@PySem.F.slot_list_append
def Yj:=@PySem.F.type_list_append
def Yk:=@beq_iff_eq
def Yl:=@List.append_nil
def Ym:=@Classical.byContradiction
def Yn:=@PySem.wpAny_holding
def Yo:=@Nat.lt_irrefl
def Yp:=@List.pairwise_iff_getElem
def Yq:=@List.filter_nil
def Yr:=@Nat.lt_of_le_of_lt
def Ys:=@PyProof.Rows.slot_tuple_getitem
def Yt:=@PySem.Heap.get?_update_self
def Yu:=@List.length_reverse
def Yv:=@List.map_cons
def Yw:=@List.take_zero
def Yx:=@Int.toNat_natCast
def Yy:=@PySem.sizeLine_eq
def Yz:=@PySem.boot_len
def YA:=@List.getD_eq_getElem?_getD
def YB:=@PySem.wpAny_call_entry
def YC:=@List.all_eq_true
def YD:=@List.take_of_length_le
def YE:=@PySem.W.mg_none_of
def YF:=@beq_eq_false_iff_ne
def YG:=@PySem.wpAny_mono
def YH:=@List.getElem_of_mem
def YI:=@PySem.wpAny_setState_of
def YJ:=@PySem.Heap.size_push
def YK:=@PySem.F.slot_NoneType_eq
def YL:=@Int.emod_nonneg
def YM:=@Int.emod_lt_of_pos
def YN:=@PySem.wpAny_of_eq
def YO:=@or_false
def YQ:=@decide_eq_false_iff_not
def YR:=@decide_eq_decide
def YS:=@True.intro
def YT:=@PySem.Heap.get?_update_other
def YU:=@Bool.not_eq_true'
def YV:=@PySem.Heap.SameBut.update
def YW:=@Nat.zero_le
def YX:=@List.length_singleton
def YY:=@List.lookup_cons
def YZ:=@PySem.wpAny_askSetting
def Y0:=@Option.isSome_iff_exists
def Y1:=@List.mem_map
def Y2:=@PySem.W.looks_findIn
def Y3:=@PySem.wpAny_truthy_bool
def Y4:=@PySem.wpAny_callSpecial?_slot
def Y5:=@Bool.eq_iff_iff
def Y6:=@List.length_nil
def Y7:=@PyProof.Rows.boot_isinstance
def Y8:=@List.dropLast_concat_getLast
def Y9:=@List.replicate_succ
def xi:=@PyProof.Rows.F.plain_set_update_loop
def xj:=@List.idxOf_lt_length_of_mem
def xk:=@List.cons.inj
def xl:=@List.mem_flatten
def xm:=@List.lookup_append
def xn:=@Nat.mod_two_eq_zero_or_one
def xo:=@List.length_replicate
def xp:=@Array.getElem?_eq_getElem
def xq:=@List.getElem?_zip_eq_some
def xr:=@PySem.wpAny_passesOwn
def xt:=@List.find?_cons
def xu:=@PySem.wpAny_ite_split
def xv:=@Sum.inr.inj
def xw:=@Nat.le_succ
def xx:=@List.flatten_cons
def xy:=@PySem.codeAny_call_builtin
def xz:=@List.length_erase_of_mem
def xA:=@PySem.mem_of_lookup
def xB:=@PySem.W.looks_mroIn
def xC:=@PySem.wpAny_setEntries_of
def xD:=@List.flatMap_append
def xE:=@PySem.W.any_some
def xF:=@Nat.lt_succ_self
def xG:=@beq_self_eq_true
def xH:=@List.any_eq_true
def xI:=@PySem.wpAny_getItem_str_slice
def xJ:=@Int.eq_ofNat_of_zero_le
def xK:=@PySem.F.slot_list_index
def xL:=@List.mem_flatMap
def xM:=@List.getElem_idxOf
def xN:=@Nat.zero_add
def xO:=@List.length_pos_of_mem
def xP:=@PyProof.Rows.boot_list
def xQ:=@Array.getElem?_toList
def xR:=@List.mem_iff_getElem?
def xS:=@PySem.F.slot_set_iter
def xT:=@Option.isSome_map
def xU:=@List.length_range
def xV:=@PySem.Around.under_plainId
def xW:=@List.length_eraseIdx_of_lt
def xX:=@List.perm_ext_iff_of_nodup
def xY:=@PySem.codeAny_mono
def xZ:=@Option.isNone_iff_eq_none
def x0:=@List.filterMap_cons
def Xa:=@List.filter_sublist
def Xb:=@List.all_cons
def Xc:=@Prod.mk.injEq
def Xd:=@List.Pairwise.imp_of_mem
def Xe:=@PySem.codeAny_builtin
def Xf:=@PySem.wpAny_Call_Name_kw
def Xg:=@PySem.call_meets
def Xh:=@PySem.tupleKind_room_in1
def Xi:=@List.getElem?_tail
def Xj:=@List.getElem?_replicate
def Xk:=@List.pairwise_singleton
def Xl:=@PySem.F.type_list_index
def Xm:=@Nat.ne_of_gt
def Xn:=@Nat.lt_succ_of_lt
def Xo:=@PySem.wpAny_pyIter_list
def Xp:=@Nat.le_succ_of_le
def Xq:=@PySem.wpAny_setField
def Xr:=@Nat.sub_self
def Xs:=@PySem.F.slot_list_pop
def Xu:=@PySem.F.type_list_pop
def Xv:=@PySem.wpAny_call
def Xw:=@List.getElem_mem
def Xx:=@if_true
def Xy:=@List.any_cons
def Xz:=@PySem.wpAny_attempt
def XA:=@List.getElem?_set_ne
def XB:=@Array.mem_toList_iff
def XC:=@PySem.wpAny_field
def XD:=@PySem.wpAny_execs_nil
def XE:=@PySem.SeqAt.EqAt.same
def XF:=@Option.map_some
def XG:=@Or.inr
def XH:=@Bool.or_eq_true
def XI:=@PySem.post_val_or_str
def XJ:=@List.all_append
def XM:=@Nat.le_antisymm
def XR:=@PySem.W.plainGet_of
def XS:=@PySem.W.looks_clsIn
def XT:=@List.flatten_append
def XU:=@Nat.le_of_eq
def XV:=@Int.zero_add
def XW:=@List.mem_range
def XX:=@PySem.W.callWith_K
def XY:=@PyProof.Rows.slicePart_none
def XZ:=@PySem.Heap.IsSliceOf.new
def X0:=@Bool.false_eq_true
def X1:=@List.pairwise_cons
def X2:=@List.take_sublist
def X3:=@PySem.slot_list_getitem
def X4:=@Bool.eq_false_iff
def X5:=@PySem.wpAny_pyIter_slot
def X6:=@List.pairwise_map
def X7:=@PySem.evalPart_none
def X8:=@Bool.or_false
def X9:=@PySem.plainId_quiet
def kc:=@Nat.min_le_right
def ke:=@if_false
def kf:=@List.length_drop
def kg:=@List.cons_append
def kh:=@PySem.wpAny_isInstance
def ki:=@Nat.min_eq_right
def kj:=@List.cons_ne_nil
def kl:=@List.mem_reverse
def km:=@PySem.wpAny_typeOf
def kn:=@List.all_map
def ko:=@PySem.Txt.slice_le
def kq:=@PySem.wpAny_rule
def kt:=@List.of_mem_zip
def ku:=@Nat.min_eq_left
def kx:=@Prod.ext
def ky:=@List.Perm.swap
def kA:=@List.nodup_nil
def kB:=@decide_false
def kC:=@Nat.sub_zero
namespace L2
open PySem PySem.Spec PyProof.Rows
noncomputable def qW (s:Stmt) (j:Nat):Stmt:=match s with
 | .ClassDef _ _ _ body _ _ _ _ _ _ _=>body.getD j (.Pass ⟨0,0,0,0⟩)
 | _=>.Pass ⟨0,0,0,0⟩
noncomputable def zU (s:Stmt):Arguments:=match s with
 | .FunctionDef _ a _ _ _ _ _ _ _ _=>a
 | _=>{ posonlyargs:=[],args:=[],vararg:=none,kwonlyargs:=[],kw_defaults:=[],kwarg:=none,defaults:=[] }
noncomputable def zz (s:Stmt):List Stmt:=match s with
 | .FunctionDef _ _ b _ _ _ _ _ _ _=>b
 | _=>[]
noncomputable def qh (s:Stmt):Scope:=match s with
 | .FunctionDef _ _ _ _ _ _ sc _ _ _=>sc
 | _=>{ kind:=.function,names:=[],isGenerator:=false,isCoroutine:=false }
end L2
namespace K31
open PySem L2 PyProof.Rows
noncomputable def top (i:Nat):Stmt:=PySem.Challenge.pw_onceroad_k31_a_row_or_greatest.main.body.getD i (.Pass ⟨0,0,0,0⟩)
noncomputable abbrev zB:Stmt:=top 16
noncomputable abbrev qac:Stmt:=top 21
noncomputable abbrev zI:Stmt:=top 22
noncomputable abbrev jl:Stmt:=top 23
noncomputable abbrev jX:Stmt:=top 24
noncomputable abbrev zJ:Stmt:=qW (top 20) 0
noncomputable abbrev qad:Stmt:=top 25
noncomputable abbrev jY:Stmt:=qW (top 20) 1
noncomputable abbrev ju:Stmt:=qW (top 20) 4
noncomputable abbrev jv:Stmt:=qW (top 20) 6
noncomputable abbrev jZ:Stmt:=qW (top 20) 7
noncomputable abbrev jg:Stmt:=qW (top 20) 8
noncomputable abbrev zK:Stmt:=qW (top 20) 9
noncomputable abbrev jk:Stmt:=qW (top 20) 12
noncomputable abbrev zL:Stmt:=qW (top 20) 2
noncomputable abbrev qaG:Stmt:=top 27
noncomputable abbrev qbp:Stmt:=top 28
noncomputable abbrev qaH:Stmt:=top 29
noncomputable abbrev za:Stmt:=top 30
noncomputable abbrev qaI:Stmt:=top 31
noncomputable abbrev qag:Stmt:=top 32
noncomputable abbrev jG:Stmt:=top 33
noncomputable abbrev zr:Stmt:=top 10
noncomputable abbrev jL:Stmt:=qW (top 20) 5
noncomputable abbrev jM:Stmt:=top 11
noncomputable abbrev jB:Stmt:=qW (top 13) 6
noncomputable abbrev qJ:Stmt:=qW (top 13) 9
noncomputable abbrev qT:Stmt:=qW (top 13) 10
noncomputable abbrev jw:Stmt:=qW (top 13) 11
noncomputable abbrev qC:Stmt:=qW (top 13) 8
noncomputable abbrev qU:Stmt:=qW (top 13) 7
noncomputable abbrev jN:Stmt:=qW (top 13) 5
noncomputable abbrev jO:Stmt:=qW (top 13) 0
noncomputable abbrev j3:Stmt:=qW (top 13) 1
noncomputable abbrev q8:Stmt:=qW (top 13) 2
noncomputable abbrev zu:Stmt:=top 34
noncomputable abbrev jS:Stmt:=top 35
noncomputable abbrev qaJ:Stmt:=top 37
noncomputable abbrev jC:Stmt:=top 36
noncomputable abbrev zc:Stmt:=top 38
noncomputable abbrev zN:Stmt:=top 39
noncomputable abbrev zO:Stmt:=top 40
noncomputable abbrev jz:Stmt:=top 41
noncomputable abbrev zP:Stmt:=top 42
noncomputable abbrev qQ:Stmt:=top 43
noncomputable abbrev qaj:Stmt:=top 44
noncomputable abbrev qcl:Stmt:=top 45
end K31
namespace Hd
open PySem PySem.W PySem.Calls PyProof.Rows
variable {p:Program} {α:Type}
noncomputable def qei (c:String->Option Builtin) (p:Program) (w:World) (a:Nat) (b:Option Value):Nat->SharedT->Thread->Option SharedT
 | 0,_,_=>none
 | n+1,s,t=>match through t with
  | true=>some s
  | false=>match stepOk a b t with
   | false=>none
   | true=>match stepT (denote c) p w s t with
    | some (s',t')=>qei c p w a b n s' t'
    | none=>none
theorem qd3 {e:String->Option Builtin} {w:World} {a:Nat} {b:Option Value}:∀ {n:Nat} {s d:SharedT} {t:Thread},qei e p w a b n s t=some d->topRun e p w a b n s.abs t=some d.abs
 | 0,_,_,_,h=>by cases h
 | n+1,s,d,t,h=>by
  unfold qei at h;unfold topRun
  cases f:through t with
  | true=>rw [f] at h;cases h;rfl
  | false =>
   rw [f] at h
   cases g:stepOk a b t with
   | false=>rw [g] at h;cases h
   | true =>
    rw [g] at h
    cases c:stepT (denote e) p w s t with
    | none=>rw [c] at h;cases h
    | some r=>obtain ⟨i,l⟩:=r;rw [c] at h;rw [stepT_spec c];exact qd3 h
noncomputable def qcm:List Obj->Nat->BT->BT
 | [],_,t=>t
 | o::r,n,t=>qcm r (n+1) (t.ins n o)
noncomputable def qdt (P:Params) (a:OsState):SharedT:=⟨qcm (boot_heap P).objs.toList 0 .nil,(boot_heap P).objs.size,(boot_heap P).life,Array.mk [],boot_drawn,boot_toks,a⟩
theorem boot_abs (P:Params):absHeap (qcm (boot_heap P).objs.toList 0 .nil) (boot_heap P).objs.size (boot_heap P).life=boot_heap P:=by kernel_rfl
noncomputable def qdE (p q:Program) (Xt:Shared->Bool) {α:Type} (Yf:Shared->α) (N:Nat) (w:World) (a:OsState):=match (boot_heap w.params).isNs mainGlobals&&(Array.mk []:Array GenState).size==0 with
 | true=>(qei treeTable p w (boot_heap w.params).objs.size ((boot_heap w.params).nsMap mainGlobals "__annotations__") N (qdt w.params a) (topStub p)).bind fun s=>match staticsOk (importedModules p.main.body) (boot_heap w.params) s.abs.heap&&namesBound p s.abs.heap&&gensDone s.abs&&laidKept (boot_heap w.params) s.abs.heap with
   | true=>some (openSeen q [] (importedModules p.main.body) Xt true s.abs,Yf s.abs)
   | false=>none
 | false=>none
noncomputable def lookS (p:Program) (N:Nat) (w:World) (a:OsState):Option Shared:=match (boot_heap w.params).isNs mainGlobals&&(Array.mk []:Array GenState).size==0 with
 | true=>(qei treeTable p w (boot_heap w.params).objs.size ((boot_heap w.params).nsMap mainGlobals "__annotations__") N (qdt w.params a) (topStub p)).bind fun s=>match staticsOk (importedModules p.main.body) (boot_heap w.params) s.abs.heap&&namesBound p s.abs.heap&&gensDone s.abs&&laidKept (boot_heap w.params) s.abs.heap with
   | true=>some s.abs
   | false=>none
 | false=>none
theorem lookT_map (p q:Program) (Xt:Shared->Bool) (Yf:Shared->α) (N:Nat) (w:World) (a:OsState):qdE p q Xt Yf N w a=(lookS p N w a).map fun s=>(openSeen q [] (importedModules p.main.body) Xt true s,Yf s):=by
 unfold qdE lookS
 cases (boot_heap w.params).isNs mainGlobals&&(Array.mk []:Array GenState).size==0 with
 | false=>rfl
 | true =>
  dsimp only
  cases qei treeTable p w (boot_heap w.params).objs.size ((boot_heap w.params).nsMap mainGlobals "__annotations__") N (qdt w.params a) (topStub p) with
  | none=>rfl
  | some s =>
   show (match _ with | true=>_ | false=>_)=Option.map _ (match _ with | true=>_ | false=>_);cases staticsOk (importedModules p.main.body) (boot_heap w.params) s.abs.heap&&namesBound p s.abs.heap&&gensDone s.abs&&laidKept (boot_heap w.params) s.abs.heap<;>rfl
theorem packs {b A B C D E Y:Type} {o:Option b} {f:b->A×B×C×D×E} {g:b->Y} {x:A×B×C×D×E} {y:Y} (h1:o.map (fun s=>((f s).1,(f s).2.1,(f s).2.2.1,(f s).2.2.2.1))=some (x.1,x.2.1,x.2.2.1,x.2.2.2.1)) (h:o.map (fun s=>(f s).2.2.2.2)=some x.2.2.2.2) (c:o.map g=some y):o.map (fun s=>(f s,g s))=some (x,y):=by
 cases o with
 | none=>cases c
 | some s =>
  have a:=ym h1;have d:=ym h;have e:=ym c;have i:=congrArg Prod.fst a;have l:=congrArg (fun z=>z.2.1) a;have m:=congrArg (fun z=>z.2.2.1) a;have n:=congrArg (fun z=>z.2.2.2) a;exact congrArg some (kx (kx i (kx l (kx m (kx n d)))) e)
theorem left_of {q:Program} {Xt:Shared->Bool} {Yf:Shared->α} {Ya:World->α} {N:Nat} (e:opening p=plainProg p.main.scope.names) (o:Nat.ble 600 N=true) (f:∀ s,fenceModules? p s=some s)
  (h:∀ w a,qdE p q Xt Yf N w a=some (openGood q [],Ya w)):LeftO p q [] Xt Yf Ya N:=fun w=>by
 obtain ⟨⟨n,m,d,k,a⟩,i,l⟩:=yn.mp (boot_open e o f w);obtain ⟨rfl,rfl,rfl,rfl⟩:n=boot_heap w.params/\m=Array.mk []/\d=boot_drawn/\k=boot_toks:=by simpa using l
 have b:=h w a;unfold qdE at b;unfold openEnds;rw [i];show (topFrom treeTable p w N _).map _=_;unfold topFrom;dsimp only;split at b
 .rename_i z
  rw [z];obtain ⟨s,t,c⟩:=Option.bind_eq_some_iff.mp b;have r:=qd3 t
  have g:(qdt w.params a).abs=⟨boot_heap w.params,Array.mk [],boot_drawn,boot_toks,a⟩:=by
   unfold qdt SharedT.abs;dsimp only;rw [boot_abs]
  rw [g] at r;dsimp only;rw [r];split at c
  .rename_i z2
   show ((match staticsOk (importedModules p.main.body) (boot_heap w.params) s.abs.heap&&namesBound p s.abs.heap&&gensDone s.abs&&laidKept (boot_heap w.params) s.abs.heap with | true=>some s.abs | false=>none):Option Shared).map _=_;rw [z2];exact c
  .cases c
 .cases b
end Hd
namespace K31
open PySem L2 PyProof.Rows PySem.W
noncomputable abbrev NN:Nat:=20000
noncomputable def Q:Program:=view PySem.Challenge.pw_onceroad_k31_a_row_or_greatest [0,2,3,4,5,6,7,8,10,11,13,15,16,18,19,20,21,22,23,24,25,27,28,29,30,31,32,33,34,35,36,37,38,39,40,41,42,43,44,45]
noncomputable def en (P:Params) (t:Tok) (v:Value) (k:Str):DictEntry:=⟨PyData.keyHash P k,.str k t,v⟩
noncomputable def cO (t a b r:Nat) (x y z v:Value) (e u:Nat) (q n:Str):Obj:=⟨.type "code",none,.fields #[.str n t,.str q (t+1),.str "/claim/cut.py" (t+2),.int a 0,.int b 0,.int 0 0,.int 0 0,.int 3 0,.ref r,.bool true,.int 181 0,x,y,z,v,.ref e,.int u 0,.int a 0,.str "/claim/cut.py" (u+1)],#[]⟩
noncomputable def cE (t b a r:Nat) (x y z v:Value) (e u:Nat) (n:Str):Obj:=cO t b a r x y z v e u n n
noncomputable def fO (k c:Nat) (s:Stmt) (m q n:Str):Obj:=⟨.type "function",none,.func (fnOf n q (zU s) (zz s) (qh s) .none .none .none (.str m k) none (.ref c) .none),#[]⟩
noncomputable def fE (k c:Nat) (s:Stmt) (m n:Str):Obj:=fO k c s m n n
noncomputable def Kf (P:Params):Frag:=
 (nat_lit 2,(⟨.none,none,.dict #[] 0,#[]⟩:Obj)) ::
 (nat_lit 3,(⟨(.type "dict"),none,.dict #[en P 165 (.str "law_onceroad_k31_a_row_or_greatest" 746) "__name__",en P 166 .none "__doc__",en P 167 .none "__package__",en P 168 (.builtin "__main__.__loader__#opaque") "__loader__",en P 169 .none "__spec__",en P 170 (.ref 6) "__annotations__",en P 171 (.ref 4) "__builtins__",en P 173 (.str "/claim/cut.py" 172) "__file__",en P 174 .none "__cached__",en P 193 (.ref 21) "_wall",en P 221 (.ref 38) "OnceError",en P 246 (.ref 58) "NoName",en P 271 (.ref 77) "Twice",en P 296 (.ref 96) "NoPlace",en P 321 (.ref 115) "NoTie",en P 346 (.ref 134) "TooMany",en P 371 (.ref 153) "NoPairs",en P 383 (.ref 162) "are_pairs",en P 393 (.ref 169) "partners_in",en P 523 (.ref 257) "Forest",en P 527 (.int 6 526) "LONGEST_NAME",en P 533 (.ref 266) "is_name",en P 537 (.int 14 536) "MOST_PLACES",en P 539 (.int 30 538) "MOST_TIES",en P 699 (.ref 393) "Web",en P 707 (.ref 404) "has_bit",en P 715 (.ref 411) "is_place",en P 724 (.ref 418) "are_two_places",en P 733 (.ref 425) "numbers_of",en P 745 (.ref 432) "near_of",en P 755 (.ref 439) "_law_cell",en P 762 (.ref 446) "_law_box",en P 771 (.ref 453) "_law_take",en P 777 (.ref 458) "_law_names",en P 789 (.ref 465) "_law_ties",en P 799 (.ref 472) "_law_drawn",en P 805 (.ref 477) "_law_shuffled",en P 815 (.ref 484) "_law_partner",en P 821 (.ref 489) "_law_singles",en P 832 (.ref 496) "_law_some_pairs",en P 841 (.ref 503) "_law_tied",en P 847 (.ref 508) "_law_pieces",en P 853 (.ref 513) "_law_odds",en P 863 (.ref 520) "_law_is_row",en P 869 (.ref 525) "_law_turned",en P 875 (.ref 530) "_law_more",en P 881 (.ref 535) "_law_none_more",en P 892 (.ref 542) "_law_right",en P 909 (.ref 549) "law"] 49,#[]⟩:Obj)) ::
 (nat_lit 161,cE 374 40 2 156 (.ref 157) .none (.ref 158) (.ref 159) 160 381 "are_pairs") ::
 (nat_lit 162,fE 372 161 zr "onceroad.pairs" "are_pairs") ::
 (nat_lit 168,cE 384 50 2 163 (.ref 164) .none (.ref 165) (.ref 166) 167 391 "partners_in") ::
 (nat_lit 169,fE 372 168 jM "onceroad.pairs" "partners_in") ::
 (nat_lit 182,cO 408 61 3 177 (.ref 178) .none (.ref 179) (.ref 180) 181 414 "Forest.__init__" "__init__") ::
 (nat_lit 183,fO 394 182 jO "onceroad.forests" "Forest.__init__" "__init__") ::
 (nat_lit 189,cO 417 72 1 184 (.ref 185) .none (.ref 186) (.ref 187) 188 421 "Forest.row" "row") ::
 (nat_lit 190,fO 394 189 j3 "onceroad.forests" "Forest.row" "row") ::
 (nat_lit 194,cO 424 75 1 191 (.ref 192) .none .none .none 193 427 "Forest.reached" "reached") ::
 (nat_lit 195,fO 394 194 q8 "onceroad.forests" "Forest.reached" "reached") ::
 (nat_lit 215,cO 445 86 1 210 (.ref 211) .none (.ref 212) (.ref 213) 214 450 "Forest.grow" "grow") ::
 (nat_lit 216,fO 394 215 jN "onceroad.forests" "Forest.grow" "grow") ::
 (nat_lit 222,cO 453 94 3 217 (.ref 218) .none (.ref 219) (.ref 220) 221 459 "Forest.reach" "reach") ::
 (nat_lit 223,fO 394 222 jB "onceroad.forests" "Forest.reach" "reach") ::
 (nat_lit 229,cO 462 98 2 224 (.ref 225) .none (.ref 226) (.ref 227) 228 469 "Forest.look_around" "look_around") ::
 (nat_lit 230,fO 394 229 qU "onceroad.forests" "Forest.look_around" "look_around") ::
 (nat_lit 234,cO 472 109 3 231 (.ref 232) .none .none .none 233 475 "Forest.bring_together" "bring_together") ::
 (nat_lit 235,fO 394 234 qC "onceroad.forests" "Forest.bring_together" "bring_together") ::
 (nat_lit 241,cO 478 120 2 236 (.ref 237) .none (.ref 238) (.ref 239) 240 485 "Forest.bases_down_from" "bases_down_from") ::
 (nat_lit 242,fO 394 241 qJ "onceroad.forests" "Forest.bases_down_from" "bases_down_from") ::
 (nat_lit 248,cO 488 127 4 243 (.ref 244) .none (.ref 245) (.ref 246) 247 499 "Forest.reach_round" "reach_round") ::
 (nat_lit 249,fO 394 248 qT "onceroad.forests" "Forest.reach_round" "reach_round") ::
 (nat_lit 253,cO 502 136 3 250 (.ref 251) .none .none .none 252 505 "Forest.fold" "fold") ::
 (nat_lit 254,fO 394 253 jw "onceroad.forests" "Forest.fold" "fold") ::
 (nat_lit 256,(⟨(.type "dict"),none,.dict #[en P 403 (.str "onceroad.forests" 394) "__module__",en P 407 (.int 59 406) "__firstlineno__",en P 416 (.ref 183) "__init__",en P 423 (.ref 190) "row",en P 429 (.ref 195) "reached",en P 437 (.ref 202) "row_to",en P 444 (.ref 209) "folds",en P 452 (.ref 216) "grow",en P 461 (.ref 223) "reach",en P 471 (.ref 230) "look_around",en P 477 (.ref 235) "bring_together",en P 487 (.ref 242) "bases_down_from",en P 501 (.ref 249) "reach_round",en P 507 (.ref 254) "fold",en P 516 (.ref 255) "__static_attributes__",en P 518 (.ref 258) "__dict__",en P 520 (.ref 259) "__weakref__",en P 521 .none "__doc__"] 4,#[]⟩:Obj)) ::
 (nat_lit 257,(⟨(.type "type"),none,.cls { name:="Forest",bases:=[(.type "object")],mro:=[(.ref 257),(.type "object")],ns:=256,qualname:="Forest",hasDict:=true,slotNames:=[],subclasses:=[],abstract:=false,collection:=none,hasDel:=false },#[none,none,(some (.str "Forest" 396)),(some (.str "Forest" 404)),(some (.builtin "object.__new__")),(some (.bool true))]⟩:Obj)) ::
 (nat_lit 265,cE 528 143 1 262 (.ref 263) .none .none .none 264 531 "is_name") ::
 (nat_lit 266,fE 524 265 zB "onceroad.names" "is_name") ::
 (nat_lit 279,cO 552 152 3 274 (.ref 275) .none (.ref 276) (.ref 277) 278 558 "Web.__init__" "__init__") ::
 (nat_lit 280,fO 534 279 zJ "onceroad.webs" "Web.__init__" "__init__") ::
 (nat_lit 286,cO 561 157 1 281 (.ref 282) .none (.ref 283) (.ref 284) 285 565 "Web.places" "places") ::
 (nat_lit 287,fO 534 286 jY "onceroad.webs" "Web.places" "places") ::
 (nat_lit 293,cO 568 160 1 288 (.ref 289) .none (.ref 290) (.ref 291) 292 575 "Web.ties" "ties") ::
 (nat_lit 294,fO 534 293 zL "onceroad.webs" "Web.ties" "ties") ::
 (nat_lit 307,cO 585 171 2 302 (.ref 303) .none (.ref 304) (.ref 305) 306 590 "Web.has_place" "has_place") ::
 (nat_lit 308,fO 534 307 ju "onceroad.webs" "Web.has_place" "has_place") ::
 (nat_lit 314,cO 593 174 2 309 (.ref 310) .none (.ref 311) (.ref 312) 313 598 "Web.has_tie" "has_tie") ::
 (nat_lit 315,fO 534 314 jL "onceroad.webs" "Web.has_tie" "has_tie") ::
 (nat_lit 321,cO 601 177 2 316 (.ref 317) .none (.ref 318) (.ref 319) 320 606 "Web.number_of" "number_of") ::
 (nat_lit 322,fO 534 321 jv "onceroad.webs" "Web.number_of" "number_of") ::
 (nat_lit 328,cO 609 182 2 323 (.ref 324) .none (.ref 325) (.ref 326) 327 614 "Web.beside" "beside") ::
 (nat_lit 329,fO 534 328 jZ "onceroad.webs" "Web.beside" "beside") ::
 (nat_lit 335,cO 617 185 2 330 (.ref 331) .none (.ref 332) (.ref 333) 334 622 "Web.bits_beside" "bits_beside") ::
 (nat_lit 336,fO 534 335 jg "onceroad.webs" "Web.bits_beside" "bits_beside") ::
 (nat_lit 342,cO 625 188 3 337 (.ref 338) .none (.ref 339) (.ref 340) 341 632 "Web.tied" "tied") ::
 (nat_lit 343,fO 534 342 zK "onceroad.webs" "Web.tied" "tied") ::
 (nat_lit 361,cO 649 198 2 358 (.ref 359) .none .none .none 360 652 "Web.names_in" "names_in") ::
 (nat_lit 362,fO 534 361 jk "onceroad.webs" "Web.names_in" "names_in") ::
 (nat_lit 392,(⟨(.type "dict"),none,.dict #[en P 547 (.str "onceroad.webs" 534) "__module__",en P 551 (.int 150 550) "__firstlineno__",en P 560 (.ref 280) "__init__",en P 567 (.ref 287) "places",en P 577 (.ref 294) "ties",en P 584 (.ref 301) "how_many",en P 592 (.ref 308) "has_place",en P 600 (.ref 315) "has_tie",en P 608 (.ref 322) "number_of",en P 616 (.ref 329) "beside",en P 624 (.ref 336) "bits_beside",en P 634 (.ref 343) "tied",en P 641 (.ref 350) "pieces",en P 648 (.ref 357) "told",en P 654 (.ref 362) "names_in",en P 662 (.ref 369) "without",en P 670 (.ref 376) "with_place",en P 679 (.ref 383) "with_tie",en P 688 (.ref 390) "without_tie",en P 692 (.ref 391) "__static_attributes__",en P 694 (.ref 394) "__dict__",en P 696 (.ref 395) "__weakref__",en P 697 .none "__doc__"] 4,#[]⟩:Obj)) ::
 (nat_lit 393,(⟨(.type "type"),none,.cls { name:="Web",bases:=[(.type "object")],mro:=[(.ref 393),(.type "object")],ns:=392,qualname:="Web",hasDict:=true,slotNames:=[],subclasses:=[],abstract:=false,collection:=none,hasDel:=false },#[none,none,(some (.str "Web" 540)),(some (.str "Web" 548)),(some (.builtin "object.__new__")),(some (.bool true))]⟩:Obj)) ::
 (nat_lit 403,cE 700 212 2 398 (.ref 399) .none (.ref 400) (.ref 401) 402 705 "has_bit") ::
 (nat_lit 404,fE 534 403 qac "onceroad.webs" "has_bit") ::
 (nat_lit 410,cE 708 214 2 405 (.ref 406) .none (.ref 407) (.ref 408) 409 713 "is_place") ::
 (nat_lit 411,fE 534 410 zI "onceroad.webs" "is_place") ::
 (nat_lit 417,cE 716 216 2 412 (.ref 413) .none (.ref 414) (.ref 415) 416 722 "are_two_places") ::
 (nat_lit 418,fE 534 417 jl "onceroad.webs" "are_two_places") ::
 (nat_lit 424,cE 725 221 1 419 (.ref 420) .none (.ref 421) (.ref 422) 423 731 "numbers_of") ::
 (nat_lit 425,fE 534 424 jX "onceroad.webs" "numbers_of") ::
 (nat_lit 431,cE 734 234 2 426 (.ref 427) .none (.ref 428) (.ref 429) 430 743 "near_of") ::
 (nat_lit 432,fE 534 431 qad "onceroad.webs" "near_of") ::
 (nat_lit 438,cE 748 251 2 433 (.ref 434) .none (.ref 435) (.ref 436) 437 753 "_law_cell") ::
 (nat_lit 439,fE 746 438 qaG "law_onceroad_k31_a_row_or_greatest" "_law_cell") ::
 (nat_lit 445,cE 756 255 1 440 (.ref 441) .none (.ref 442) (.ref 443) 444 760 "_law_box") ::
 (nat_lit 446,fE 746 445 qbp "law_onceroad_k31_a_row_or_greatest" "_law_box") ::
 (nat_lit 452,cE 763 259 2 447 (.ref 448) .none (.ref 449) (.ref 450) 451 769 "_law_take") ::
 (nat_lit 453,fE 746 452 qaH "law_onceroad_k31_a_row_or_greatest" "_law_take") ::
 (nat_lit 457,cE 772 268 2 454 (.ref 455) .none .none .none 456 775 "_law_names") ::
 (nat_lit 458,fE 746 457 za "law_onceroad_k31_a_row_or_greatest" "_law_names") ::
 (nat_lit 464,cE 778 282 2 459 (.ref 460) .none (.ref 461) (.ref 462) 463 787 "_law_ties") ::
 (nat_lit 465,fE 746 464 qaI "law_onceroad_k31_a_row_or_greatest" "_law_ties") ::
 (nat_lit 471,cE 790 290 2 466 (.ref 467) .none (.ref 468) (.ref 469) 470 797 "_law_drawn") ::
 (nat_lit 472,fE 746 471 qag "law_onceroad_k31_a_row_or_greatest" "_law_drawn") ::
 (nat_lit 476,cE 800 296 2 473 (.ref 474) .none .none .none 475 803 "_law_shuffled") ::
 (nat_lit 477,fE 746 476 jG "law_onceroad_k31_a_row_or_greatest" "_law_shuffled") ::
 (nat_lit 483,cE 806 302 2 478 (.ref 479) .none (.ref 480) (.ref 481) 482 813 "_law_partner") ::
 (nat_lit 484,fE 746 483 zu "law_onceroad_k31_a_row_or_greatest" "_law_partner") ::
 (nat_lit 488,cE 816 309 2 485 (.ref 486) .none .none .none 487 819 "_law_singles") ::
 (nat_lit 489,fE 746 488 jS "law_onceroad_k31_a_row_or_greatest" "_law_singles") ::
 (nat_lit 495,cE 822 311 2 490 (.ref 491) .none (.ref 492) (.ref 493) 494 830 "_law_some_pairs") ::
 (nat_lit 496,fE 746 495 jC "law_onceroad_k31_a_row_or_greatest" "_law_some_pairs") ::
 (nat_lit 502,cE 833 318 3 497 (.ref 498) .none (.ref 499) (.ref 500) 501 839 "_law_tied") ::
 (nat_lit 503,fE 746 502 qaJ "law_onceroad_k31_a_row_or_greatest" "_law_tied") ::
 (nat_lit 507,cE 842 320 2 504 (.ref 505) .none .none .none 506 845 "_law_pieces") ::
 (nat_lit 508,fE 746 507 zc "law_onceroad_k31_a_row_or_greatest" "_law_pieces") ::
 (nat_lit 512,cE 848 335 3 509 (.ref 510) .none .none .none 511 851 "_law_odds") ::
 (nat_lit 513,fE 746 512 zN "law_onceroad_k31_a_row_or_greatest" "_law_odds") ::
 (nat_lit 519,cE 854 338 3 514 (.ref 515) .none (.ref 516) (.ref 517) 518 861 "_law_is_row") ::
 (nat_lit 520,fE 746 519 zO "law_onceroad_k31_a_row_or_greatest" "_law_is_row") ::
 (nat_lit 524,cE 864 349 3 521 (.ref 522) .none .none .none 523 867 "_law_turned") ::
 (nat_lit 525,fE 746 524 jz "law_onceroad_k31_a_row_or_greatest" "_law_turned") ::
 (nat_lit 529,cE 870 353 4 526 (.ref 527) .none .none .none 528 873 "_law_more") ::
 (nat_lit 530,fE 746 529 zP "law_onceroad_k31_a_row_or_greatest" "_law_more") ::
 (nat_lit 534,cE 876 362 4 531 (.ref 532) .none .none .none 533 879 "_law_none_more") ::
 (nat_lit 535,fE 746 534 qQ "law_onceroad_k31_a_row_or_greatest" "_law_none_more") ::
 (nat_lit 541,cE 882 375 4 536 (.ref 537) .none (.ref 538) (.ref 539) 540 890 "_law_right") ::
 (nat_lit 542,fE 746 541 qaj "law_onceroad_k31_a_row_or_greatest" "_law_right") ::
 (nat_lit 548,cE 893 380 1 543 (.ref 544) .none (.ref 545) (.ref 546) 547 907 "law") ::
 (nat_lit 549,fE 746 548 qcl "law_onceroad_k31_a_row_or_greatest" "law") ::
 []
noncomputable def ks:List Addr:=[2,3,161,162,168,169,182,183,189,190,194,195,215,216,222,223,229,230,234,235,241,242,248,249,253,254,256,257,265,266,279,280,286,287,293,294,307,308,314,315,321,322,328,329,335,336,342,343,361,362,392,393,403,404,410,411,417,418,424,425,431,432,438,439,445,446,452,453,457,458,464,465,471,472,476,477,483,484,488,489,495,496,502,503,507,508,512,513,519,520,524,525,529,530,534,535,541,542,548,549]
theorem ks_eq:∀ P,ks=(Kf P).map (·.1):=fun P=>by kernel_rfl
noncomputable abbrev Hk:Hook:=kHook Kf ks ks_eq
noncomputable abbrev Xt (s:Shared):Bool:=xlAt Q [] s&&recOk [] s
noncomputable abbrev sn (s:Shared):=openSeen Q [] (importedModules PySem.Challenge.pw_onceroad_k31_a_row_or_greatest.main.body) Xt true s
noncomputable def runA (w:World) (a:OsState):=(Hd.lookS PySem.Challenge.pw_onceroad_k31_a_row_or_greatest NN w a).map fun s=>((sn s).1,(sn s).2.1,(sn s).2.2.1,(sn s).2.2.2.1)
noncomputable def runB (w:World) (a:OsState):=(Hd.lookS PySem.Challenge.pw_onceroad_k31_a_row_or_greatest NN w a).map fun s=>(sn s).2.2.2.2
noncomputable def runC (w:World) (a:OsState):=(Hd.lookS PySem.Challenge.pw_onceroad_k31_a_row_or_greatest NN w a).map fun s=>ks.map s.heap.get?
noncomputable def gdA (_:World) (_:OsState):=some ((openGood Q []).1,(openGood Q []).2.1,(openGood Q []).2.2.1,(openGood Q []).2.2.2.1)
noncomputable def gdB (_:World) (_:OsState):=some (openGood Q []).2.2.2.2
noncomputable def gdC (w:World) (_:OsState):=some ((Kf w.params).map fun p=>some p.2)
noncomputable def tag {a:Type} (f g:World->OsState->a):Bool:=true
theorem tag1:(tag runA gdA&&(tag runB gdB&&tag runC runC))=true:=by k_qdec
theorem hA1 (w:World) (a:OsState):runA w a=gdA w a:=by
 rw [PySem.W.Fast.te11493147299828395664,PySem.W.Fast.te13191792547460316662]
 kernel_rfl
theorem hB1 (w:World) (a:OsState):runB w a=gdB w a:=by
 rw [PySem.W.Fast.te8311065445306804891,PySem.W.Fast.te2077052960145778105]
 kernel_rfl
theorem hC1 (w:World) (a:OsState):runC w a=gdC w a:=by
 rw [PySem.W.Fast.te13809317370900524810]
 kernel_rfl
theorem hl:LeftO PySem.Challenge.pw_onceroad_k31_a_row_or_greatest Q [] Xt (Hook.obs Hk) (Hook.val Hk) NN:=Hd.left_of (by kernel_rfl) (by decide) (fun s=>by kernel_rfl) fun w a=>(Hd.lookT_map ..).trans (Hd.packs (hA1 w a) (hB1 w a) (hC1 w a))
end K31
namespace L2
open PySem PySem.Spec PyProof.Rows
variable {A:Around} {C a b dx it:Addr} {CX:CXT} {D:Ends} {E:Value->Shared->Prop} {H:Hp} {M:Model} {N ps:List Str} {P:Program} {X:Cx} {base h:Heap} {body:List Stmt} {c e tg:Expr} {ch fp:List Addr} {d':Drawn} {es:List Expr} {f:Value->Value->Sem Value} {g:TG} {g':Array GenState} {i n t':Nat} {kindOf:Str->Option NameKind} {kw:List (Str×Value)} {lo:Int} {mA mg:Str->Option Value} {o:HO} {op op':CmpOp} {outer:List Env} {pins:List (Addr×Obj)} {pos:Pos} {qual x:Str} {r r':R2} {s s':Shared} {sc scope:Scope} {t te:TE} {tb:TS} {tc:TT} {u:Value} {us:List Value} {v y:V} {vs xs:List V} {w:World} {α:Type} {σ:St}
noncomputable abbrev Key:=Sum Int Str
noncomputable def qb3:Key->Value->Bool
 | .inl k,v=>Value.isInt k v
 | .inr x,v=>Value.isStrOf x v
noncomputable def keyH (w:World):Key->Int
 | .inl k=>hashInt k
 | .inr x=>hashStr w x
theorem qR:∀ {k:Key} {v:Value},qb3 k v=true->(∃ i t,k=Sum.inl i/\v=Value.int i t)\/(∃ x t,k=Sum.inr x/\v=Value.str x t)
 | .inl i,v,h=>by
  obtain ⟨t,e⟩:=Value.isInt_shape (k:=i) (v:=v) h;exact .inl ⟨i,t,rfl,e⟩
 | .inr x,v,h=>by
  obtain ⟨t,e⟩:=Value.isStrOf_shape (x:=x) (v:=v) h;exact .inr ⟨x,t,rfl,e⟩
theorem keyIs_int (i:Int) (t:Tok):qb3 (.inl i) (.int i t)=true:=by simp [qb3,Value.isInt]
theorem keyIs_str (x:Str) (t:Tok):qb3 (.inr x) (.str x t)=true:=by simp [qb3,Value.isStrOf]
theorem key_ll (a b:Int):decide ((Sum.inl a:Key)=Sum.inl b)=(a==b):=by
 by_cases e:a=b
 .subst e;simp
 .have h:¬ (Sum.inl a:Key)=Sum.inl b:=fun q=>e (Sum.inl.inj q);rw [yl h];exact (YF.mpr e).symm
theorem key_rr (a b:Str):decide ((Sum.inr a:Key)=Sum.inr b)=decide (a=b):=by
 by_cases e:a=b
 .subst e;simp
 .have h:¬ (Sum.inr a:Key)=Sum.inr b:=fun q=>e (xv q);rw [yl h,yl e]
theorem key_lr (a:Int) (b:Str):decide ((Sum.inl a:Key)=Sum.inr b)=false:=yl (fun q=>nomatch q)
theorem key_rl (a:Str) (b:Int):decide ((Sum.inr a:Key)=Sum.inl b)=false:=yl (fun q=>nomatch q)
noncomputable def jq (prog:Program) (w:World):PySem.KeyKind prog w Key where
 is:=qb3
 hash:=keyH w
 inj:=fun v a b d c=>by
  rcases qR d with ⟨i,t,rfl,rfl⟩ | ⟨x,t,rfl,rfl⟩
  .rcases qR c with ⟨j,u,rfl,e⟩ | ⟨y,u,rfl,e⟩
   .injection e with e1 _;rw [e1]
   .exact nomatch e
  .rcases qR c with ⟨j,u,rfl,e⟩ | ⟨y,u,rfl,e⟩
   .exact nomatch e
   .injection e with e1 _;rw [e1]
 byValue:=fun k v h=>by
  rcases qR h with ⟨i,t,rfl,rfl⟩ | ⟨x,t,rfl,rfl⟩<;>rfl
 pyHash:=fun hv h=>by
  rcases qR hv with ⟨i,t,rfl,rfl⟩ | ⟨x,t,rfl,rfl⟩
  .exact wpAny_pyHash_int h
  .exact wpAny_pyHash_str h
 eqBool:=fun f hv h=>by
  rcases qR f with ⟨i,t,rfl,rfl⟩ | ⟨x,t,rfl,rfl⟩
  .rcases qR hv with ⟨j,u,rfl,rfl⟩ | ⟨y,u,rfl,rfl⟩
   .rw [key_ll] at h;exact wpAny_eqBool_int h
   .rw [key_lr] at h;exact SeqAt.EqAt.int_str i t y u _ _ _ _ h
  .rcases qR hv with ⟨j,u,rfl,rfl⟩ | ⟨y,u,rfl,rfl⟩
   .rw [key_rl] at h;exact SeqAt.EqAt.str_int x t j u _ _ _ _ h
   .rw [key_rr] at h;exact wpAny_eqBool_str h
 «strs»:=fun k x t v h=>by
  rcases qR h with ⟨i,u,rfl,e⟩ | ⟨y,u,rfl,e⟩
  .exact nomatch e
  .injection e with e1 _
   subst e1;cases v<;>rfl
theorem mixKind_int (prog:Program) (w:World) (i:Int) (t:Tok):(jq prog w).is (.inl i) (.int i t)=true:=keyIs_int i t
theorem mixKind_str (prog:Program) (w:World) (x:Str) (t:Tok):(jq prog w).is (.inr x) (.str x t)=true:=keyIs_str x t
inductive V where
 | non | bl (b:Bool) | int (i:Int) | str (x:Str) | byt (b:Array UInt8) | flt (b:UInt64) | ref (a:Addr) | ty (n:String)
 deriving DecidableEq
def RelV:V->Value->Prop
 | .non,u=>u=Value.none
 | .bl b,u=>u=Value.bool b
 | .int i,u=>∃ t,u=Value.int i t
 | .str x,u=>∃ t,u=Value.str x t
 | .byt b,u=>∃ t,u=Value.bytes b t
 | .flt b,u=>∃ t,u=Value.float b t
 | .ref a,u=>u=Value.ref a
 | .ty n,u=>u=Value.type n
abbrev Vals:List V->List Value->Prop:=Paired RelV
theorem Vals.length (r:Vals xs us):xs.length=us.length:=Paired.length r
theorem Vals.get:∀ {xs:List V} {us:List Value} {i:Nat} {x:V},Vals xs us->xs[i]?=some x->∃ u,us[i]?=some u/\RelV x u
 | _,_,_,_,.nil,e=>by simp at e
 | _,_,0,_,.cons r _,e=>by simp at e;subst e;exact ⟨_,rfl,r⟩
 | _,_,i+1,x,.cons _ t,e=>by
  obtain ⟨u,h1,a⟩:=Vals.get (i:=i) (x:=x) t (by simpa using e);exact ⟨u,by simpa using h1,a⟩
theorem Vals.set {x:V} (r:RelV x u):∀ {xs:List V} {us:List Value} (i:Nat),Vals xs us->Vals (xs.set i x) (us.set i u)
 | _,_,_,.nil=>.nil
 | _,_,0,.cons _ t=>.cons r t
 | _,_,i+1,.cons q t=>.cons q (Vals.set r i t)
theorem Vals.append:∀ {xs ys:List V} {us a:List Value},Vals xs us->Vals ys a->Vals (xs++ys) (us++a)
 | _,_,_,_,.nil,s=>s
 | _,_,_,_,.cons r t,s=>.cons r (Vals.append t s)
theorem Vals.take:∀ {xs:List V} {us:List Value} (n:Nat),Vals xs us->Vals (xs.take n) (us.take n)
 | _,_,0,_=>.nil
 | _,_,_+1,.nil=>.nil
 | _,_,n+1,.cons r t=>.cons r (Vals.take n t)
theorem Vals.drop:∀ {xs:List V} {us:List Value} (n:Nat),Vals xs us->Vals (xs.drop n) (us.drop n)
 | _,_,0,r=>r
 | _,_,_+1,.nil=>.nil
 | _,_,n+1,.cons _ t=>Vals.drop n t
def RelO:Option V->Option Value->Prop
 | some v,some u=>RelV v u
 | none,none=>True
 | _,_=>False
def KV {a:Type}:List (a×V)->List (a×Value)->Prop:=Paired fun (p:a×V) (q:a×Value)=>p.1=q.1/\RelV p.2 q.2
noncomputable def kV:Key->V
 | .inl i=>.int i
 | .inr x=>.str x
inductive HO where
 /-- a list -/
 | lst (xs:List V)
 /-- a tuple (never changes) -/
 | tup (xs:List V)
 /-- a dict whose keys are ints and texts;one whose keys are tuples of ints and texts (the empty one is both) -/
 | dK (kvs:List (Key×V)) | dT (kvs:List (List Key×V))
 /-- a set of ints: its members,its size -/
 | set (S:Int->Bool) (n:Nat)
 /-- an instance of the class at C,its dict at dx,its attributes -/
 | ins (C dx:Addr) (fs:List (Str×V))
 /-- the dict of the instance at x -/
 | own (x:Addr)
 /-- the dict of an exception -/
 | xd (fs:List (Str×V))
 /-- a bound method,f of x -/
 | met (f x:Addr)
 /-- a range object lo,lo+1,.. below hi -/
 | rng (lo hi:Int)
 /-- a thing that is known to the object (the script;a dict while a loop walks it): read,never written while it is so -/
 | frz (o:Obj) (u:HO)
 /-- a code object's table -/
 | tbl (ps:Array Value)
 /-- any other thing,by what is true of its one object (a def of one's own: SetO a S n:=HO.ext fun h=>..) -/
 | ext (φ:Heap->Prop)
noncomputable abbrev Hp:=Addr->Option HO
noncomputable def upd (H:Hp) (a:Addr) (o:HO):Hp:=fun b=>if b=a then some o else H b
theorem qb:upd H a o a=some o:=by unfold upd;rw [yK rfl]
theorem qe (h:b≠a):upd H a o b=H b:=by unfold upd;rw [yD h]
theorem zw {u:HO} (h:H a=some o) (h':H b=some u) (d:o≠u):a≠b:=by
 intro e;subst e;rw [h] at h';exact d (ym h')
theorem qm (h:H a=some o) (h':H b=none):a≠b:=by
 intro e;subst e;rw [h] at h';cases h'
section
variable (P:Program) (w:World)
def ObjOk (H:Hp) (h:Heap) (a:Addr):HO->Prop
 | .lst xs=>xs.length<=sizeLine/\∃ (b:List Value) (n:Nat),Vals xs b/\h.get? a=some { cls:=.type "list",data:=.seq b.toArray n }
 | .tup xs=>xs.length<=sizeLine/\∃ b:List Value,Vals xs b/\IsTup h a b.toArray
 | .dK kvs=>kvs.length<=sizeLine/\(a==sysModules)=false/\∃ vs,KV kvs vs/\h.DictOf (jq P w) a vs
 | .dT kvs=>kvs.length<=sizeLine/\(a==sysModules)=false/\∃ xs:List (List Key×Addr×Value),
   Paired (fun (p:List Key×V) (q:List Key×Addr×Value)=>p.1=q.1/\H q.2.1=some (.tup (p.1.map kV))/\RelV p.2 q.2.2) kvs xs /\
   ∃ o es ep,h.get? a=some o/\o.ExactDict/\o.data=.dict es ep/\es.toList=xs.map (entryOfKey (tupleKind (jq P w)))/\(xs.map (·.1)).Nodup
 | .set S n=>h.SetOf (intKind P w) a S n
 | .ins C dx fs=>H dx=some (.own a)/\fs.length<=1000/\dx≠a/\h.get? a=some (PySem.W.instObj C dx) /\
   ∃ mA,h.Ns1 dx mA/\(∀ f,RelO (fs.lookup f) (mA f))/\PySem.Within mA (fs.map (·.1))
 | .own _=>∃ o,h.get? a=some o
 | .xd fs=>∃ mA,h.Ns1 a mA/\∀ f,RelO (fs.lookup f) (mA f)
 | .rng lo hi=>∃ t u v,h.get? a=some { cls:=.type "range",data:=.fields #[.int lo t,.int hi u,.int 1 v] }
 | .frz o u=>h.get? a=some o/\ObjOk H h a u
 | .tbl ps=>h.get? a=some { cls:=.none,data:=.fields ps }
 | .met f x=>h.get? a=some (PySem.W.methodObj (.ref f) (.ref x))
 | .ext φ=>φ h/\(∃ o,h.get? a=some o)/\∀ h1 c:Heap,φ h1->(∀ o,h1.get? a=some o->c.get? a=some o)->φ c
def HOk (H:Hp) (h:Heap):Prop:=∀ a o,H a=some o->ObjOk P w H h a o
end
section
variable {P:Program} {w:World} {H H':Hp} {h h':Heap} {a:Addr} {o:HO}
theorem ObjOk.lt (x:ObjOk P w H h a o):a<h.objs.size:=by
 cases o with
 | lst xs=>obtain ⟨_,_,_,_,e⟩:=x;exact yM e
 | tup xs=>obtain ⟨_,_,_,p⟩:=x;exact p.lt
 | dK kvs=>obtain ⟨_,_,_,_,o,_,_,e,_⟩:=x;exact yM e
 | dT kvs=>obtain ⟨_,_,_,_,o,_,_,e,_⟩:=x;exact yM e
 | set S n=>obtain ⟨o,_,_,_,e,_⟩:=x;exact yM e
 | ins C dx fs=>obtain ⟨_,_,_,e,_⟩:=x;exact yM e
 | own y=>obtain ⟨_,e⟩:=x;exact yM e
 | xd fs=>obtain ⟨_,⟨_,_,_,e,_⟩,_⟩:=x;exact yM e
 | rng lo hi=>obtain ⟨_,_,_,e⟩:=x;exact yM e
 | frz ob u=>obtain ⟨e,_⟩:=x;exact yM e
 | tbl ps=>exact yM (show h.get? a=some _ from x)
 | met f y=>exact yM (show h.get? a=some _ from x)
 | ext φ=>obtain ⟨_,⟨_,e⟩,_⟩:=x;exact yM e
theorem Paired.mapP {d:Type} {F G:α->d->Prop}:∀ {l₁:List α} {c:List d},Paired F l₁ c->(∀ a b,F a b->G a b)->Paired G l₁ c
 | _,_,.nil,_=>.nil
 | _,_,.cons r t,f=>.cons (f _ _ r) (Paired.mapP t f)
theorem ObjOk.stay (x:ObjOk P w H h a o) (k:∀ b u,(b=a\/H b=some (.own a))->h.get? b=some u->h'.get? b=some u)
  (m:∀ b,H b=some (.own a)->H' b=some (.own a)) (s:∀ b xs,H b=some (.tup xs)->H' b=some (.tup xs)):ObjOk P w H' h' a o:=by
 induction o with
 | lst xs=>obtain ⟨z,i,n,r,e⟩:=x;exact ⟨z,i,n,r,k _ _ (.inl rfl) e⟩
 | tup xs=>obtain ⟨z,i,r,g,e,c⟩:=x;exact ⟨z,i,r,g,k _ _ (.inl rfl) e,c⟩
 | dK kvs=>obtain ⟨z,y,vs,r,g,es,ep,e,c⟩:=x;exact ⟨z,y,vs,r,g,es,ep,k _ _ (.inl rfl) e,c⟩
 | dT kvs =>
  obtain ⟨z,y,xs,r,g,es,ep,e,c⟩:=x;exact ⟨z,y,xs,Paired.mapP r fun p q z=>⟨z.1,s _ _ z.2.1,z.2.2⟩,g,es,ep,k _ _ (.inl rfl) e,c⟩
 | set S n=>obtain ⟨g,es,ep,t,e,c⟩:=x;exact ⟨g,es,ep,t,k _ _ (.inl rfl) e,c⟩
 | ins C dx fs =>
  obtain ⟨d,z,ne,e,mA,⟨od,es,ep,l,c⟩,r⟩:=x;exact ⟨m _ d,z,ne,k _ _ (.inl rfl) e,mA,⟨od,es,ep,k _ _ (.inr d) l,c⟩,r⟩
 | own y=>obtain ⟨g,e⟩:=x;exact ⟨g,k _ _ (.inl rfl) e⟩
 | xd fs=>obtain ⟨mA,⟨od,es,ep,e,c⟩,r⟩:=x;exact ⟨mA,⟨od,es,ep,k _ _ (.inl rfl) e,c⟩,r⟩
 | rng lo hi=>obtain ⟨t,u,v,e⟩:=x;exact ⟨t,u,v,k _ _ (.inl rfl) e⟩
 | frz g u ih=>obtain ⟨e,q⟩:=x;exact ⟨k _ _ (.inl rfl) e,ih q⟩
 | tbl ps =>
  have e:h.get? a=some { cls:=.none,data:=.fields ps }:=x;show h'.get? a=some { cls:=.none,data:=.fields ps };exact k a _ (.inl rfl) e
 | met f y =>
  have e:h.get? a=some (PySem.W.methodObj (.ref f) (.ref y)):=x;show h'.get? a=some (PySem.W.methodObj (.ref f) (.ref y));exact k a _ (.inl rfl) e
 | ext φ=>obtain ⟨p,⟨o,e⟩,st⟩:=x;exact ⟨st _ _ p fun o q=>k _ _ (.inl rfl) q,⟨o,k _ _ (.inl rfl) e⟩,st⟩
theorem HOk.lt (x:HOk P w H h) (e:H a=some o):a<h.objs.size:=(x a o e).lt
theorem HOk.fresh (x:HOk P w H h) (e:h.objs.size<=a):H a=none:=by
 cases q:H a with
 | none=>rfl
 | some u=>exact absurd (yj (x.lt q) e) (Yo _)
theorem HOk.kept (x:HOk P w H h) (k:∀ b u,h.get? b=some u->h'.get? b=some u):HOk P w H h':=fun a o e =>
 (x a o e).stay (fun b u _ q=>k b u q) (fun _ q=>q) fun _ _ q=>q
theorem HOk.laid (x:HOk P w H h) (k:∀ b u,h.get? b=some u->h'.get? b=some u) (g:h.objs.size<=a) (new:ObjOk P w (upd H a o) h' a o):HOk P w (upd H a o) h':=fun b u e=>by
 have f:=x.fresh g;by_cases d:b=a
 .subst d;rw [qb] at e;cases e;exact new
 .rw [qe d] at e;exact (x b u e).stay (fun c v _ q=>k c v q) (fun c q=>by rw [qe (qm q f)];exact q) fun c xs q=>by rw [qe (qm q f)];exact q
end
def Rd (H:Hp) (a:Addr) (u:HO):Prop:=H a=some u\/∃ o,H a=some (.frz o u)
theorem Rd.ok {u:HO} (r:Rd H a u) (x:HOk P w H h):ObjOk P w H h a u:=by
 rcases r with r | ⟨o,r⟩
 .exact x a u r
 .obtain ⟨_,q⟩:=x a _ r;exact q
def Mut:Option HO->Prop
 | some (.lst _)=>True
 | some (.dK _)=>True
 | some (.dT _)=>True
 | some (.set _ _)=>True
 | some (.ins _ _ _)=>True
 | some (.ext _)=>True
 | _=>False
section
variable {P:Program} {w:World} {H:Hp} {h h':Heap} {x e:Addr} {o':HO}
theorem HOk.write (ok:HOk P w H h) (i:Mut (H x)) (m:e=x\/H e=some (.own x)) (k:∀ b u,b≠e->h.get? b=some u->h'.get? b=some u) (l:∃ u,h'.get? e=some u)
  (new:ObjOk P w (upd H x o') h' x o'):HOk P w (upd H x o') h':=fun b u q=>by
 have d:∀ c y,H c=some (.own y)->c≠x:=fun c y r z=>by subst z;rw [r] at i;exact i
 have f:∀ c xs,H c=some (.tup xs)->c≠x:=fun c xs r z=>by subst z;rw [r] at i;exact i
 by_cases g:b=x
 .subst g;rw [qb] at q;cases q;exact new
 .rw [qe g] at q;by_cases a:b=e
  .have n:H b=some (.own x):=by
    rcases m with z | z
    .exact absurd (a.trans z) g
    .rw [a];exact z
   rw [q] at n;cases n;obtain ⟨v,hv⟩:=l;exact ⟨v,by rw [a];exact hv⟩
  .refine (ok b u q).stay (fun c v hc r=>k c v ?_ r) (fun c r=>by rw [qe (d c b r)];exact r) fun c xs r=>by rw [qe (f c xs r)];exact r
   rcases hc with rfl | hc
   .exact a
   .rintro rfl;rcases m with z | z
    .exact d c b hc z
    .rw [hc] at z;cases z;exact g rfl
end
structure Un (fs ex:List Addr) (H H':Hp) (h h':Heap):Prop where
 keep:∀ b o,h.get? b=some o->H b=none->b∉fs->b∉ex->h'.get? b=some o
 slot:∀ b o,h.get? b=some o->H b=none->b∈fs->b∉ex->∃ sl,h'.get? b=some { o with slots:=sl }
 free:∀ b o,h.get? b=some o->H b=none->b∉ex->H' b=none
 there:∀ b o,h.get? b=some o->b∉ex->∃ o',h'.get? b=some o'
 tups:∀ b xs,H b=some (.tup xs)->H' b=some (.tup xs)
 frzs:∀ b o u,H b=some (.frz o u)->H' b=some (.frz o u)
 tbls:∀ b ps,H b=some (.tbl ps)->∃ more,H' b=some (.tbl (ps++more))
section
variable {fs fs' ex ex':List Addr} {H H1 H2:Hp} {h h1 h2 h':Heap} {a x e:Addr} {o:HO}
theorem Un.any (u:Un fs ex H H1 h h1) {a:Obj} (q:h.get? b=some a) (n:H b=none) (d:b∉ex):∃ e,h1.get? b=some { a with slots:=e }:=by
 by_cases c:b∈fs
 .exact u.slot b a q n c d
 .exact ⟨a.slots,u.keep b a q n c d⟩
theorem Un.kept (k:∀ b u,h.get? b=some u->h'.get? b=some u):Un fs ex H H h h':=
 ⟨fun b a q _ _ _=>k b a q,fun b a q _ _ _=>⟨a.slots,k b a q⟩,fun _ _ _ n _=>n,fun b a q _=>⟨a,k b a q⟩,fun _ _ q=>q,fun _ _ _ q=>q,fun _ ps q=>⟨#[],by rw [q];simp⟩⟩
theorem Un.refl:Un fs ex H H h h:=Un.kept fun _ _ q=>q
theorem Un.laid (k:∀ b u,h.get? b=some u->h'.get? b=some u) (d:h.objs.size<=a) (c:H a=none):Un fs ex H (upd H a o) h h' where
 keep:=fun b u q _ _ _=>k b u q
 slot:=fun b u q _ _ _=>⟨u.slots,k b u q⟩
 free:=fun b u q n _=>by rw [qe (y0 (yj (yM q) d))];exact n
 there:=fun b u q _=>⟨u,k b u q⟩
 tups:=fun b xs q=>by rw [qe (qm q c)];exact q
 frzs:=fun b u xs q=>by rw [qe (qm q c)];exact q
 tbls:=fun b ps q=>⟨#[],by rw [qe (qm q c),q];simp⟩
theorem Un.write (c:Mut (H x)) (l:e=x\/H e=some (.own x)) (k:∀ b u,b≠e->h.get? b=some u->h'.get? b=some u) (d:∃ u,h'.get? e=some u):Un fs ex H (upd H x o) h h':=by
 have i:∀ b,H b=none->b≠x:=fun b n z=>by subst z;rw [n] at c;exact c
 have g:∀ b,H b=none->b≠e:=fun b n z=>by
  subst z;rcases l with r | r
  .exact i b n r
  .rw [n] at r;cases r
 have f:∀ b u,H b=some u->¬ Mut (some u)->b≠x:=fun b u q m z=>by subst z;rw [q] at c;exact m c
 refine ⟨fun b u q n _ _=>k b u (g b n) q,fun b u q n _ _=>⟨u.slots,k b u (g b n) q⟩,fun b u q n _=>by rw [qe (i b n)];exact n,fun b u q _=>?_,
  fun b xs q=>by rw [qe (f b _ q fun z=>z)];exact q,fun b u xs q=>by rw [qe (f b _ q fun z=>z)];exact q,fun b ps q=>⟨#[],by rw [qe (f b _ q fun z=>z),q];simp⟩⟩
 by_cases a:b=e
 .subst a;exact d
 .exact ⟨u,k b u a q⟩
end
noncomputable def trk (h:Heap) (H:Hp):List Addr:=(List.range h.objs.size).filter fun a=>(H a).isSome
noncomputable def qdv (h:Heap) (H:Hp):Heap:=PySem.W.hideAll h (trk h H)
theorem hidT_size (h:Heap) (H:Hp):(qdv h H).objs.size=h.objs.size:=PySem.W.hideAll_size _ _
theorem hidT_get {o:Obj} (e:h.get? b=some o) (n:H b=none):(qdv h H).get? b=some o:=
 PySem.W.hideAll_get _ e fun a=>by
  have q:(H b).isSome=true:=(yp.mp a).2;rw [n] at q;simp at q
theorem of_hidT {o:Obj} (e:(qdv h H).get? b=some o):h.get? b=some o/\H b=none:=by
 have a:h.get? b=some o:=PySem.W.of_hideAll (trk h H) e;refine ⟨a,?_⟩
 cases q:H b with
 | none=>rfl
 | some x =>
  have c:b∈trk h H:=yp.mpr ⟨XW.mpr (yM a),by simp [q]⟩;have z:(qdv h H).get? b=none:=PySem.W.hideAll_none (trk h H) c;rw [z] at e;cases e
noncomputable def allNews (g h:Heap) (L:Addr):List (Addr×Obj):=(List.range h.objs.size).filterMap fun a=>if a=L\/(g.get? a).isSome=true then none else (h.get? a).map fun o=>(a,o)
noncomputable def qbt (g h:Heap) (L d:Addr):List (Addr×Obj):=(allNews g h L).filter fun p=>decide (p.1≠d)
structure Mod (K:yg) (mg:Str->Option Value) (base:Heap):Prop where
 kin:K.In base
 glob:base.Ns mainGlobals mg
 blt:∃ mb,base.Ns builtinsNs mb/\∀ x:Str,x≠"__name__"->mb x=bootBuiltins x
 nolimit:base.NoLimit
structure Cx where
 prog:Program
 w:World
 K:yg
 mg:Str->Option Value
 base:Heap
 A:Around
 N:List Str
 s₀:Shared
 H₀:Hp
 env:Env
 outer:List Env
 stack:List Env
 ex:List Addr
 fn:Str->Bool
 calm:Bool
 pn:List (Addr×Obj)
 xe:Value->Shared->Prop
noncomputable def frs (l:List Env):List Addr:=l.filterMap (·.frame)
noncomputable abbrev Cx.fs (X:Cx):List Addr:=frs X.outer
def Vis (sc:Scope) (x:Str):Prop:=sc.names.lookup x=some .local\/sc.names.lookup x=some .cell\/sc.names.lookup x=some .free
def Loc (sc:Scope) (x:Str):Prop:=sc.names.lookup x=some .local\/sc.names.lookup x=some .cell
def Look (env:Env) (h:Heap) (m:Str->Option Value) (x:Str) (u:Value):Prop:=
 (env.kindOf x=some .local/\m x=some u)\/((env.kindOf x=some .cell\/env.kindOf x=some .free)/\∃ c,env.cells.lookup x=some c/\h.IsCell c (some u))
structure Cx.Ok (X:Cx):Prop where
 mod:Mod X.K X.mg X.base
 kind:X.env.scope.kind=.function
 glob:X.env.globals=mainGlobals
 blt:X.env.builtins=builtinsNs
 above:X.s₀.heap.objs.size<=X.env.locals
 inj:∀ x y c,X.env.cells.lookup x=some c->X.env.cells.lookup y=some c->x=y
 has:∀ x,(X.env.kindOf x=some .cell\/X.env.kindOf x=some .free)->∃ c,X.env.cells.lookup x=some c
 cab:∀ x c,X.fn x=true->X.env.cells.lookup x=some c->X.s₀.heap.objs.size<=c
 hd:X.calm=true->X.A.handled=none
 frames:X.A.frames=some X.stack
 stk:X.stack=X.outer\/(X.stack=X.env::X.outer/\X.env.frame=some X.env.locals)
 exf:∀ b∈X.ex,b≠X.env.locals/\∀ x c,X.env.cells.lookup x=some c->c≠b
 bs:∀ b o,X.base.get? b=some o->X.s₀.heap.get? b=some o/\X.H₀ b=none
 bsz:X.base.objs.size<=X.s₀.heap.objs.size
 noex:∀ b o,X.base.get? b=some o->b∉X.ex
 exfs:∀ b∈X.ex,b∉X.fs
 funs:X.s₀.heap.FunFrames X.base X.outer
 frf:∀ b∈X.fs,X.H₀ b=none
structure Inv (X:Cx) (pins:List (Addr×Obj)) (σ:List (Option V)) (H:Hp) (s:Shared):Prop where
 ok:X.Ok
 os:s.os=X.s₀.os
 bare:AllBare s.gens
 base:Un X.fs X.ex X.H₀ H X.s₀.heap s.heap
 loc:∃ m,s.heap.Ns X.env.locals m/\∀ (i:Nat) (x:Str) (v:V),X.N[i]?=some x->σ[i]?=some (some v)->Vis X.env.scope x->∃ u,RelV v u/\Look X.env s.heap m x u
 cell:∀ x c,X.env.cells.lookup x=some c->∃ v,s.heap.IsCell c v
 free:H X.env.locals=none
 freeC:∀ x c,X.env.cells.lookup x=some c->H c=none
 pin:∀ p∈X.pn++pins,s.heap.get? p.1=some p.2/\H p.1=none/\p.1≠X.env.locals/\p.1∉X.fs/\∀ v,p.2.data≠.cell v
 hok:HOk X.prog X.w H s.heap
 len:σ.length=X.N.length
section
variable {X:Cx} {pins:List (Addr×Obj)} {σ:List (Option V)} {H H':Hp} {s:Shared} {h':Heap}
theorem Cx.Ok.nofr (ok:X.Ok) {o:Obj} (e:X.base.get? b=some o):b∉X.fs:=fun a=>by
 have:=(ok.funs.mem a).1;rw [e] at this;cases this
theorem Inv.bs (I:Inv X pins σ H s):∀ b o,X.base.get? b=some o->s.heap.get? b=some o/\H b=none:=fun b o e =>
 ⟨I.base.keep b o (I.ok.bs b o e).1 (I.ok.bs b o e).2 (I.ok.nofr e) (I.ok.noex b o e),I.base.free b o (I.ok.bs b o e).1 (I.ok.bs b o e).2 (I.ok.noex b o e)⟩
theorem Inv.bk (I:Inv X pins σ H s):∀ b o,X.base.get? b=some o->s.heap.get? b=some o:=fun b o e=>(I.bs b o e).1
theorem Inv.mod (I:Inv X pins σ H s):Mod X.K X.mg X.base:=I.ok.mod
theorem Inv.kIn (I:Inv X pins σ H s):X.K.In s.heap:=I.ok.mod.kin.keeps I.bk
theorem Inv.lt (I:Inv X pins σ H s):X.env.locals<s.heap.objs.size:=let ⟨_,hn,_⟩:=I.loc;hn.lt
theorem Inv.sz (I:Inv X pins σ H s):X.s₀.heap.objs.size<=s.heap.objs.size:=yi I.ok.above (yS I.lt)
theorem Inv.nofs (I:Inv X pins σ H s) (h:s.heap.objs.size<=a):a∉X.fs:=fun b=>by
 obtain ⟨_,o,c,_⟩:=I.ok.funs.mem b;exact absurd (yj (yM c) (yi I.sz h)) (Yo _)
theorem Inv.cne (I:Inv X pins σ H s):∀ x c,X.env.cells.lookup x=some c->c≠X.env.locals:=fun x c e z=>by
 obtain ⟨v,o,f,d⟩:=I.cell x c e;obtain ⟨m,⟨g,es,ep,b,a,_⟩,_⟩:=I.loc;rw [z,b] at f;cases f;rw [a] at d;cases d
theorem Inv.funs (I:Inv X pins σ H s):s.heap.FunFrames X.base X.outer:=by
 have all:∀ (l:List Env),(∀ b∈frs l,b∈X.fs)->X.s₀.heap.FunFrames X.base l->s.heap.FunFrames X.base l:=by
  intro l
  induction l with
  | nil=>intro _ _;trivial
  | cons env r ih =>
   intro f hl;obtain ⟨h,⟨L,o,d,i,m,g⟩,n⟩:=hl;have a:L∈X.fs:=f L (by unfold frs;rw [x0,d];exact yO);obtain ⟨p,e⟩:=I.base.slot L o m (I.ok.frf L a) a fun z=>I.ok.exfs L z a;exact ⟨h,⟨L,_,d,i,e,g⟩,ih (fun b c=>f b (by unfold frs;rw [x0,d];exact yC _ c)) n⟩
 exact all X.outer (fun _ c=>c) I.ok.funs
theorem Inv.stack (I:Inv X pins σ H s):s.heap.FunFrames X.base X.stack:=by
 rcases I.ok.stk with e | ⟨e,hf⟩
 .rw [e];exact I.funs
 .rw [e];obtain ⟨m,a,_⟩:=I.loc;refine .cons (by rw [I.ok.kind];decide) hf a ?_ I.funs;exact Heap.get?_none_of_le (yi I.ok.bsz I.ok.above)
theorem Inv.stkSub (I:Inv X pins σ H s):∀ b∈frs X.stack,b∈X.env.locals::X.fs:=fun b a=>by
 rcases I.ok.stk with e | ⟨e,hf⟩
 .rw [e] at a;exact yC _ a
 .rw [e] at a;unfold frs at a;rw [x0,hf] at a;exact a
theorem Inv.stkFree (I:Inv X pins σ H s):∀ b∈frs X.stack,H b=none:=fun b hb=>by
 rcases yy.mp (I.stkSub b hb) with e | hb
 .rw [e];exact I.free
 .obtain ⟨_,o,a,_⟩:=I.ok.funs.mem hb;exact I.base.free b o a (I.ok.frf b hb) fun z=>I.ok.exfs b z hb
theorem Inv.step (I:Inv X pins σ H s)
  (f:∀ b∈ch,(b∈X.ex\/X.s₀.heap.objs.size<=b)/\b≠X.env.locals/\(∀ x c,X.env.cells.lookup x=some c->c≠b)/\∀ p∈X.pn++pins,p.1≠b)
  (keep:∀ b o,b≠X.env.locals->b∉X.fs->b∉ch->s.heap.get? b=some o->H b=none->h'.get? b=some o)
  (y:∀ b o,b≠X.env.locals->b∈X.fs->b∉ch->s.heap.get? b=some o->H b=none->∃ N,h'.get? b=some { o with slots:=N }) (free:∀ b o,b∉ch->s.heap.get? b=some o->H b=none->H' b=none)
  (B:∀ b o,b∉ch->s.heap.get? b=some o->∃ G,h'.get? b=some G)
  (K:∀ b xs,H b=some (.tup xs)->H' b=some (.tup xs)) (E:∀ b o u,H b=some (.frz o u)->H' b=some (.frz o u)) (J:∀ b ps,H b=some (.tbl ps)->∃ more,H' b=some (.tbl (ps++more)))
  (ns:∀ m,s.heap.Ns X.env.locals m->h'.Ns X.env.locals m) (M:HOk X.prog X.w H' h') (T:AllBare g') :
  Inv X pins σ H' { s with heap:=h',gens:=g',drawn:=d',toks:=t' }:=by
 have F:∀ b o,X.s₀.heap.get? b=some o->b≠X.env.locals:=fun b o e=>y0 (yj (yM e) I.ok.above)
 have t:∀ b o,X.s₀.heap.get? b=some o->b∉X.ex->b∉ch:=fun b o e a A=>by
  rcases (f b A).1 with z | z
  .exact a z
  .exact absurd (yj (yM e) z) (Yo _)
 have cellK:∀ x c,X.env.cells.lookup x=some c->∀ v,s.heap.IsCell c v->h'.IsCell c v:=fun x c e v ⟨o,C,L⟩=>by
  have g:c∉ch:=fun z=>(f c z).2.2.1 x c e rfl;by_cases hc:c∈X.fs
  .obtain ⟨N,q⟩:=y c o (I.cne x c e) hc g C (I.freeC x c e);exact ⟨_,q,L⟩
  .exact ⟨o,keep c o (I.cne x c e) hc g C (I.freeC x c e),L⟩
 refine ⟨I.ok,I.os,T,⟨fun b o e n A a=>?_,fun b o e n A a=>?_,fun b o e n a=>?_,fun b o e a=>?_,fun b xs e=>K b xs (I.base.tups b xs e),fun b o xs e=>E b o xs (I.base.frzs b o xs e),fun b ps e=>?_⟩,?_,fun x c e=>?_,?_,fun x c e=>?_,fun p P=>?_,M,I.len⟩
 .exact keep b o (F b o e) A (t b o e a) (I.base.keep b o e n A a) (I.base.free b o e n a)
 .obtain ⟨N,h⟩:=I.base.slot b o e n A a;obtain ⟨O,D⟩:=y b _ (F b o e) A (t b o e a) h (I.base.free b o e n a);exact ⟨O,D⟩
 .obtain ⟨G,h⟩:=I.base.there b o e a;exact free b G (t b o e a) h (I.base.free b o e n a)
 .obtain ⟨G,h⟩:=I.base.there b o e a;exact B b G (t b o e a) h
 .obtain ⟨W,h⟩:=I.base.tbls b ps e;obtain ⟨Y,D⟩:=J b _ h;exact ⟨W++Y,by rw [D,Array.append_assoc]⟩
 .obtain ⟨m,U,hl⟩:=I.loc;refine ⟨m,ns m U,fun i x v h D S=>?_⟩;obtain ⟨u,r,l⟩:=hl i x v h D S;refine ⟨u,r,?_⟩;rcases l with l | ⟨k,c,e,z⟩
  .exact .inl l
  .exact .inr ⟨k,c,e,cellK x c e _ z⟩
 .obtain ⟨v,z⟩:=I.cell x c e;exact ⟨v,cellK x c e v z⟩
 .obtain ⟨m,⟨o,_,_,C,_⟩,_⟩:=I.loc;exact free _ o (fun z=>(f _ z).2.1 rfl) C I.free
 .obtain ⟨v,o,C,L⟩:=I.cell x c e;exact free c o (fun z=>(f c z).2.2.1 x c e rfl) C (I.freeC x c e)
 .obtain ⟨e,n,ne,R,d⟩:=I.pin p P;have g:p.1∉ch:=fun z=>(f p.1 z).2.2.2 p P rfl;exact ⟨keep p.1 p.2 ne R g e n,free p.1 p.2 g e n,ne,R,d⟩
theorem Inv.un (I:Inv X pins σ H s) (u:Un X.fs [] H H' s.heap h') (f:HOk X.prog X.w H' h'):Inv X pins σ H' { s with heap:=h',toks:=t' }:=by
 obtain ⟨m,⟨o,es,ep,g,r⟩,_⟩:=id I.loc;obtain ⟨q,h⟩:=u.any g I.free (by simp)
 exact I.step (g':=s.gens) (d':=s.drawn) (ch:=[]) (fun _ z=>nomatch z) (fun b o _ d _ e n=>u.keep b o e n d (by simp)) (fun b o _ d _ e n=>u.slot b o e n d (by simp)) (fun b o _ e n=>u.free b o e n (by simp)) (fun b o _ e=>u.there b o e (by simp)) u.tups u.frzs u.tbls (fun l i=>by
  obtain ⟨p,es',c,a,r'⟩:=i;rw [g] at a;cases a;exact ⟨_,es',c,h,r'⟩) f I.bare
theorem Inv.call (I:Inv X pins σ H s) (u:Un (frs X.stack) ch H H' s.heap h') (h:HOk X.prog X.w H' h') (q:AllBare g')
  (a:∀ b∈ch,(b∈X.ex\/X.s₀.heap.objs.size<=b)/\b≠X.env.locals/\(∀ x c,X.env.cells.lookup x=some c->c≠b)/\∀ p∈X.pn++pins,p.1≠b) :
  Inv X pins σ H' { s with heap:=h',gens:=g',drawn:=d',toks:=t' }:=by
 obtain ⟨m,⟨o,es,ep,i,r⟩,_⟩:=id I.loc;obtain ⟨A,g⟩:=u.any i I.free fun z=>(a _ z).2.1 rfl
 exact I.step (ch:=ch) a (fun b o g l hc e n=>u.keep b o e n (fun z=>(yy.mp (I.stkSub b z)).elim g l) hc) (fun b o _ _ hc e n=>u.any e n hc) (fun b o hc e n=>u.free b o e n hc) (fun b o hc e=>u.there b o e hc) u.tups u.frzs u.tbls (fun v t=>by
  obtain ⟨y,es',f,d,r'⟩:=t;rw [i] at d;cases d;exact ⟨_,es',f,g,r'⟩) h q
theorem Inv.turned (I:Inv X pins σ H s) (k:∀ b o,b≠it->s.heap.get? b=some o->h'.get? b=some o) (l:H it=none) (d:it≠X.env.locals)
  (h1:it∈X.ex\/X.s₀.heap.objs.size<=it) (f:∀ x c,X.env.cells.lookup x=some c->c≠it) (g:∀ p∈X.pn++pins,p.1≠it):Inv X pins σ H { s with heap:=h',toks:=t' }:=by
 have a:∀ b u,H b=some u->b≠it:=fun b u e z=>by rw [z,l] at e;cases e
 refine I.step (g':=s.gens) (d':=s.drawn) (ch:=[it]) (fun b h=>?_) (fun b o _ _ hc e _=>k b o (fun z=>hc (by simp [z])) e) (fun b o _ _ hc e _=>⟨o.slots,k b o (fun z=>hc (by simp [z])) e⟩) (fun _ _ _ _ n=>n)
  (fun b o hc e=>⟨o,k b o (fun z=>hc (by simp [z])) e⟩) (fun _ _ e=>e) (fun _ _ _ e=>e) (fun b ps e=>⟨#[],by rw [e];simp⟩) (fun m i=>?_) (fun b u e=>?_) I.bare
 .have e:b=it:=by simpa using h
  subst e;exact ⟨h1,d,f,g⟩
 .obtain ⟨o,es,ep,t,r⟩:=i;exact ⟨o,es,ep,k _ o (Yb d) t,r⟩
 .refine (I.hok b u e).stay (fun c v hc q=>k c v ?_ q) (fun _ q=>q) fun _ _ q=>q;rcases hc with z | z
  .rw [z];exact a b u e
  .exact a c _ z
theorem Inv.tok (I:Inv X pins σ H s) (t:Nat):Inv X pins σ H { s with toks:=t }:=I.un (h':=s.heap) (t':=t) Un.refl I.hok
theorem Inv.kept (I:Inv X pins σ H s) (k:∀ b u,s.heap.get? b=some u->h'.get? b=some u):Inv X pins σ H { s with heap:=h',toks:=t' }:=I.un (Un.kept k) (I.hok.kept k)
theorem Inv.laid (I:Inv X pins σ H s) (k:∀ b u,s.heap.get? b=some u->h'.get? b=some u) (c:s.heap.objs.size<=a) (new:ObjOk X.prog X.w (upd H a o) h' a o) :
  Inv X pins σ (upd H a o) { s with heap:=h',toks:=t' }:=I.un (Un.laid k c (I.hok.fresh c)) (I.hok.laid k c new)
theorem Inv.write {x e:Addr} (I:Inv X pins σ H s) (d:Mut (H x)) (c:e=x\/H e=some (.own x)) (k:∀ b u,b≠e->s.heap.get? b=some u->h'.get? b=some u) (a:∃ u,h'.get? e=some u)
  (new:ObjOk X.prog X.w (upd H x o) h' x o):Inv X pins σ (upd H x o) { s with heap:=h',toks:=t' }:=I.un (Un.write d c k a) (I.hok.write d c k a new)
theorem Inv.weak {a:List (Option V)} (I:Inv X pins σ H s) (hl:a.length=σ.length) (w:∀ (i:Nat) v,a[i]?=some (some v)->σ[i]?=some (some v)):Inv X pins a H s:=
 ⟨I.ok,I.os,I.bare,I.base,let ⟨m,hn,hl'⟩:=I.loc;⟨m,hn,fun i x v b c d=>hl' i x v b (w i v c) d⟩,I.cell,I.free,I.freeC,I.pin,I.hok,hl.trans I.len⟩
theorem Inv.pins_of {pins':List (Addr×Obj)} (I:Inv X pins σ H s) (h:∀ p∈pins',s.heap.get? p.1=some p.2/\H p.1=none/\p.1≠X.env.locals/\p.1∉X.fs/\∀ v,p.2.data≠.cell v):Inv X pins' σ H s:=
 ⟨I.ok,I.os,I.bare,I.base,I.loc,I.cell,I.free,I.freeC,fun p a=>(yx.mp a).elim (fun z=>I.pin p (yE _ z)) (h p),I.hok,I.len⟩
theorem qcn (e:N.Nodup) {j:Nat} (a:N[i]?=some x) (b:N[j]?=some x):i=j:=by
 obtain ⟨h1,c⟩:=yc.mp a;obtain ⟨f,d⟩:=yc.mp b;exact (List.getElem_inj e).mp (c.trans d.symm)
theorem qbv {Q:Unit->Shared->Prop} (I:Inv X pins σ H s) (hN:X.N.Nodup) (P:X.N[i]?=some x) (t:Loc X.env.scope x) (r:RelV v u)
  (h:∀ s',Inv X pins (σ.set i (some v)) H s'->(∃ a,Heap.SameBut a s.heap s'.heap/\(a=X.env.locals\/X.env.cells.lookup x=some a))->Q () s') (hf:X.fn x=true\/X.env.scope.names.lookup x=some .local:=by first | exact .inl rfl | exact .inr rfl | assumption):wpAny M A (storeName X.env x u) Q E s:=by
 obtain ⟨m,Y,hl⟩:=id I.loc;have O:(X.env.scope.kind==.class||(X.env.scope.kind==.module&&X.env.locals != X.env.globals))=false:=by rw [I.ok.kind];rfl
 have D:i<σ.length:=by rw [I.len];exact (yc.mp P).1
 have cne:=I.cne
 have l:∀ {a:Addr} {h':Heap},(∃ o,s.heap.get? a=some o/\H a=none)->Heap.SameBut a s.heap h'->HOk X.prog X.w H h':=fun {a h'} ha f b ob e=>by
  obtain ⟨_,_,B⟩:=ha;refine (I.hok b ob e).stay (fun c U hc q=>(f.2 c ?_).trans q) (fun _ q=>q) fun _ _ q=>q;rintro rfl;rcases hc with rfl | hc
  .rw [B] at e;cases e
  .rw [B] at hc;cases hc
 rcases t with hk | hk
 .refine wpAny_storeName_local hk Y (fun h' Z f=>?_) O;obtain ⟨oL,_,_,aa,_⟩:=id Y;refine h _ ⟨I.ok,I.os,I.bare,⟨fun b o e n F t=>?_,fun b o e n F t=>?_,I.base.free,fun b o e t=>?_,I.base.tups,I.base.frzs,I.base.tbls⟩,⟨_,Z,fun j y v' g C W=>?_⟩,fun y c e=>?_,I.free,I.freeC,fun p hp=>?_,l ⟨oL,aa,I.free⟩ f,by simpa using I.len⟩ ⟨_,f,.inl rfl⟩
  .exact (f.2 b (y0 (yj (yM e) I.ok.above))).trans (I.base.keep b o e n F t)
  .obtain ⟨sl,g⟩:=I.base.slot b o e n F t;exact ⟨sl,(f.2 b (y0 (yj (yM e) I.ok.above))).trans g⟩
  .obtain ⟨o',g⟩:=I.base.there b o e t;exact ⟨o',(f.2 b (y0 (yj (yM e) I.ok.above))).trans g⟩
  .by_cases J:j=i
   .subst J;rw [P] at g;cases g;rw [List.getElem?_set_self D] at C;cases C;exact ⟨u,r,.inl ⟨hk,by simp⟩⟩
   .rw [XA (Yb J)] at C;obtain ⟨u',r',q⟩:=hl j y v' g C W;refine ⟨u',r',?_⟩;rcases q with ⟨k,e⟩ | ⟨k,c,e,z⟩
    .refine .inl ⟨k,?_⟩;have:y≠x:=fun e=>J (qcn hN g (e ▸ P));simp [this,e]
    .exact .inr ⟨k,c,e,z.sameBut f (cne y c e)⟩
  .obtain ⟨U,z⟩:=I.cell y c e;exact ⟨U,z.sameBut f (cne y c e)⟩
  .obtain ⟨e,n,ne,nf,d⟩:=I.pin p hp;exact ⟨(f.2 p.1 ne).trans e,n,ne,nf,d⟩
 .have G:X.fn x=true:=by
   rcases hf with z | z
   .exact z
   .rw [z] at hk;cases hk
  obtain ⟨c,hc⟩:=I.ok.has x (.inl hk);obtain ⟨U,z⟩:=I.cell x c hc;refine wpAny_storeName_cell I.ok.kind hk hc z (fun h' K f=>?_);obtain ⟨oc,R,S⟩:=id z;refine h { s with heap:=h' } ⟨I.ok,I.os,I.bare,⟨fun b o e n F t=>?_,fun b o e n F t=>?_,I.base.free,fun b o e t=>?_,I.base.tups,I.base.frzs,I.base.tbls⟩,⟨m,Y.sameBut f (Yb (cne x c hc)),fun j y v' g C W=>?_⟩,fun y T e=>?_,I.free,I.freeC,fun p hp=>?_,l ⟨oc,R,I.freeC x c hc⟩ f,by simpa using I.len⟩ ⟨c,f,.inr hc⟩
  .exact (f.2 b (y0 (yj (yM e) (I.ok.cab x c G hc)))).trans (I.base.keep b o e n F t)
  .obtain ⟨sl,g⟩:=I.base.slot b o e n F t;exact ⟨sl,(f.2 b (y0 (yj (yM e) (I.ok.cab x c G hc)))).trans g⟩
  .obtain ⟨o',g⟩:=I.base.there b o e t;exact ⟨o',(f.2 b (y0 (yj (yM e) (I.ok.cab x c G hc)))).trans g⟩
  .by_cases J:j=i
   .subst J;rw [P] at g;cases g;rw [List.getElem?_set_self D] at C;cases C;exact ⟨u,r,.inr ⟨.inl hk,c,hc,K⟩⟩
   .rw [XA (Yb J)] at C;obtain ⟨u',r',q⟩:=hl j y v' g C W;refine ⟨u',r',?_⟩;rcases q with q | ⟨k,T,e,z'⟩
    .exact .inl q
    .refine .inr ⟨k,T,e,z'.sameBut f ?_⟩;rintro rfl;exact J (qcn hN g (I.ok.inj _ _ _ e hc ▸ P))
  .by_cases L:T=c
   .subst L;exact ⟨_,K⟩
   .obtain ⟨w2,z2⟩:=I.cell y T e;exact ⟨w2,z2.sameBut f L⟩
  .obtain ⟨e,n,ne,nf,d⟩:=I.pin p hp;refine ⟨(f.2 p.1 ?_).trans e,n,ne,nf,d⟩;intro q;rw [q,R] at e;have q':oc=p.2:=ym e;exact d U (by rw [<- q'];exact S)
theorem qco {Q:Unit->Shared->Prop} (I:Inv X pins σ H s) (b:X.N.Nodup) (d:X.N[i]?=some x) (e:Loc X.env.scope x) (r:RelV v u)
  (h:∀ s',Inv X pins (σ.set i (some v)) H s'->Q () s') (c:X.fn x=true\/X.env.scope.names.lookup x=some .local:=by first | exact .inl rfl | exact .inr rfl | assumption):wpAny M A (storeName X.env x u) Q E s:=
 qbv I b d e r (fun s' a _=>h s' a) c
theorem Inv.call' (I:Inv X pins σ H s) (g:s'.os=s.os) (u:Un (frs X.stack) ch H H' s.heap s'.heap) (d:HOk X.prog X.w H' s'.heap) (f:AllBare s'.gens)
  (a:∀ b∈ch,(b∈X.ex\/X.s₀.heap.objs.size<=b)/\b≠X.env.locals/\(∀ x c,X.env.cells.lookup x=some c->c≠b)/\∀ p∈X.pn++pins,p.1≠b):Inv X pins σ H' s':=by
 obtain ⟨h',g',d',t',h⟩:=s';have e:h=s.os:=g;subst e;exact I.call (g':=g') (t':=t') (d':=d') u d f a
end
abbrev XK:=Value->Option Addr->Hp->Prop
noncomputable abbrev St:=List (Option V)
abbrev VK:=V->Hp->Prop
abbrev TE:=St->Hp->VK->Prop
abbrev TT:=St->Hp->(Bool->Hp->Prop)->Prop
abbrev TA:=St->Hp->(List V->Hp->Prop)->Prop
structure Ends where
 nx:St->Hp->Prop
 rt:VK
 bk:St->Hp->Prop:=fun _ _=>False
 ct:St->Hp->Prop:=fun _ _=>False
abbrev TS:=Ends->St->Hp->Prop
def EP (X:Cx) (pins:List (Addr×Obj)) (σ:St) (Q:VK) (u:Value) (s':Shared):Prop:=∃ v a,Inv X pins σ a s'/\RelV v u/\Q v a
def TP (X:Cx) (pins:List (Addr×Obj)) (σ:St) (Q:Bool->Hp->Prop) (b:Bool) (s':Shared):Prop:=∃ a,Inv X pins σ a s'/\Q b a
def AP (X:Cx) (pins:List (Addr×Obj)) (σ:St) (Q:List V->Hp->Prop) (us:List Value) (s':Shared):Prop:=∃ vs a,Inv X pins σ a s'/\Vals vs us/\Q vs a
def SP (X:Cx) (pins:List (Addr×Obj)) (D:Ends) (f:Flow) (s':Shared):Prop:=
 match f with
 | .next=>∃ a b,Inv X pins a b s'/\D.nx a b
 | .brk=>∃ a b,Inv X pins a b s'/\D.bk a b
 | .cont=>∃ a b,Inv X pins a b s'/\D.ct a b
 | .ret u=>∃ v a b,Inv X pins a b s'/\RelV v u/\D.rt v b
def PE (X:Cx) (e:Expr) (t:TE):Prop:=
 ∀ (pins:List (Addr×Obj)) (s:Shared) (σ:St) (H:Hp) (Q:VK),Inv X pins σ H s->t σ H Q->wpAny (model X.prog X.w) X.A (eval e X.env) (EP X pins σ Q) X.xe s
def PT (X:Cx) (e:Expr) (t:TT):Prop:=
 ∀ (pins:List (Addr×Obj)) (s:Shared) (σ:St) (H:Hp) (Q:Bool->Hp->Prop),Inv X pins σ H s->t σ H Q->wpAny (model X.prog X.w) X.A (isTrue e X.env (eval e X.env)) (TP X pins σ Q) X.xe s
def PW (X:Cx) (e:Expr) (t:TT):Prop:=
 ∀ (a:Sem Value) (pins:List (Addr×Obj)) (s:Shared) (σ:St) (H:Hp) (Q:Bool->Hp->Prop),Inv X pins σ H s->t σ H Q->wpAny (model X.prog X.w) X.A (isTrue e X.env a) (TP X pins σ Q) X.xe s
theorem PW.pt {t:TT} (h:PW X e t):PT X e t:=h _
def PA (X:Cx) (es:List Expr) (t:TA):Prop:=
 ∀ (pos:Pos) (pins:List (Addr×Obj)) (s:Shared) (σ:St) (H:Hp) (Q:List V->Hp->Prop),Inv X pins σ H s->t σ H Q->wpAny (model X.prog X.w) X.A (spliced (backTo pos (starEach es X.env))) (AP X pins σ Q) X.xe s
def PS (X:Cx) (st:Stmt) (t:TS):Prop:=
 ∀ (pins:List (Addr×Obj)) (s:Shared) (σ:St) (H:Hp) (D:Ends),Inv X pins σ H s->t D σ H->wpAny (model X.prog X.w) X.A (exec st X.env) (SP X pins D) X.xe s
def PSs (X:Cx) (st:List Stmt) (t:TS):Prop:=
 ∀ (pins:List (Addr×Obj)) (s:Shared) (σ:St) (H:Hp) (D:Ends),Inv X pins σ H s->t D σ H->wpAny (model X.prog X.w) X.A (execs st X.env) (SP X pins D) X.xe s
theorem thn {t:Sem α} {Q b:α->Shared->Prop} (h:wpAny M A t Q E s) (c:∀ a s,Q a s->b a s):wpAny M A t b E s:=YG h c fun _ _ x=>x
section
variable {X:Cx}
def qeJ (i:Nat):TE:=fun σ H Q=>∃ v,σ[i]?=some (some v)/\Q v H
def tC (v:V):TE:=fun _ H Q=>Q v H
theorem pe_var (g:X.N[i]?=some x) (hv:Vis X.env.scope x) (f:(x==("__debug__":Str))=false:=by decide) (d:(x==("__classdict__":Str))=false:=by decide):PE X (.Name x pos) (qeJ i):=by
 intro pins s σ H Q I h;obtain ⟨v,e,h⟩:=h;obtain ⟨m,o,hl⟩:=I.loc;obtain ⟨u,r,l⟩:=hl i x v g e hv;have b:EP X pins σ Q u s:=⟨v,H,I,r,h⟩;rcases l with ⟨hk,n⟩ | ⟨hk,c,hc,a⟩
 .exact wpAny_Name (wpAny_loadName_local I.ok.kind hk o n b) f
 .rcases hk with hk | hk
  .exact wpAny_Name (wpAny_loadName_cell I.ok.kind hk hc a b) f
  .exact wpAny_Name (wpAny_loadName_free I.ok.kind hk hc a b d) f
theorem qi {i j pos}:PE X (.Constant (.int i) j pos) (tC (.int i)):=fun _ _ _ H _ I h=>wpAny_Constant_int ⟨.int i,H,I.tok _,⟨_,rfl⟩,h⟩
theorem j4 {b j pos}:PE X (.Constant (.bool b) j pos) (tC (.bl b)):=fun _ _ _ H _ I h=>Constant_bool ⟨.bl b,H,I,rfl,h⟩
theorem jU {j pos}:PE X (.Constant .none j pos) (tC .non):=fun _ _ _ H _ I h=>Constant_none ⟨.non,H,I,rfl,h⟩
theorem qbw {x j pos}:PE X (.Constant (.str x) j pos) (tC (.str x)):=fun _ _ _ H _ I h=>Calls.Constant_str ⟨.str x,H,I.tok _,⟨_,rfl⟩,h⟩
def Gl (X:Cx) (x:Str):Prop:=X.env.kindOf x=some .globalImplicit
theorem qb4 {Q:Value->Shared->Prop} (I:Inv X pins σ H s) (b:Gl X x) (c:X.mg x=some u) (h:Q u s)
  (a:(x==("__debug__":Str))=false:=by decide):wpAny (model X.prog X.w) X.A (eval (.Name x pos) X.env) Q E s:=
 Calls.Name_function_global I.ok.kind b (Calls.loadGlobal_global (by rw [I.ok.glob];exact I.mod.glob.keeps I.bk) c h) a
theorem qcp {Q:Value->Shared->Prop} (I:Inv X pins σ H s) (c:Gl X x) (d:X.mg x=none) (hv:bootBuiltins x=some u) (h:Q u s)
  (e:x≠"__name__":=by decide) (b:(x==("__debug__":Str))=false:=by decide):wpAny (model X.prog X.w) X.A (eval (.Name x pos) X.env) Q E s:=by
 obtain ⟨f,h1,a⟩:=I.mod.blt;exact Calls.Name_function_global I.ok.kind c (Calls.loadGlobal_builtin (by rw [I.ok.glob];exact I.mod.glob.keeps I.bk) d (by rw [I.ok.blt];exact h1.keeps I.bk) ((a x e).trans hv) h) b
theorem pe_glob (b:Gl X x) (c:X.mg x=some u) (r:RelV v u) (a:(x==("__debug__":Str))=false:=by decide):PE X (.Name x pos) (tC v):=
 fun _ _ _ H _ I h=>qb4 I b c ⟨v,H,I,r,h⟩ a
theorem j5 (b:Gl X x) (c:X.mg x=none) (hv:bootBuiltins x=some u) (r:RelV v u) (d:x≠"__name__":=by decide) (a:(x==("__debug__":Str))=false:=by decide):PE X (.Name x pos) (tC v):=
 fun _ _ _ H _ I h=>qcp I b c hv ⟨v,H,I,r,h⟩ d a
variable {a b:Expr} {ta tb:TE} {pos:Pos}
def tB (t:TE):TT:=fun σ H Q=>t σ H fun x a=>∃ c,x=.bl c/\Q c a
theorem jh (h:PE X e t) (f:∀ a,isTrue e X.env a=(do let v <- a;standAt e.pos;holding [v] (truthy v)):=by intro _;rfl):PT X e (tB t):=by
 intro pins s σ H Q I hw;refine isTrue_plain (thn (h pins s σ H _ I hw) fun v l ⟨x,b,c,i,g⟩=>?_) (f _);obtain ⟨d,rfl,q⟩:=g;cases i;exact Y3 ⟨b,c,q⟩
variable {tA tB':TT} {qbt:List Expr}
def qeW (t u:TT):TT:=fun σ H Q=>t σ H fun c a=>if c=true then u σ a Q else Q false a
def tOr (t u:TT):TT:=fun σ H Q=>t σ H fun c a=>if c=true then Q true a else u σ a Q
def qeX (t:TT):TT:=fun σ H Q=>t σ H fun c a=>Q (!c) a
theorem zx (b:PT X a tA):PW X (.BoolOp .And [a] pos) tA:=by
 intro f pins s σ H Q I h;refine isTrue_and (thn (b pins s σ H Q I h) fun c d e=>?_)
 cases c with
 | true=>exact isTrue_and_nil e
 | false=>exact e
theorem zR (b:PT X a tA):PW X (.BoolOp .Or [a] pos) tA:=by
 intro f pins s σ H Q I h;refine isTrue_or (thn (b pins s σ H Q I h) fun c d e=>?_)
 cases c with
 | false=>exact isTrue_or_nil e
 | true=>exact e
theorem qaw (g:PT X a tA) (i:PW X (.BoolOp .And (b::qbt) pos) tB'):PW X (.BoolOp .And (a::b::qbt) pos) (qeW tA tB'):=by
 intro m pins s σ H Q I h;refine isTrue_and (thn (g pins s σ H _ I h) fun c l ⟨d,e,f⟩=>?_)
 cases c with
 | true=>exact i m pins l σ d Q e f
 | false=>exact ⟨d,e,f⟩
theorem qaL (g:PT X a tA) (i:PW X (.BoolOp .Or (b::qbt) pos) tB'):PW X (.BoolOp .Or (a::b::qbt) pos) (tOr tA tB'):=by
 intro m pins s σ H Q I h;refine isTrue_or (thn (g pins s σ H _ I h) fun c l ⟨d,e,f⟩=>?_)
 cases c with
 | true=>exact ⟨d,e,f⟩
 | false=>exact i m pins l σ d Q e f
theorem jr (d:PT X a tA):PT X (.UnaryOp .Not a pos) (qeX tA):=by
 intro pins s σ H Q I h;exact isTrue_not (d pins s σ H (fun c b=>Q (!c) b) I h)
def qej (ta tb:TE):TE:=fun σ H Q=>ta σ H fun x a=>∃ c,x=.bl c/\if c=true then tb σ a Q else Q (.bl false) a
def qeY (ta tb:TE):TE:=fun σ H Q=>ta σ H fun x a=>∃ c,x=.bl c/\if c=true then Q (.bl true) a else tb σ a Q
def tNotV (ta:TE):TE:=fun σ H Q=>ta σ H fun x a=>∃ c,x=.bl c/\Q (.bl (!c)) a
theorem qaM {op} (h:PE X a t):PE X (.BoolOp op [a] pos) t:=fun pins s σ H Q I hw=>BoolOp_one (h pins s σ H Q I hw)
theorem qa2 (g:PE X a ta) (i:PE X (.BoolOp .And (b::qbt) pos) tb):PE X (.BoolOp .And (a::b::qbt) pos) (qej ta tb):=by
 intro pins s σ H Q I h;refine BoolOp_and (thn (g pins s σ H _ I h) fun v m ⟨x,e,f,l,d⟩=>?_);obtain ⟨c,rfl,d⟩:=d;cases l;refine Y3 ?_
 cases c with
 | true=>exact i pins m σ e Q f d
 | false=>exact ⟨.bl false,e,f,rfl,d⟩
theorem pe_or (g:PE X a ta) (i:PE X (.BoolOp .Or (b::qbt) pos) tb):PE X (.BoolOp .Or (a::b::qbt) pos) (qeY ta tb):=by
 intro pins s σ H Q I h;refine BoolOp_or (thn (g pins s σ H _ I h) fun v m ⟨x,e,f,l,d⟩=>?_);obtain ⟨c,rfl,d⟩:=d;cases l;refine Y3 ?_
 cases c with
 | false=>exact i pins m σ e Q f d
 | true=>exact ⟨.bl true,e,f,rfl,d⟩
def tIf (t:TT) (ta tb:TE):TE:=fun σ H Q=>t σ H fun c a=>if c=true then ta σ a Q else tb σ a Q
theorem pe_ifExp (hc:PT X c tA) (l:PE X a ta) (m:PE X b tb):PE X (.IfExp c a b pos) (tIf tA ta tb):=by
 intro pins s σ H Q I h;refine wpAny_IfExp (thn (hc pins s σ H _ I h) fun d i ⟨e,f,g⟩=>?_)
 cases d with
 | true=>exact l pins i σ e Q f g
 | false=>exact m pins i σ e Q f g
end
def SqL (K:yg) (H:Hp) (a:Addr) (xs:List V):Prop:=
 Rd H a (.lst xs) \/
  ∃ (o:Obj) (b:Array Value) (n:Nat),K.lookup a=some o/\o.cls=.type "list"/\o.dict=none/\o.data=.seq b n/\b.size<=sizeLine/\Vals xs b.toList
def SqT (K:yg) (H:Hp) (a:Addr) (xs:List V):Prop:=
 Rd H a (.tup xs) \/
  ∃ (o:Obj) (b:Array Value) (n:Nat),K.lookup a=some o/\o.cls=.type "tuple"/\o.data=.seq b n/\b.size<=sizeLine/\Vals xs b.toList
noncomputable def absV:Value->Option V
 | .none=>some .non
 | .bool b=>some (.bl b)
 | .int i _=>some (.int i)
 | .str x _=>some (.str x)
 | .bytes b _=>some (.byt b)
 | .float b _=>some (.flt b)
 | .ref a=>some (.ref a)
 | .type n=>some (.ty n)
 | _=>none
theorem RelV.abs {x:V} (r:RelV x u):absV u=some x:=by
 cases x with
 | non=>cases r;rfl
 | bl _=>cases r;rfl
 | int _=>obtain ⟨t,rfl⟩:=r;rfl
 | str _=>obtain ⟨t,rfl⟩:=r;rfl
 | byt _=>obtain ⟨t,rfl⟩:=r;rfl
 | flt _=>obtain ⟨t,rfl⟩:=r;rfl
 | ref _=>cases r;rfl
 | ty _=>cases r;rfl
theorem RelV.inj {x:V} (r:RelV x u) (q:RelV y u):x=y:=ym (r.abs.symm.trans q.abs)
theorem Vals.inj:∀ {xs ys:List V} {us:List Value},Vals xs us->Vals ys us->xs=ys
 | _,_,_,.nil,.nil=>rfl
 | _,_,_,.cons r t,.cons r' t'=>by rw [r.inj r',Vals.inj t t']
section
variable {X:Cx} {pins:List (Addr×Obj)} {σ:St} {H:Hp} {s:Shared} {a:Addr} {xs ys:List V}
theorem SqL.of {K:yg} (h:H a=some (.lst xs)):SqL K H a xs:=.inl (.inl h)
theorem SqT.of {K:yg} (h:H a=some (.tup xs)):SqT K H a xs:=.inl (.inl h)
theorem Inv.list (I:Inv X pins σ H s) (h:SqL X.K H a xs):∃ b:List Value,Vals xs b/\PlainL s.heap a b.toArray/\xs.length<=sizeLine:=by
 rcases h with h | ⟨o,b,n,hk,hc,hd,hs,hz,r⟩
 .obtain ⟨z,b,n,r,e⟩:=h.ok I.hok;exact ⟨b,r,⟨_,n,e,rfl,rfl,rfl⟩,z⟩
 .refine ⟨b.toList,r,⟨o,n,I.kIn a o hk,hc,hd,by simpa using hs⟩,?_⟩;have e:=r.length;simp only [Yh] at e;omega
theorem Inv.tuple (I:Inv X pins σ H s) (h:SqT X.K H a xs):∃ b:List Value,Vals xs b/\IsTup s.heap a b.toArray/\xs.length<=sizeLine:=by
 rcases h with h | ⟨o,b,n,hk,hc,hs,hz,r⟩
 .obtain ⟨z,b,r,p⟩:=h.ok I.hok;exact ⟨b,r,p,z⟩
 .refine ⟨b.toList,r,⟨o,I.kIn a o hk,hc,n,by simpa using hs⟩,?_⟩;have e:=r.length;simp only [Yh] at e;omega
theorem Inv.list_inj (I:Inv X pins σ H s) (h:SqL X.K H a xs) (h':SqL X.K H a ys):xs=ys:=by
 obtain ⟨b,r,⟨o,n,e,_,_,d⟩,_⟩:=I.list h;obtain ⟨its',r',⟨g,f,c,_,_,d'⟩,_⟩:=I.list h';rw [e] at c;cases c;rw [d] at d'
 injection d' with d1 _
 have:b=its':=by simpa using congrArg Array.toList d1
 subst this;exact r.inj r'
theorem Inv.tuple_inj (I:Inv X pins σ H s) (h:SqT X.K H a xs) (h':SqT X.K H a ys):xs=ys:=by
 obtain ⟨b,r,⟨o,e,_,n,d⟩,_⟩:=I.tuple h;obtain ⟨its',r',⟨g,c,_,f,d'⟩,_⟩:=I.tuple h';rw [e] at c;cases c;rw [d] at d'
 injection d' with d1 _
 have:b=its':=by simpa using congrArg Array.toList d1
 subst this;exact r.inj r'
end
noncomputable abbrev Cx.wish (X:Cx) (E:Value->Shared->Prop):Cx:={ X with xe:=E }
noncomputable abbrev Cx.nox (X:Cx):Cx:=X.wish fun _ _=>False
theorem Cx.Ok.wish (ok:X.Ok) (E:Value->Shared->Prop):(X.wish E).Ok:=
 ⟨ok.mod,ok.kind,ok.glob,ok.blt,ok.above,ok.inj,ok.has,ok.cab,ok.hd,ok.frames,ok.stk,ok.exf,ok.bs,ok.bsz,ok.noex,ok.exfs,ok.funs,ok.frf⟩
theorem Cx.Ok.unwish (ok:(X.wish E).Ok):X.Ok:=
 ⟨ok.mod,ok.kind,ok.glob,ok.blt,ok.above,ok.inj,ok.has,ok.cab,ok.hd,ok.frames,ok.stk,ok.exf,ok.bs,ok.bsz,ok.noex,ok.exfs,ok.funs,ok.frf⟩
section
variable {X:Cx} {pins:List (Addr×Obj)} {σ:St} {H:Hp} {s:Shared} {E:Value->Shared->Prop}
theorem Inv.wish (I:Inv X pins σ H s) (E:Value->Shared->Prop):Inv (X.wish E) pins σ H s:=⟨I.ok.wish E,I.os,I.bare,I.base,I.loc,I.cell,I.free,I.freeC,I.pin,I.hok,I.len⟩
theorem Inv.unwish (I:Inv (X.wish E) pins σ H s):Inv X pins σ H s:=⟨I.ok.unwish,I.os,I.bare,I.base,I.loc,I.cell,I.free,I.freeC,I.pin,I.hok,I.len⟩
theorem SP.unwish {f:Flow} (h:SP (X.wish E) pins D f s'):SP X pins D f s':=by
 cases f with
 | next=>obtain ⟨a,b,I,q⟩:=h;exact ⟨a,b,I.unwish,q⟩
 | brk=>obtain ⟨a,b,I,q⟩:=h;exact ⟨a,b,I.unwish,q⟩
 | cont=>obtain ⟨a,b,I,q⟩:=h;exact ⟨a,b,I.unwish,q⟩
 | ret u=>obtain ⟨v,a,b,I,r,q⟩:=h;exact ⟨v,a,b,I.unwish,r,q⟩
theorem PSs.nox {st:List Stmt} {t:TS} (h:PSs X.nox st t):PSs X st t:=fun pins s σ H D I hw =>
 YG (h pins s σ H D (I.wish _) hw) (fun _ _ q=>q.unwish) fun _ _ z=>False.elim z
end
section
variable {X:Cx} {st:Stmt} {qbt:List Stmt} {t u:TS} {e:Expr} {te:TE} {pos:Pos}
def qek:TS:=fun D σ H=>D.nx σ H
def qeK (t u:TS):TS:=fun D σ H=>t { D with nx:=u D } σ H
theorem qt:PSs X [] qek:=fun _ _ σ H _ I h=>XD ⟨σ,H,I,h⟩
theorem qc (h1:PS X st t) (d:PSs X qbt u):PSs X (st::qbt) (qeK t u):=by
 intro pins s σ H D I h;refine wpAny_execs_cons (thn (h1 pins s σ H { D with nx:=u D } I h) fun f e q=>?_)
 cases f with
 | next =>
  obtain ⟨a,b,c,q⟩:=q;exact d pins e a b D c q
 | ret v=>exact q
 | brk=>exact q
 | cont=>exact q
theorem qf (h1:PS X st t):PSs X [st] t:=by
 intro pins s σ H D I h;refine wpAny_execs_cons (thn (h1 pins s σ H D I h) fun f a q=>?_)
 cases f with
 | next=>exact XD q
 | ret v=>exact q
 | brk=>exact q
 | cont=>exact q
theorem Inv.quiet (I:Inv X pins σ H s):interactive X.env=false:=by simp [interactive,I.ok.kind]
def qel (te:TE):TS:=fun D σ H=>te σ H fun _ a=>D.nx σ a
theorem qV (c:PE X e te) (d:swapsWith e none pos.line X.env=pure false:=by rfl):PS X (.Expr e pos) (qel te):=by
 intro pins s σ H D I h;exact wpAny_Expr_any (thn (c pins s σ H _ I h) fun v i ⟨x,a,b,g,f⟩=>⟨σ,a,b,f⟩) I.quiet d
def qeZ (te:TE):TS:=fun D σ H=>te σ H D.rt
theorem qo (c:PE X e te):PS X (.Return (some e) pos) (qeZ te):=by
 intro pins s σ H D I h;exact wpAny_Return_some (thn (c pins s σ H _ I h) fun v g ⟨x,a,b,f,d⟩=>⟨x,σ,a,b,f,d⟩)
def qem:TS:=fun D _ H=>D.rt .non H
theorem ps_retN:PS X (.Return none pos) qem:=fun _ _ σ H _ I h=>wpAny_Return_none ⟨.non,σ,H,I,rfl,h⟩
def qe0 (c:TT) (t u:TS):TS:=fun D σ H=>c σ H fun b a=>if b=true then t D σ a else u D σ a
theorem qN {a b:List Stmt} (hc:PT X c tc) (l:PSs X a t) (m:PSs X b u):PS X (.If c a b pos) (qe0 tc t u):=by
 intro pins s σ H D I h;refine wpAny_If (thn (hc pins s σ H _ I h) fun d i ⟨e,f,g⟩=>?_)
 cases d with
 | true=>exact l pins i σ e D f g
 | false=>exact m pins i σ e D f g
def tNever:TS:=fun _ _ _=>False
theorem jA:PS X st tNever:=fun _ _ _ _ _ _ h=>h.elim
end
abbrev TG:=V->St->Hp->(St->Hp->Prop)->Prop
abbrev TGs:=List V->St->Hp->(St->Hp->Prop)->Prop
def PG (X:Cx) (a:Expr) (t:TG):Prop:=
 ∀ (pins:List (Addr×Obj)) (s:Shared) (σ:St) (H:Hp) (v:V) (u:Value) (Q:St->Hp->Prop),Inv X pins σ H s->RelV v u->t v σ H Q ->
  wpAny (model X.prog X.w) X.A (assign a X.env u) (fun _ s'=>∃ b c,Inv X pins b c s'/\Q b c) X.xe s
def PGs (X:Cx) (c:List Expr) (t:TGs):Prop:=
 ∀ (pins:List (Addr×Obj)) (s:Shared) (σ:St) (H:Hp) (vs:List V) (us:List Value) (Q:St->Hp->Prop),Inv X pins σ H s->Vals vs us->t vs σ H Q ->
  wpAny (model X.prog X.w) X.A (assignInOrder ((assignEach c X.env).map (·.2)) us) (fun _ s'=>∃ a b,Inv X pins a b s'/\Q a b) X.xe s
abbrev qen:=V->V->V->Hp->(Hp->Prop)->Prop
def qeL (X:Cx) (t:qen):Prop:=
 ∀ (pins:List (Addr×Obj)) (s:Shared) (σ:St) (H:Hp) (o i v:V) (c b u:Value) (Q:Hp->Prop),Inv X pins σ H s->RelV o c->RelV i b->RelV v u->t o i v H Q ->
  wpAny (model X.prog X.w) X.A (setItem c b u) (fun _ s'=>∃ a,Inv X pins σ a s'/\Q a) X.xe s
section
variable {X:Cx} {pos:Pos}
def qb5 (i:Nat):TG:=fun v σ H Q=>Q (σ.set i (some v)) H
theorem qr (b:X.N.Nodup) (d:X.N[i]?=some x) (e:Loc X.env.scope x) (c:X.fn x=true\/X.env.scope.names.lookup x=some .local:=by first | exact .inl rfl | exact .inr rfl | assumption):PG X (.Name x pos) (qb5 i):=by
 intro pins s σ H v u Q I r h;exact wpAny_assign_Name (qco I b d e r (fun s' a=>⟨_,H,a,h⟩) c)
def gNil:TGs:=fun vs σ H Q=>vs=[]/\Q σ H
def gCons (t:TG) (u:TGs):TGs:=fun vs σ H Q=>∃ v r,vs=v::r/\t v σ H fun a b=>u r a b Q
theorem qcX:PGs X [] gNil:=by
 intro pins s σ H vs us Q I r h;obtain ⟨e,h⟩:=h;subst e;cases r;exact assignInOrder_nil ⟨σ,H,I,h⟩
theorem qaA {t:TG} {u:TGs} (h1:PG X e t) (f:PGs X es u)
  (g:(assignEach (e::es) X.env).map (·.2)=assign e X.env::(assignEach es X.env).map (·.2):=by rfl):PGs X (e::es) (gCons t u):=by
 intro pins s σ H vs us Q I r h;obtain ⟨v,m,d,h⟩:=h;subst d
 cases r with
 | cons r rr =>
  rw [g];refine assignInOrder_cons (thn (h1 pins s σ H _ _ _ I r h) fun _ l ⟨a,b,c,i⟩=>?_);exact f pins l a b _ _ Q c rr i
def qeM (K:yg) (n:Nat) (t:TGs):TG:=fun v σ H Q=>∃ a xs,v=.ref a/\SqT K H a xs/\xs.length=n/\t xs σ H Q
theorem qdF {k:Nat} {t:TGs} (hc:X.calm=true) (h:PGs X es t)
  (i:(assignEach es X.env).length=n:=by rfl) (c:(assignEach es X.env).findIdx? (·.1)=none:=by rfl):PG X (.Tuple es k pos) (qeM X.K n t):=by
 intro pins s σ H v u Q I r hw;obtain ⟨a,xs,g,l,hl,hw⟩:=hw;subst g;cases r;obtain ⟨q,d,m,hz⟩:=I.tuple l;refine assign_Tuple_tuple (I.ok.hd hc) m (by simp [i,<- hl,d.length]) c fun h' p=>?_;have f:Inv X pins σ H { s with heap:=h' }:=I.kept (t':=s.toks) fun b o e=>p b o (y0 (yM e)) e;exact h pins _ σ H xs _ Q f (by simpa using d) hw
def qe1 (e d:TE) (t:qen):TG:=fun v σ H Q=>e σ H fun o a=>d σ a fun i b=>t o i v b fun c=>Q σ c
theorem j6 {o i:Expr} {d c:TE} {t:qen} (w:PE X o d) (q:PE X i c) (z:qeL X t)
  (p:∀ v,assign (.Subscript o i pos) X.env v=(do
   let a <- holding [v] (eval o X.env);let b <- holding [v,a] (eval i X.env)
   standAt pos
   holding [v,a,b] (setItem a b v)
   release [v,a,b] []):=by intro _;rfl):PG X (.Subscript o i pos) (qe1 d c t):=by
 intro pins s σ H v u Q I r h;rw [p];refine yr (Yn (thn (w pins s σ H _ I h) fun a F ⟨x,e,l,D,A⟩=>?_));refine yr (Yn (thn (q pins F σ e _ l A) fun b G ⟨y,f,m,E,B⟩=>?_));refine yr (wpAny_standAt (yr (Yn (thn (z pins G σ f x y v a b u _ m D E r B) fun _ J ⟨g,n,C⟩=>?_))));exact wpAny_release ⟨σ,g,n,C⟩
def qee (te:TE) (g:TG):TS:=fun D σ H=>te σ H fun x a=>g x σ a D.nx
theorem jV (c:PE X e te) (d:PG X tg g) (f:swapsWithSole [tg] e pos.line X.env=pure false:=by rfl) (hw:swappedStores [tg] e X.env=pure none:=by rfl)
  (h1:(assignEach [tg] X.env).map (·.2)=[assign tg X.env]:=by rfl):PS X (.Assign [tg] e pos) (qee te g):=by
 intro pins s σ H D I h;refine wpAny_Assign_stores (thn (c pins s σ H _ I h) fun v m ⟨x,a,b,l,i⟩=>?_) f hw;rw [h1];exact thn (d pins m σ a x v _ b l i) fun _ n q=>q
theorem qq {a:Pos} (f:X.N.Nodup) (m:X.N[i]?=some x) (o:Loc X.env.scope x) (g:PE X e te) (n:swapsWith e (some (.Name x a)) pos.line X.env=pure false:=by rfl) (l:X.fn x=true\/X.env.scope.names.lookup x=some .local:=by first | exact .inl rfl | exact .inr rfl | assumption) :
  PS X (.Assign [.Name x a] e pos) (qee te (qb5 i)):=by
 intro pins s σ H D I h;refine wpAny_Assign_Name (thn (g pins s σ H _ I h) fun v r ⟨y,b,c,q,p⟩=>?_) n;exact qco c f m o q (fun t d=>⟨_,b,d,p⟩) l
end
section
variable {X:Cx} {pos:Pos}
def tWhile (c:TT) (tb:TS):TS:=fun D σ H=>∃ W:Nat->St->Hp->Prop,(∃ m,W m σ H)/\∀ m σ H,W m σ H ->
 c σ H fun b e=>if b=true then ∃ N:St->Hp->Prop,(∀ a d,N a d->∃ f,f<m/\W f a d)/\tb { D with nx:=N,ct:=N,bk:=D.nx } σ e else D.nx σ e
theorem qaB (C:PassesOwn (model X.prog X.w) X.A X.env X.xe) (hc:PT X c tc) (F:PSs X body tb):PS X (.While c body [] pos) (tWhile tc tb):=by
 intro pins s σ H D I h;obtain ⟨W,⟨G,L⟩,g⟩:=h;refine wpAny_While (codeAny_whileLoop (fun n s'=>∃ i u,Inv X pins i u s'/\W n i u) ?_ G ⟨σ,H,I,L⟩);rintro n J ⟨d,x,E,M⟩;refine xr C (thn (hc pins J d x _ E (g n d x M)) fun b K ⟨y,z,l⟩=>?_)
 cases b with
 | true =>
  obtain ⟨N,B,l⟩:=l;rw [yK rfl];refine xr C (thn (F pins K d y _ z l) fun f O m=>?_)
  cases f with
  | next =>
   obtain ⟨a,e,o,r⟩:=m;obtain ⟨q,p,t⟩:=B a e r;exact ⟨q,p,a,e,o,t⟩
  | cont =>
   obtain ⟨a,e,o,r⟩:=m;obtain ⟨q,p,t⟩:=B a e r;exact ⟨q,p,a,e,o,t⟩
  | brk=>exact m
  | ret v=>exact m
 | false =>
  rw [yD Yd];exact XD ⟨d,y,z,l⟩
end
structure It where
 go:Nat->Hp->Prop
 yld:Nat->Hp->V->Hp->Prop
 stop:Nat->Hp->Prop
def qcP (X:Cx) (pins:List (Addr×Obj)) (H:Hp) (b:Addr):Prop:=
 H b=none/\b≠X.env.locals/\b∉X.fs/\(b∈X.ex\/X.s₀.heap.objs.size<=b)/\(∀ x c,X.env.cells.lookup x=some c->c≠b)/\∀ p∈X.pn++pins,p.1≠b
theorem Inv.fpOk {d:Hp} (I:Inv X pins σ H s) (a:s.heap.objs.size<=b) (f:d b=none):qcP X pins d b:=by
 refine ⟨f,Xm (yj I.lt a),I.nofs a,.inr (yi I.sz a),fun x c e z=>?_,fun p g z=>?_⟩
 .obtain ⟨v,q⟩:=I.cell x c e;exact absurd (yj q.lt (by rw [z];exact a)) (Yo _)
 .exact absurd (yj (yM (I.pin p g).1) (by rw [z];exact a)) (Yo _)
structure Turn (P:Program) (w:World) (K:yg) (tg:Expr) (J:It) (fp:List Addr) (it:Addr) (tn:Nat->Heap->Prop):Prop where
 mem:it∈fp
 obj:∀ i h,tn i h->∀ b∈fp,∃ o,h.get? b=some o/\∀ v,o.data≠.cell v
 keep:∀ i h h',tn i h->(∀ b∈fp,∀ o,h.get? b=some o->h'.get? b=some o)->tn i h'
 item:∀ (X:Cx),X.prog=P->X.w=w->X.K=K->X.calm=true->∀ (i:Nat) (pins:List (Addr×Obj)) (s:Shared) (σ:St) (H:Hp) (E:Value->Shared->Prop),Inv X pins σ H s->(∀ b∈fp,qcP X pins H b)->tn i s.heap->J.go i H ->
  wpAny (model P w) X.A (pyNext (.ref it)) (fun r s1=>∃ u,r=some u /\
   wpAny (model P w) X.A (letOwnedTupleGo tg (.ref it) u) (fun _ s2=>∃ x H',Inv X pins σ H' s2/\RelV x u/\J.yld i H x H'/\tn (i+1) s2.heap/\∀ b∈fp,H' b=none) E s1) E s
 done:∀ (X:Cx),X.prog=P->X.w=w->X.K=K->X.calm=true->∀ (i:Nat) (pins:List (Addr×Obj)) (s:Shared) (σ:St) (H:Hp) (E:Value->Shared->Prop),Inv X pins σ H s->(∀ b∈fp,qcP X pins H b)->tn i s.heap->J.stop i H ->
  wpAny (model P w) X.A (pyNext (.ref it)) (fun r s1=>r=none/\Inv X pins σ H s1) E s
 self:∀ (A:Around) (i:Nat) (s:Shared) (Q:Value->Shared->Prop) (E:Value->Shared->Prop),tn i s.heap->Q (.ref it) s->wpAny (model P w) A (pyIter (.ref it)) Q E s
abbrev TI:=St->Hp->(It->Hp->Prop)->Prop
def PIE (X:Cx) (pins:List (Addr×Obj)) (σ:St) (tg:Expr) (R:It->Hp->Prop) (c:Value) (d:Shared):Prop:=
 ∃ (it:Addr) (fp:List Addr) (e:Nat->Heap->Prop) (J:It) (a:Hp),c=.ref it/\Inv X pins σ a d/\Turn X.prog X.w X.K tg J fp it e/\e 0 d.heap/\(∀ b∈fp,qcP X pins a b)/\R J a
def PI (X:Cx) (tg a:Expr) (c:TI):Prop:=
 ∀ (pins:List (Addr×Obj)) (s:Shared) (σ:St) (H:Hp) (R:It->Hp->Prop),Inv X pins σ H s->c σ H R ->
  wpAny (model X.prog X.w) X.A (eval a X.env) (fun v b=>wpAny (model X.prog X.w) X.A (pyIter v) (PIE X pins σ tg R) X.xe b) X.xe s
theorem qd4 {o:Obj} {n:String} {vs:Array Value} {Q:Unit->Shared->Prop} (d:s.heap.get? it=some o) (hc:o.cls=.type n) (b:o.data=.fields vs)
    (c:["enumerate","zip","dict_itemiterator","dict_reverseitemiterator","odict_iterator","itertools.zip_longest","itertools.pairwise"].contains n=false) (a:Q () s):wpAny M A (letOwnedTupleGo tg (.ref it) u) Q E s:=by
  unfold letOwnedTupleGo;cases tg<;>first
    | exact yu a
    | (cases u<;>first
        | exact yu a
        | (refine yr (wpAny_load d ?_)
           rw [hc,b];show wpAny M A (if (["enumerate","zip","dict_itemiterator","dict_reverseitemiterator","odict_iterator","itertools.zip_longest","itertools.pairwise"].contains n&&vs[0]?==some (rawInt _))=true then _ else _) Q E s;rw [yD (by intro h;rw [c,Bool.false_and] at h;cases h)];exact yu a))
noncomputable def Itl (K:yg) (a:Addr):It:=
 ⟨fun i H=>∃ xs x,SqL K H a xs/\xs[i]?=some x,fun i H x b=>b=H/\∀ xs,SqL K H a xs->xs[i]?=some x,fun i H=>∃ xs,SqL K H a xs/\xs.length<=i⟩
noncomputable def Itt (K:yg) (a:Addr):It:=
 ⟨fun i H=>∃ xs x,SqT K H a xs/\xs[i]?=some x,fun i H x b=>b=H/\∀ xs,SqT K H a xs->xs[i]?=some x,fun i H=>∃ xs,SqT K H a xs/\xs.length<=i⟩
noncomputable def Itr (lo:Int) (n:Nat):It:=⟨fun i _=>i<n,fun i H x a=>a=H/\x=.int (lo+i),fun i _=>n<=i⟩
theorem qbx {K:yg} (a it:Addr):Turn P w K tg (Itl K a) [it] it (fun i h=>h.IsListIter it a i) where
 mem:=by simp
 obj:=fun i h st b f=>by
  have e:b=it:=by simpa using f
  subst e;obtain ⟨o,e,c,d⟩:=st;exact ⟨o,e,fun v z=>by rw [d] at z;cases z⟩
 keep:=fun i h h' st k=>st.at fun o e=>k it (by simp) o e
 item:=by
  intro X B hw A hc i pins s σ H E I l st C;subst B hw A;obtain ⟨xs,x,m,D⟩:=C;obtain ⟨F,G,p,hz⟩:=I.list m;obtain ⟨u,N,R⟩:=G.get D;obtain ⟨n,q,M,r,t,y⟩:=l it (by simp);refine wpAny_pyNext_list_item st p.isList (x:=u) (by simpa using N) fun h' g S=>?_;have J:Inv X pins σ H { s with heap:=h' }:=I.turned (t':=s.toks) (fun b o f e=>(S.2 b f).trans e) n q r t y;obtain ⟨o,e,c,d⟩:=id g;exact ⟨u,rfl,qd4 (s:={ s with heap:=h' }) e c d (by decide) ⟨x,H,J,R,⟨rfl,fun ys O=>by rw [I.list_inj O m];exact D⟩,g,fun b f=>(l b f).1⟩⟩
 done:=by
  intro X B hw A hc i pins s σ H E I l st C;subst B hw A;obtain ⟨xs,m,D⟩:=C;obtain ⟨F,G,p,hz⟩:=I.list m;obtain ⟨n,q,M,r,t,y⟩:=l it (by simp);have hl:=G.length;exact wpAny_pyNext_list_end (I.ok.hd hc) st p.isList (by simp;omega) fun h' L=>⟨rfl,I.turned (t':=s.toks) (fun b o f e=>L b o f e) n q r t y⟩
 self:=fun _ _ _ _ _ st h=>wpAny_pyIter_listiter st h
theorem turn_tuple {K:yg} (a it:Addr):Turn P w K tg (Itt K a) [it] it (fun i h=>h.IsTupleIter it a i) where
 mem:=by simp
 obj:=fun i h st b f=>by
  have e:b=it:=by simpa using f
  subst e;obtain ⟨o,e,c,d⟩:=st;exact ⟨o,e,fun v z=>by rw [d] at z;cases z⟩
 keep:=fun i h h' st k=>st.at fun o e=>k it (by simp) o e
 item:=by
  intro X C hw B hc i pins s σ H E I m st D;subst C hw B;obtain ⟨xs,x,n,F⟩:=D;obtain ⟨g,G,p,hz⟩:=I.tuple n;obtain ⟨u,N,R⟩:=G.get F;obtain ⟨q,r,M,t,y,A⟩:=m it (by simp);refine wpAny_pyNext_tuple_item st (show s.heap.IsTuple a g.toArray from p) (x:=u) (by simpa using N) fun h' l S=>?_;have J:Inv X pins σ H { s with heap:=h' }:=I.turned (t':=s.toks) (fun b o f e=>(S.2 b f).trans e) q r t y A;obtain ⟨o,e,c,d⟩:=id l;exact ⟨u,rfl,qd4 (s:={ s with heap:=h' }) e c d (by decide) ⟨x,H,J,R,⟨rfl,fun ys O=>by rw [I.tuple_inj O n];exact F⟩,l,fun b f=>(m b f).1⟩⟩
 done:=by
  intro X C hw B hc i pins s σ H E I m st D;subst C hw B;obtain ⟨xs,n,F⟩:=D;obtain ⟨g,G,p,hz⟩:=I.tuple n;obtain ⟨q,r,M,t,y,A⟩:=m it (by simp);have hl:=G.length;exact wpAny_pyNext_tuple_end (I.ok.hd hc) st (show s.heap.IsTuple a g.toArray from p) (by simp;omega) fun h' L=>⟨rfl,I.turned (t':=s.toks) (fun b o f e=>L b o f e) q r t y A⟩
 self:=fun _ _ _ _ _ st h=>wpAny_pyIter_tupleiter st h
theorem turn_range {K:yg} (it:Addr) (lo:Int) (n:Nat):Turn P w K tg (Itr lo n) [it] it (fun i h=>IsRangeIter h it (lo+(i:Nat)*1) ((n:Int)-(i:Nat)) 1) where
 mem:=by simp
 obj:=fun i h st b a=>by
  have e:b=it:=by simpa using a
  subst e
  exact ⟨_,st,fun v z=>by
   have C:Data.fields _=Data.cell v:=z;cases C⟩
 keep:=fun i h h' st k=>k it (by simp) _ st
 item:=by
  intro X r hw q hc i pins s σ H E I d st u;subst r hw q;obtain ⟨f,g,A,l,m,p⟩:=d it (by simp);have W:=Walks.range (prog:=X.prog) (w:=X.w) (I.ok.hd hc) it lo 1 n;refine W.item i s _ _ u st fun v h' tk hv c B=>?_;obtain ⟨t,rfl⟩:=hv;have x:Inv X pins σ H { s with heap:=h',toks:=tk }:=I.turned (fun b o a e=>B b o (by simpa using a) e) f g l m p;refine ⟨_,rfl,qd4 (s:={ s with heap:=h',toks:=tk }) (n:="range_iterator") c rfl rfl (by decide) ⟨.int (lo+i),H,x,⟨t,?_⟩,⟨rfl,rfl⟩,c,fun b a=>(d b a).1⟩⟩;rw [Int.mul_one]
 done:=by
  intro X r hw q hc i pins s σ H E I d st u;subst r hw q;obtain ⟨f,g,A,l,m,p⟩:=d it (by simp);exact wpAny_pyNext_range_end (I.ok.hd hc) st (by have:n<=i:=u;omega) fun h' y=>⟨rfl,I.turned (t':=s.toks) (fun b o a e=>y b o a e) f g l m p⟩
 self:=fun _ _ _ _ _ st h=>wpAny_pyIter_rangeiter st h
section
variable {X:Cx} {tg:Expr}
theorem range_it {R:It->Hp->Prop} {a:Int} {t u v:Tok} {tk:Nat} (I:Inv X pins σ H s) (h1:-(2 ^ 62)<=lo) (g:lo<2 ^ 62) (h:-(2 ^ 62)<=a) (i:a<2 ^ 62)
  (q:R (Itr lo (a-lo).toNat) H):wpAny (model X.prog X.w) X.A (pyIter (.ref s.heap.objs.size)) (PIE X pins σ tg R) E { s with heap:=s.heap.push { cls:=.type "range",data:=.fields #[.int lo t,.int a u,.int 1 v] },toks:=tk }:=by
 refine wpAny_pyIter_range (IsRange.new ..) (small_one h1 g h i) ?_;have c:Inv X pins σ H { s with heap:=s.heap.push { cls:=.type "range",data:=.fields #[.int lo t,.int a u,.int 1 v] },toks:=tk }:=I.kept fun b o e=>yv _ e;refine ⟨(s.heap.push { cls:=.type "range",data:=.fields #[.int lo t,.int a u,.int 1 v] }).objs.size,[(s.heap.push { cls:=.type "range",data:=.fields #[.int lo t,.int a u,.int 1 v] }).objs.size],_,_,H,rfl,
  c.kept (t':=tk) fun b o e=>yv _ e,turn_range _ lo (a-lo).toNat,?_,fun b l=>?_,q⟩
 .have d:lo+((0:Nat):Int)*1=lo:=by simp
  have f:(((a-lo).toNat:Nat):Int)-((0:Nat):Int)=Builtin.Range.rangeSize lo a 1:=by rw [rangeSize_one];split<;>omega
  show IsRangeIter _ _ (lo+((0:Nat):Int)*1) ((((a-lo).toNat:Nat):Int)-((0:Nat):Int)) 1;rw [d,f];exact yL _ rfl
 .have e:b=(s.heap.push { cls:=.type "range",data:=.fields #[.int lo t,.int a u,.int 1 v] }).objs.size:=by simpa using l
  subst e;exact c.fpOk (yh _) (c.hok.fresh (yh _))
def qeo (b:TA):TI:=fun σ H R=>b σ H fun vs a=>∃ j:Int,vs=[.int j]/\-(2 ^ 62)<=j/\j<2 ^ 62/\R (Itr 0 j.toNat) a
theorem jD {a:Expr} {c:TA} {p:Pos} (g:Gl X "range") (i:X.mg "range"=none) (f:PA X [a] c) (l:starEach [a] X.env=[(false,eval a X.env)]:=by rfl):PI X tg (.Call (.Name "range" p) [a] [] pos) (qeo c):=by
 intro pins s σ H R I h;refine Call_ (qcp I g i boot_range (PyProof.Rows.callWith_type1 (thn (f pos pins s σ H _ I h) fun us u ⟨vs,o,d,n,b⟩=>?_) l rfl));obtain ⟨j,e,b,m,q⟩:=b;subst e
 cases n with
 | cons r rr =>
  cases rr;obtain ⟨t,rfl⟩:=r;exact call_range_1 (range_it d (by omega) (by omega) b m (by simpa using q))
def qe2 (h:TI) (g:TG) (tb:TS):TS:=fun D σ H=>h σ H fun J e=>∃ W:Nat->Nat->St->Hp->Prop,(∃ m,W 0 m σ e)/\∀ i m σ H,W i m σ H ->
 (J.stop i H/\D.nx σ H)\/(J.go i H/\∃ N:St->Hp->Prop,(∀ b a,N b a->∃ d,d<m/\W (i+1) d b a)/\∀ x a,J.yld i H x a->g x σ a fun c f=>tb { D with nx:=N,ct:=N,bk:=D.nx } c f)
noncomputable def qby (fp:List Addr) (h:Heap):List (Addr×Obj):=fp.filterMap fun b=>(h.get? b).map fun o=>(b,o)
theorem zE {o:Obj} (a:b∈fp) (e:h.get? b=some o):(b,o)∈qby fp h:=List.mem_filterMap.mpr ⟨b,a,by rw [e];rfl⟩
theorem of_pinsAt {p:Addr×Obj} (d:p∈qby fp h):p.1∈fp/\h.get? p.1=some p.2:=by
 obtain ⟨b,c,e⟩:=List.mem_filterMap.mp d
 cases q:h.get? b with
 | none=>rw [q] at e;cases e
 | some o =>
  rw [q] at e;have a:(b,o)=p:=ym e;subst a;exact ⟨c,q⟩
theorem Inv.pinned (I:Inv X pins σ H s) (i:∀ b∈fp,qcP X pins H b) (l:∀ b∈fp,∃ o,s.heap.get? b=some o/\∀ v,o.data≠.cell v):Inv X (pins++qby fp s.heap) σ H s:=
 I.pins_of fun p m=>(yx.mp m).elim (fun z=>I.pin p (yH _ z)) fun z=>by
  obtain ⟨c,e⟩:=of_pinsAt z;obtain ⟨f,g,h,_⟩:=i p.1 c;obtain ⟨o,a,d⟩:=l p.1 c;rw [e] at a;cases a;exact ⟨e,f,g,h,d⟩
theorem Inv.unpinned {pl:List (Addr×Obj)} (I:Inv X (pins++pl) σ H s):Inv X pins σ H s:=I.pins_of fun p a=>I.pin p (yH _ (yE _ a))
theorem jp {t:Expr} {wi:TI} (K:PassesOwn (model X.prog X.w) X.A X.env X.xe) (hc:X.calm=true) (hi:PI X tg t wi) (hg:PG X tg g) (q:PSs X body tb)
  (hs:∀ x,foldedSetIterable t X.env x=pure x:=by intro _;rfl):PS X (.For tg t body [] pos) (qe2 wi g tb):=by
 intro pins s σ H D I h;refine wpAny_For (thn (hi pins s σ H _ I h) fun v s1 h1=>thn h1 fun ac s2 h2=>?_) hs;obtain ⟨it,fp,tn,J,H2,e,I2,T,aa,f2,W,⟨m0,w0⟩,P⟩:=h2;subst e;have y:∀ {C:Hp},(∀ b∈fp,C b=none)->∀ b∈fp,qcP X pins C b:=fun hn b q=>⟨hn b q,(f2 b q).2⟩;refine codeAny_forLoop_any (fun n s'=>∃ i z C,Inv X pins z C s'/\tn i s'.heap/\(∀ b∈fp,C b=none)/\W i n z C) ?_ m0 ⟨0,σ,H2,I2,aa,fun b q=>(f2 b q).1,w0⟩;rintro n s3 ⟨i,B,R,I3,M,G,w3⟩;rcases P i n B R w3 with ⟨O,qn⟩ | ⟨go,N,hN,step⟩
 .refine xr K (thn (T.done X rfl rfl rfl hc i pins s3 B R X.xe I3 (y G) M O) fun r s4 ⟨Y,I4⟩=>?_);subst Y;exact XD ⟨B,R,I4,qn⟩
 .refine xr K (thn (T.item X rfl rfl rfl hc i pins s3 B R X.xe I3 (y G) M go) fun r s4 ⟨u,Y,h4⟩=>?_);subst Y;refine xr K (thn h4 fun _ s5 ⟨x,H5,I5,r5,y5,F,U⟩=>?_);have S:=I5.pinned (y U) (T.obj _ _ F);refine xr K (thn (hg _ s5 B H5 x u _ S r5 (step x H5 y5)) fun _ s6 ⟨ab,H6,I6,q6⟩=>?_);refine xr K (thn (q _ s6 ab H6 _ I6 q6) fun f Z E=>?_)
  have p:∀ {a:St} {c:Hp},Inv X (pins++qby fp s5.heap) a c Z->N a c->∃ m,m<n/\∃ i z C,Inv X pins z C Z/\tn i Z.heap/\(∀ b∈fp,C b=none)/\W i m z C:=fun {a c} l L=>by
   obtain ⟨m',hm,w7⟩:=hN a c L;refine ⟨m',hm,i+1,a,c,l.unpinned,T.keep _ _ _ F fun b q o e=>(l.pin (b,o) (yH _ (yH _ (zE q e)))).1,fun b q=>?_,w7⟩;obtain ⟨o,e,d⟩:=T.obj _ _ F b q;exact (l.pin (b,o) (yH _ (yH _ (zE q e)))).2.1
  cases f with
  | next=>obtain ⟨a,c,l,L⟩:=E;exact p l L
  | cont=>obtain ⟨a,c,l,L⟩:=E;exact p l L
  | brk=>obtain ⟨a,c,l,E⟩:=E;exact ⟨a,c,l.unpinned,E⟩
  | ret v=>obtain ⟨x7,a,c,l,r7,E⟩:=E;exact ⟨x7,a,c,l.unpinned,r7,E⟩
end
theorem qX {K:yg} (b:Nat->St->Hp->Prop) (o:b 0 σ H) (hl:∀ i σ H,i<=xs.length->b i σ H->SqL K H a xs)
  (t:∀ i x σ H,xs[i]?=some x->b i σ H->g x σ H fun f l=>tb { D with nx:=b (i+1),ct:=b (i+1),bk:=D.nx } f l) (r:∀ σ H,b xs.length σ H->D.nx σ H) :
  ∃ W:Nat->Nat->St->Hp->Prop,(∃ m,W 0 m σ H)/\∀ i m σ H,W i m σ H ->
   ((Itl K a).stop i H/\D.nx σ H)\/((Itl K a).go i H/\∃ N:St->Hp->Prop,(∀ d c,N d c->∃ n,n<m/\W (i+1) n d c)/\∀ x c,(Itl K a).yld i H x c->g x σ c fun f l=>tb { D with nx:=N,ct:=N,bk:=D.nx } f l):=by
 refine ⟨fun i m σ H=>m=xs.length-i/\i<=xs.length/\b i σ H,⟨xs.length,by simp,YW _,o⟩,?_⟩;rintro i m σ H ⟨rfl,s,p⟩;have q:=hl i σ H s p;by_cases h:i<xs.length
 .refine .inr ⟨⟨xs,xs[i],q,by simp [h]⟩,b (i+1),fun d c u=>⟨xs.length-(i+1),by omega,rfl,h,u⟩,fun x c y=>?_⟩;obtain ⟨e,y⟩:=y;subst e;exact t i x σ _ (y xs q) p
 .have e:i=xs.length:=by omega
  subst e;exact .inl ⟨⟨xs,q,yh _⟩,r σ H p⟩
theorem zy (b:Nat->St->Hp->Prop) (o:b 0 σ H)
  (r:∀ i σ H,i<n->b i σ H->g (.int (lo+i)) σ H fun f h=>tb { D with nx:=b (i+1),ct:=b (i+1),bk:=D.nx } f h) (q:∀ σ H,b n σ H->D.nx σ H) :
  ∃ W:Nat->Nat->St->Hp->Prop,(∃ m,W 0 m σ H)/\∀ i m σ H,W i m σ H ->
   ((Itr lo n).stop i H/\D.nx σ H)\/((Itr lo n).go i H/\∃ N:St->Hp->Prop,(∀ d a,N d a->∃ l,l<m/\W (i+1) l d a)/\∀ x a,(Itr lo n).yld i H x a->g x σ a fun f h=>tb { D with nx:=N,ct:=N,bk:=D.nx } f h):=by
 refine ⟨fun i m σ H=>m=n-i/\i<=n/\b i σ H,⟨n,by simp,YW _,o⟩,?_⟩;rintro i m σ H ⟨rfl,t,p⟩;by_cases c:i<n
 .refine .inr ⟨c,b (i+1),fun d a s=>⟨n-(i+1),by omega,rfl,c,s⟩,fun x a y=>?_⟩;obtain ⟨e,y⟩:=y;subst e y;exact r i σ _ c p
 .have e:i=n:=by omega
  subst e;exact .inl ⟨yh _,q σ H p⟩
abbrev R2:=V->V->Hp->VK->Prop
def OpR (X:Cx) (f:Value->Value->Sem Value) (r:R2):Prop:=
 ∀ (pins:List (Addr×Obj)) (s:Shared) (σ:St) (H:Hp) (x y:V) (v u:Value) (Q:VK),Inv X pins σ H s->RelV x v->RelV y u->r x y H Q ->
  wpAny (model X.prog X.w) X.A (f v u) (EP X pins σ Q) X.xe s
def UnR (X:Cx) (f:Value->Sem Value) (r:V->Hp->VK->Prop):Prop:=
 ∀ (pins:List (Addr×Obj)) (s:Shared) (σ:St) (H:Hp) (x:V) (v:Value) (Q:VK),Inv X pins σ H s->RelV x v->r x H Q ->
  wpAny (model X.prog X.w) X.A (f v) (EP X pins σ Q) X.xe s
def zd (X:Cx) (f:Value) (r:List V->Hp->VK->Prop):Prop:=
 ∀ (pins:List (Addr×Obj)) (s:Shared) (σ:St) (H:Hp) (xs:List V) (us:List Value) (Q:VK),Inv X pins σ H s->Vals xs us->r xs H Q ->
  wpAny (model X.prog X.w) X.A (call f us) (EP X pins σ Q) X.xe s
def tOp (r:R2) (c tb:TE):TE:=fun σ H Q=>c σ H fun x a=>tb σ a fun y b=>r x y b Q
def tUn (r:V->Hp->VK->Prop) (b:TE):TE:=fun σ H Q=>b σ H fun x a=>r x a Q
def rI (C:Int->Int->Prop) (g:Int->Int->V):R2:=fun x y H Q=>∃ i j,x=.int i/\y=.int j/\C i j/\Q (g i j) H
def rI0 (g:Int->Int->V):R2:=fun x y H Q=>∃ i j,x=.int i/\y=.int j/\Q (g i j) H
def rU (g:Int->V):V->Hp->VK->Prop:=fun x H Q=>∃ i,x=.int i/\Q (g i) H
section
variable {X:Cx} {a b c:Expr} {ta tb tc:TE} {pos:Pos}
theorem qeN (n:PE X a ta) (o:PE X b tb) {R:V->V->Hp->Prop} (I:Inv X pins σ H s)
  (h:ta σ H fun x i=>tb σ i fun y c=>R x y c) {Q:Value->Shared->Prop}
  (p:∀ v u g x y c,Inv X pins σ c g->RelV x v->RelV y u->R x y c->wpAny (model X.prog X.w) X.A (f v u) Q X.xe g) :
  wpAny (model X.prog X.w) X.A (eval a X.env) (fun v d=>wpAny (model X.prog X.w) X.A (eval b X.env) (fun u e=>wpAny (model X.prog X.w) X.A (f v u) Q X.xe e) X.xe d) X.xe s:=by
 refine thn (n pins s σ H _ I h) fun v B ⟨x,i,l,t,q⟩=>?_;refine thn (o pins B σ i _ l q) fun u g ⟨y,c,m,z,r⟩=>?_;exact p v u g x y c m t z r
theorem qA {op:Operator} (g:OpR X (binaryOp op) r) (e:PE X a ta) (f:PE X b tb):PE X (.BinOp a op b pos) (tOp r ta tb):=by
 intro pins s σ H Q I h;exact wpAny_BinOp (qeN e f I h fun v u m x y c d i l q=>g pins m σ c x y v u Q d i l q)
theorem qbh {op:UnaryOp} {r:V->Hp->VK->Prop} (e:UnR X (unaryOp op) r) (d:PE X a ta):PE X (.UnaryOp op a pos) (tUn r ta):=by
 intro pins s σ H Q I h;exact UnaryOp_ (thn (d pins s σ H _ I h) fun v i ⟨x,b,c,g,f⟩=>e pins i σ b x v Q c g f)
theorem opI {C:Int->Int->Prop} {g:Int->Int->Int}
  (a:∀ (i j:Int) (t u:Tok) (s:Shared) (Q:Value->Shared->Prop) (E:Value->Shared->Prop),C i j->Q (.int (g i j) s.toks) { s with toks:=s.toks+1 }->wpAny (model X.prog X.w) X.A (f (.int i t) (.int j u)) Q E s) :
  OpR X f (rI C fun i j=>.int (g i j)):=by
 intro pins s σ H x y v u Q I b c h;obtain ⟨i,j,rfl,rfl,hc,q⟩:=h;obtain ⟨t,rfl⟩:=b;obtain ⟨t',rfl⟩:=c;exact a i j t t' s _ _ hc ⟨.int (g i j),H,I.tok _,⟨_,rfl⟩,q⟩
theorem qeC {g:Int->Int->Int}
  (a:∀ (i j:Int) (t u:Tok) (s:Shared) (Q:Value->Shared->Prop) (E:Value->Shared->Prop),Q (.int (g i j) s.toks) { s with toks:=s.toks+1 }->wpAny (model X.prog X.w) X.A (f (.int i t) (.int j u)) Q E s) :
  OpR X f (rI0 fun i j=>.int (g i j)):=by
 intro pins s σ H x y v u Q I b c h;obtain ⟨i,j,rfl,rfl,q⟩:=h;obtain ⟨t,rfl⟩:=b;obtain ⟨t',rfl⟩:=c;exact a i j t t' s _ _ ⟨.int (g i j),H,I.tok _,⟨_,rfl⟩,q⟩
theorem qeD {g:Int->Int->Bool}
  (a:∀ (i j:Int) (t u:Tok) (s:Shared) (Q:Value->Shared->Prop) (E:Value->Shared->Prop),Q (.bool (g i j)) s->wpAny (model X.prog X.w) X.A (f (.int i t) (.int j u)) Q E s) :
  OpR X f (rI0 fun i j=>.bl (g i j)):=by
 intro pins s σ H x y v u Q I b c h;obtain ⟨i,j,rfl,rfl,q⟩:=h;obtain ⟨t,rfl⟩:=b;obtain ⟨t',rfl⟩:=c;exact a i j t t' s _ _ ⟨.bl (g i j),H,I,rfl,q⟩
def CDiv (i j:Int):Prop:=0<j/\j<1073741824
def qe3 (i j:Int):Prop:=0<=j/\j<=1000000/\i.natAbs<2 ^ 64
def CMul (i j:Int):Prop:=(-(2 ^ 64)<i/\i<2 ^ 64)\/(-(2 ^ 64)<j/\j<2 ^ 64)
theorem CMul.ok {i j:Int} (h:CMul i j):IntMulOk i j:=by
 rcases h with ⟨h1,a⟩ | ⟨h1,a⟩
 .exact .of_left (intBits_le_64 h1 a)
 .exact .of_right (intBits_le_64 h1 a)
theorem two_pow_nn (k:Nat):(0:Int)<=2 ^ k:=by
 rw [two_pow_cast];exact Int.natCast_nonneg _
theorem op_add:OpR X (binaryOp .Add) (rI0 fun i j=>.int (i+j)):=qeC fun _ _ _ _ _ _ _ q=>add_int q
theorem qa3:OpR X (binaryOp .Sub) (rI0 fun i j=>.int (i-j)):=qeC fun _ _ _ _ _ _ _ q=>sub_int q
theorem op_mul:OpR X (binaryOp .Mult) (rI CMul fun i j=>.int (i*j)):=opI fun _ _ _ _ _ _ _ hc q=>mul_int q hc.ok
theorem qcY:OpR X (binaryOp .FloorDiv) (rI CDiv fun i j=>.int (i / j)):=opI fun i j _ _ _ _ _ hc q=>by
 have h1:(0:Int)<j:=hc.1;have a:j<1073741824:=hc.2;exact floordiv_int (by omega) (by rw [Int.fdiv_eq_ediv_of_nonneg i (by omega)];exact q) (.inl (PyProof.noPylong_small (by omega)))
theorem j7:OpR X (binaryOp .Mod) (rI (fun _ j=>0<j) fun i j=>.int (i % j)):=opI fun i j _ _ _ _ _ hc q=>by
 have h1:(0:Int)<j:=hc;exact mod_int' (by omega) (by rw [Int.fmod_eq_emod_of_nonneg i (by omega)];exact q)
theorem op_pow:OpR X (binaryOp .Pow) (rI qe3 fun i j=>.int (i ^ j.toNat)):=opI fun _ _ _ _ _ _ _ hc q=>pow_int_small hc.1 hc.2.1 hc.2.2 q
theorem qdG:OpR X (binaryOp .LShift) (rI qe3 fun i j=>.int (i*2 ^ j.toNat)):=opI fun _ _ _ _ _ _ _ hc q=>lshift_int_small hc.1 hc.2.1 hc.2.2 q
theorem op_shr:OpR X (binaryOp .RShift) (rI (fun _ j=>0<=j) fun i j=>.int (i / 2 ^ j.toNat)):=opI fun i j _ _ _ _ _ hc q =>
 rshift_int hc (by rw [Int.fdiv_eq_ediv_of_nonneg i (two_pow_nn _)];exact q)
theorem op_and:OpR X (binaryOp .BitAnd) (rI0 fun i j=>.int (Builtin.bitAnd i j)):=qeC fun _ _ _ _ _ _ _ q=>and_int q
theorem qep:OpR X (binaryOp .BitOr) (rI0 fun i j=>.int (Builtin.bitOr i j)):=qeC fun _ _ _ _ _ _ _ q=>or_int q
theorem unI {f:Value->Sem Value} {g:Int->Int}
  (a:∀ (i:Int) (t:Tok) (s:Shared) (Q:Value->Shared->Prop) (E:Value->Shared->Prop),Q (.int (g i) s.toks) { s with toks:=s.toks+1 }->wpAny (model X.prog X.w) X.A (f (.int i t)) Q E s) :
  UnR X f (rU fun i=>.int (g i)):=by
 intro pins s σ H x v Q I b h;obtain ⟨i,rfl,q⟩:=h;obtain ⟨t,rfl⟩:=b;exact a i t s _ _ ⟨.int (g i),H,I.tok _,⟨_,rfl⟩,q⟩
theorem zY:UnR X (unaryOp .USub) (rU fun i=>.int (-i)):=unI fun _ _ _ _ _ q=>neg_int q
end
noncomputable def scal:V->V->Bool
 | .non,.non=>true | .non,.int _=>true | .int _,.non=>true | .non,.bl _=>true | .bl _,.non=>true | .non,.str _=>true | .str _,.non=>true
 | .int _,.int _=>true | .bl _,.bl _=>true | .str _,.str _=>true | .byt _,.byt _=>true
 | .int _,.str _=>true | .str _,.int _=>true | .bl _,.str _=>true | .str _,.bl _=>true
 | _,_=>false
def rEq:R2:=fun x y H Q=>scal x y=true/\Q (.bl (decide (x=y))) H
theorem dec_bl {i j:Bool}:decide (V.bl i=V.bl j)=(i==j):=by
 rw [Y5];simp
section
variable {X:Cx} {a b c:Expr} {ta tb tc:TE} {pos:Pos}
theorem qcq {Q:VK} {k k':Bool} (I:Inv X pins σ H s) (q:Q (.bl k) H) (e:k=k'):EP X pins σ Q (.bool k') s:=by
 subst e;exact ⟨.bl k,H,I,rfl,q⟩
theorem qdw:OpR X (compareOp .Lt) (rI0 fun i j=>.bl (decide (i<j))):=qeD fun _ _ _ _ _ _ _ q=>lt_int q
theorem op_le:OpR X (compareOp .LtE) (rI0 fun i j=>.bl (decide (i<=j))):=qeD fun _ _ _ _ _ _ _ q=>le_int q
theorem qb6:OpR X (compareOp .Gt) (rI0 fun i j=>.bl (decide (j<i))):=qeD fun _ _ _ _ _ _ _ q=>gt_int q
theorem op_ge:OpR X (compareOp .GtE) (rI0 fun i j=>.bl (decide (j<=i))):=qeD fun _ _ _ _ _ _ _ q=>ge_int q
theorem op_isN:OpR X (compareOp .Is) (fun x y H Q=>y=.non/\Q (.bl (decide (x=.non))) H):=by
 intro pins s σ H x y v u Q I a b h;obtain ⟨rfl,q⟩:=h;cases b;refine is_none_gen (qcq I q ?_);cases x<;>first
  | (cases a;rfl)
  | (obtain ⟨t,rfl⟩:=a;rfl)
theorem qbi:OpR X (compareOp .IsNot) (fun x y H Q=>y=.non/\Q (.bl (!decide (x=.non))) H):=by
 intro pins s σ H x y v u Q I a b h;obtain ⟨rfl,q⟩:=h;cases b;refine isnot_none_gen (qcq I q ?_);cases x<;>first
  | (cases a;rfl)
  | (obtain ⟨t,rfl⟩:=a;rfl)
theorem qx (b:Expr) (h:op≠.In:=by decide) (d:op≠.NotIn:=by decide):behindInMarks op b=false:=by
 have a:(op==CmpOp.In)=false:=by cases op<;>first | rfl | exact absurd rfl h
 have c:(op==CmpOp.NotIn)=false:=by cases op<;>first | rfl | exact absurd rfl d
 cases b<;>simp [behindInMarks,a,c]
theorem jH (i:OpR X (compareOp op) r) (e:PE X a ta) (f:PE X b tb) (g:behindInMarks op b=false):PE X (.Compare a [op] [b] pos) (tOp r ta tb):=by
 intro pins s σ H Q I h;exact wpAny_Compare1 (qeN e f I h fun v u n x y c d l m q=>i pins n σ c x y v u Q d l m q) g
def qd5 (t:TE):TT:=fun σ H Q=>t σ H fun x a=>∃ k,x=.bl k/\Q k a
theorem qk (q:OpR X (compareOp op) r) (n:PE X a ta) (o:PE X b tb) (p:behindInMarks op b=false):PT X (.Compare a [op] [b] pos) (qd5 (tOp r ta tb)):=by
 intro pins s σ H Q I h
 refine wpAny_isTrue_Compare1 (thn (n pins s σ H _ I h) fun v E ⟨x,d,i,B,t⟩=>thn (o pins E σ d _ i t) fun u F ⟨y,f,l,C,w⟩ =>
  thn (q pins F σ f x y v u _ l B C w) fun c G ⟨z,g,m,D,k,e,A⟩=>?_) p
 subst e;cases D;exact Y3 ⟨g,m,A⟩
def qcZ (r r':R2) (ta tb tc:TE):TE:=fun σ H Q=>ta σ H fun x b=>tb σ b fun y c=>r x y c fun z a=>∃ k,z=.bl k /\
 (if k=true then tc σ a fun e d=>r' y e d Q else Q (.bl false) a)
theorem pe_chain (D:OpR X (compareOp op) r) (f:OpR X (compareOp op') r') (A:PE X a ta) (B:PE X b tb) (hc:PE X c tc)
  (C:lastMarks [op,op'] [b,c]=false:=by with_unfolding_all rfl):PE X (.Compare a [op,op'] [b,c] pos) (qcZ r r' ta tb tc):=by
 intro pins s σ H Q I h
 refine Compare_chain (thn (A pins s σ H _ I h) fun v M ⟨x,n,q,J,E⟩=>chain_link (thn (B pins M σ n _ q E) fun u N ⟨y,o,t,m,F⟩ =>
  thn (D pins N σ o x y v u _ t J m F) fun d O ⟨z,g,i,K,k,e,l⟩=>?_)) C
 subst e;cases K;refine Y3 ?_
 cases k with
 | false=>exact ite_ff ⟨.bl false,g,i,rfl,l⟩
 | true=>exact ite_tt (chain_last (thn (hc pins O σ g _ i l) fun R P ⟨S,p,w,L,G⟩=>f pins P σ p y S u R Q w m L G))
theorem pt_chain (J:OpR X (compareOp op) r) (f:OpR X (compareOp op') r') (E:PE X a ta) (F:PE X b tb) (hc:PE X c tc)
  (G:lastMarks [op,op'] [b,c]=false:=by with_unfolding_all rfl):PT X (.Compare a [op,op'] [b,c] pos) (qd5 (qcZ r r' ta tb tc)):=by
 intro pins s σ H Q I h
 refine isTrue_chain (thn (E pins s σ H _ I h) fun v U ⟨x,n,t,P,L⟩=>test_link (thn (F pins U σ n _ t L) fun u W ⟨y,o,w,m,M⟩ =>
  thn (J pins W σ o x y v u _ w P m M) fun d Y ⟨z,g,i,R,k,e,l⟩=>?_)) G
 subst e;cases R;refine Y3 ?_
 cases k with
 | false =>
  obtain ⟨k',C,K⟩:=l;cases C;exact ite_ff ⟨g,i,K⟩
 | true =>
  refine ite_tt (test_last (thn (hc pins Y σ g _ i l) fun w' Z ⟨z',p,A,S,N⟩=>thn (f pins Z σ p y z' u w' _ A m S N) fun d' s5 ⟨z2,q,B,T,k2,D,O⟩=>?_));subst D;cases T;exact Y3 ⟨q,B,O⟩
theorem qa4:(sizeLine:Nat)<2 ^ 63:=by rw [Yy];decide
theorem op_add_str:OpR X (binaryOp .Add) (fun x y H Q=>∃ i j,x=.str i/\y=.str j/\i.length+j.length<=sizeLine/\Q (.str (i++j)) H):=by
 intro pins s σ H x y v u Q I a b h;obtain ⟨i,j,rfl,rfl,hz,q⟩:=h;obtain ⟨t,rfl⟩:=a;obtain ⟨t',rfl⟩:=b;exact add_str (fun t' tk=>⟨.str (i++j),H,I.tok _,⟨_,rfl⟩,q⟩) hz
theorem qaz {x:V} (r:Vals [x] us):∃ u,us=[u]/\RelV x u:=by
 cases r with
 | cons r1 r2=>cases r2;exact ⟨_,rfl,r1⟩
theorem qc0 {x:V} (r:Vals [x,y] us):∃ u a,us=[u,a]/\RelV x u/\RelV y a:=by
 cases r with
 | cons r1 r2 =>
  cases r2 with
  | cons r3 r4=>cases r4;exact ⟨_,_,rfl,r1,r3⟩
theorem call_max2 (hc:X.calm=true):zd X (.builtin "max") (fun xs H Q=>∃ i j,xs=[.int i,.int j]/\Q (.int (if j>i then j else i)) H):=by
 intro pins s σ H xs us Q I r h;obtain ⟨i,j,rfl,q⟩:=h;obtain ⟨u,b,rfl,⟨t,rfl⟩,⟨t',rfl⟩⟩:=qc0 r;refine max_two_ints (I.ok.hd hc) fun h' tk k=>⟨_,H,I.kept k,?_,q⟩;by_cases a:j>i
 .rw [yK a,yK a];exact ⟨_,rfl⟩
 .rw [yD a,yD a];exact ⟨_,rfl⟩
theorem call_min2 (hc:X.calm=true):zd X (.builtin "min") (fun xs H Q=>∃ i j,xs=[.int i,.int j]/\Q (.int (if j<i then j else i)) H):=by
 intro pins s σ H xs us Q I r h;obtain ⟨i,j,rfl,q⟩:=h;obtain ⟨u,b,rfl,⟨t,rfl⟩,⟨t',rfl⟩⟩:=qc0 r;refine min_two_ints (I.ok.hd hc) fun h' tk k=>⟨_,H,I.kept k,?_,q⟩;by_cases a:j<i
 .rw [yK a,yK a];exact ⟨_,rfl⟩
 .rw [yD a,yD a];exact ⟨_,rfl⟩
theorem call_int1:zd X (.type "int") (fun xs H Q=>(∃ i,xs=[.int i]/\Q (.int i) H)\/∃ k,xs=[.bl k]/\Q (.int (if k then 1 else 0)) H):=by
 intro pins s σ H xs us Q I r h;rcases h with ⟨i,rfl,q⟩ | ⟨k,rfl,q⟩
 .obtain ⟨u,rfl,t,rfl⟩:=qaz r;exact call_int_int ⟨.int i,H,I,⟨_,rfl⟩,q⟩
 .obtain ⟨u,rfl,a⟩:=qaz r;cases a;exact call_int_bool ⟨.int (if k then 1 else 0),H,I.tok _,⟨_,rfl⟩,q⟩
end
structure ObjM (h:Heap) (x dx C:Addr) (mA:Str->Option Value):Prop where
 obj:h.get? x=some (PySem.W.instObj C dx)
 ns:h.Ns1 dx mA
 ne:dx≠x
theorem qbz (n:h.Ns1 dx mA):∃ od,h.get? dx=some od/\∀ name,PySem.W.lookIn name od=some (mA name):=by
 obtain ⟨o,es,ep,i,d,f,_,g⟩:=n;refine ⟨o,i,fun name=>?_⟩;have e:=g name;unfold nsFind findBy at e;rw [<- Array.find?_toList] at e;unfold PySem.W.lookIn;rw [d];dsimp only;split
 .rename_i y q
  rw [q] at e;exact congrArg some e
 .rename_i q
  rw [q] at e
  have a:es.toList.any (·.refKey)=false:=by
   rw [List.any_eq_false];intro y l;obtain ⟨z,t,b⟩:=f y (XB.mp l);simp [DictEntry.refKey,b]
  have c:¬ es.toList.any (·.refKey)=true:=by rw [a];exact Yd
  rw [yD c];exact congrArg some e
theorem ObjM.look {x:Addr} (I:ObjM h x dx C mA):∃ od,PySem.W.InstAt h x (PySem.W.instObj C dx) C (some od)/\∀ name,PySem.W.lookIn name od=some (mA name):=
 let ⟨od,ho,hl⟩:=qbz I.ns
 ⟨od,⟨I.obj,rfl,rfl,ho⟩,hl⟩
section
variable {prog:Program} {w:World} {A:Around} {E:Value->Shared->Prop} {s:Shared} {K:yg} {x dx C f:Addr} {mA:Str->Option Value} {name:Str} {v:Value}
theorem get_map {a:Bool} {Q:Value->Shared->Prop} (X:K.In s.heap) (I:ObjM s.heap x dx C mA) (d:PySem.W.plainGet K C name=true) (e:PySem.W.hasDictIn K C=true)
  (c:PySem.W.findIn K (.ref C) name=some none) (hv:mA name=some v) (b:PySem.W.handedIn v=true) (h:Q v { s with toks:=s.toks+1 }) :
  wpAny (model prog w) A (getAttr (.ref x) name a) Q E s:=by
 obtain ⟨od,J,hl⟩:=I.look;exact PySem.W.get_value X J (XR d).1 (PySem.W.findObj_own e c rfl (by rw [hl,hv])) b h
theorem get_meth {pl:Sem Bool} {Q:Value×List Value->Shared->Prop} (X:K.In s.heap) (I:ObjM s.heap x dx C mA) (a:PySem.W.plainGet K C name=true)
  (b:PySem.W.findIn K (.ref C) name=some (some (.ref f))) (c:PySem.W.isFn K (.ref f)=true) (hv:mA name=none) (h:Q (.ref f,[.ref x]) s) :
  wpAny (model prog w) A (getMethod (.ref x) name pl) Q E s:=by
 obtain ⟨od,J,hl⟩:=I.look;exact PySem.W.method_fn X J (XR a).1 (XR a).2 b (Yk.mp c) (by show (PySem.W.lookIn name od).map (·.isSome)=some false;rw [hl,hv];rfl) h
theorem set_map {ns:List Str} {Q:Unit->Shared->Prop} (X:K.In s.heap) (I:ObjM s.heap x dx C mA)
  (p:PySem.W.findIn K (.ref C) "__setattr__"=some (some (.builtin "object.__setattr__"))) (o:PySem.W.plainOver K C=true) (q:PySem.W.takerIn K C name=some none) (n:PySem.W.hasDictIn K C=true)
  (hw:PySem.Within mA ns) (hsz:ns.length<=sizeLine)
  (h:∀ h',ObjM h' x dx C (fun y=>if y=name then some v else mA y)->Heap.SameBut dx s.heap h'->Q () { s with heap:=h',toks:=s.toks+2 }) :
  wpAny (model prog w) A (setAttr (.ref x) name v) Q E s:=by
 obtain ⟨od,J,hl⟩:=I.look;refine PySem.W.set_plain X J p (PySem.W.osa_open (s:={ s with toks:=s.toks+1 }) (r:=none) X J o q fun b=>?_);obtain ⟨u,hc,f⟩:=xE n;have t:s.heap.get? x=some ⟨.ref C,some dx,.plain,#[]⟩:=I.obj;refine yr (yu (yr (yr (wpAny_loadPart t (yr (PySem.W.Looks.here (s:={ s with toks:=s.toks+1 }) (XS X hc) ?_))))));rw [f];refine yu (a:=some dx) (yr (yu (yr ?_)));refine wpAny_nsSet1 (s:={ s with toks:=s.toks+1 }) I.ns fun h' c d=>?_;obtain ⟨z,m,l,i,g,e⟩:=c.count (PySem.Within.cons name v hw);refine yr (wpAny_lookBehind i (by rw [g];exact pastItsLine_dict (yi e (by rw [yA];omega))) ?_);exact yu (h _ ⟨(d.2 _ (Yb I.ne)).trans I.obj,c,I.ne⟩ d)
theorem make_map {R:Result->Shared->Prop} {vs:List Value} (X:K.In s.heap) (c:PySem.W.makesIn K C=true)
  (b:PySem.W.findIn K (.ref C) "__init__"=some (some (.ref f))) (a:PySem.W.typeIn K (.ref f)=some (.type "function"))
  (h:codeAny (model prog w) (A.under (.builtin "type.__call__" ⟨.ref C::vs,kw⟩)) (.call (.ref f) ⟨.ref (s.heap.objs.size+1)::vs,kw⟩) (PySem.W.InitBack (s.heap.objs.size+1) R)
   { s with heap:=(s.heap.push PySem.W.emptyDict).push (PySem.W.instObj C s.heap.objs.size) }) :
  codeAny (model prog w) A (.call (.ref C) ⟨vs,kw⟩) R s:=by
 obtain ⟨e,g,d,t,i⟩:=s;exact PySem.W.make_core (PySem.W.makes_of X c) (Y2 X b) (fun self=>PySem.W.bind_fn X self a) (.inl rfl) h
end
noncomputable def qB (f:Str) (v:V):List (Str×V)->List (Str×V)
 | []=>[(f,v)]
 | (g,x)::r=>if g=f then (g,v)::r else (g,x)::qB f v r
theorem qy (f g:Str) (v:V):∀ fs:List (Str×V),(qB f v fs).lookup g=if g=f then some v else fs.lookup g
 | []=>by
  show List.lookup g [(f,v)]=_;by_cases h:g=f
  .have a:(g==f)=true:=Yk.mpr h;simp only [List.lookup,a,yK h]
  .have a:(g==f)=false:=YF.mpr h;simp only [List.lookup,a,yD h]
 | (k,x)::r=>by
  have c:=qy f g v r;rw [show qB f v ((k,x)::r)=(if k=f then (k,v)::r else (k,x)::qB f v r) from rfl];by_cases b:k=f
  .rw [yK b];by_cases h:g=k
   .have a:(g==k)=true:=Yk.mpr h;simp only [List.lookup,a,yK (h.trans b)]
   .have a:(g==k)=false:=YF.mpr h;simp only [List.lookup,a,yD (fun e:g=f=>h (e.trans b.symm))]
  .rw [yD b];by_cases h:g=k
   .have a:(g==k)=true:=Yk.mpr h;simp only [List.lookup,a,yD (fun e:g=f=>b (h.symm.trans e))]
   .have a:(g==k)=false:=YF.mpr h;simp only [List.lookup,a];exact c
theorem qaN (f:Str) (v:V):∀ fs:List (Str×V),f∈(qB f v fs).map (·.1)/\∀ g,g∈fs.map (·.1)->g∈(qB f v fs).map (·.1)
 | []=>⟨by simp [qB],fun g h=>by simp at h⟩
 | (k,x)::r=>by
  obtain ⟨b,c⟩:=qaN f v r;rw [show qB f v ((k,x)::r)=(if k=f then (k,v)::r else (k,x)::qB f v r) from rfl];by_cases a:k=f
  .rw [yK a];subst a;exact ⟨by simp,fun g h=>by simpa using h⟩
  .rw [yD a];refine ⟨?_,fun g h=>?_⟩
   .rw [Yv];exact yC _ b
   .rw [Yv] at h ⊢;rcases yy.mp h with e | e
    .exact yy.mpr (.inl e)
    .exact yC _ (c g e)
theorem jm (f:Str) (v:V):∀ fs:List (Str×V),(qB f v fs).length<=fs.length+1
 | []=>by simp [qB]
 | (k,x)::r=>by
  have b:=jm f v r;rw [show qB f v ((k,x)::r)=(if k=f then (k,v)::r else (k,x)::qB f v r) from rfl];by_cases a:k=f
  .rw [yK a,yA,yA];omega
  .rw [yD a,yA,yA];omega
theorem RelO.some_of {o:Option Value} (r:RelO (some v) o):∃ u,o=some u/\RelV v u:=by
 cases o with
 | none=>exact (show False from r).elim
 | some u=>exact ⟨u,rfl,r⟩
theorem RelO.none_of {o:Option Value} (r:RelO none o):o=none:=by
 cases o with
 | none=>rfl
 | some u=>exact (show False from r).elim
theorem qbA (r:RelV v u):PySem.W.handedIn u=true:=by
 cases v with
 | non=>cases (show u=Value.none from r);rfl
 | bl b=>cases (show u=Value.bool b from r);rfl
 | int i=>obtain ⟨t,e⟩:=(show ∃ t,u=Value.int i t from r);cases e;rfl
 | str x=>obtain ⟨t,e⟩:=(show ∃ t,u=Value.str x t from r);cases e;rfl
 | byt b=>obtain ⟨t,e⟩:=(show ∃ t,u=Value.bytes b t from r);cases e;rfl
 | flt b=>obtain ⟨t,e⟩:=(show ∃ t,u=Value.float b t from r);cases e;rfl
 | ref a=>cases (show u=Value.ref a from r);rfl
 | ty n=>cases (show u=Value.type n from r);rfl
section
variable {P:Program} {w:World} {H H':Hp} {h h':Heap} {a C dx:Addr} {fs fs':List (Str×V)}
theorem qal (b:HOk P w H h) (e:H a=some (.ins C dx fs)):∃ mA,ObjM h a dx C mA/\(∀ f,RelO (fs.lookup f) (mA f))/\PySem.Within mA (fs.map (·.1))/\fs.length<=1000/\H dx=some (.own a):=by
 obtain ⟨d,z,ne,c,mA,n,r,q⟩:=(show ObjOk P w H h a (.ins C dx fs) from b a _ e);exact ⟨mA,⟨c,n,ne⟩,r,q,z,d⟩
end
structure Cls (K:yg) (C:Addr):Prop where
 pg:PySem.W.plainGet K C Str.empty=true
 hd:PySem.W.hasDictIn K C=true
 po:PySem.W.plainOver K C=true
 sa:PySem.W.findIn K (.ref C) "__setattr__"=some (some (.builtin "object.__setattr__"))
theorem Cls.get {K:yg} (c:Cls K C) (f:Str):PySem.W.plainGet K C f=true:=c.pg
def NoAttr (K:yg) (C:Addr) (f:Str):Prop:=PySem.W.findIn K (.ref C) f=some none
theorem NoAttr.taker {K:yg} {f:Str} (n:NoAttr K C f):PySem.W.takerIn K C f=some none:=by
 unfold PySem.W.takerIn;rw [show PySem.W.findIn K (.ref C) f=some none from n];rfl
structure Con (K:yg) (C:Addr) (f:Str) (v:V) (u:Value):Prop where
 at_:PySem.W.findIn K (.ref C) f=some (some u)
 rel:RelV v u
 get:PySem.W.specialIn K u "__get__"=some none
 cp:PySem.W.copiedNames.contains f=false
structure Meth (K:yg) (C:Addr) (m:Str) (f:Addr):Prop where
 at_:PySem.W.findIn K (.ref C) m=some (some (.ref f))
 fn:PySem.W.isFn K (.ref f)=true
 kp:PySem.W.keepIn K (.ref f)=true
section
variable {X:Cx} {pins:List (Addr×Obj)} {σ:St} {H:Hp} {s:Shared} {a C dx:Addr} {fs:List (Str×V)} {f:Str} {v:V} {A:Around} {E:Value->Shared->Prop}
theorem getattr_ok {b:Bool} {Q:Value->Shared->Prop} (I:Inv X pins σ H s) (e:H a=some (.ins C dx fs)) (c:Cls X.K C) (n:NoAttr X.K C f) (l:fs.lookup f=some v)
  (h:∀ u s',Inv X pins σ H s'->RelV v u->Q u s'):wpAny (model X.prog X.w) A (getAttr (.ref a) f b) Q E s:=by
 obtain ⟨mA,O,r,_,_,_⟩:=qal I.hok e;obtain ⟨u,g,d⟩:=RelO.some_of (v:=v) (o:=mA f) (by rw [<- l];exact r f);exact get_map I.kIn O (c.get f) c.hd n g (qbA d) (h u _ (I.tok _) d)
theorem qa5 {m:Str} {g:Addr} {pl:Sem Bool} {Q:Value×List Value->Shared->Prop} (I:Inv X pins σ H s) (e:H a=some (.ins C dx fs)) (c:Cls X.K C) (k:Meth X.K C m g) (l:fs.lookup m=none)
  (h:Q (.ref g,[.ref a]) s):wpAny (model X.prog X.w) A (getMethod (.ref a) m pl) Q E s:=by
 obtain ⟨mA,O,r,_,_,_⟩:=qal I.hok e;have b:mA m=none:=RelO.none_of (by rw [<- l];exact r m);exact get_meth I.kIn O (c.get m) k.at_ k.fn b h
theorem setattr_ok {Q:Unit->Shared->Prop} (I:Inv X pins σ H s) (e:H a=some (.ins C dx fs)) (c:Cls X.K C) (n:NoAttr X.K C f) (hl:fs.length<1000) (v:RelV y u)
  (h:∀ s',Inv X pins σ (upd H a (.ins C dx (qB f y fs))) s'->Q () s'):wpAny (model X.prog X.w) A (setAttr (.ref a) f u) Q E s:=by
 obtain ⟨mA,O,r,l,_,i⟩:=qal I.hok e;have hz:(fs.map (·.1)).length<=sizeLine:=by rw [ya,Yy];omega
 refine set_map I.kIn O c.sa c.po n.taker c.hd l hz fun h' d B=>h _ ?_;have p:∃ o,h'.get? dx=some o:=let ⟨o,_,_,e',_⟩:=d.ns;⟨o,e'⟩;refine I.write (x:=a) (e:=dx) (by rw [e];exact YS) (.inr i) (fun b q m z=>(B.2 b m).trans z) p ?_;refine ⟨by rw [qe O.ne];exact i,?_,O.ne,d.obj,_,d.ns,fun g=>?_,fun g t=>?_⟩
 .have:=jm f y fs;omega
 .show RelO ((qB f y fs).lookup g) (if g=f then some u else mA g);rw [qy];by_cases q:g=f
  .rw [yK q,yK q];exact v
  .rw [yD q,yD q];exact r g
 .by_cases q:g=f
  .rw [q];exact (qaN f y fs).1
  .refine (qaN f y fs).2 g (l g fun z=>t ?_);show (if g=f then some u else mA g)=none;rw [yD q];exact z
theorem Inv.made (I:Inv X pins σ H s):Inv X pins σ (upd (upd H s.heap.objs.size (.own (s.heap.objs.size+1))) (s.heap.objs.size+1) (.ins C s.heap.objs.size []))
  { s with heap:=(s.heap.push PySem.W.emptyDict).push (PySem.W.instObj C s.heap.objs.size) }:=by
 have c:(s.heap.push PySem.W.emptyDict).get? s.heap.objs.size=some PySem.W.emptyDict:=yL s.heap rfl
 have f:((s.heap.push PySem.W.emptyDict).push (PySem.W.instObj C s.heap.objs.size)).get? (s.heap.objs.size+1)=some (PySem.W.instObj C s.heap.objs.size):=by
  have:=yL (s.heap.push PySem.W.emptyDict) (o:=PySem.W.instObj C s.heap.objs.size) rfl
  rwa [YJ] at this
 have g:(s.heap.push PySem.W.emptyDict).Ns s.heap.objs.size (fun _=>none):=⟨PySem.W.emptyDict,#[],_,c,rfl,(fun e h=>absurd h (by simp)),fun _=>rfl⟩;have d:=I.laid (a:=s.heap.objs.size) (o:=.own (s.heap.objs.size+1)) (h':=s.heap.push PySem.W.emptyDict) (t':=s.toks) (fun b u q=>yv _ q) (yh _) ⟨_,c⟩;refine d.laid (a:=s.heap.objs.size+1) (o:=.ins C s.heap.objs.size []) (t':=s.toks) (fun b u q=>yv _ q) (XU (YJ _ _)) ?_;have ne:s.heap.objs.size≠s.heap.objs.size+1:=y0 (xF _);refine ⟨by rw [qe ne,qb],YW _,ne,f,fun _=>none,(Heap.Ns1.of_empty g).at fun o q=>yv _ q,fun _=>YS,fun y i=>absurd rfl i⟩
theorem attr_of {prog:Program} {env:Env} {f:Str} {Q:Value->Shared->Prop} (b:attributeBase e f env (eval e env)=eval e env)
  (h:wpAny (model prog w) A (eval e env) (fun o a=>wpAny (model prog w) A (getAttr o f true) Q E a) E s):wpAny (model prog w) A (eval (.Attribute e f pos) env) Q E s:=
 Attribute_any_ h (by rw [arm_eval_Attribute,b])
end
section
variable {X:Cx} {o e value:Expr} {f:Str} {pos pos' tpos:Pos} {ta tv:TE}
end
section
variable {X:Cx} {pins:List (Addr×Obj)} {σ:St} {H:Hp} {s:Shared} {A:Around} {E:Value->Shared->Prop} {Q:Value->Shared->Prop} {c:Value} {b:Bool}
inductive TyOf (K:yg) (H:Hp):V->Value->Prop where
 | non:TyOf K H .non (.type "NoneType")
 | bl (x:Bool):TyOf K H (.bl x) (.type "bool")
 | int (i:Int):TyOf K H (.int i) (.type "int")
 | str (x:Str):TyOf K H (.str x) (.type "str")
 | flt (x:UInt64):TyOf K H (.flt x) (.type "float")
 | lst {a:Addr} {xs:List V} (e:H a=some (.lst xs)):TyOf K H (.ref a) (.type "list")
 | frz {a:Addr} {o:Obj} {xs:List V} (e:H a=some (.frz o (.lst xs))):TyOf K H (.ref a) (.type "list")
 | tup {a:Addr} {xs:List V} (e:H a=some (.tup xs)):TyOf K H (.ref a) (.type "tuple")
 | dK {a:Addr} {kvs:List (Key×V)} (e:H a=some (.dK kvs)):TyOf K H (.ref a) (.type "dict")
 | dT {a:Addr} {kvs:List (List Key×V)} (e:H a=some (.dT kvs)):TyOf K H (.ref a) (.type "dict")
 | ins {a C dx:Addr} {fs:List (Str×V)} (e:H a=some (.ins C dx fs)) (cl:Cls K C) (ha:PySem.W.findIn K (.ref C) "__class__"=some (some (.builtin "object.__class__")))
   (hn:PySem.W.specialIn K (.builtin "object.__class__") "__get__"=some (some (.builtin "getset_descriptor.__get__"))) (htk:PySem.W.takesIn K (.builtin "object.__class__")=some true)
   (hm:PySem.W.mroIn K C (.type "object")=some true):TyOf K H (.ref a) (.ref C)
end
structure Room (k:Nat) (A:Around):Prop where
 hd:A.handled=none
 dp:A.depth+3*k+5<recursionLimit
 un:A.units+16*k+200<cLine
 gd:A.guards=some []
theorem Room.mono {j k:Nat} (r:Room k A) (h:j<=k):Room j A:=⟨r.hd,by have:=r.dp;omega,by have:=r.un;omega,r.gd⟩
theorem Room.deeper {k:Nat} (r:Room (k+1) A) (env:Env):Room k (A.deeper env):=
 ⟨r.hd,by have:=r.dp;show A.depth+1+3*k+5<_;omega,by have:=r.un;show A.units+3+16*k+200<_;omega,r.gd⟩
theorem make_depth:(A.under (.builtin "type.__call__" ⟨.ref C::us,kw⟩)).depth=A.depth+1:=by
 first | rfl | simp [Around.under,Code.weight,Code.isCreation,Code.isGuard,Code.isCaller,Code.frames,Code.isFrame,guardIds]
theorem make_units:(A.under (.builtin "type.__call__" ⟨.ref C::us,kw⟩)).units=A.units+1:=by
 first | rfl | simp [Around.under,Code.cUnits,Code.frames,Code.isFrame]
theorem make_guards:(A.under (.builtin "type.__call__" ⟨.ref C::us,kw⟩)).guards=A.guards:=by
 first | rfl | simp [Around.under,Code.guards,Code.isGuard,guardIds,pushGuards]
theorem Room.make {k:Nat} (r:Room (k+1) A) (C:Addr) (us:List Value) (kw:List (Str×Value)):Room k (A.under (.builtin "type.__call__" ⟨.ref C::us,kw⟩)):=
 ⟨r.hd,by have:=r.dp;rw [make_depth];omega,by have:=r.un;rw [make_units];omega,by rw [make_guards];exact r.gd⟩
theorem Room.depth {k:Nat} (r:Room k A):A.depth<recursionLimit:=by have:=r.dp;omega
def qeE:TA:=fun _ H Q=>Q [] H
def qeq (c:TE) (d:TA):TA:=fun σ H Q=>c σ H fun x a=>d σ a fun xs b=>Q (x::xs) b
section
variable {X:Cx} {e:Expr} {es:List Expr} {te:TE} {t:TA} {pos:Pos}
theorem qd:PA X [] qeE:=fun _ _ _ _ H Q I h=>Calls.spliced_nil ⟨[],H,I,.nil,h⟩
theorem qa (f:PE X e te) (g:PA X es t) (i:starEach (e::es) X.env=(false,eval e X.env)::starEach es X.env:=by rfl):PA X (e::es) (qeq te t):=by
 intro pos pins s σ H Q I h;rw [i];show wpAny _ _ (spliced ((false,eval e X.env)::backTo pos (starEach es X.env))) _ _ s;refine Calls.spliced_cons (thn (f pins s σ H _ I h) fun u p ⟨x,a,c,n,l⟩=>?_);exact thn (g pos pins p σ a _ c l) fun us q ⟨xs,b,d,o,m⟩=>⟨x::xs,b,d,.cons n o,m⟩
inductive NewT (xs:List V) (H:Hp) (Q:VK):Prop|mk (_:xs.length<=sizeLine) (_:∀ p,H p=none->Q (.ref p) (upd H p (.tup xs)))
inductive NewL (xs:List V) (H:Hp) (Q:VK):Prop|mk (_:xs.length<=sizeLine) (_:∀ p,H p=none->Q (.ref p) (upd H p (.lst xs)))
def qe4 (t:TA):TE:=fun σ H Q=>t σ H fun xs a=>NewT xs a Q
def qe5 (t:TA):TE:=fun σ H Q=>t σ H fun xs a=>NewL xs a Q
theorem qax {x1} (h:PA X es t):PE X (.Tuple es x1 pos) (qe4 t):=by
 intro pins s σ H Q I g;refine wpAny_Tuple_spliced (thn (h pos pins s σ H _ I g) fun us a ⟨xs,c,d,r,z,q⟩=>⟨by rw [<- r.length];exact z,?_⟩);have f:c a.heap.objs.size=none:=d.hok.fresh (yh _);refine ⟨.ref a.heap.objs.size,upd c a.heap.objs.size (.tup xs),d.laid (t':=a.toks) (fun b u e=>yv _ e) (yh _) ?_,rfl,q _ f⟩;exact ⟨z,us,r,⟨_,yL _ rfl,rfl,_,rfl⟩⟩
theorem qO (h:PA X es t):PE X (.List es pos) (qe5 t):=by
 intro pins s σ H Q I g;refine wpAny_List_spliced (thn (h pos pins s σ H _ I g) fun us a ⟨xs,c,d,r,z,q⟩=>⟨by rw [<- r.length];exact z,?_⟩);have f:c a.heap.objs.size=none:=d.hok.fresh (yh _);refine ⟨.ref a.heap.objs.size,upd c a.heap.objs.size (.lst xs),d.laid (t':=a.toks) (fun b u e=>yv _ e) (yh _) ?_,rfl,q _ f⟩;exact ⟨z,us,0,r,yL _ rfl⟩
end
abbrev Sp:=List V->Hp->VK->XK->Prop
abbrev CXT:=List Env->Hp->Shared->XK->Value->Shared->Prop
structure Env0 (P:Program) (w:World) (K:yg) (mg:Str->Option Value) (base:Heap) (A:Around) (outer:List Env) (s:Shared) (H:Hp):Prop where
 frames:A.frames=some outer
 mod:Mod K mg base
 bs:∀ b o,base.get? b=some o->s.heap.get? b=some o/\H b=none
 bsz:base.objs.size<=s.heap.objs.size
 funs:s.heap.FunFrames base outer
 frf:∀ b∈frs outer,H b=none
 hok:HOk P w H s.heap
 bare:AllBare s.gens
def CE (outer:List Env) (P:Program) (w:World) (H:Hp) (s:Shared) (Q:VK) (u:Value) (s':Shared):Prop:=
 ∃ v a,s'.os=s.os/\AllBare s'.gens/\Un (frs outer) [] H a s.heap s'.heap/\HOk P w a s'.heap/\RelV v u/\Q v a
def CR (CX:CXT) (outer:List Env) (P:Program) (w:World) (H:Hp) (s:Shared) (Q:VK) (E:XK) (r:Result) (s':Shared):Prop:=
 match r with
 | .ok (.ret u)=>CE outer P w H s Q u s'
 | .ok _=>False
 | .error e=>CX outer H s E e s'
structure FnOk (P:Program) (w:World) (K:yg) (mg:Str->Option Value) (base:Heap) (CX:CXT) (k:Nat) (f:Addr) (fd:FuncData) (ps:List Str) (sp:Sp):Prop where
 len:∀ vs H Q E,sp vs H Q E->vs.length=ps.length
 run:∀ (A:Around) (outer:List Env) (s:Shared) (H:Hp) (args:Args) (us:List Value) (vs:List V) (Q:VK) (E:XK),Room k A->Env0 P w K mg base A outer s H->BindsTo s fd args (ps.zip us)->Vals vs us->sp vs H Q E ->
  codeAny (model P w) A (.call (.ref f) args) (CR CX outer P w H s Q E) s
theorem Env0.make {K:yg} (e:Env0 P w K mg base A outer s H) (C:Addr) (us:List Value) (kw:List (Str×Value)) :
  Env0 P w K mg base (A.under (.builtin "type.__call__" ⟨.ref C::us,kw⟩)) outer s H:=⟨by first | exact e.frames | (simpa [Around.under,Code.envs,Code.isFrame,pushEnvs] using e.frames),e.mod,e.bs,e.bsz,e.funs,e.frf,e.hok,e.bare⟩
section
variable {X:Cx} {pins:List (Addr×Obj)} {σ:St} {H:Hp} {s s':Shared}
theorem Inv.env0 (I:Inv X pins σ H s):Env0 X.prog X.w X.K X.mg X.base X.A X.stack s H:=
 ⟨I.ok.frames,I.ok.mod,I.bs,yi I.ok.bsz I.sz,I.stack,I.stkFree,I.hok,I.bare⟩
theorem Inv.after {Q:VK} (I:Inv X pins σ H s) (h:CE X.stack X.prog X.w H s Q u s'):EP X pins σ Q u s':=by
 obtain ⟨v,f,l,a,un,c,r,q⟩:=h;obtain ⟨i,g,d,t,e⟩:=s';obtain rfl:e=s.os:=l;exact ⟨v,f,I.call (h':=i) (g':=g) (d':=d) (t':=t) (ch:=[]) un c a (fun b z=>absurd z (by simp)),r,q⟩
end
def qd6 (sp:Sp) (a:List V) (E:XK) (t:TA):TE:=fun σ H Q=>t σ H fun vs b=>sp (vs++a) b Q E
inductive MeR (C:Addr) (m:Str) (x:V) (H:Hp) (k:Prop):Prop|mk (a dx:Addr) (fs:List (Str×V)) (_:x=.ref a) (_:H a=some (.ins C dx fs)) (_:fs.lookup m=none) (_:k)
def qc1 (C:Addr) (m:Str) (sp:Sp) (a:List V) (E:XK) (d:TE) (t:TA):TE:=fun σ H Q=>d σ H fun x b=>MeR C m x b (t σ b fun vs c=>sp (x::(vs++a)) c Q E)
def qd7 (C:Addr) (sp:Sp) (b:List V) (E:XK) (t:TA):TE:=fun σ H Q=>t σ H fun vs a=>∀ x dx,a x=none->a dx=none->dx≠x ->
 sp (.ref x::(vs++b)) (upd (upd a dx (.own x)) x (.ins C dx [])) (fun v c=>v=.non/\Q (.ref x) c) E
def Binds (K:yg) (b:FuncData) (ps:List Str) (a:List Value):Prop:=
 ∀ (s:Shared) (us:List Value),K.In s.heap->(us++a).length=ps.length->BindsTo s b ⟨us,[]⟩ (ps.zip (us++a))
theorem Binds.all {K:yg} {a:FuncData} (h:∀ us:List Value,us.length=ps.length->bindArgs a ⟨us,[]⟩=pure (ps.zip us)):Binds K a ps []:=fun s us _ hl=>by
 rw [Yl] at hl ⊢;exact .of_eq (h us hl)
def qay (CX:CXT) (X:Cx) (E:XK):Prop:=∀ (pins:List (Addr×Obj)) (σ:St) (H:Hp) (s:Shared) (e:Value) (s':Shared),Inv X pins σ H s->CX X.stack H s E e s'->X.xe e s'
section
variable {X:Cx} {CX:CXT} {k:Nat} {f C:Addr} {fd:FuncData} {ps:List Str} {sp:Sp} {dvs:List V} {ds:List Value} {E:XK} {x m:Str} {p pos apos:Pos} {e o:Expr} {es:List Expr} {ta:TE} {t:TA}
theorem qc2 {Q:VK} (F:FnOk X.prog X.w X.K X.mg X.base CX k f fd ps sp) (g:Room k X.A) (c:Binds X.K fd ps ds) (d:Vals dvs ds) (i:qay CX X E)
  (I:Inv X pins σ H s) (r:Vals vs us) (h:sp (vs++dvs) H Q E):wpAny (model X.prog X.w) X.A (call (.ref f) us) (EP X pins σ Q) X.xe s:=by
 have b:Vals (vs++dvs) (us++ds):=r.append d;have hl:(us++ds).length=ps.length:=by rw [<- b.length];exact F.len _ _ _ _ h
 refine Xv (xY (F.run X.A X.stack s H ⟨us,[]⟩ (us++ds) (vs++dvs) Q E g I.env0 (c s us I.kIn hl) b h) fun r s' a=>?_)
 cases r with
 | error e=>exact i pins σ H s e s' I a
 | ok fl =>
  cases fl with
  | ret u=>exact I.after a
  | next=>exact False.elim a
  | brk=>exact False.elim a
  | cont=>exact False.elim a
theorem pe_call (F:FnOk X.prog X.w X.K X.mg X.base CX k f fd ps sp) (u:Room k X.A) (m:Gl X x) (o:X.mg x=some (.ref f)) (n:PySem.W.keepIn X.K (.ref f)=true) (g:Binds X.K fd ps ds) (i:Vals dvs ds) (v:qay CX X E)
  (d:PA X (e::es) t) (a:(x==("__debug__":Str))=false:=by decide) (l:starEach (e::es) X.env=(false,eval e X.env)::starEach es X.env:=by rfl) (b:(backTo pos (starEach es X.env)).any (·.1)=false:=by rfl) :
  PE X (.Call (.Name x p) (e::es) [] pos) (qd6 sp dvs E t):=by
 intro pins s σ H Q I h;refine Xf (qb4 I m o ?_ a);refine XX (h₀:=X.base) I.ok.mod.kin n (thn (d pos pins s σ H _ I h) fun us z ⟨vs,y,c,r,q⟩=>⟨c.kIn,?_⟩) l b;exact qc2 F u g i v c r q
theorem pe_meth {pl:Sem Bool} (D:PE X o ta) (c:Cls X.K C) (n:Meth X.K C m f) (F:FnOk X.prog X.w X.K X.mg X.base CX k f fd ps sp) (G:Room k X.A) (z:Binds X.K fd ps ds) (B:Vals dvs ds) (L:qay CX X E) (y:PA X (e::es) t)
  (d:starEach (e::es) X.env=(false,eval e X.env)::starEach es X.env:=by rfl) (b:(backTo pos (starEach es X.env)).any (·.1)=false:=by rfl)
  (J:eval (.Call (.Attribute o m apos) (e::es) [] pos) X.env=(do
   let ov <- eval o X.env
   standAt apos.atName
   let (f,first) <- holding [ov] (getMethod ov m pl)
   callWith pos f first (backTo pos (starEach (e::es) X.env)) (backToKw pos (keywordEach [] X.env))):=by rfl) :
  PE X (.Call (.Attribute o m apos) (e::es) [] pos) (qc1 C m sp dvs E ta t):=by
 intro pins s σ H Q I h;refine PySem.W.methodCall_KW (pl:=pl) (thn (D pins s σ H _ I h) fun u O ⟨x,p,g,N,a,dx,fs,ex,v,l,q⟩=>?_) J;subst ex;obtain rfl:u=Value.ref a:=N;refine qa5 g v c n l ?_;refine XX (first:=[.ref a]) (h₀:=X.base) I.ok.mod.kin n.kp (thn (y pos pins O σ p _ g q) fun us R ⟨vs,P,i,r,M⟩=>⟨i.kIn,?_⟩) d b;exact qc2 (us:=.ref a::us) (vs:=.ref a::vs) F G z B L i (.cons rfl r) M
theorem pe_meth0 {pl:Sem Bool} (n:PE X o ta) (c:Cls X.K C) (d:Meth X.K C m f) (F:FnOk X.prog X.w X.K X.mg X.base CX k f fd ps sp) (p:Room k X.A) (g:Binds X.K fd ps ds) (i:Vals dvs ds) (t:qay CX X E)
  (r:eval (.Call (.Attribute o m apos) [] [] pos) X.env=(do
   let ov <- eval o X.env
   standAt apos.atName
   let (f,first) <- holding [ov] (getMethod ov m pl)
   callWith pos f first (backTo pos (starEach [] X.env)) (backToKw pos (keywordEach [] X.env))):=by rfl) :
  PE X (.Call (.Attribute o m apos) [] [] pos) (qc1 C m sp dvs E ta qeE):=by
 intro pins s σ H Q I h;refine PySem.W.methodCall_KW (pl:=pl) (thn (n pins s σ H _ I h) fun u z ⟨x,y,b,v,a,dx,fs,ex,e,l,q⟩=>?_) r;subst ex;obtain rfl:u=Value.ref a:=v;refine qa5 b e c d l ?_;exact PySem.W.callWith_K0 (first:=[.ref a]) b.kIn d.kp (qc2 (us:=[.ref a]) (vs:=[.ref a]) F p g i t b (.cons rfl .nil) q)
structure Mk (K:yg) (C f:Addr):Prop where
 makes:PySem.W.makesIn K C=true
 init:PySem.W.findIn K (.ref C) "__init__"=some (some (.ref f))
 fn:PySem.W.isFn K (.ref f)=true
 kp:PySem.W.keepIn K (.ref C)=true
theorem run_make {Q:VK} (M:Mk X.K C f) (F:FnOk X.prog X.w X.K X.mg X.base CX k f fd ps sp) (p:Room (k+1) X.A) (n:Binds X.K fd ps ds) (o:Vals dvs ds)
  (q:qay CX X E) (I:Inv X pins σ H s) (r:Vals vs us)
  (h:∀ x dx,H x=none->H dx=none->dx≠x->sp (.ref x::(vs++dvs)) (upd (upd H dx (.own x)) x (.ins C dx [])) (fun v i=>v=.non/\Q (.ref x) i) E) :
  wpAny (model X.prog X.w) X.A (call (.ref C) us) (EP X pins σ Q) X.xe s:=by
 have c:=h (s.heap.objs.size+1) s.heap.objs.size (I.hok.fresh (xw _)) (I.hok.fresh (yh _)) (y0 (xF _));have b:=Inv.made (C:=C) I;have d:Vals (V.ref (s.heap.objs.size+1)::(vs++dvs)) (Value.ref (s.heap.objs.size+1)::(us++ds)):=.cons rfl (r.append o)
 have hl:(Value.ref (s.heap.objs.size+1)::us++ds).length=ps.length:=by
  have e:=d.length;rw [F.len _ _ _ _ c] at e;exact e.symm
 refine Xv (make_map (f:=f) I.kIn M.makes M.init (Yk.mp M.fn) (xY (F.run _ X.stack _ _ ⟨Value.ref (s.heap.objs.size+1)::us,[]⟩ (Value.ref (s.heap.objs.size+1)::(us++ds)) _ _ E (p.make C us [])
  (b.env0.make C us []) (n _ (Value.ref (s.heap.objs.size+1)::us) b.kIn hl) d c) fun r s' a=>?_))
 cases r with
 | error e=>exact q pins σ _ _ e s' b a
 | ok fl =>
  cases fl with
  | ret u =>
   obtain ⟨v,g,l,y,m,t⟩:=b.after a;subst m;exact ⟨y,⟨V.ref (s.heap.objs.size+1),g,l,rfl,t⟩⟩
  | next=>exact False.elim a
  | brk=>exact False.elim a
  | cont=>exact False.elim a
theorem pe_make (M:Mk X.K C f) (F:FnOk X.prog X.w X.K X.mg X.base CX k f fd ps sp) (o:Room (k+1) X.A) (m:Gl X x) (n:X.mg x=some (.ref C)) (g:Binds X.K fd ps ds) (i:Vals dvs ds) (u:qay CX X E)
  (d:PA X (e::es) t) (a:(x==("__debug__":Str))=false:=by decide) (l:starEach (e::es) X.env=(false,eval e X.env)::starEach es X.env:=by rfl) (b:(backTo pos (starEach es X.env)).any (·.1)=false:=by rfl) :
  PE X (.Call (.Name x p) (e::es) [] pos) (qd7 C sp dvs E t):=by
 intro pins s σ H Q I h;refine Xf (qb4 I m n ?_ a);refine XX (h₀:=X.base) I.ok.mod.kin M.kp (thn (d pos pins s σ H _ I h) fun us y ⟨vs,v,c,r,q⟩=>⟨c.kIn,?_⟩) l b;exact run_make M F o g i u c r q
end
section
variable {X:Cx} {CX:CXT} {k:Nat} {f C:Addr} {fd:FuncData} {ps ks:List Str} {sp:Sp} {E:XK} {x m:Str} {p pos apos kpos:Pos} {e o:Expr} {es:List Expr} {kws:List Keyword} {te ta:TE} {t tk:TA} {nm:Option Str}
structure KBinds (K:yg) (fd:FuncData) (ps ks:List Str) (g:List Value->List Value->List Value) (gV:List V->List V->List V):Prop where
 to:∀ (s:Shared) (us ws:List Value),K.In s.heap->(g us ws).length=ps.length->BindsTo s fd ⟨us,ks.zip ws⟩ (ps.zip (g us ws))
 rel:∀ {vs:List V} {us:List Value} {zs:List V} {ws:List Value},Vals vs us->Vals zs ws->Vals (gV vs zs) (g us ws)
variable {g:List Value->List Value->List Value} {gV:List V->List V->List V}
end
structure FnScope (N P:List Str) (sc:Scope):Prop where
 kind:sc.kind=.function
 co:sc.isCoroutine=false
 gen:sc.isGenerator=false
 nd:N.Nodup
 pre:N.take P.length=P
 par:∀ x∈P,sc.names.lookup x=some .local\/sc.names.lookup x=some .cell
 nofree:∀ y∈sc.names,y.2≠.free
theorem fS {P:List Str} (a:sc.kind=.function:=by rfl) (b:sc.isCoroutine=false:=by rfl) (c:sc.isGenerator=false:=by rfl) (d:N.Nodup:=by decide +kernel) (e:N.take P.length=P:=by rfl) (f:∀ x∈P,sc.names.lookup x=some .local\/sc.names.lookup x=some .cell:=by decide +kernel) (g:∀ y∈sc.names,y.2≠.free:=by decide +kernel):FnScope N P sc:=⟨a,b,c,d,e,f,g⟩
theorem qbB:∀ {binds:List (Str×Value)} {m:Str->Option Value},(∀ v,(x,v)∉binds)->bindL kindOf binds m x=m x
 | [],_,_=>rfl
 | (n,v)::r,m,h=>by
  unfold bindL;rw [qbB fun w hw=>h w (yC _ hw)];split
  .have:x≠n:=by rintro rfl;exact h v yO
   simp [this]
  .rfl
theorem qbC:∀ {binds:List (Str×Value)} {m:Str->Option Value},(∀ v,(x,v)∉binds)->bindC kindOf binds m x=m x
 | [],_,_=>rfl
 | (n,v)::r,m,h=>by
  unfold bindC;rw [qbC fun w hw=>h w (yC _ hw)];split
  .rfl
  .have:x≠n:=by rintro rfl;exact h v yO
   simp [this]
theorem qbD {v:Value}:∀ {P:List Str} {vs:List Value} {i:Nat} {m:Str->Option Value},P.Nodup->P[i]?=some x->vs[i]?=some v->kindOf x=some .local ->
  bindL kindOf (P.zip vs) m x=some v
 | [],_,_,_,_,h,_,_=>by simp at h
 | _::_,[],_,_,_,_,h,_=>by simp at h
 | p::P,w::vs,0,m,nd,h1,h2,hk=>by
  simp at h1 h2;subst h1;subst h2;show bindL kindOf ((p,w)::P.zip vs) m p=_;unfold bindL;rw [qbB fun v hv=>(yo.mp nd).1 (kt hv).1,yK hk];simp
 | p::P,w::vs,i+1,m,nd,h1,h2,hk=>by
  show bindL kindOf ((p,w)::P.zip vs) m x=_;unfold bindL;exact qbD (i:=i) (yo.mp nd).2 (by simpa using h1) (by simpa using h2) hk
theorem qbE {v:Value}:∀ {P:List Str} {vs:List Value} {i:Nat} {m:Str->Option Value},P.Nodup->P[i]?=some x->vs[i]?=some v->kindOf x≠some .local ->
  bindC kindOf (P.zip vs) m x=some v
 | [],_,_,_,_,h,_,_=>by simp at h
 | _::_,[],_,_,_,_,h,_=>by simp at h
 | p::P,w::vs,0,m,nd,h1,h2,hk=>by
  simp at h1 h2;subst h1;subst h2;show bindC kindOf ((p,w)::P.zip vs) m p=_;unfold bindC;rw [qbC fun v hv=>(yo.mp nd).1 (kt hv).1,yD hk];simp
 | p::P,w::vs,i+1,m,nd,h1,h2,hk=>by
  show bindC kindOf ((p,w)::P.zip vs) m x=_;unfold bindC;exact qbE (i:=i) (yo.mp nd).2 (by simpa using h1) (by simpa using h2) hk
noncomputable def start (N:List Str) (vs:List V):St:=vs.map some++List.replicate (N.length-vs.length) none
noncomputable def qef (CX:CXT) (P:Program) (w:World) (K:yg) (mg:Str->Option Value) (base:Heap) (N:List Str) (qual:Str) (scope:Scope) (f:Addr) (b:Value) (A:Around) (outer:List Env) (s:Shared) (H:Hp) (E:XK):Cx where
 prog:=P
 w:=w
 K:=K
 mg:=mg
 base:=base
 A:=A.deeper (envOfC qual scope s.heap.objs.size f b)
 N:=N
 s₀:=s
 H₀:=H
 env:=envOfC qual scope s.heap.objs.size f b
 outer:=outer
 stack:=envOfC qual scope s.heap.objs.size f b::outer
 ex:=[]
 calm:=true
 fn:=fun _=>true
 pn:=[]
 xe:=fun e s'=>wpAny (model P w) (A.deeper (envOfC qual scope s.heap.objs.size f b)) (leaving (envOfC qual scope s.heap.objs.size f b) e) (fun _ a=>CX outer H s E e a) (fun c a=>CX outer H s E c a) s'
theorem qcr (h:sc.names.lookup x=some .cell):∃ c,(cellsFrom n sc.names []).lookup x=some c:=by
 have q:=PySem.W.cellsFrom_some sc.names n [] (.inl h);exact Y0.mp q
theorem inv_start {K:yg} {f:Addr} {t:Value} {F:Shared} {E:XK}
  (S:FnScope N ps scope) (I:A.handled=none) (g:Env0 P w K mg base A outer s H) (hl:vs.length=ps.length) (r:Vals vs us)
  (x:InCallC s s.heap.objs.size (bindL (envOfC qual scope s.heap.objs.size f t).kindOf (ps.zip us) fun _=>none) (cellsFrom (s.heap.objs.size+1) scope.names []) (bindC (envOfC qual scope s.heap.objs.size f t).kindOf (ps.zip us) fun _=>none) F) :
  Inv (qef CX P w K mg base N qual scope f t A outer s H E) [] (start N vs) H F:=by
 have J:ps.length<=N.length:=by have:=congrArg List.length S.pre;rw [yJ] at this;omega
 obtain ⟨h1,tk,rfl,C⟩:=x.done;have l:∀ b:Addr,b∉(qef CX P w K mg base N qual scope f t A outer s H E).ex:=fun b z=>absurd (show b∈([]:List Addr) from z) (by simp);refine ⟨⟨g.mod,S.kind,rfl,rfl,yh _,fun y z c h1 d=>?_,fun y hy=>?_,fun y c _ h=>?_,fun _=>I,Around.frames_deeper g.frames,.inr ⟨rfl,rfl⟩,fun b z=>absurd z (l b),g.bs,g.bsz,fun b _ _=>l b,fun b z=>absurd z (l b),g.funs,g.frf⟩,
  rfl,g.bare,Un.kept C,⟨_,x.toInCall.ns,fun i y v h1 d M=>?_⟩,fun y c h=>⟨_,x.cell y c h⟩,g.hok.fresh (yh _),fun y c h=>?_,fun p m=>absurd (show p∈([]:List (Addr×Obj)) from m) (by simp),g.hok.kept C,?_⟩
 .exact name_of_addr x.apart (xA h1) (xA d)
 .have hy:scope.names.lookup y=some .cell\/scope.names.lookup y=some .free:=hy;rcases hy with hy | hy
  .exact qcr hy
  .exact absurd rfl (S.nofree _ (xA hy))
 .exact yS (x.above y c (xA h))
 .have B:i<vs.length:=by
   unfold start at d;by_cases B:i<vs.length
   .exact B
   .rw [yz (by simpa using B)] at d;rw [Xj] at d;split at d<;>cases d
  have G:vs[i]?=some v:=by
   unfold start at d;rw [yT (by simpa using B),yd] at d
   cases e:vs[i]? with
   | none=>rw [e] at d;cases d
   | some a=>rw [e] at d;cases d;rfl
  obtain ⟨u,D,L⟩:=r.get G
  have m:ps[i]?=some y:=by
   rw [<- S.pre,List.getElem?_take_of_lt (by omega)];exact h1
  have o:ps.Nodup:=by rw [<- S.pre];exact S.nd.sublist (X2 _ _)
  refine ⟨u,L,?_⟩;rcases S.par y (ye m) with k | k
  .exact .inl ⟨k,qbD o m D k⟩
  .obtain ⟨c,e⟩:=qcr (n:=s.heap.objs.size+1) k;refine .inr ⟨.inl k,c,e,?_⟩;have q:=x.cell y c e;rw [qbE o m D (by show scope.names.lookup y≠_;rw [k];decide)] at q;exact q
 .exact g.hok.fresh (yS (x.above y c (xA h)))
 .unfold start;show _=N.length;rw [yt,ya,xo];omega
theorem fn_of {K:yg} {k:Nat} {f:Addr} {name:Str} {c:Arguments} {R kV m T a ct oc:Value} {O od:Option Addr}
  {G:Array (Option Value)} {sp:Sp} (lk:K.lookup f=some ⟨oc,od,.func (PySem.W.fnOf name qual c body scope R kV m T O a ct),G⟩) (C:PySem.W.codeIn K a qual=true) (S:FnScope N ps scope)
  (len:∀ vs H Q E,sp vs H Q E->vs.length=ps.length)
  (h:∀ (A:Around) (outer:List Env) (s:Shared) (H:Hp) (vs:List V) (Q:VK) (E:XK),Room k (A.deeper (envOfC qual scope s.heap.objs.size f a))->sp vs H Q E ->
   ∃ t,PSs (qef CX P w K mg base N qual scope f a A outer s H E) body t/\t { nx:=fun _ g=>Q .non g,rt:=Q } (start N vs) H) :
  FnOk P w K mg base CX (k+1) f (PySem.W.fnOf name qual c body scope R kV m T O a ct) ps sp:=by
 refine ⟨len,fun A outer s H args us vs Q E D p Y r B=>?_⟩;have hl:=len _ _ _ _ B;have M:K.In s.heap:=p.mod.kin.keeps fun b o e=>(p.bs b o e).1;have F:s.heap.NoLimit:=p.mod.nolimit.keeps fun b o e=>(p.bs b o e).1
 have i:∀ y∈ps.zip us,scope.names.lookup y.1=some .local\/(scope.names.lookup y.1=some .cell/\((cellsFrom (s.heap.objs.size+1) scope.names []).lookup y.1).isSome=true):=fun ⟨n,v⟩ hy=>by
  rcases S.par n (kt hy).1 with q | q
  .exact .inl q
  .exact .inr ⟨q,PySem.W.cellsFrom_some _ _ _ (.inl q)⟩
 refine codeAny_call_function D.depth (M _ _ lk) rfl S.co S.gen rfl (PySem.W.codeRec_of M C) (Y _ _ _ _ ?_);refine wpAny_newFunctionEnv_cells S.kind i fun env Z U x=>?_;subst Z;refine ⟨F.keeps x.toInCall.keep,codeAny_func ?_⟩;obtain ⟨t,ht,hq⟩:=h A outer s H vs Q E (D.deeper _) B;have I:Inv (qef CX P w K mg base N qual scope f a A outer s H E) [] (start N vs) H U:=inv_start S D.hd p hl r x;refine YG (ht [] U (start N vs) H _ I hq) (fun X s' l=>?_) fun e s' l=>l
 have z:∀ {d:St} {g:Hp} {v:V} {u:Value},Inv (qef CX P w K mg base N qual scope f a A outer s H E) [] d g s'->RelV v u->Q v g->CE outer P w H s Q u s':=
  fun {d g v u} J L q=>⟨v,g,J.os,J.bare,J.base,J.hok,L,q⟩
 cases X with
 | ret u =>
  obtain ⟨v,d,g,J,L,q⟩:=l;exact z J L q
 | next =>
  obtain ⟨d,g,J,q⟩:=l;exact z (v:=V.non) (u:=Value.none) J rfl q
 | brk =>
  obtain ⟨_,_,_,q⟩:=l;exact False.elim q
 | cont =>
  obtain ⟨_,_,_,q⟩:=l;exact False.elim q
section
variable {X:Cx} {x:Str} {p pos:Pos} {e:Expr} {es:List Expr} {t:TA} {id T:String} {r:List V->Hp->VK->Prop}
def tCB (r:List V->Hp->VK->Prop) (t:TA):TE:=fun σ H Q=>t σ H fun vs a=>r vs a Q
theorem qp (hc:zd X (.builtin id) r) (i:Gl X x) (l:X.mg x=none) (hv:bootBuiltins x=some (.builtin id)) (f:PA X (e::es) t) (m:x≠"__name__":=by decide) (a:(x==("__debug__":Str))=false:=by decide)
  (g:starEach (e::es) X.env=(false,eval e X.env)::starEach es X.env:=by rfl) (b:(backTo pos (starEach es X.env)).any (·.1)=false:=by rfl):PE X (.Call (.Name x p) (e::es) [] pos) (tCB r t):=by
 intro pins s σ H Q I h;refine Xf (qcp I i l hv ?_ m a);exact PyProof.Rows.callWith_builtin1 (thn (f pos pins s σ H _ I h) fun us q ⟨vs,c,d,o,n⟩=>hc pins q σ c vs us Q d o n) g b
theorem jE (hc:zd X (.type T) r) (i:Gl X x) (l:X.mg x=none) (hv:bootBuiltins x=some (.type T)) (f:PA X (e::es) t) (m:x≠"__name__":=by decide) (a:(x==("__debug__":Str))=false:=by decide)
  (g:starEach (e::es) X.env=(false,eval e X.env)::starEach es X.env:=by rfl) (b:(backTo pos (starEach es X.env)).any (·.1)=false:=by rfl):PE X (.Call (.Name x p) (e::es) [] pos) (tCB r t):=by
 intro pins s σ H Q I h;refine Xf (qcp I i l hv ?_ m a);exact PyProof.Rows.callWith_type1 (thn (f pos pins s σ H _ I h) fun us q ⟨vs,c,d,o,n⟩=>hc pins q σ c vs us Q d o n) g b
end
end L2
namespace HT
open PySem PyProof.Rows
variable {hi lo:Option Int} {sl t:Addr} {vl vu:Value}
noncomputable def lexLt:List Int->List Int->Bool
 | [],[]=>false
 | [],_::_=>true
 | _::_,[]=>false
 | x::xs,y::ys=>if x=y then lexLt xs ys else decide (x<y)
section
open PySem.SeqAt
open PySem.AutoSeq1 (wpAny_loadPart')
open PySem.MeetsSeq PySem.MeetsSeq2 PySem.MeetsSeq3
end
section
variable {prog:Program} {w:World} {A:Around} {E:Value->Shared->Prop} {s:Shared}
theorem cat_tup {b:Addr} {vs a:List Value} {Q:Value->Shared->Prop} (v:IsTup s.heap t vs.toArray) (u:IsTup s.heap b a.toArray) (hv:vs≠[])
  (h1:a=[]->Q (.ref t) s) (r:a≠[]->Q (.ref s.heap.objs.size) { s with heap:=s.heap.push { cls:=.type "tuple",data:=.seq (vs++a).toArray } })
  (hsz:vs.length+a.length<=sizeLine):wpAny (model prog w) A (binaryOp .Add (.ref t) (.ref b)) Q E s:=by
 obtain ⟨⟨cls,o,data,sl⟩,i,hc,n,p⟩:=id v;obtain ⟨⟨m,d,l,h⟩,c,f,q,g⟩:=id u;simp only at hc p f g;subst hc p f g;have e:vs.toArray++a.toArray=(vs++a).toArray:=by simp
 by_cases hw:a=[]
 .exact concat_meets ⟨_,i,rfl⟩ ⟨_,c,rfl⟩ noFill_tuple_add seq_tuple_add PySem.F.slot_tuple_add PySem.F.entry_tuple_add (PySem.F.args_tuple_add_2 _ _)
   (tuple_addW1 t b vs.toArray a.toArray n q o d sl h (by simpa using hv) (by simp [hw])) ⟨i,c,h1 hw⟩
 .refine concat_meets ⟨_,i,rfl⟩ ⟨_,c,rfl⟩ noFill_tuple_add seq_tuple_add PySem.F.slot_tuple_add PySem.F.entry_tuple_add (PySem.F.args_tuple_add_2 _ _)
   (tuple_addW2 t b vs.toArray a.toArray n q o d sl h (by simpa using hv) (by simpa using hw) (by rw [yw,yw];exact hsz)) ⟨i,c,?_⟩
  rw [e];exact r hw
noncomputable def sIx (n d:Nat):Option Int->Nat
 | none=>d
 | some v=>if v<0 then (v+(n:Int)).toNat else min v.toNat n
theorem sIx_none (n d:Nat):sIx n d none=d:=rfl
theorem sIx_nat (n d k:Nat):sIx n d (some (k:Int))=min k n:=by
 show (if (k:Int)<0 then ((k:Int)+(n:Int)).toNat else min (k:Int).toNat n)=min k n;rw [yD (by omega),Yx]
theorem sIx_le (n d:Nat) (a:d<=n) (o:Option Int):sIx n d o<=n:=by
 cases o with
 | none=>exact a
 | some v =>
  show (if v<0 then (v+(n:Int)).toNat else min v.toNat n)<=n;by_cases hv:v<0
  .rw [yK hv];omega
  .rw [yD hv];exact kc _ _
theorem qc3 (v:Int) (n d:Nat):(if v<0 then max (v+(n:Int)) 0 else min v (n:Int))=((sIx n d (some v):Nat):Int):=by
 show (if v<0 then max (v+(n:Int)) 0 else min v (n:Int))=(((if v<0 then (v+(n:Int)).toNat else min v.toNat n):Nat):Int);by_cases hv:v<0
 .simp only [yK hv];omega
 .simp only [yD hv];omega
theorem adjust_gen (lo hi:Option Int) (n:Nat):Builtin.Slice.sliceAdjust lo hi 1 (n:Int)=(((sIx n 0 lo:Nat):Int),((sIx n n hi:Nat):Int)):=by
 have h1:¬ ((1:Int)<0):=by omega
 unfold Builtin.Slice.sliceAdjust;simp only [h1,ke];refine kx ?_ ?_
 .cases lo with
  | none=>rfl
  | some v=>exact qc3 v n 0
 .cases hi with
  | none=>rfl
  | some v=>exact qc3 v n n
theorem places_gen (i j:Nat):Builtin.Slice.slicePlaces (i:Int) (j:Int) 1=j-i:=by
 unfold Builtin.Slice.slicePlaces;have h1:(1:Int)>0:=by omega
 simp only [h1,Xx,Int.ediv_one];split<;>omega
theorem qam {v:Value} {o:Option Int} {Q:Option Int->Shared->Prop} (p:IsPart v o) (h:Q o s):wpAny (model prog w) A (Builtin.Slice.slicePartIndex v) Q E s:=by
 cases p with
 | none=>exact XY h
 | int i t=>exact slicePart_int h
theorem sliceApplied_gen {n:Nat} {Q:Int×Int×Nat->Shared->Prop} (d:s.heap.IsSliceOf sl vl vu .none) (pl:IsPart vl lo) (e:IsPart vu hi)
  (h:Q (((sIx n 0 lo:Nat):Int),1,sIx n n hi-sIx n 0 lo) s):wpAny (model prog w) A (Builtin.Slice.sliceApplied (.ref sl) (pure (n:Int))) Q E s:=by
 obtain ⟨f,b,c,a⟩:=id d;unfold Builtin.Slice.sliceApplied Builtin.Slice.sliceFields;refine yr (yr (XC b a (x:=vl) rfl (yr (XC b a (x:=vu) rfl (yr (XC b a (x:=.none) rfl (yu ?_)))))));refine yr (XY ?_);show wpAny _ _ (if ((1:Int)==0)=true then _ else _) _ _ s;rw [yD (by decide)];refine yr (qam pl (yr (qam e (yr (yu ?_)))));show wpAny _ _ (match Builtin.Slice.sliceAdjust lo hi 1 (n:Int) with | (lo,hi)=>pure (lo,(1:Int),Builtin.Slice.slicePlaces lo hi 1)) _ _ s;rw [adjust_gen lo hi n];show wpAny _ _ (pure (((sIx n 0 lo:Nat):Int),(1:Int),Builtin.Slice.slicePlaces ((sIx n 0 lo:Nat):Int) ((sIx n n hi:Nat):Int) 1)) _ _ s;rw [places_gen];exact yu h
theorem pick_gen (xs:Array Value) (i k:Nat):((List.range k).filterMap fun (m:Nat)=>xs[((i:Int)+(m:Int)*1).toNat]?).toArray=((xs.toList.drop i).take k).toArray:=by
 have e:(fun (m:Nat)=>xs[((i:Int)+(m:Int)*1).toNat]?)=fun m=>xs[i+m]?:=by
  funext m;have:((i:Int)+(m:Int)*1).toNat=i+m:=by omega
  rw [this]
 rw [e];have:=pick_run xs i k;rw [List.filterMap_map] at this;have a:((fun x=>xs[x]?) ∘ fun x=>i+x)=fun m=>xs[i+m]?:=rfl;rw [a] at this;rw [this]
theorem getItem_tuple_cut {a:Array Value} {Q:Value->Shared->Prop} (c:IsTup s.heap t a) (i:s.heap.IsSliceOf sl vl vu .none) (pl:IsPart vl lo) (o:IsPart vu hi)
  (hw:¬ (sIx a.size 0 lo=0/\sIx a.size a.size hi=a.size))
  (h:Q (.ref s.heap.objs.size) { s with heap:=s.heap.push { cls:=.type "tuple",data:=.seq ((a.toList.drop (sIx a.size 0 lo)).take (sIx a.size a.size hi-sIx a.size 0 lo)).toArray } })
  (hsz:a.size<=sizeLine):wpAny (model prog w) A (getItem (.ref t) (.ref sl)) Q E s:=by
 have b:sizeOk (.seq ((a.toList.drop (sIx a.size 0 lo)).take (sIx a.size a.size hi-sIx a.size 0 lo)).toArray):=by
  show ((a.toList.drop (sIx a.size 0 lo)).take (sIx a.size a.size hi-sIx a.size 0 lo)).toArray.size<=sizeLine;rw [yw,yJ,kf,Yh];omega
 have p:sIx a.size a.size hi<=a.size:=sIx_le _ _ (yh _) hi;obtain ⟨n,g,e,l⟩:=id i;have d:s.TypeIs (.ref sl) "slice":=⟨n,g,e⟩;unfold getItem
 try with_reducible refine Yn ?_
 first | refine yr (yu ?_) | skip
 refine yr (wpAny_sequenceKey c.typeIs (by decide) ?_);refine yr (Y4 (name:=Str.ofString "__getitem__") c.typeIs Ys
  (YB Ys c.typeIs entry_tuple_getitem ?_ (args_tuple_getitem _ _)))
 show wpAny _ _ (Builtin.Tuple.tupleItemsOf (.ref t)>>=_) _ _ s;refine yr (tupleItemsOf_ c ?_);refine yr (km d ?_);rw [yK (by decide)];refine yr (sliceApplied_gen i pl o ?_)
 have f:¬ ((((sIx a.size 0 lo:Nat):Int)==0&&(1:Int)==1&&(sIx a.size a.size hi-sIx a.size 0 lo)==a.size)=true):=by
  intro q;rw [yW,yW] at q;have r:((sIx a.size 0 lo:Nat):Int)=0:=eq_of_beq q.1.1;have u:sIx a.size a.size hi-sIx a.size 0 lo=a.size:=eq_of_beq q.2;exact hw ⟨by omega,by omega⟩
 show wpAny _ _ (if (((sIx a.size 0 lo:Nat):Int)==0&&(1:Int)==1&&(sIx a.size a.size hi-sIx a.size 0 lo)==a.size)=true then _ else _) _ _ s;rw [yD f,pick_gen]
 first
  | exact yr (m:=Builtin.Tuple.tupleExact _) (Yc (yu ⟨_,rfl,yu h⟩) b)
  | exact yr (m:=Builtin.Tuple.tupleExact _) (Yc (yr (yu (yu ⟨_,rfl,yu h⟩))) b)
  | exact yr (yr (m:=Builtin.Tuple.tupleExact _) (Yc (yu (yu ⟨_,rfl,yu h⟩)) b))
  | exact yr (yr (m:=Builtin.Tuple.tupleExact _) (Yc (yu ⟨_,rfl,yu h⟩) b))
end
end HT
namespace L2
open PySem PySem.Spec PyProof.Rows
variable {A:Around} {H H':Hp} {P:Program} {a p:Addr} {h':Heap} {i:Int} {its its' us:List Value} {kvs:List (List Key×V)} {n t':Nat} {o:Option V} {pins:List (Addr×Obj)} {r:R2} {s:Shared} {u v:Value} {w:World} {x y:V} {xs:List V} {α:Type} {σ:St}
abbrev TO:=St->Hp->(Option Int->Hp->Prop)->Prop
def PO (X:Cx) (e:Option Expr) (t:TO):Prop:=
 ∀ (pins:List (Addr×Obj)) (s:Shared) (σ:St) (H:Hp) (Q:Option Int->Hp->Prop),Inv X pins σ H s->t σ H Q ->
  wpAny (model X.prog X.w) X.A (evalPart e X.env) (fun u a=>∃ o H',Inv X pins σ H' a/\IsPart u o/\Q o H') X.xe s
def qc4:TO:=fun _ H Q=>Q none H
def qer (t:TE):TO:=fun σ H Q=>t σ H fun x a=>∃ i,x=.int i/\Q (some i) a
section
variable {X:Cx} {e:Expr} {te:TE} {lo hi:Option Expr} {tl th:TO} {pos p2:Pos}
theorem zT:PO X none qc4:=by
 intro pins s σ H Q I h;rw [X7];exact yu ⟨none,H,I,.none,h⟩
theorem jQ (h:PE X e te):PO X (some e) (qer te):=by
 intro pins s σ H Q I hw;rw [evalPart_some];refine thn (h pins s σ H _ I hw) fun u f ⟨x,a,b,d,c⟩=>?_;obtain ⟨i,rfl,q⟩:=c;obtain ⟨t,rfl⟩:=d;exact ⟨some i,a,b,.int i t,q⟩
def SlR (X:Cx) (r:V->Option Int->Option Int->Hp->VK->Prop):Prop:=
 ∀ (pins:List (Addr×Obj)) (s:Shared) (σ:St) (H:Hp) (x:V) (v b c:Value) (lo hi:Option Int) (a:Addr) (Q:VK),Inv X pins σ H s->RelV x v->s.heap.IsSliceOf a b c .none->IsPart b lo->IsPart c hi->r x lo hi H Q ->
  ∃ T id,typeLookup (.type T) "__getitem__"=pure (some (.builtin id))/\s.TypeIs v T/\wpAny (model X.prog X.w) X.A (getItem v (.ref a)) (EP X pins σ Q) X.xe s
def tSl (r:V->Option Int->Option Int->Hp->VK->Prop) (te:TE) (tl th:TO):TE:=fun σ H Q=>te σ H fun x a=>tl σ a fun l b=>th σ b fun u c=>r x l u c Q
theorem ze {r:V->Option Int->Option Int->Hp->VK->Prop} (B:SlR X r) (y:PE X e te) (hl:PO X lo tl) (D:PO X hi th):PE X (.Subscript e (.Slice lo hi none p2) pos) (tSl r te tl th):=by
 intro pins s σ H Q I h;refine Subscript_ (thn (y pins s σ H _ I h) fun v L ⟨x,g,m,K,F⟩=>?_);refine wpAny_Slice (thn (hl pins L σ g _ m F) fun c M ⟨l,i,n,pl,G⟩=>thn (D pins M σ i _ n G) fun d a ⟨u,f,o,E,J⟩=>?_);rw [X7];refine yu ?_;have p:Inv X pins σ f { a with heap:=a.heap.push { cls:=.type "slice",data:=.fields #[c,d,.none] } }:=o.kept (t':=a.toks) fun b N q=>yv _ q;obtain ⟨T,id,t,C,z⟩:=B pins { a with heap:=a.heap.push { cls:=.type "slice",data:=.fields #[c,d,.none] } } σ f x v c d l u a.heap.objs.size Q p K (XZ ..) pl E J;show wpAny (model X.prog X.w) X.A (subscriptTail e (.Slice lo hi none p2) v (.ref a.heap.objs.size)) (EP X pins σ Q) X.xe { a with heap:=a.heap.push { cls:=.type "slice",data:=.fields #[c,d,.none] } };exact tail_any (ops:=[.ref a.heap.objs.size,v]) C t z (by with_unfolding_all rfl)
noncomputable def qcQ (xs:List V) (lo hi:Option Int):List V:=(xs.drop (HT.sIx xs.length 0 lo)).take (HT.sIx xs.length xs.length hi-HT.sIx xs.length 0 lo)
theorem qaO (xs:List V) (lo hi:Option Int):(qcQ xs lo hi).length<=xs.length:=by
 unfold qcQ;rw [yJ,kf];omega
inductive rSlT (K:yg) (x:V) (lo:Option Int) (hi:Option Int) (H:Hp) (Q:VK):Prop|mk (a xs:_) (_:x=.ref a) (_:SqT K H a xs) (_:¬ (HT.sIx xs.length 0 lo=0/\HT.sIx xs.length xs.length hi=xs.length)) (_:∀ p,H p=none->Q (.ref p) (upd H p (.tup (qcQ xs lo hi))))
theorem sl_tup:SlR X (rSlT X.K):=by
 intro pins s σ H x v n p lo hi m Q I i e pl g h;obtain ⟨a,xs,rfl,f,hw,q⟩:=h;cases i;obtain ⟨its,r,d,hz⟩:=I.tuple f;have c:its.toArray.size=xs.length:=by rw [yw];exact r.length.symm
 refine ⟨"tuple",_,Ys.lookup,d.typeIs,?_⟩;refine HT.getItem_tuple_cut d e pl g (by rw [c];exact hw) ?_ (by rw [c];exact hz);rw [c];refine ⟨.ref s.heap.objs.size,_,I.laid (t':=s.toks) (o:=.tup (qcQ xs lo hi)) (fun b l q=>yv _ q) (yh _) ?_,rfl,q _ (I.hok.fresh (yh _))⟩;exact ⟨yi (qaO xs lo hi) hz,_,(r.drop (HT.sIx xs.length 0 lo)).take (HT.sIx xs.length xs.length hi-HT.sIx xs.length 0 lo),IsTup.new _ _⟩
inductive rLtT (K:yg) (x:V) (y:V) (H:Hp) (Q:VK):Prop|mk (a b ns ms:_) (_:x=.ref a) (_:y=.ref b) (_:SqT K H a (ns.map V.int)) (_:SqT K H b (ms.map V.int)) (_:Q (.bl (HT.lexLt ns ms)) H)
inductive rCatT (K:yg) (x:V) (y:V) (H:Hp) (Q:VK):Prop|mk (a b xs ys:_) (_:x=.ref a) (_:y=.ref b) (_:SqT K H a xs) (_:SqT K H b ys) (_:xs≠[]) (_:xs.length+ys.length<=sizeLine) (_:(ys=[]->Q (.ref a) H)) (_:(ys≠[]->∀ p,H p=none->Q (.ref p) (upd H p (.tup (xs++ys)))))
theorem Vals.nil_iff (r:Vals xs us):us=[]↔xs=[]:=by
 cases r with
 | nil=>simp
 | cons _ _=>simp
theorem op_catT:OpR X (binaryOp .Add) (rCatT X.K):=by
 intro pins s σ H x y v u Q I p r h;obtain ⟨a,b,xs,ys,rfl,rfl,f,g,i,hz,m,n⟩:=h;cases p;cases r;obtain ⟨its,d,l,_⟩:=I.tuple f;obtain ⟨e,c,p2,_⟩:=I.tuple g;refine HT.cat_tup l p2 (fun z=>i (d.nil_iff.mp z)) (fun z=>⟨.ref a,H,I,rfl,m (c.nil_iff.mp z)⟩) (fun z=>?_) (by rw [<- d.length,<- c.length];exact hz);refine ⟨.ref s.heap.objs.size,_,I.laid (t':=s.toks) (o:=.tup (xs++ys)) (fun b t q=>yv _ q) (yh _) ?_,rfl,n (fun w=>z (c.nil_iff.mpr w)) _ (I.hok.fresh (yh _))⟩;exact ⟨by rw [yt];exact hz,_,d.append c,IsTup.new _ _⟩
end
noncomputable def ixN (n:Nat) (i:Int):Option Nat:=if 0<=i then (if i<n then some i.toNat else none) else if -(n:Int)<=i then some (i+n).toNat else none
noncomputable def atI {α:Type} (xs:List α) (i:Int):Option α:=(ixN xs.length i).bind fun j=>xs[j]?
theorem qb7 {j:Nat} (h:ixN n i=some j):seqIndex? i n=some j/\j<n/\-(n:Int)<=i/\i<n:=by
 unfold ixN at h;by_cases a:0<=i
 .rw [yK a] at h;by_cases h1:i<n
  .rw [yK h1] at h;have e:i.toNat=j:=ym h;exact ⟨by rw [seqIndex_of a h1,e],by omega,by omega,h1⟩
  .rw [yD h1] at h;cases h
 .rw [yD a] at h;by_cases h1:-(n:Int)<=i
  .rw [yK h1] at h;have e:(i+n).toNat=j:=ym h;exact ⟨by rw [seqIndex_neg (by omega) h1,e],by omega,h1,by omega⟩
  .rw [yD h1] at h;cases h
theorem qb8 {xs:List α} {v:α} (h:atI xs i=some v):∃ j,seqIndex? i xs.length=some j/\xs[j]?=some v/\j<xs.length/\-(xs.length:Int)<=i/\i<xs.length:=by
 unfold atI at h
 cases e:ixN xs.length i with
 | none=>rw [e] at h;cases h
 | some j =>
  rw [e] at h;obtain ⟨h1,a,b,c⟩:=qb7 e;exact ⟨j,h1,h,a,b,c⟩
theorem qL {xs:List α} {j:Nat} {v:α} (h:xs[j]?=some v):atI xs (j:Int)=some v:=by
 have a:j<xs.length:=(yc.mp h).1
 have e:ixN xs.length (j:Int)=some j:=by
  unfold ixN;rw [yK (by omega),yK (by omega)];simp
 unfold atI;rw [e];exact h
theorem atI_last (xs:List α) (v:α):atI (xs++[v]) (-1)=some v:=by
 have hl:(xs++[v]).length=xs.length+1:=by simp
 have e:ixN (xs++[v]).length (-1)=some xs.length:=by
  unfold ixN;rw [hl,yD (by decide),yK (by omega)]
  congr 1
  omega
 unfold atI;rw [e];show (xs++[v])[xs.length]?=some v;simp
def PlainIx (b:Expr):Prop:=∀ o i,subscripted b false o i=operate [o,i] (getItem o i)
def IxR (X:Cx) (r:R2):Prop:=
 ∀ (b a:Expr) (pins:List (Addr×Obj)) (s:Shared) (σ:St) (H:Hp) (x y:V) (v u:Value) (Q:VK),Inv X pins σ H s->RelV x v->RelV y u->r x y H Q ->
  subscripted a false v u=operate [v,u] (getItem v u)->wpAny (model X.prog X.w) X.A (subscriptTail b a v u) (EP X pins σ Q) X.xe s
def MtR (X:Cx) (id:String) (r:V->List V->Hp->VK->Prop):Prop:=
 ∀ (pins:List (Addr×Obj)) (s:Shared) (σ:St) (H:Hp) (x:V) (xs:List V) (v:Value) (us:List Value) (Q:VK),Inv X pins σ H s->RelV x v->Vals xs us->r x xs H Q ->
  wpAny (model X.prog X.w) X.A (call (.builtin id) (v::us)) (EP X pins σ Q) X.xe s
section
variable {X:Cx} {a b:Expr} {ta tb:TE} {pos:Pos}
theorem IxR.or {d:R2} (h:IxR X r) (h':IxR X d):IxR X (fun x y H Q=>r x y H Q\/d x y H Q):=by
 intro b a pins s σ H x y v u Q I e f q c;rcases q with q | q
 .exact h b a pins s σ H x y v u Q I e f q c
 .exact h' b a pins s σ H x y v u Q I e f q c
theorem qv (g:IxR X r) (e:PE X a ta) (f:PE X b tb) (i:PlainIx b):PE X (.Subscript a b pos) (tOp r ta tb):=by
 intro pins s σ H Q I h;exact Subscript_ (qeN e f I h fun v u n x y c d l m q=>g a b pins n σ c x y v u Q d l m q (i _ _))
inductive rIxL (K:yg) (x:V) (y:V) (H:Hp) (Q:VK):Prop|mk (p xs i v:_) (_:x=.ref p) (_:y=.int i) (_:SqL K H p xs) (_:atI xs i=some v) (_:Q v H)
inductive rIxT (K:yg) (x:V) (y:V) (H:Hp) (Q:VK):Prop|mk (p xs i v:_) (_:x=.ref p) (_:y=.int i) (_:SqT K H p xs) (_:atI xs i=some v) (_:Q v H)
inductive rIxS (x:V) (y:V) (H:Hp) (Q:VK):Prop|mk (z i c:_) (_:x=.str z) (_:y=.int i) (_:z.length<=sizeLine) (_:atI z.cps.toList i=some c) (_:Q (.str ⟨#[c]⟩) H)
theorem ix_list:IxR X (rIxL X.K):=by
 intro e d pins s σ H x y v u Q I C D h l;obtain ⟨p,xs,i,z,rfl,rfl,B,A,q⟩:=h;cases C;obtain ⟨t,rfl⟩:=D;obtain ⟨its,r,pl,hz⟩:=I.list B;obtain ⟨j,h1,m,F,n,o⟩:=qb8 A;obtain ⟨w,f,c⟩:=r.get m;have hl:=r.length;have G:=qa4;have a:EP X pins σ Q w s:=⟨z,H,I,c,q⟩;by_cases g:0<=i
 .have b:i.toNat=j:=by
   rw [seqIndex_of g o] at h1;exact ym h1
  exact item_listR pl.isList g (by omega) (by rw [b];simpa using f) a l
 .have b:(i+(its.toArray.size:Int)).toNat=j:=by
   rw [seqIndex_neg (by omega) n] at h1;rw [yw,<- hl];exact ym h1
  exact subscriptTail_builtinR (x:=w) pl.isList.typeIs X3.lookup
   (wpAny_getItem_list_neg (Q:=fun r E=>r=w/\EP X pins σ Q r E) pl.isList (by omega) (by rw [yw]<;>omega) (by omega) (by rw [b];simpa using f) ⟨rfl,a⟩) l
theorem ix_tup:IxR X (rIxT X.K):=by
 intro d c pins s σ H x y v u Q I n o h m;obtain ⟨p,xs,i,z,rfl,rfl,l,g,q⟩:=h;cases n;obtain ⟨t,rfl⟩:=o;obtain ⟨its,r,pl,hz⟩:=I.tuple l;obtain ⟨j,h1,f,B,C,D⟩:=qb8 g;obtain ⟨w,e,b⟩:=r.get f;have hl:=r.length;have E:=qa4;have a:EP X pins σ Q w s:=⟨z,H,I,b,q⟩;exact subscriptTail_builtinR (x:=w) pl.typeIs slot_tuple_getitem.lookup
  (getItem_tuple (j:=j) (Q:=fun r A=>r=w/\EP X pins σ Q r A) pl (by omega) (by omega) (by rw [yw,<- hl];exact h1) (by simpa using e) ⟨rfl,a⟩) m
theorem ix_str:IxR X rIxS:=by
 intro b a pins s σ H x y v u Q I o p h n;obtain ⟨z,i,c,rfl,rfl,hz,m,q⟩:=h;obtain ⟨t,rfl⟩:=o;obtain ⟨t',rfl⟩:=p;obtain ⟨j,h1,f,r,g,l⟩:=qb8 m;have hl:z.cps.toList.length=z.length:=by simp [Str.length]
 rw [hl] at h1 g l;have w:=qa4
 exact tail_any (typeIs_str s z t) slot_str_getitem.lookup (getItem_str (c:=c) (by
  have d:decide (i < -(2 ^ 63:Int))=false:=yl (by omega);have e:decide (i ≥ 2 ^ 63)=false:=yl (by omega);rw [d,e,X8]) (by rw [h1];simpa using f) ⟨.str ⟨#[c]⟩,H,I.tok _,⟨_,rfl⟩,q⟩) n
def rIx (K:yg):R2:=fun x y H Q=>rIxL K x y H Q\/rIxT K x y H Q\/rIxS x y H Q
theorem ix_seq:IxR X (rIx X.K):=ix_list.or (ix_tup.or ix_str)
theorem mapSeq_set (its:List Value) (n j:Nat) (u:Value):Obj.mapSeq (·.setIfInBounds j u) { cls:=.type "list",data:=.seq its.toArray n }={ cls:=.type "list",data:=.seq (its.set j u).toArray n }:=by
 simp [Obj.mapSeq]
theorem Inv.lst (I:Inv X pins σ H s) (h:H p=some (.lst xs)) :
  ∃ (its:List Value) (n:Nat),Vals xs its/\s.heap.get? p=some { cls:=.type "list",data:=.seq its.toArray n }/\xs.length<=sizeLine:=by
 obtain ⟨z,its,n,r,e⟩:=I.hok p _ h;exact ⟨its,n,r,e,z⟩
theorem Inv.lstUpd {ys:List V} {a:Nat} {f:Obj->Obj} (I:Inv X pins σ H s) (h:H p=some (.lst xs))
  (g:s.heap.get? p=some { cls:=.type "list",data:=.seq its.toArray n }) (c:f { cls:=.type "list",data:=.seq its.toArray n }={ cls:=.type "list",data:=.seq its'.toArray a }) (r:Vals ys its') (hz:ys.length<=sizeLine) (t:Nat) :
  Inv X pins σ (upd H p (.lst ys)) { s with heap:=s.heap.update p f,toks:=t }:=by
 have e:(s.heap.update p f).get? p=some { cls:=.type "list",data:=.seq its'.toArray a }:=by
  rw [Yt f g (by rw [c]<;>rfl),c]
 refine I.write (x:=p) (e:=p) (by rw [h];trivial) (.inl rfl) (fun b u d q=>(YT _ _ (Yb d)).trans q) ⟨_,e⟩ ?_;exact ⟨hz,its',a,r,e⟩
inductive rSetL (o:V) (i:V) (v:V) (H:Hp) (Q:(Hp->Prop)):Prop|mk (p xs k j:_) (_:o=.ref p) (_:i=.int k) (_:H p=some (.lst xs)) (_:ixN xs.length k=some j) (_:Q (upd H p (.lst (xs.set j v))))
theorem set_list:qeL X rSetL:=by
 intro pins s σ H o i v B A u Q I w m x h;obtain ⟨p,xs,k,j,rfl,rfl,g,l,q⟩:=h;cases w;obtain ⟨t,rfl⟩:=m;obtain ⟨its,n,r,b,hz⟩:=I.lst g;obtain ⟨h1,y,e,f⟩:=qb7 l;have hl:=r.length;have z:=qa4
 have c:Inv X pins σ (upd H p (.lst (xs.set j v))) { s with heap:=s.heap.update p (Obj.mapSeq (·.setIfInBounds j u)) }:=
  I.lstUpd g b (mapSeq_set its n j u) (r.set x j) (by rw [List.length_set];exact hz) s.toks
 by_cases d:0<=k
 .have a:k.toNat=j:=by
   rw [seqIndex_of d f] at h1;exact ym h1
  exact PySem.W.ki_setAt b d (by omega) (by rw [yw,<- hl];exact f) (by rw [a];exact ⟨_,c,q⟩)
 .have a:(k+(its.toArray.size:Int)).toNat=j:=by
   rw [seqIndex_neg (by omega) e] at h1;rw [yw,<- hl];exact ym h1
  exact PySem.W.ki_setBack b (by omega) (by rw [yw,<- hl];exact e) (by omega) (by rw [a];exact ⟨_,c,q⟩)
theorem slice_bounds (lo a:Option Int) (n:Nat):(sliceBounds lo a none n).1=((HT.sIx n 0 lo:Nat):Int)/\(sliceBounds lo a none n).2.1=((HT.sIx n n a:Nat):Int)/\(sliceBounds lo a none n).2.2=1:=by
 refine ⟨?_,?_,rfl⟩
 .cases lo with
  | none=>simp [sliceBounds,HT.sIx]
  | some i =>
   simp only [sliceBounds,HT.sIx,Option.getD_none,show (1:Int)>0 by decide,Xx];by_cases h:i<0
   .simp only [h,Xx]<;>omega
   .simp only [h,ke]<;>omega
 .cases a with
  | none=>simp [sliceBounds,HT.sIx]
  | some i =>
   simp only [sliceBounds,HT.sIx,Option.getD_none,show (1:Int)>0 by decide,Xx];by_cases h:i<0
   .simp only [h,Xx]<;>omega
   .simp only [h,ke]<;>omega
theorem slicePick_cut (its:List Value) (lo a:Option Int):slicePick its.toArray lo a none=((its.drop (HT.sIx its.length 0 lo)).take (HT.sIx its.length its.length a-HT.sIx its.length 0 lo)).toArray:=by
 obtain ⟨h1,b,c⟩:=slice_bounds lo a its.toArray.size;unfold slicePick;rw [h1,b,c];simp only [sliceRange_one,pick_run,yw]<;>rfl
inductive rSlL (K:yg) (x:V) (lo:Option Int) (hi:Option Int) (H:Hp) (Q:VK):Prop|mk (a xs:_) (_:x=.ref a) (_:SqL K H a xs) (_:∀ p,H p=none->Q (.ref p) (upd H p (.lst (qcQ xs lo hi))))
theorem sl_list:SlR X (rSlL X.K):=by
 intro pins s σ H x v p t lo d n Q I l f pl i h;obtain ⟨a,xs,rfl,g,q⟩:=h;cases l;obtain ⟨its,r,e,hz⟩:=I.list g;have c:=r.length;refine ⟨"list",_,X3.lookup,e.isList.typeIs,?_⟩;refine wpAny_getItem_list_slice e.isList f pl i .none (by simp) ?_ (by rw [yw]<;>omega);rw [slicePick_cut,<- c];refine ⟨.ref s.heap.objs.size,_,I.laid (t':=s.toks) (o:=.lst (qcQ xs lo d)) (fun b m q=>yv _ q) (yh _) ?_,rfl,q _ (I.hok.fresh (yh _))⟩;exact ⟨yi (qaO xs lo d) hz,_,0,(r.drop (HT.sIx xs.length 0 lo)).take (HT.sIx xs.length xs.length d-HT.sIx xs.length 0 lo),yL _ rfl⟩
noncomputable def zQ:V->Bool
 | .non=>true
 | .bl _=>true
 | .int _=>true
 | .str _=>true
 | _=>false
noncomputable def eqV:V->V->Bool
 | .non,.non=>true
 | .bl a,.bl b=>a==b
 | .bl a,.int b=>(if a then 1 else 0)==b
 | .int a,.bl b=>a==(if b then 1 else 0)
 | .int a,.int b=>a==b
 | .str a,.str b=>a==b
 | _,_=>false
theorem qc5 (e:RelV y u) (c:RelV x v) (f:zQ y=true) (d:zQ x=true):SeqAt.EqAt A s u v (eqV y x):=by
 cases y with
 | non =>
  cases e
  cases x with
  | non=>cases c;exact XE _
  | bl b=>cases c;exact SeqAt.EqAt.none_bool b
  | int b=>obtain ⟨t,rfl⟩:=c;exact SeqAt.EqAt.none_int b t
  | str b=>obtain ⟨t,rfl⟩:=c;exact SeqAt.EqAt.none_str b t
  | _=>exact absurd (show false=true from d) Yd
 | bl a =>
  cases e
  cases x with
  | non=>cases c;exact SeqAt.EqAt.bool_none a
  | bl b=>cases c;exact SeqAt.EqAt.bool_bool a b
  | int b=>obtain ⟨t,rfl⟩:=c;exact SeqAt.EqAt.bool_int a b t
  | str b=>obtain ⟨t,rfl⟩:=c;exact SeqAt.EqAt.bool_str a b t
  | _=>exact absurd (show false=true from d) Yd
 | int a =>
  obtain ⟨t',rfl⟩:=e
  cases x with
  | non=>cases c;exact SeqAt.EqAt.int_none a t'
  | bl b=>cases c;exact SeqAt.EqAt.int_bool a t' b
  | int b=>obtain ⟨t,rfl⟩:=c;exact SeqAt.EqAt.int_int a t' b t
  | str b=>obtain ⟨t,rfl⟩:=c;exact SeqAt.EqAt.int_str a t' b t
  | _=>exact absurd (show false=true from d) Yd
 | str a =>
  obtain ⟨t',rfl⟩:=e
  cases x with
  | non=>cases c;exact SeqAt.EqAt.str_none a t'
  | bl b=>cases c;exact SeqAt.EqAt.str_bool a t' b
  | int b=>obtain ⟨t,rfl⟩:=c;exact SeqAt.EqAt.str_int a t' b t
  | str b=>obtain ⟨t,rfl⟩:=c;exact SeqAt.EqAt.str_str a t' b t
  | _=>exact absurd (show false=true from d) Yd
 | _=>exact absurd (show false=true from f) Yd
noncomputable def eqU (x:V) (u:Value):Bool:=match u with
 | .none=>eqV .non x
 | .bool b=>eqV (.bl b) x
 | .int i _=>eqV (.int i) x
 | .str z _=>eqV (.str z) x
 | _=>false
theorem qc6 (r:RelV y u) (f:zQ y=true):eqU x u=eqV y x:=by
 cases y with
 | non=>cases r;rfl
 | bl b=>cases r;rfl
 | int i=>obtain ⟨t,rfl⟩:=r;rfl
 | str z=>obtain ⟨t,rfl⟩:=r;rfl
 | _=>exact absurd (show false=true from f) Yd
theorem qaP:∀ {xs:List V} {us:List Value},Vals xs us->xs.all zQ=true->us.any (eqU x)=xs.any fun y=>eqV y x
 | _,_,.nil,_=>rfl
 | y::xs,u::us,.cons r t,f=>by
  rw [Xb,yW] at f;rw [Xy,Xy,qc6 r f.1,qaP t f.2]
theorem zF (b:RelV x v) (a:zQ x=true):∀ {xs:List V} {us:List Value},Vals xs us->xs.all zQ=true->∀ u∈us,SeqAt.EqAt A s u v (eqU x u)
 | _,_,.nil,_=>fun u hu=>by cases hu
 | y::xs,u::us,.cons r t,f=>fun c hu=>by
  rw [Xb,yW] at f;rcases yy.mp hu with rfl | hu
  .rw [qc6 r f.1];exact qc5 r b f.1 a
  .exact zF b a t f.2 c hu
noncomputable def inV (x:V) (xs:List V):Bool:=xs.any fun y=>eqV y x
inductive rIn (K:yg) (neg:Bool) (x:V) (y:V) (H:Hp) (Q:VK):Prop|mk (p xs:_) (_:y=.ref p) (_:(SqL K H p xs\/SqT K H p xs)) (_:zQ x=true) (_:xs.all zQ=true) (_:Q (.bl (if neg then !inV x xs else inV x xs)) H)
theorem op_in_seq:OpR X (compareOp .In) (rIn X.K false):=by
 intro pins s σ H x y v u Q I b c h;obtain ⟨p,xs,rfl,hq,a,fs,q⟩:=h;cases c;rcases hq with hq | hq
 .obtain ⟨its,r,pl,hz⟩:=I.list hq;refine SeqAt.in_listAt (eqU x) pl.isList (fun w hw=>zF b a r fs w (by simpa using hw)) ⟨.bl _,H,I,rfl,?_⟩;rw [show its.toArray.any (eqU x)=its.any (eqU x) by simp,qaP r fs];exact q
 .obtain ⟨its,r,pl,hz⟩:=I.tuple hq;refine SeqAt.in_tupleAt (eqU x) pl (fun w hw=>zF b a r fs w (by simpa using hw)) ⟨.bl _,H,I,rfl,?_⟩;rw [show its.toArray.any (eqU x)=its.any (eqU x) by simp,qaP r fs];exact q
theorem op_notIn_seq:OpR X (compareOp .NotIn) (rIn X.K true):=by
 intro pins s σ H x y v u Q I b c h;obtain ⟨p,xs,rfl,hq,a,fs,q⟩:=h;cases c;rcases hq with hq | hq
 .obtain ⟨its,r,pl,hz⟩:=I.list hq;refine SeqAt.notIn_listAt (eqU x) pl.isList (fun w hw=>zF b a r fs w (by simpa using hw)) ⟨.bl _,H,I,rfl,?_⟩;rw [show its.toArray.any (eqU x)=its.any (eqU x) by simp,qaP r fs];exact q
 .obtain ⟨its,r,pl,hz⟩:=I.tuple hq;refine SeqAt.notIn_tupleAt (eqU x) pl (fun w hw=>zF b a r fs w (by simpa using hw)) ⟨.bl _,H,I,rfl,?_⟩;rw [show its.toArray.any (eqU x)=its.any (eqU x) by simp,qaP r fs];exact q
theorem call_len_seq:zd X (.builtin "len") (fun xs H Q=>∃ p ys,xs=[.ref p]/\(SqL X.K H p ys\/SqT X.K H p ys)/\Q (.int ys.length) H):=by
 intro pins s σ H xs us Q I r h;obtain ⟨p,ys,rfl,hq,q⟩:=h;obtain ⟨u,rfl,c⟩:=qaz r;cases c;have d:=qa4;rcases hq with hq | hq
 .obtain ⟨its,b,pl,hz⟩:=I.list hq;have a:=b.length;exact Calls.call_len_list pl.isList (by simp only [yw]<;>omega) ⟨.int ys.length,H,I.tok _,⟨s.toks+1,by rw [yw,a]⟩,q⟩
 .obtain ⟨its,b,pl,hz⟩:=I.tuple hq;have a:=b.length;exact len_tuple pl (by simp only [yw]<;>omega) ⟨.int ys.length,H,I.tok _,⟨s.toks+1,by rw [yw,a]⟩,q⟩
theorem call_len_str:zd X (.builtin "len") (fun xs H Q=>∃ z,xs=[.str z]/\z.length<=sizeLine/\Q (.int z.length) H):=by
 intro pins s σ H xs us Q I r h;obtain ⟨z,rfl,hz,q⟩:=h;obtain ⟨u,rfl,t,rfl⟩:=qaz r;have a:=qa4;exact len_str (by omega) ⟨.int z.length,H,I.tok _,⟨_,rfl⟩,q⟩
theorem call_list_of:zd X (.type "list") (fun xs H Q=>∃ p ys,xs=[.ref p]/\(SqL X.K H p ys\/SqT X.K H p ys)/\∀ l,H l=none->Q (.ref l) (upd H l (.lst ys))):=by
 intro pins s σ H xs us Q I r h;obtain ⟨p,ys,rfl,hq,q⟩:=h;obtain ⟨u,rfl,v⟩:=qaz r;cases v;have d:∀ (its:List Value),Vals ys its->ys.length<=sizeLine->∀ (h':Heap) (a:Nat),(∀ b t,s.heap.get? b=some t->h'.get? b=some t) ->
   h'.get? s.heap.objs.size=some { cls:=.type "list",dict:=none,data:=.seq its.toArray a,slots:=#[] }->EP X pins σ Q (.ref s.heap.objs.size) { s with heap:=h' }:=fun its c hz h' a g e =>
  ⟨.ref s.heap.objs.size,_,I.laid (t':=s.toks) g (yh _) (show ObjOk X.prog X.w _ h' _ (.lst ys) from ⟨hz,its,a,c,e⟩),rfl,q _ (I.hok.fresh (yh _))⟩
 rcases hq with hq | hq
 .obtain ⟨its,c,pl,hz⟩:=I.list hq;have f:=c.length;obtain ⟨o,m,hc,n,i⟩:=pl.isList;exact call_list_seq p (.inl rfl) m hc i (fun h' a g e=>d its c hz h' a g e) (by simp only [yw]<;>omega)
 .obtain ⟨its,c,pl,hz⟩:=I.tuple hq;have f:=c.length;obtain ⟨o,m,hc,n,i⟩:=pl;exact call_list_seq p (.inr rfl) m hc i (fun h' a g e=>d its c hz h' a g e) (by simp only [yw]<;>omega)
def tyV (K:yg) (T:String) (x:V) (H:Hp):Prop:=match x with
 | .str _=>T="str"
 | .int _=>T="int"
 | .ref p=>(T="list"/\∃ xs,SqL K H p xs)\/(T="tuple"/\∃ o,K.lookup p=some o/\o.cls=.type "tuple"/\o.dict=none) \/
   (T="dict"/\((∃ kvs,H p=some (.dK kvs))\/∃ kvs,H p=some (.dT kvs)))\/(T="set"/\∃ S n,H p=some (.set S n))
 | _=>False
theorem qdH {T:String} (I:Inv X pins σ H s) (r:RelV x v) (ty:tyV X.K T x H) :
  s.TypeIs v T/\∀ a,v=.ref a->∃ g,s.heap.get? a=some g/\g.dict=none:=by
 cases x with
 | str z =>
  obtain ⟨t,rfl⟩:=r;cases (show T="str" from ty);exact ⟨typeIs_str s z t,fun _ e=>nomatch e⟩
 | int i =>
  obtain ⟨t,rfl⟩:=r;cases (show T="int" from ty);exact ⟨typeIs_int s i t,fun _ e=>nomatch e⟩
 | ref p =>
  cases r;rcases ty with ⟨rfl,xs,h⟩ | ⟨rfl,o,b,hc,f⟩ | ⟨rfl,b⟩ | ⟨rfl,S,n,b⟩
  .obtain ⟨its,_,pl,_⟩:=I.list h;refine ⟨pl.isList.typeIs,fun a e=>?_⟩;cases e;obtain ⟨o,n,e,c,f,_⟩:=pl;exact ⟨o,e,f⟩
  .refine ⟨⟨o,I.kIn p o b,hc⟩,fun a e=>?_⟩;cases e;exact ⟨o,I.kIn _ o b,f⟩
  .have z:∃ o,s.heap.get? p=some o/\o.ExactDict:=by
    rcases b with ⟨kvs,b⟩ | ⟨kvs,b⟩
    .obtain ⟨_,_,_,_,o,_,_,e,ex,_⟩:=I.hok p _ b;exact ⟨o,e,ex⟩
    .obtain ⟨_,_,_,_,o,_,_,e,ex,_⟩:=I.hok p _ b;exact ⟨o,e,ex⟩
   obtain ⟨o,e,ex⟩:=z;refine ⟨⟨o,e,ex.1⟩,fun a d=>?_⟩;cases d;exact ⟨o,e,ex.2.1⟩
  .obtain ⟨o,_,_,_,e,ex,_⟩:=I.hok p _ b;refine ⟨⟨o,e,ex.1⟩,fun a d=>?_⟩;cases d;exact ⟨o,e,ex.2.1⟩
 | _=>exact False.elim ty
def qeO (K:yg) (T:String) (r:V->List V->Hp->VK->Prop) (b:TE):TE:=fun σ H Q=>b σ H fun x a=>tyV K T x a/\r x [] a Q
def tBM (K:yg) (T:String) (r:V->List V->Hp->VK->Prop) (c:TE) (t:TA):TE:=fun σ H Q=>c σ H fun x a=>tyV K T x a/\t σ a fun xs b=>r x xs b Q
variable {o e:Expr} {es:List Expr} {to:TE} {t:TA} {name:Str} {apos cpos:Pos} {T id:String} {r:V->List V->Hp->VK->Prop}
theorem pe_bm0 (n:PlainAttrs T) (c:Slot T name id) (d:typeOf (.builtin id)=pure (.type "method_descriptor")) (l:MtR X id r) (m:PE X o to)
  (a:attributeBase o name X.env (eval o X.env)=eval o X.env:=by rfl) (b:(apos.endLine==cpos.line)=true:=by rfl):PE X (.Call (.Attribute o name apos) [] [] cpos) (qeO X.K T r to):=by
 intro pins s σ H Q I h;refine wpAny_Call_method0_late a b (thn (m pins s σ H _ I h) fun v q ⟨x,g,e,f,ty,p⟩=>?_);obtain ⟨h1,i⟩:=qdH e f ty;exact ⟨T,id,n,c,d,h1,i,Calls.callWith_builtin rfl (PySem.evalArgs_none (l pins q σ g x [] v [] Q e f .nil p))⟩
theorem pe_bm (B:PlainAttrs T) (f:Slot T name id) (g:typeOf (.builtin id)=pure (.type "method_descriptor")) (y:MtR X id r) (z:PE X o to) (w:PA X (e::es) t)
  (b:attributeBase o name X.env (eval o X.env)=eval o X.env:=by rfl)
  (d:((backTo cpos (starEach (e::es) X.env)).all (fun x=>!x.1)&&(backToKw cpos (keywordEach [] X.env)).all (fun x=>x.1.isSome)
   && decide ((e::es).length+([]:List Keyword).length+(if ([]:List Keyword).isEmpty then 0 else 1)<30))=true:=by rfl)
  (c:(apos.endLine==cpos.line)=true:=by rfl) (A:starEach (e::es) X.env=(false,eval e X.env)::starEach es X.env:=by rfl) (a:(backTo cpos (starEach es X.env)).any (·.1)=false:=by rfl) :
  PE X (.Call (.Attribute o name apos) (e::es) [] cpos) (tBM X.K T r to t):=by
 intro pins s σ H Q I h;refine wpAny_Call_method_late b d c rfl (thn (z pins s σ H _ I h) fun v F ⟨x,n,i,m,ty,C⟩=>?_);obtain ⟨h1,u⟩:=qdH i m ty;refine ⟨T,id,B,f,g,h1,u,?_⟩;have l:=w cpos pins F σ n _ i C;rw [A] at l ⊢;refine Calls.callWith_builtin (by show (false||(backTo cpos (starEach es X.env)).any (·.1))=false;rw [a]<;>rfl) (Calls.evalArgs_plain ?_);exact thn l fun us G ⟨vs,p,q,E,D⟩=>y pins G σ p x vs v us Q q m E D
end
def MtM (X:Cx) (id:String) (r:V->List V->Hp->VK->Prop):Prop:=
 ∀ (pins:List (Addr×Obj)) (s:Shared) (σ:St) (H:Hp) (x:V) (xs:List V) (v:Value) (us:List Value) (Q:VK),Inv X pins σ H s->RelV x v->Vals xs us->r x xs H Q ->
  wpAny (model X.prog X.w) X.A (call (.builtin id) (v::us)) (EP X pins σ Q) X.xe s
theorem Vals.one:∀ {x:V} {us:List Value},Vals [x] us->∃ u,us=[u]/\RelV x u
 | _,_,.cons r .nil=>⟨_,rfl,r⟩
theorem Vals.zero:∀ {us:List Value},Vals [] us->us=[]
 | _,.nil=>rfl
theorem Vals.dropLast (h:Vals xs us):Vals xs.dropLast us.dropLast:=by
 induction h with
 | nil=>exact .nil
 | cons r t ih =>
  cases t with
  | nil=>exact .nil
  | cons q t'=>exact .cons r ih
theorem Vals.eraseIdx:∀ {xs:List V} {us:List Value} (i:Nat),Vals xs us->Vals (xs.eraseIdx i) (us.eraseIdx i)
 | _,_,_,.nil=>.nil
 | _,_,0,.cons _ t=>t
 | _,_,i+1,.cons r t=>.cons r (Vals.eraseIdx i t)
theorem Vals.rep (h:Vals xs us):∀ k:Nat,Vals (List.replicate k xs).flatten (List.replicate k us).flatten
 | 0=>.nil
 | k+1=>by
  rw [Y9,Y9,xx,xx];exact Vals.append h (Vals.rep h k)
theorem erase_last (l:List α):l.eraseIdx (l.length-1)=l.dropLast:=by
 induction l with
 | nil=>rfl
 | cons a r ih =>
  cases r with
  | nil=>rfl
  | cons b r =>
   have e:(a::b::r).length-1=((b::r).length-1)+1:=by
    have h1:(a::b::r).length=r.length+2:=rfl;have c:(b::r).length=r.length+1:=rfl;omega
   rw [e,List.eraseIdx_cons_succ,ih]
   all_goals rfl
theorem qbF:∀ (l:List α) (i:Nat),(l.eraseIdx i).length<=l.length
 | [],_=>yh _
 | _::_,0=>xw _
 | _::r,i+1=>Nat.succ_le_succ (qbF r i)
theorem qbG (its:List Value):∀ (k:Nat) (acc:List Value),
  List.foldl (fun b c=>b++c) acc.toArray (List.replicate k its.toArray)=(acc++(List.replicate k its).flatten).toArray
 | 0,acc=>by simp
 | k+1,acc=>by
  have e:acc.toArray++its.toArray=(acc++its).toArray:=by simp
  have a:(acc++its)++(List.replicate k its).flatten=acc++(List.replicate (k+1) its).flatten:=by
   rw [Y9,xx,yY]
  rw [<- a,<- qbG its k (acc++its),<- e,Y9,List.foldl_cons]
section
variable {X:Cx} {pins:List (Addr×Obj)} {σ:St} {H:Hp} {s:Shared} {l b:Addr} {xs ys zs:List V}
theorem Inv.lset {f:Array Value->Array Value} (I:Inv X pins σ H s) (a:H l=some (.lst xs))
  (e:s.heap.get? l=some { cls:=.type "list",data:=.seq its.toArray n }) (c:f its.toArray=its'.toArray) (hv:Vals ys its') (hz:ys.length<=sizeLine) :
  Inv X pins σ (upd H l (.lst ys)) { s with heap:=s.heap.update l (Obj.mapSeq f),toks:=t' }:=by
 have q:=PySem.IsL.update e f;rw [c] at q;refine I.write (x:=l) (e:=l) (by rw [a];exact trivial) (.inl rfl) (fun g u b d=>(YT s.heap (Obj.mapSeq f) (Yb b)).trans d) ⟨_,q⟩ ?_;exact ⟨hz,its',_,hv,q⟩
theorem Inv.lnew (I:Inv X pins σ H s) (hv:Vals ys its) (hz:ys.length<=sizeLine) :
  Inv X pins σ (upd H s.heap.objs.size (.lst ys)) { s with heap:=s.heap.push { cls:=.type "list",data:=.seq its.toArray },toks:=t' }:=
 I.laid (fun _ _ q=>yv _ q) (yh _) ⟨hz,its,0,hv,yL _ rfl⟩
theorem Inv.fresh (I:Inv X pins σ H s):H s.heap.objs.size=none:=I.hok.fresh (yh _)
theorem Inv.lstM (I:Inv X pins σ H s) (a:H l=some (.lst xs)):xs.length<=sizeLine/\∃ (its:List Value) (n:Nat),Vals xs its/\xs.length=its.length/\s.heap.get? l=some { cls:=.type "list",data:=.seq its.toArray n }:=by
 obtain ⟨z,its,n,r,e⟩:=I.hok l _ a;exact ⟨z,its,n,r,r.length,e⟩
theorem qcs (h:n<=sizeLine):Builtin.List.listTooLong n=false:=by
 unfold Builtin.List.listTooLong;exact yl (by omega)
end
section
variable {X:Cx}
inductive rAppend (x:V) (vs:List V) (H:Hp) (Q:VK):Prop|mk (l xs y:_) (_:x=.ref l) (_:vs=[y]) (_:H l=some (.lst xs)) (_:xs.length<sizeLine) (_:Q .non (upd H l (.lst (xs++[y]))))
theorem mt_append:MtM X "list.append" rAppend:=by
 intro pins s σ H x vs v us Q I d c h;obtain ⟨l,xs,y,rfl,rfl,a,hz,q⟩:=h;cases d;obtain ⟨u,rfl,b⟩:=c.one;obtain ⟨z,its,n,r,hl,e⟩:=I.lstM a;refine Xg F.slot_list_append ⟨_,e,rfl⟩ F.entry_list_append (F.args_list_append_2 _ _) (PySem.list_append l its.toArray n u (by rw [yw];omega)) ⟨e,?_⟩;refine ⟨.non,_,I.lset (its':=its++[u]) a e (by simp) (r.append (.cons b .nil)) ?_,rfl,q⟩;rw [yt,YX];omega
inductive rExtend (x:V) (vs:List V) (H:Hp) (Q:VK):Prop|mk (l b xs zs:_) (_:x=.ref l) (_:vs=[.ref b]) (_:H l=some (.lst xs)) (_:H b=some (.lst zs)) (_:xs.length+zs.length<=sizeLine) (_:Q .non (upd H l (.lst (xs++zs))))
theorem mt_extend:MtM X "list.extend" rExtend:=by
 intro pins s σ H x vs v us Q I w t h;obtain ⟨l,b,xs,A,rfl,rfl,d,g,hz,q⟩:=h;cases w;obtain ⟨u,rfl,p⟩:=t.one;cases p;obtain ⟨z,its,n,r,hl,e⟩:=I.lstM d;obtain ⟨y,a,m,o,i,f⟩:=I.lstM g;have hsz:its.toArray.size+a.toArray.size<=sizeLine:=by rw [yw,yw];omega
 have c:¬ (!its.toArray.isEmpty&&Builtin.List.listTooLong (its.toArray.size+a.toArray.size))=true:=by
  rw [qcs hsz,Bool.and_false];exact Yd
 refine Xg F.slot_list_extend ⟨_,e,rfl⟩ F.entry_list_extend (F.args_list_extend_2 _ _)
  (AutoSeq1.list_extend_list_list_0 l its.toArray n b a.toArray m c (by rw [yw];omega) (by omega)) ⟨e,f,?_⟩
 refine ⟨.non,_,I.lset (its':=its++a) d e (by simp) (r.append o) ?_,rfl,q⟩;rw [yt];omega
inductive rPop (x:V) (vs:List V) (H:Hp) (Q:VK):Prop|mk (l xs y:_) (_:x=.ref l) (_:vs=[]) (_:H l=some (.lst xs)) (_:xs[xs.length-1]?=some y) (_:Q y (upd H l (.lst xs.dropLast)))
theorem mt_pop:MtM X "list.pop" rPop:=by
 intro pins s σ H x vs v us Q I m i h;obtain ⟨l,xs,y,rfl,rfl,c,f,q⟩:=h;cases m;have a:=i.zero;subst a;obtain ⟨z,its,n,r,hl,e⟩:=I.lstM c;obtain ⟨u,d,g⟩:=r.get f
 have b:its.toArray[its.toArray.size-1]?=some u:=by
  show its.toArray[its.length-1]?=some u;rw [<- xQ,<- hl];exact d
 refine Xg F.slot_list_pop ⟨_,e,rfl⟩ F.entry_list_pop (F.args_list_pop_1 _) (MeetsSeq.list_pop_last l its.toArray n u b (by rw [yw];omega)) ⟨e,?_⟩;refine ⟨y,_,I.lset (its':=its.dropLast) c e ?_ r.dropLast ?_,g,q⟩
 .show its.toArray.eraseIdxIfInBounds (its.toArray.size-1)=its.dropLast.toArray;rw [yw,List.eraseIdxIfInBounds_toArray,erase_last]
 .rw [List.length_dropLast];omega
inductive rPopAt (x:V) (vs:List V) (H:Hp) (Q:VK):Prop|mk (l xs i k y:_) (_:x=.ref l) (_:vs=[.int i]) (_:H l=some (.lst xs)) (_:-(2 ^ 63)<=i) (_:i<2 ^ 63) (_:seqIndex? i xs.length=some k) (_:xs[k]?=some y) (_:Q y (upd H l (.lst (xs.eraseIdx k))))
theorem mt_popAt:MtM X "list.pop" rPopAt:=by
 intro pins s σ H x vs v us Q I o m h;obtain ⟨l,xs,i,k,y,rfl,rfl,b,h1,c,d,f,q⟩:=h;cases o;obtain ⟨u,rfl,g⟩:=m.one;obtain ⟨t,rfl⟩:=g;obtain ⟨z,its,n,r,hl,e⟩:=I.lstM b;obtain ⟨w,hw,a⟩:=r.get f;refine Xg F.slot_list_pop ⟨_,e,rfl⟩ F.entry_list_pop (F.args_list_pop_2 _ _)
  (MeetsSeq.list_pop_at l its.toArray n i t k w (fitsIndex_both h1 c) (by rw [yw,<- hl];exact d) (by rw [<- xQ];exact hw) (by rw [yw];omega)) ⟨e,?_⟩
 refine ⟨y,_,I.lset (its':=its.eraseIdx k) b e ?_ (r.eraseIdx k) ?_,a,q⟩
 .show its.toArray.eraseIdxIfInBounds k=(its.eraseIdx k).toArray;rw [List.eraseIdxIfInBounds_toArray]
 .have:=qbF xs k;omega
inductive rReverse (x:V) (vs:List V) (H:Hp) (Q:VK):Prop|mk (l xs:_) (_:x=.ref l) (_:vs=[]) (_:H l=some (.lst xs)) (_:Q .non (upd H l (.lst xs.reverse)))
inductive rClear (x:V) (vs:List V) (H:Hp) (Q:VK):Prop|mk (l xs:_) (_:x=.ref l) (_:vs=[]) (_:H l=some (.lst xs)) (_:Q .non (upd H l (.lst [])))
theorem mt_clear:MtM X "list.clear" rClear:=by
 intro pins s σ H x vs v us Q I d c h;obtain ⟨l,xs,rfl,rfl,b,q⟩:=h;cases d;have a:=c.zero;subst a;obtain ⟨z,its,n,r,hl,e⟩:=I.lstM b;refine Xg F.slot_list_clear ⟨_,e,rfl⟩ F.entry_list_clear (F.args_list_clear_1 _) (AutoSeq1.list_clear_list_0 l its.toArray n (by rw [yw];omega)) ⟨e,?_⟩;exact ⟨.non,_,I.lset (its':=[]) (ys:=[]) b e rfl .nil (YW _),rfl,q⟩
inductive rCat (x:V) (y:V) (H:Hp) (Q:VK):Prop|mk (l b xs zs:_) (_:x=.ref l) (_:y=.ref b) (_:H l=some (.lst xs)) (_:H b=some (.lst zs)) (_:xs.length+zs.length<=sizeLine) (_:∀ p,H p=none->Q (.ref p) (upd H p (.lst (xs++zs))))
theorem op_cat:OpR X (binaryOp .Add) rCat:=by
 intro pins s σ H x y v u Q I o p h;obtain ⟨l,b,xs,A,rfl,rfl,g,f,hz,q⟩:=h;cases o;cases p;obtain ⟨z,its,n,r,hl,e⟩:=I.lstM g;obtain ⟨w,a,t,m,i,c⟩:=I.lstM f;refine PySem.P.add_list e c ?_ (by rw [yw,yw];omega);have d:its.toArray++a.toArray=(its++a).toArray:=by simp
 rw [d];exact ⟨.ref _,_,I.lnew (t':=s.toks) (r.append m) (by rw [yt];omega),rfl,q _ I.fresh⟩
inductive rRep (x:V) (y:V) (H:Hp) (Q:VK):Prop|mk (l k xs:_) (_:x=.ref l) (_:y=.int k) (_:H l=some (.lst xs)) (_:-(2 ^ 63)<=k) (_:k<2 ^ 63) (_:xs.length*k.toNat<=sizeLine) (_:∀ p,H p=none->Q (.ref p) (upd H p (.lst (List.replicate k.toNat xs).flatten)))
theorem len_rep (xs:List α) (k:Nat):(List.replicate k xs).flatten.length=k*xs.length:=by
 induction k with
 | zero=>simp
 | succ k ih=>rw [Y9,xx,yt,ih,Nat.succ_mul,Nat.add_comm]
theorem qdI:OpR X (binaryOp .Mult) rRep:=by
 intro pins s σ H x y v u Q I B C h;obtain ⟨l,k,xs,rfl,rfl,A,h1,w,hz,q⟩:=h;cases B;obtain ⟨t,rfl⟩:=C;obtain ⟨z,its,n,r,hl,e⟩:=I.lstM A;have f:its.toArray.size*k.toNat<=sizeLine:=by rw [yw,<- hl];exact hz
 have c:¬ its.toArray.size*k.toNat>(2 ^ 63-1) / 8:=by
  have:(sizeLine:Nat)<=(2 ^ 63-1) / 8:=by decide
  omega
 have d:¬ (!Builtin.List.listFitsIndex k)=true:=by
  rw [fitsIndex_both h1 w];exact Yd
 have b:¬ Builtin.List.listTooLong (its.toArray.size*k.toNat)=true:=by
  rw [qcs f];exact Yd
 have g:List.foldl (fun i o=>i++o) #[] (List.replicate (if its.toArray.isEmpty=true then 0 else k.toNat) its.toArray)=(List.replicate k.toNat its).flatten.toArray:=by
  have p:∀ m:Nat,List.foldl (fun i o=>i++o) #[] (List.replicate m its.toArray)=(List.replicate m its).flatten.toArray:=fun m=>by
   have:=qbG its m [];rw [List.nil_append] at this;exact this
  rw [p]
  cases its with
  | nil=>simp
  | cons a r'=>rw [yD (by simp)]
 refine wpAny_binaryOp_repeat_ref (T:="list") (U:="int") (by decide) ⟨_,e,rfl⟩ (fun D=>typeIs_int D k t) noFill_list_mul F.fills_int_mul F.slot_int_rmul repeat_list F.slot_int_index.lookup
  (Xg F.slot_int_rmul (typeIs_int s k t) F.entry_int_rmul (F.args_int_rmul_2 _ _) (int___rmul___int_list k t l its.toArray n)
   ⟨e,rfl,⟨_,e,rfl⟩,Xg F.slot_list_mul ⟨_,e,rfl⟩ F.entry_list_mul (F.args_list_mul_2 _ _) (AutoListH.list___mul___list_int_3 l its.toArray n k t d c b) ⟨e,?_⟩⟩)
 rw [g];exact ⟨.ref _,_,I.lnew (t':=s.toks) (r.rep k.toNat) (by rw [len_rep,Nat.mul_comm];exact hz),rfl,q _ I.fresh⟩
end
section
variable {prog:Program} {w:World} {A:Around} {E:Value->Shared->Prop} {s:Shared}
set_option maxRecDepth 100000 in
end
section
variable {X:Cx}
end
section
variable {κ:Type} [DecidableEq κ]
noncomputable def jT (kvs:List (κ×V)) (k:κ):Option V:=(kvs.find? fun a=>decide (a.1=k)).map (·.2)
noncomputable def zf (kvs:List (κ×V)) (k:κ) (v:V):List (κ×V):=
 if (kvs.any fun a=>decide (a.1=k))=true then kvs.map (fun a=>if a.1=k then (a.1,v) else a) else kvs++[(k,v)]
noncomputable def dropK (kvs:List (κ×V)) (k:κ):List (κ×V):=kvs.filter fun a=>decide (a.1≠k)
theorem jd {p:κ×V} {r:List (κ×V)} {k:κ} (e:p.1=k):jT (p::r) k=some p.2:=by simp [jT,xt,e]
theorem qS {p:κ×V} {r:List (κ×V)} {k:κ} (e:¬ p.1=k):jT (p::r) k=jT r k:=by simp [jT,xt,e]
theorem zG (k:κ):∀ kvs:List (κ×V),(kvs.any fun a=>decide (a.1=k))=(jT kvs k).isSome
 | []=>rfl
 | p::r=>by
  rw [Xy];by_cases e:p.1=k
  .simp only [jd e,yQ e,Bool.true_or,Option.isSome_some]
  .rw [qS e,yl e,Bool.false_or];exact zG k r
theorem qct (k j:κ) (y:V):∀ kvs:List (κ×V),jT (kvs.map fun a=>if a.1=k then (a.1,y) else a) j=(jT kvs j).map fun x=>if j=k then y else x
 | []=>rfl
 | p::r=>by
  have b:=qct k j y r;rw [Yv];by_cases h:p.1=k
  .rw [yK h];by_cases e:p.1=j
   .rw [jd (p:=(p.1,y)) e,jd e,XF,yK (e.symm.trans h)]
   .rw [qS (p:=(p.1,y)) e,qS e,b]
  .rw [yD h];by_cases e:p.1=j
   .rw [jd (p:=p) e,jd e,XF,yD (fun z=>h (e.trans z))]
   .rw [qS (p:=p) e,qS e,b]
theorem qbH (k j:κ) (y:V):∀ kvs:List (κ×V),jT kvs k=none->jT (kvs++[(k,y)]) j=if j=k then some y else jT kvs j
 | [],_=>by
  by_cases e:k=j
  .rw [yK e.symm];exact jd (p:=(k,y)) e
  .rw [yD (fun z=>e z.symm)];exact qS (p:=(k,y)) e
 | p::r,hn=>by
  rw [kg];have a:¬ p.1=k:=fun z=>by rw [jd z] at hn;cases hn
  rw [qS a] at hn;have b:=qbH k j y r hn;by_cases e:p.1=j
  .rw [jd e,jd e,yD (fun z=>a (e.trans z))]
  .rw [qS e,qS e,b]
theorem qaC (kvs:List (κ×V)) (k j:κ) (y:V):jT (zf kvs k y) j=if j=k then some y else jT kvs j:=by
 unfold zf;by_cases a:(kvs.any fun c=>decide (c.1=k))=true
 .rw [yK a,qct];rw [zG] at a;by_cases e:j=k
  .obtain ⟨x,b⟩:=Y0.mp a;rw [yK e,e,b,XF,yK rfl]
  .rw [yD e]
   cases jT kvs j with
   | none=>rfl
   | some x=>rw [XF,yD e]
 .rw [yD a];refine qbH k j y kvs ?_;rw [zG] at a
  cases q:jT kvs k with
  | none=>rfl
  | some x=>rw [q] at a;exact (a rfl).elim
theorem jy (kvs:List (κ×V)) (k:κ) (v:V):(zf kvs k v).length<=kvs.length+1:=by
 unfold zf;split
 .rw [ya];omega
 .rw [yt,yA,Y6];omega
theorem qaD {kvs:List (κ×V)} {k:κ} (v:V) (h:jT kvs k=none):zf kvs k v=kvs++[(k,v)]:=by
 unfold zf;rw [zG,h];exact yD (by decide)
theorem RelO.isSome_eq {u:Option Value} (r:RelO o u):o.isSome=u.isSome:=by
 cases o with
 | none=>cases u with
  | none=>rfl
  | some _=>exact (show False from r).elim
 | some _=>cases u with
  | none=>exact (show False from r).elim
  | some _=>rfl
theorem KV.val {kvs:List (κ×V)} {vs:List (κ×Value)} (r:KV kvs vs) (k:κ):RelO (jT kvs k) (valueAt vs k):=by
 unfold KV at r
 induction r with
 | nil=>exact YS
 | @cons p q ps qs h t ih =>
  obtain ⟨h1,c⟩:=h;by_cases e:p.1=k
  .have a:q.1=k:=h1.symm.trans e;have b:valueAt (q::qs) k=some q.2:=by simp [valueAt,xt,a]
   rw [jd e,b];exact c
  .have a:¬ q.1=k:=fun z=>e (h1.trans z);have b:valueAt (q::qs) k=valueAt qs k:=by simp [valueAt,xt,a]
   rw [qS e,b];exact ih
theorem KV.any {kvs:List (κ×V)} {vs:List (κ×Value)} (r:KV kvs vs) (k:κ):(kvs.any fun a=>decide (a.1=k))=vs.any fun a=>decide (a.1=k):=by
 unfold KV at r
 induction r with
 | nil=>rfl
 | cons h t ih=>rw [Xy,Xy,ih,h.1]
theorem KV.repl {kvs:List (κ×V)} {vs:List (κ×Value)} (r:KV kvs vs) (k:κ) (c:RelV y u) :
  KV (kvs.map fun a=>if a.1=k then (a.1,y) else a) (vs.map fun a=>if a.1=k then (a.1,u) else a):=by
 unfold KV at r ⊢
 induction r with
 | nil=>exact .nil
 | @cons p q ps qs h t ih =>
  rw [Yv,Yv];refine .cons ?_ ih;obtain ⟨h1,b⟩:=h;by_cases e:p.1=k
  .rw [yK e,yK (h1.symm.trans e)];exact ⟨h1,c⟩
  .rw [yD e,yD (fun z=>e (h1.trans z))];exact ⟨h1,b⟩
theorem KV.put {kvs:List (κ×V)} {vs:List (κ×Value)} (r:KV kvs vs) (k:κ) (a:RelV y u):KV (zf kvs k y) (stored vs k u):=by
 unfold zf stored;rw [r.any k];by_cases e:(vs.any fun b=>decide (b.1=k))=true
 .rw [yK e,yK e];exact r.repl k a
 .rw [yD e,yD e];exact Paired.snoc r ⟨rfl,a⟩
theorem KV.length {kvs:List (κ×V)} {vs:List (κ×Value)} (r:KV kvs vs):kvs.length=vs.length:=Paired.length r
end
theorem qc7 {k:Key} (r:RelV (kV k) u):(jq P w).is k u=true:=by
 cases k with
 | inl i=>obtain ⟨t,e⟩:=(show ∃ t,u=Value.int i t from r);subst e;exact mixKind_int P w i t
 | inr x=>obtain ⟨t,e⟩:=(show ∃ t,u=Value.str x t from r);subst e;exact mixKind_str P w x t
theorem qbI:∀ {ks:List Key} {us:List Value},Vals (ks.map kV) us->ItemsAre (jq P w) ks us
 | [],_,r=>by rw [List.map_nil] at r;cases r;exact .nil
 | k::ks,_,r=>by
  rw [Yv] at r
  cases r with
  | cons h t=>exact .cons (qc7 h) (qbI t)
abbrev KT (H:Hp):List (List Key×V)->List (List Key×Addr×Value)->Prop:=Paired fun p q=>p.1=q.1/\H q.2.1=some (.tup (p.1.map kV))/\RelV p.2 q.2.2
theorem KT.val {xs:List (List Key×Addr×Value)} (r:KT H kvs xs) (k:List Key):RelO (jT kvs k) ((atKey xs k).map (·.2)):=by
 induction r with
 | nil=>exact YS
 | @cons p q ps qs h t ih =>
  obtain ⟨h1,_,c⟩:=h;by_cases e:p.1=k
  .have a:q.1=k:=h1.symm.trans e;have b:atKey (q::qs) k=some q.2:=by simp [atKey,xt,a]
   rw [jd e,b];exact c
  .have a:¬ q.1=k:=fun z=>e (h1.trans z);have b:atKey (q::qs) k=atKey qs k:=by simp [atKey,xt,a]
   rw [qS e,b];exact ih
theorem KT.repl {xs:List (List Key×Addr×Value)} (r:KT H kvs xs) (k:List Key) (d:RelV y u) :
  KT H (kvs.map fun a=>if a.1=k then (a.1,y) else a) (xs.map (putAt k u)):=by
 induction r with
 | nil=>exact .nil
 | @cons p q ps qs h t ih =>
  rw [Yv,Yv];refine .cons ?_ ih;obtain ⟨h1,b,c⟩:=h;unfold putAt;by_cases e:p.1=k
  .rw [yK e,yK (h1.symm.trans e)];exact ⟨h1,b,d⟩
  .rw [yD e,yD (fun z=>e (h1.trans z))];exact ⟨h1,b,c⟩
theorem KT.put {xs:List (List Key×Addr×Value)} (r:KT H kvs xs) (k:List Key) {b:Addr} (c:H b=some (.tup (k.map kV))) (a:RelV y u) :
  KT H (zf kvs k y) (storedH xs k b u):=by
 have e:(kvs.any fun d=>decide (d.1=k))=(atKey xs k).isSome:=by
  rw [zG,(r.val k).isSome_eq,xT]
 unfold zf storedH;rw [e];by_cases q:(atKey xs k).isSome=true
 .rw [yK q,yK q];exact r.repl k a
 .rw [yD q,yD q];exact Paired.snoc r ⟨rfl,c,a⟩
theorem KT.keeps {xs:List (List Key×Addr×Value)} (r:KT H kvs xs) (a:∀ b ys,H b=some (.tup ys)->H' b=some (.tup ys)):KT H' kvs xs:=
 Paired.mapP r fun _ _ z=>⟨z.1,a _ _ z.2.1,z.2.2⟩
section
variable {P:Program} {w:World} {H:Hp} {h:Heap} {a:Addr}
theorem qes {u:HO} (ok:HOk P w H h) (e:Rd H a u):ObjOk P w H h a u:=e.ok ok
theorem qcR {kvs:List (Key×V)} (ok:HOk P w H h) (e:Rd H a (.dK kvs)):kvs.length<=sizeLine/\(a==sysModules)=false/\∃ vs,KV kvs vs/\h.DictOf (jq P w) a vs:=
 show ObjOk P w H h a (.dK kvs) from qes ok e
theorem dk_of {kvs:List (Key×V)} (ok:HOk P w H h) (e:H a=some (.dK kvs)):kvs.length<=sizeLine/\(a==sysModules)=false/\∃ vs,KV kvs vs/\h.DictOf (jq P w) a vs:=qcR ok (.inl e)
theorem qbJ {ks:List Key} (ok:HOk P w H h) (e:H a=some (.tup (ks.map kV))):(tupleKind (jq P w)).is h ks a:=by
 obtain ⟨_,its,r,o,h1,b,n,c⟩:=(show ObjOk P w H h a (.tup (ks.map kV)) from ok a _ e);exact ⟨o,its.toArray,n,h1,b,c,by simpa using qbI r⟩
theorem qc8 (ok:HOk P w H h) (e:Rd H a (.dT kvs)):kvs.length<=sizeLine/\(a==sysModules)=false /\
  ∃ xs,KT H kvs xs/\h.DictOfH (tupleKind (jq P w)) a xs:=by
 obtain ⟨z,y,xs,r,o,es,ep,h1,b,c,d,f⟩:=(show ObjOk P w H h a (.dT kvs) from qes ok e);refine ⟨z,y,xs,r,o,es,ep,h1,b,c,d,fun x hx=>?_,f⟩
 have all:∀ {l:List (List Key×V)} {m:List (List Key×Addr×Value)},KT H l m->∀ x∈m,(tupleKind (jq P w)).is h x.1 x.2.1:=by
  intro l m q
  induction q with
  | nil=>intro x hx;exact nomatch hx
  | @cons p q ps qs hq t ih =>
   intro x hx;rcases yy.mp hx with e | hx
   .subst e;exact qbJ ok (by rw [<- hq.1];exact hq.2.1)
   .exact ih x hx
 exact all r x hx
theorem dt_of (ok:HOk P w H h) (e:H a=some (.dT kvs)):kvs.length<=sizeLine/\(a==sysModules)=false /\
  ∃ xs,KT H kvs xs/\h.DictOfH (tupleKind (jq P w)) a xs:=qc8 ok (.inl e)
end
def DGet (H:Hp) (a:Addr) (y:V) (r:Option V):Prop:=
 (∃ kvs k,Rd H a (.dK kvs)/\y=kV k/\r=jT kvs k)\/∃ kvs k b,Rd H a (.dT kvs)/\y=.ref b/\H b=some (.tup (k.map kV))/\r=jT kvs k
def DPut (H:Hp) (a:Addr) (y v:V) (H':Hp):Prop:=
 (∃ kvs k,H a=some (.dK kvs)/\y=kV k/\kvs.length<sizeLine/\H'=upd H a (.dK (zf kvs k v))) \/
 ∃ kvs k b,H a=some (.dT kvs)/\y=.ref b/\H b=some (.tup (k.map kV))/\kvs.length<sizeLine/\H'=upd H a (.dT (zf kvs k v))
theorem DGet.k {kvs:List (Key×V)} {k:Key} (e:H a=some (.dK kvs)):DGet H a (kV k) (jT kvs k):=.inl ⟨kvs,k,.inl e,rfl,rfl⟩
theorem DPut.k {kvs:List (Key×V)} {k:Key} {v:V} (e:H a=some (.dK kvs)) (hl:kvs.length<sizeLine):DPut H a (kV k) v (upd H a (.dK (zf kvs k v))):=.inl ⟨kvs,k,e,rfl,hl,rfl⟩
section
variable {X:Cx} {pins:List (Addr×Obj)} {σ:St} {H:Hp} {s:Shared} {a:Addr} {y v:V} {u r:Value} {o:Option V} {A:Around} {E:Value->Shared->Prop}
theorem Inv.big (I:Inv X pins σ H s):sysModules<s.heap.objs.size:=by
 have h:mainGlobals<s.heap.objs.size:=(I.mod.glob.keeps I.bk).lt;exact Nat.lt_trans (by decide) h
theorem d_getItem {Q:Value->Shared->Prop} (C:A.units+1<cLine) (I:Inv X pins σ H s) (g:DGet H a y (some v)) (q:RelV y u) (h:∀ f r,Inv X pins σ H r->RelV v f->Q f r) :
  wpAny (model X.prog X.w) A (getItem (.ref a) u) Q E s:=by
 rcases g with ⟨kvs,k,e,m,l⟩ | ⟨kvs,k,b,e,m,t,l⟩
 .subst m;obtain ⟨z,x,vs,c,i⟩:=qcR I.hok e;obtain ⟨f,hw,d⟩:=RelO.some_of (v:=v) (o:=valueAt vs k) (by rw [l];exact c.val k);exact wpAny_getItem_of (qc7 q) i.mapOf hw (h f _ (I.tok _) d)
 .subst m;cases (show u=Value.ref b from q);obtain ⟨z,x,xs,c,i⟩:=qc8 I.hok e;obtain ⟨f,hw,d⟩:=RelO.some_of (v:=v) (o:=(atKey xs k).map (·.2)) (by rw [l];exact c.val k);obtain ⟨p,B,n⟩:=yn.mp hw;refine wpAny_getItem_heap (Xh C) (qbJ I.hok t) i B ?_;rw [n];exact h f _ (I.tok _) d
theorem d_in {Q:Value->Shared->Prop} (r:A.units+1<cLine) (I:Inv X pins σ H s) (g:DGet H a y o) (m:RelV y u) (h:∀ n,Inv X pins σ H n->Q (.bool o.isSome) n) :
  wpAny (model X.prog X.w) A (compareOp .In u (.ref a)) Q E s:=by
 rcases g with ⟨kvs,k,e,f,l⟩ | ⟨kvs,k,b,e,f,p,l⟩
 .subst f;obtain ⟨z,i,vs,c,d⟩:=qcR I.hok e;refine wpAny_in_of (qc7 m) i d.mapOf ?_;rw [<- (c.val k).isSome_eq,<- l];exact h _ (I.tok _)
 .subst f;cases (show u=Value.ref b from m);obtain ⟨z,i,xs,c,d⟩:=qc8 I.hok e;refine wpAny_in_heap (Xh r) (qbJ I.hok p) i d ?_;have q:=(c.val k).isSome_eq;rw [xT] at q;rw [<- q,<- l];exact h _ (I.tok _)
theorem d_notIn {Q:Value->Shared->Prop} (r:A.units+1<cLine) (I:Inv X pins σ H s) (g:DGet H a y o) (m:RelV y u) (h:∀ n,Inv X pins σ H n->Q (.bool (!o.isSome)) n) :
  wpAny (model X.prog X.w) A (compareOp .NotIn u (.ref a)) Q E s:=by
 rcases g with ⟨kvs,k,e,f,l⟩ | ⟨kvs,k,b,e,f,p,l⟩
 .subst f;obtain ⟨z,i,vs,c,d⟩:=qcR I.hok e;refine wpAny_notIn_of (qc7 m) i d.mapOf ?_;rw [<- (c.val k).isSome_eq,<- l];exact h _ (I.tok _)
 .subst f;cases (show u=Value.ref b from m);obtain ⟨z,i,xs,c,d⟩:=qc8 I.hok e;refine wpAny_notIn_heap (Xh r) (qbJ I.hok p) i d ?_;have q:=(c.val k).isSome_eq;rw [xT] at q;rw [<- q,<- l];exact h _ (I.tok _)
theorem qc9 {c:HO} (I:Inv X pins σ H s) (h:Mut (H a)) (g:Heap.SameBut a s.heap h') (f:∃ q,h'.get? a=some q) (new:ObjOk X.prog X.w (upd H a c) h' a c) :
  Inv X pins σ (upd H a c) { s with heap:=h',toks:=t' }:=
 I.write (x:=a) (e:=a) h (.inl rfl) (fun b q d z=>(g.2 b d).trans z) f new
theorem dk_new {kvs:List (Key×V)} {vs:List (Key×Value)} (z:kvs.length<=sizeLine) (d:(a==sysModules)=false) (b:KV kvs vs) (c:h'.DictOf (jq P w) a vs) :
  ObjOk P w H' h' a (.dK kvs):=⟨z,d,vs,b,c⟩
theorem d_setItem {Q:Unit->Shared->Prop} (N:A.units+1<cLine) (I:Inv X pins σ H s) (g:DPut H a y v H') (D:RelV y u) (C:RelV v r) (h:∀ F,Inv X pins σ H' F->Q () F) :
  wpAny (model X.prog X.w) A (setItem (.ref a) u r) Q E s:=by
 rcases g with ⟨kvs,k,e,o,l,n⟩ | ⟨kvs,k,b,e,o,x,l,n⟩
 .subst o n;obtain ⟨z,p,vs,d,m⟩:=dk_of I.hok e;have hz:vs.length<=sizeLine:=by rw [<- d.length];exact z
  have hl:(zf kvs k v).length<=sizeLine:=by have:=jy kvs k v;omega
  refine wpAny_setItem_pairs (hsz:=hz) (qc7 D) m fun h' f t=>h _ ?_;have M:∃ q,h'.get? a=some q:=let ⟨q,_,_,i,_⟩:=f;⟨q,i⟩;exact qc9 I (by rw [e];exact YS) t M (dk_new hl p (d.put k C) f)
 .subst o n;cases (show u=Value.ref b from D);obtain ⟨z,p,xs,d,m⟩:=dt_of I.hok e;have hz:xs.length<=sizeLine:=by rw [<- Paired.length d];exact z
  have hl:(zf kvs k v).length<=sizeLine:=by have:=jy kvs k v;omega
  refine wpAny_setItem_heap (hsz:=hz) (Xh N) (qbJ I.hok x) m fun h' f t=>h _ ?_;obtain ⟨q,es,ep,i,G,J,K,_,L⟩:=f;refine qc9 I (by rw [e];exact YS) t ⟨q,i⟩ ⟨hl,p,_,(d.put k x C).keeps fun c ys B=>?_,q,es,ep,i,G,J,K,L⟩;rw [qe (zw B e (fun z=>nomatch z))];exact B
end
section
variable {X:Cx} {pins:List (Addr×Obj)} {σ:St} {H:Hp} {s:Shared} {a:Addr} {kvs:List (Key×V)} {k:Key} {u:Value} {A:Around} {E:Value->Shared->Prop}
theorem d_len {Q:Value->Shared->Prop} (I:Inv X pins σ H s) (e:Rd H a (.dK kvs)) (h:∀ t c,Inv X pins σ H c->Q (.int kvs.length t) c):wpAny (model X.prog X.w) A (call (.builtin "len") [.ref a]) Q E s:=by
 obtain ⟨z,f,vs,b,d⟩:=qcR I.hok e;refine call_len_dict f d (by rw [<- b.length];rw [Yy] at z;omega) ?_;rw [<- b.length];exact h _ _ (I.tok _)
end
theorem dict_typeIs {X:Cx} (I:Inv X pins σ H s) (g:DGet H a y o):s.TypeIs (.ref a) "dict":=by
 rcases g with ⟨kvs,k,e,_,_⟩ | ⟨kvs,k,b,e,_,_,_⟩
 .obtain ⟨_,_,vs,_,c⟩:=qcR I.hok e;exact c.typeIs
 .obtain ⟨_,_,xs,_,c⟩:=qc8 I.hok e;exact c.typeIs
section
variable {X:Cx} {o i e value:Expr} {pos pos' tpos:Pos} {td ty tv:TE}
end
theorem dk_empty (h:Heap) (a:sysModules<h.objs.size):ObjOk P w H (h.push { cls:=.type "dict",data:=.dict #[] }) h.objs.size (.dK []):=
 ⟨YW _,YF.mpr (Yb (y0 a)),[],.nil,Heap.DictOf.new h⟩
def tDNewK:TE:=fun _ H Q=>∀ p,H p=none->Q (.ref p) (upd H p (.dK []))
section
variable {X:Cx} {pos:Pos}
theorem zH:PE X (.Dict [] [] pos) tDNewK:=fun pins s σ H Q I h =>
 wpAny_Dict_empty ⟨.ref s.heap.objs.size,_,I.laid (a:=s.heap.objs.size) (o:=.dK []) (t':=s.toks) (fun _ _ q=>yv _ q) (yh _) (dk_empty s.heap I.big),rfl,h _ (I.hok.fresh (yh _))⟩
end
noncomputable def mergeK (kvs more:List (Key×V)):List (Key×V):=more.foldl (fun acc a=>zf acc a.1 a.2) kvs
structure M1 (X:Cx) (o:Expr) (m:Str) (apos:Pos) (e:Expr) (cpos:Pos):Prop where
 base:attributeBase o m X.env (eval o X.env)=eval o X.env
 few:((backTo cpos (starEach [e] X.env)).all (fun x=>!x.1)&&(backToKw cpos (keywordEach [] X.env)).all (fun x=>x.1.isSome)
  && decide (([e]:List Expr).length+([]:List Keyword).length+(if ([]:List Keyword).isEmpty then 0 else 1)<30))=true
 line:(apos.endLine==cpos.line)=true
 trees:backTo cpos (starEach [e] X.env)=[(false,eval e X.env)]
structure M2 (X:Cx) (o:Expr) (m:Str) (apos:Pos) (e f:Expr) (cpos:Pos):Prop where
 base:attributeBase o m X.env (eval o X.env)=eval o X.env
 few:((backTo cpos (starEach [e,f] X.env)).all (fun x=>!x.1)&&(backToKw cpos (keywordEach [] X.env)).all (fun x=>x.1.isSome)
  && decide (([e,f]:List Expr).length+([]:List Keyword).length+(if ([]:List Keyword).isEmpty then 0 else 1)<30))=true
 line:(apos.endLine==cpos.line)=true
 trees:backTo cpos (starEach [e,f] X.env)=[(false,eval e X.env),(false,eval f X.env)]
def IsD (H:Hp) (a:Addr):Prop:=(∃ kvs,Rd H a (.dK kvs))\/∃ kvs,Rd H a (.dT kvs)
section
variable {X:Cx} {pins:List (Addr×Obj)} {σ:St} {H:Hp} {s:Shared} {a:Addr} {y d:V} {u r:Value} {o:Option V} {A:Around} {E:Value->Shared->Prop}
end
def tDGet2 (e ty f:TE):TE:=fun σ H Q=>e σ H fun x b=>∃ a,x=.ref a/\IsD b a/\ty σ b fun y d=>f σ d fun z c=>∃ o,DGet c a y o/\Q (o.getD z) c
section
variable {X:Cx} {o e f:Expr} {apos cpos:Pos} {td ty tx:TE}
end
section
variable {X:Cx} {pins:List (Addr×Obj)} {σ:St} {H:Hp} {s:Shared} {a:Addr} {kvs:List (Key×V)} {A:Around} {E:Value->Shared->Prop}
end
section
variable {X:Cx} {pins:List (Addr×Obj)} {σ:St} {H:Hp} {s:Shared} {a:Addr} {y:V} {u:Value} {A:Around} {E:Value->Shared->Prop}
end
end L2
namespace Att
open PySem PySem.W PySem.Calls PyProof.Rows
variable {P:Params} {h:Heap} {l:OpenLaw} {n:Nat}
theorem ints_of_wellAll:∀ (ns:List Int) (vs:List Value),WellAll P h vs (ns.map WData.int)->IntsAre vs ns:=by
 intro ns
 induction ns with
 | nil =>
  intro vs w;rw [List.map_nil] at w;cases w;exact .nil
 | cons n ns ih =>
  intro vs w;rw [Yv] at w
  cases w with
  | cons a b =>
   cases a;exact .cons _ _ (ih _ b)
theorem script_of (s:l.most=some n) {args:List WData} {c:List Value}
  (b:l.row.toRowW.claim.pre args=true) (m:WellAll P h c args) :
  ∃ a vs ns,c=[Value.ref a]/\args=[WData.list (ns.map WData.int)]/\h.get? a=some { cls:=.type "list",data:=.seq vs.toArray }/\IntsAre vs ns/\ns.length<=n:=by
 have i:WShape.hasAll [] args [.list .int]=true:=(pre_splitW b).1;have hc:l.pre.holds [] { args:=args }=true:=(pre_splitW b).2;obtain ⟨d,r,rfl,h1,o⟩:=hasAllW_cons i;obtain rfl:=hasAllW_nil o;obtain ⟨xs,rfl,p⟩:=hasW_list h1;obtain ⟨ns,rfl⟩:=items_int p
 have e:ns.length<=n:=by
  unfold OpenLaw.pre at hc
  have f:(WTm.not (.lt (.lit (.int (n:Int))) (.len (.arg 0)))).holds [] { args:=[.list (ns.map .int)] }=true:=by
   have f:=(holds_andW hc).1;rw [s] at f;exact f
  have g:=condW_of f (w_not (w_lt w_lit (w_len_list (w_arg rfl))));rw [ya] at g;refine Nat.le_of_not_lt fun q=>?_;have t:(n:Int)<((ns.length:Nat):Int):=by omega
  first
   | (rw [yQ t] at g;exact absurd g (by decide))
   | (simp at g;omega)
 cases m with
 | cons w1 w2 =>
  cases w2
  cases w1 with
  | list ho hall=>exact ⟨_,_,ns,rfl,rfl,ho,ints_of_wellAll ns _ hall,e⟩
theorem post_true (l:OpenLaw) (args:List WData):l.row.toRowW.claim.post args (.bool true) args=true:=
 postW_of (r:=l.row.toRowW) (X:=(true==true))
  (show WShape.has [] (.bool true) .bool=true by first | rfl | decide | simp [WShape.has,WShape.arms,WShape.armsAll])
  (show (WTm.eq .res (.lit (.bool true))).value [] { args:=args,res:=some (.bool true),after:=args }=some (.bool (true==true)) from w_eq_bool (w_res rfl) w_lit) rfl
theorem attach_call {q:Program} {loose:List Str} {XP:(Str->Option Value)->Heap->Prop} {YP:World->Heap->Prop} {d:DefRec}
  (N:l.most=some n) (v:d.params.defaults=[])
  (call:∀ (w:World) (s₀ b:Shared) (s z:Str->Option Value) (g:Addr) (o:Obj) (A p c:Value) (a:Addr) (vs:List Value) (ns:List Int),
   Ground q loose [] XP w s₀ s z b.heap->YP w b.heap ->
   b.heap.get? g=some o->o.data=.func (docDef d.name d.params d.body d.scope A p c)->b.heap.CodeRec p d.name->s d.name=some (.ref g) ->
   b.heap.get? a=some { cls:=.type "list",data:=.seq vs.toArray }->IntsAre vs ns->ns.length<=n->b.gens=#[] ->
   codeAny (model l.prog w) callerA (.call (.ref g) ⟨[.ref a],[]⟩) (fun r t=>r=.ok (.ret (.bool true))/\OldK b.heap t.heap/\t.os=b.os/\AllBare t.gens) b) :
  WalkO q loose XP YP l.row.toRowW d [] (fun f vs=>PySem.call f vs):=by
 intro w s₀ b s z G Y g o A p c E kV O J u B x K args D as m C R y L;obtain rfl:E=.none:=Dflts.none B v;obtain rfl:kV=.none:=Dflts.noKw B;obtain ⟨a,vs,ns,rfl,rfl,i,e,h⟩:=script_of N m y;refine enter_call (xY (call w s₀ b s z g o A p c a vs ns G Y O (fd_plain J) u x i e h K) fun r t P=>?_);obtain ⟨rfl,F,H,I⟩:=P;exact ⟨.inl ⟨.bool true,.bool true,[],rfl,fun _=>rfl,.bool true,post_true l _,fun _=>⟨List.Pairwise.nil,fun _ M=>(nomatch M)⟩⟩,F,H,I⟩
section
variable {prog:Program} {w:World} {A:Around} {E:Value->Shared->Prop} {s:Shared} {K:Frag}
noncomputable def ledger (h:Heap) (L d:Addr):List (Addr×Obj):=(List.range h.objs.size).filterMap fun a=>if a=L\/a=d then none else (h.get? a).map fun o=>(a,o)
end
end Att
namespace L2
open PySem PySem.Spec PyProof.Rows
variable {A B:Prop} {H H':Hp} {a f:Addr} {fd:FuncData} {n:Nat} {ps:List Str} {qual x:Str} {sp:Sp} {st:Stmt}
theorem qbK:∀ {vs:List Value} {ns:List Int},IntsAre vs ns->Vals (ns.map V.int) vs
 | _,_,.nil=>.nil
 | _,_,.cons n t h=>.cons ⟨t,rfl⟩ (qbK h)
def qeP (H:Hp):Prop:=∀ b,H b=none\/∃ o xs,H b=some (.frz o (.lst xs))
theorem law_call {P:Program} {w:World} {K:yg} {I U:Str->Option Value} {CX:CXT} {k:Nat} {N:Addr} {c:Shared} {vs:List Value} {ns:List Int}
  (X:K.In c.heap) (C:c.heap.Ns mainGlobals I) (f:c.heap.Ns builtinsNs U) (R:∀ x:Str,x≠"__name__"->U x=bootBuiltins x) (B:c.heap.NoLimit) (hg:c.gens=#[])
  (L:c.heap.get? a=some { cls:=.type "list",data:=.seq vs.toArray }) (hi:IntsAre vs ns) (hl:ns.length<=sizeLine) (hr:Room k callerA)
  (F:∀ g:Heap,K.In g->g.Ns mainGlobals I->FnOk P w K I g CX k N fd [x] sp) (t:∀ (s:Shared) (u:Value),BindsTo s fd ⟨[u],[]⟩ [(x,u)])
  (T:∀ H:Hp,qeP H->SqL K H a (ns.map V.int)->sp [.ref a] H (fun v _=>v=.bl true) fun _ _ _=>False)
  (O:∀ H e i,CX [] H c (fun _ _ _=>False) e i->False) :
  codeAny (model P w) callerA (.call (.ref N) ⟨[.ref a],[]⟩) (fun r i=>r=.ok (.ret (.bool true))/\OldK c.heap i.heap/\i.os=c.os/\AllBare i.gens) c:=by
 have rv:=qbK hi;have G:=hi.length;have p:∀ H:Hp,qeP H->SqL K H a (ns.map V.int)->HOk P w H c.heap->(∀ b,H b≠none->b=a)->(H a≠none->K.lookup a=none) ->
   codeAny (model P w) callerA (.call (.ref N) ⟨[.ref a],[]⟩) (fun r i=>r=.ok (.ret (.bool true))/\OldK c.heap i.heap/\i.os=c.os/\AllBare i.gens) c:=by
  intro H hO hS D Z hK;have base_of:∀ {b:Addr} {o:Obj},c.heap.get? b=some o->H b=none->(qdv c.heap H).get? b=some o:=fun e n=>hidT_get e n
  have W:∀ {b:Addr} {o:Obj} {es:Array DictEntry} {ep:Nat},c.heap.get? b=some o->o.data=.dict es ep->H b=none:=fun {b o es ep} e d=>by
   cases q:H b with
   | none=>rfl
   | some u =>
    have M:b=a:=Z b (by rw [q];simp);subst M;rw [L] at e;cases e;have d':Data.seq vs.toArray _=Data.dict es ep:=d;cases d'
  have l:∀ {b:Addr} {m:Str->Option Value},c.heap.Ns b m->(qdv c.heap H).Ns b m:=fun {b m} ⟨o,es,ep,e,d,r⟩=>⟨o,es,ep,base_of e (W e d),d,r⟩
  have A:K.In (qdv c.heap H):=fun b o e=>base_of (X b o e) (by
   cases q:H b with
   | none=>rfl
   | some u =>
    have M:b=a:=Z b (by rw [q];simp);subst M;rw [hK (by rw [q];simp)] at e;cases e)
  have hM:Mod K I (qdv c.heap H):=⟨A,l C,⟨U,l f,R⟩,let ⟨mc,h1,h2⟩:=B;⟨mc,l h1,h2⟩⟩;have e0:Env0 P w K I (qdv c.heap H) callerA [] c H:=⟨rfl,hM,fun b o e=>of_hidT e,XU (hidT_size _ _),trivial,fun b f=>absurd (show b∈([]:List Addr) from f) (by simp),D,.of_eq hg⟩;refine xY ((F _ A (l C)).run callerA [] c H ⟨[.ref a],[]⟩ [.ref a] [.ref a] _ _ hr e0 (t c (.ref a)) (.cons rfl .nil) (T H hO hS)) fun r i h=>?_
  cases r with
  | error e=>exact (O H e i h).elim
  | ok fl =>
   cases fl with
   | next=>exact False.elim h
   | brk=>exact False.elim h
   | cont=>exact False.elim h
   | ret u =>
    obtain ⟨v,H',os,y,un,E,r',q⟩:=h;have q':v=.bl true:=q;subst q';obtain rfl:u=Value.bool true:=r';refine ⟨rfl,OldK.of_keep fun b o e=>?_,os,y⟩
    cases q:H b with
    | none=>exact un.keep b o e q (by intro z;exact absurd (show b∈([]:List Addr) from z) (by simp)) (by simp)
    | some u =>
     rcases hO b with z | ⟨ob,xs,z⟩
     .rw [q] at z;cases z
     .have z2:=un.frzs b ob _ z;obtain ⟨Y,_⟩:=D b _ z;obtain ⟨e2,_⟩:=E b _ z2;rw [e] at Y;cases Y;exact e2
 cases S:K.lookup a with
 | some o =>
  have e:=X a o S;rw [L] at e;cases e;refine p (fun _=>none) (fun _=>.inl rfl) (.inr ⟨_,vs.toArray,_,S,rfl,rfl,rfl,by rw [yw,G];exact hl,by simpa using rv⟩) (fun b u z=>by have J:(none:Option HO)=some u:=z;cases J) (fun b z=>absurd rfl z) fun z=>absurd rfl z
 | none =>
  refine p (fun b=>if b=a then some (.frz { cls:=.type "list",data:=.seq vs.toArray } (.lst (ns.map V.int))) else none) (fun b=>?_) (.inl (.inr ⟨{ cls:=.type "list",data:=.seq vs.toArray },yK rfl⟩)) (fun b u z=>?_) (fun b z=>?_) fun _=>S
  .by_cases f:b=a
   .exact .inr ⟨_,_,yK f⟩
   .exact .inl (yD f)
  .by_cases f:b=a
   .have J:=(yK f).symm.trans z;cases J;subst f;exact ⟨L,by rw [ya];exact hl,vs,_,rv,L⟩
   .have J:=(yD f).symm.trans z;cases J
  .by_cases f:b=a
   .exact f
   .exact absurd (yD f) z
noncomputable abbrev KOf {K:yg} {h:Heap} (_:K.In h):yg:=K
theorem walk_of {l:PySem.W.OpenLaw} {k:Nat} {q:Program} {loose:List Str} {XP:(Str->Option Value)->Heap->Prop} {YP:World->Heap->Prop} {d:DefRec} {K:Params->yg} {CX:World->CXT} {sp:World->Sp}
  (U:l.most=some n) (C:n<=sizeLine) (A:d.params.defaults=[]) (X:Room k callerA)
  (O:∀ (w:World) (h:Heap),YP w h->(K w.params).In h)
  (F:∀ (w:World) (p:Str->Option Value) (y:Addr) (h:Heap),(K w.params).In h->h.Ns mainGlobals p->p d.name=some (.ref y) ->
   ∃ fd:FuncData,(∀ (s:Shared) (u:Value),BindsTo s fd ⟨[u],[]⟩ [(x,u)]) /\
    ∀ c:Heap,(K w.params).In c->c.Ns mainGlobals p->FnOk l.prog w (K w.params) p c (CX w) k y fd [x] (sp w))
  (D:∀ (w:World) (H:Hp) (a:Addr) (ns:List Int),ns.length<=n->qeP H->SqL (K w.params) H a (ns.map V.int)->sp w [.ref a] H (fun v _=>v=.bl true) fun _ _ _=>False)
  (z:∀ (w:World) (H:Hp) (s:Shared) (e:Value) (E:Shared),CX w [] H s (fun _ _ _=>False) e E->False) :
  PySem.W.WalkO q loose XP YP l.row.toRowW d [] (fun f vs=>PySem.call f vs):=by
 refine Att.attach_call U A fun w s₀ t p mb y o pm Z J a vs ns G Y ho hd R B r m i S=>?_;have I:=O w _ Y;obtain ⟨fd,P,L⟩:=F w p y _ I G.T.g B;exact law_call I G.T.g G.T.b G.T.builtins G.T.nolimit S r m (yi i C) X L P (fun H M N=>D w H a ns i M N) fun H e E=>z w H t e E
abbrev CX0:CXT:=fun _ _ _ _ _ _=>False
abbrev E0:XK:=fun _ _ _=>False
theorem qE {X:Cx}:qay CX0 X E0:=fun _ _ _ _ _ _ _ h=>h.elim
structure Fun (K:yg) (x qual:Str) (st:Stmt) (f:Addr) (fd:FuncData):Prop where
 ex:∃ (oc:Value) (od:Option Addr) (kV doc pm:Value) (an:Option Addr) (cdv ct:Value) (osl:Array (Option Value)),
  fd=PySem.W.fnOf x qual (zU st) (zz st) (qh st) .none kV doc pm an cdv ct/\K.lookup f=some ⟨oc,od,.func fd,osl⟩/\PySem.W.codeIn K cdv qual=true
 kp:PySem.W.keepIn K (.ref f)=true
section
variable {P:Program} {w:World} {K:yg} {mg:Str->Option Value} {base:Heap}
theorem Fun.ok {N:List Str} {k:Nat} (F:Fun K x qual st f fd) (S:FnScope N ps (qh st)) (c:∀ (b:Value) (A:Around) (a:List Env) (s:Shared) (H:Hp) (vs:List V) (Q:VK) (E:XK),Room k (A.deeper (envOfC qual (qh st) s.heap.objs.size f b))->sp vs H Q E ->
   ∃ t,PSs (qef CX0 P w K mg base N qual (qh st) f b A a s H E).nox (zz st) t/\t { nx:=fun _ H'=>Q .non H',rt:=Q } (start N vs) H) (len:∀ vs H Q E,sp vs H Q E->vs.length=ps.length:=by intro _ _ _ _ h;cases h;subst_vars;rfl):FnOk P w K mg base CX0 (k+1) f fd ps sp:=by
 obtain ⟨o,od,kV,g,p,n,b,ct,m,rfl,l,d⟩:=F.ex;refine fn_of l d S len fun A a s H vs Q E i e=>?_;obtain ⟨t,h,q⟩:=c b A a s H vs Q E i e;exact ⟨t,h.nox,q⟩
theorem Fun.binds (F:Fun K x qual st f fd)
  (h:∀ (kV b d:Value) (c:Option Addr) (a ct:Value) (us:List Value),us.length=ps.length->bindArgs (PySem.W.fnOf x qual (zU st) (zz st) (qh st) .none kV b d c a ct) ⟨us,[]⟩=pure (ps.zip us)):Binds K fd ps []:=by
 obtain ⟨l,od,kV,b,d,c,a,ct,g,rfl,i,e⟩:=F.ex;exact .all (h kV b d c a ct)
theorem fun_mk {h:Value} {od e:Option Addr} {d:Array (Option Value)} {kV b g a ct:Value} (l:K.lookup f=some ⟨h,od,.func (PySem.W.fnOf x qual (zU st) (zz st) (qh st) .none kV b g e a ct),d⟩)
  (c:PySem.W.codeIn K a qual=true) (k:PySem.W.keepIn K (.ref f)=true):Fun K x qual st f (PySem.W.fnOf x qual (zU st) (zz st) (qh st) .none kV b g e a ct):=⟨⟨h,od,kV,b,g,e,a,ct,d,rfl,l,c⟩,k⟩
end
theorem qg (h:n<=1000):n<sizeLine:=Yr h (by decide)
section
variable {X:Cx}
theorem pv (i:Nat) {b:Pos} (c:X.N[i]?=some x:=by rfl) (hv:Vis X.env.scope x:=by first | exact yR rfl | exact XG (yR rfl) | exact XG (XG rfl)) (d:(x==("__debug__":Str))=false:=by decide)
  (a:(x==("__classdict__":Str))=false:=by decide):PE X (.Name x b) (qeJ i):=pe_var c hv d a
theorem call_lenD:zd X (.builtin "len") (fun xs H Q=>∃ a kvs,xs=[V.ref a]/\H a=some (.dK kvs)/\Q (.int kvs.length) H):=by
 intro b s g H xs us Q I r h;obtain ⟨a,kvs,rfl,d,q⟩:=h;obtain ⟨u,rfl,e⟩:=qaz r;cases e;exact d_len I (.inl d) fun t f c=>⟨.int kvs.length,H,c,⟨t,rfl⟩,q⟩
end
theorem zg (h:A):if true=true then A else B:=by
 rw [yK rfl];exact h
theorem qG {c:Prop} [Decidable c] (h1:c->A) (a:¬ c->B):if c then A else B:=by
 by_cases h:c
 .rw [yK h];exact h1 h
 .rw [yD h];exact a h
def Same (H H':Hp):Prop:=∀ b o,H b=some o->H' b=some o
theorem Same.refl (H:Hp):Same H H:=fun _ _ h=>h
theorem Same.trans {d e:Hp} (a:Same H d) (b:Same d e):Same H e:=fun c o h=>b c o (a c o h)
theorem Same.free (e:Same H H') {l:Addr} (h:H' l=Option.none):H l=Option.none:=by
 cases q:H l with
 | none=>rfl
 | some o =>
  rw [e l o q] at h;cases h
theorem Same.seq {K:yg} {xs:List V} (e:Same H H') (h:SqL K H a xs):SqL K H' a xs:=by
 rcases h with (h | ⟨o,h⟩) | h
 .exact .inl (.inl (e _ _ h))
 .exact .inl (.inr ⟨o,e _ _ h⟩)
 .exact .inr h
section
variable {κ:Type} [DecidableEq κ]
end
end L2
set_option maxHeartbeats 4000000
namespace L2
open PySem PySem.Spec PyProof.Rows
variable {C D c e it p:Addr} {E:Value->Shared->Prop} {H:Hp} {N:List Str} {P:Program} {QO:Option Int->Hp->Prop} {R:It->Hp->Prop} {T:String} {X:Cx} {acc:List (Str×Addr)} {dx:Option Addr} {elt iter tg:Expr} {env:Env} {expr:Bool} {f:V->List V->Hp->VK->Prop} {fp:List Addr} {g:TG} {h:Heap} {i:Int} {ifs:List Expr} {its:List Value} {ixs:List Nat} {n nl:Nat} {od:Option Obj} {ox:Obj} {pins:List (Addr×Obj)} {pos:Pos} {s:Shared} {sc scope:Scope} {t u:Value} {tc:TT} {te:TE} {tk:Tok} {v y:V} {w:World} {wi:TI} {x z:Str} {xs ys:List V} {α:Type} {σ:St}
section
variable {prog:Program} {w:World} {A:Around} {R:Result->Shared->Prop} {s:Shared}
theorem compLoop_own {a:Expr} {it acc:Value} (I:Nat->Shared->Prop)
  (d:∀ n s,I n s->wpAny (model prog w) A (pyNext it) (fun r f=>match r with
   | none=>R (.ok .next) f
   | some v=>wpAny (model prog w) A (letOwnedTupleGo a it v) (fun _ b=>wpAny (model prog w) A (assign a env v) (fun _ l =>
     wpAny (model prog w) A (forIn ifs true fun c r=>if r=true then do let ok <- isTrue c env (eval c env);pure (ForInStep.yield ok) else pure (ForInStep.yield r)) (fun ok g =>
      if ok=true then wpAny (model prog w) A (eval elt env) (fun x o =>
       wpAny (model prog w) A (call (.builtin "list.append") [acc,x]) (fun _ p=>∃ m,m<n/\I m p) (fun _ _=>False) o) (fun _ _=>False) g
      else ∃ m,m<n/\I m g) (fun _ _=>False) l) (fun _ _=>False) b) (fun _ _=>False) f) (fun _ _=>False) s)
  (n:Nat) (h:I n s) :
  codeAny (model prog w) A (.compLoop (.ListComp elt [⟨a,iter,ifs,0⟩] scope pos) 0 it acc env) R s:=by
 refine codeAny_loop rfl I (fun n s y=>?_) n h;show wpAny _ A ((compTurn (.ListComp elt [⟨a,iter,ifs,0⟩] scope pos) 0 it acc env).onRaise (fun x=>do noteFrame x env;theTreesLotGoes x)) _ _ s;refine wpAny_noted ?_;rw [compTurn_list];refine yr (wpAny_standAt (yr (YG (d n s y) (fun r f h1=>?_) fun _ _ h'=>h'.elim)))
 cases r with
 | none=>exact yu h1
 | some v =>
  refine yr (YG h1 (fun _ b e=>?_) fun _ _ h'=>h'.elim);refine yr (YG e (fun _ l q=>yr (YG q (fun ok g i=>?_) fun _ _ h'=>h'.elim)) fun _ _ h'=>h'.elim)
  cases ok with
  | false=>exact yu ⟨rfl,i⟩
  | true =>
   exact yr (yr (YG i (fun x o t=>yr (YG t (fun _ p u=>yu (yu ⟨rfl,u⟩)) fun _ _ h'=>h'.elim)) fun _ _ h'=>h'.elim))
end
noncomputable def qH (env:Env):List (Str×NameKind)->List (Str×Addr)->List (Str×Addr)
 | [],acc=>acc
 | (n,k)::r,acc=>qH env r (if (k==.free)=true then (n,(env.cells.lookup n).getD 0)::acc else acc)
theorem zh:∀ {names:List (Str×NameKind)} {acc:List (Str×Addr)} {x:Str} {c:Addr},(qH env names acc).lookup x=some c ->
  ((x,NameKind.free)∈names/\c=(env.cells.lookup x).getD 0)\/acc.lookup x=some c
 | [],_,_,_,h=>.inr h
 | (n,k)::r,acc,x,c,h=>by
  unfold qH at h;rcases zh h with ⟨h1,f⟩ | h1
  .exact .inl ⟨yC _ h1,f⟩
  .by_cases a:(k==NameKind.free)=true
   .rw [yK a,YY] at h1
    cases b:x==n with
    | true =>
     rw [b] at h1;have e:x=n:=Yk.mp b;have d:k=.free:=Yk.mp a;subst e d;exact .inl ⟨yO,(ym h1).symm⟩
    | false =>
     rw [b] at h1;exact .inr h1
   .rw [yD a] at h1;exact .inr h1
theorem zZ:∀ {names:List (Str×NameKind)} {acc:List (Str×Addr)} {x:Str},(∃ c,acc.lookup x=some c)->∃ c,(qH env names acc).lookup x=some c
 | [],_,_,h=>h
 | (n,k)::r,acc,x,h=>by
  unfold qH;apply zZ;by_cases a:(k==NameKind.free)=true
  .rw [yK a,YY]
   cases b:x==n with
   | true=>exact ⟨_,rfl⟩
   | false=>exact h
  .rw [yD a];exact h
theorem zi:∀ {names:List (Str×NameKind)} {acc:List (Str×Addr)} {x:Str},(x,NameKind.free)∈names->∃ c,(qH env names acc).lookup x=some c
 | [],_,_,h=>by cases h
 | (n,k)::r,acc,x,h=>by
  unfold qH;rcases yy.mp h with e | e
  .cases e;apply zZ;rw [show (NameKind.free==NameKind.free)=true from rfl,yK rfl,YY,xG];exact ⟨_,rfl⟩
  .exact zi e
theorem qaa (h:∀ n,(n,NameKind.free)∈scope.names->∃ c,env.cells.lookup n=some c):closureFor scope env=pure (qH env scope.names []):=by
 have f:∀ (names:List (Str×NameKind)) (acc:List (Str×Addr)),(∀ n,(n,NameKind.free)∈names->∃ c,env.cells.lookup n=some c) ->
   (forIn names acc (fun (x:Str×NameKind) (r:List (Str×Addr))=>(if (x.2==NameKind.free)=true then (cellOf env x.1>>=fun c=>pure (ForInStep.yield ((x.1,c)::r))) else pure (ForInStep.yield r):Sem (ForInStep (List (Str×Addr))))))=(pure (qH env names acc):Sem (List (Str×Addr))):=by
  intro names
  induction names with
  | nil=>intro acc _;rfl
  | cons x r ih =>
   intro acc d;obtain ⟨n,k⟩:=x;rw [List.forIn_cons];unfold qH;by_cases a:(k==NameKind.free)=true
   .have g:k=.free:=Yk.mp a;subst g;obtain ⟨c,hc⟩:=d n yO;have i:cellOf env n=pure c:=by unfold cellOf;rw [hc]
    simp only [a,Xx,i,hc,Option.getD_some];exact ih _ fun m b=>d m (yC _ b)
   .simp only [a,ke];exact ih _ fun m b=>d m (yC _ b)
 have e:=f scope.names [] h;unfold closureFor;exact Eq.trans (congrArg (fun m=>m>>=pure) e) rfl
@[reducible] noncomputable def Cx.comp (X:Cx) (N:List Str) (scope:Scope) (C:Addr) (s0:Shared) (H0:Hp) (ex:List Addr):Cx where
 prog:=X.prog
 w:=X.w
 K:=X.K
 mg:=X.mg
 base:=X.base
 A:=X.A
 N:=N
 s₀:=s0
 H₀:=H0
 env:=compEnvC scope (cellsFrom (C+1) scope.names (qH X.env scope.names [])) C X.env
 outer:=X.stack
 stack:=X.stack
 ex:=ex
 fn:=fun x=>scope.names.lookup x==some NameKind.cell
 calm:=X.calm
 pn:=[]
 xe:=fun _ _=>False
theorem ji:∀ (names:List (Str×NameKind)) (n:Nat) (acc:List (Str×Addr)),cellsFrom n names acc=cellsFrom n names []++acc
 | [],_,_=>rfl
 | (m,k)::r,n,acc=>by
  unfold cellsFrom;split
  .rw [ji r (n+1) ((m,n)::acc),ji r (n+1) [(m,n)],yY];rfl
  .exact ji r n acc
theorem qab:∀ {names:List (Str×NameKind)} {n:Nat} {x:Str},(x,NameKind.cell)∈names->∃ c,(cellsFrom n names []).lookup x=some c
 | (m,k)::r,n,x,h=>by
  unfold cellsFrom;rcases yy.mp h with e | e
  .cases e;rw [yK (show (NameKind.cell==NameKind.cell)=true from rfl),ji,xm]
   cases q:(cellsFrom (n+1) r []).lookup m with
   | some c=>exact ⟨c,rfl⟩
   | none=>exact ⟨n,by show List.lookup m [(m,n)]=some n;rw [YY,xG]⟩
  .split
   .rw [ji,xm];obtain ⟨c,hc⟩:=qab (n:=n+1) e;exact ⟨c,by rw [hc];rfl⟩
   .exact qab e
theorem qaQ:∀ {names:List (Str×NameKind)} {n:Nat} {x:Str} {c:Addr},(x,c)∈cellsFrom n names []->(x,NameKind.cell)∈names
 | (m,k)::r,n,x,c,h=>by
  unfold cellsFrom at h;split at h
  .rename_i hk
   rw [ji] at h;rcases yx.mp h with z | z
   .exact yC _ (qaQ z)
   .have e:(x,c)=(m,n):=yB.mp z;cases e;rw [Yk.mp hk];exact yO
  .exact yC _ (qaQ h)
theorem qaR {names:List (Str×NameKind)} (h:(cellsFrom n names acc).lookup x=some c):(x,c)∈cellsFrom n names []\/acc.lookup x=some c:=by
 rw [ji,xm] at h
 cases e:(cellsFrom n names []).lookup x with
 | some d=>rw [e] at h;cases h;exact .inl (mem_of_lookup e)
 | none=>rw [e] at h;exact .inr h
theorem cells_some {names:List (Str×NameKind)} (h:(x,NameKind.cell)∈names\/∃ c,acc.lookup x=some c):∃ c,(cellsFrom n names acc).lookup x=some c:=by
 rw [ji,xm]
 cases e:(cellsFrom n names []).lookup x with
 | some d=>exact ⟨d,rfl⟩
 | none =>
  rcases h with z | ⟨c,hc⟩
  .obtain ⟨d,a⟩:=qab (n:=n) z;rw [e] at a;cases a
  .exact ⟨c,hc⟩
section
variable {M:Model} {A:Around} {E:Value->Shared->Prop} {s:Shared}
theorem newEnvK {c:Addr} {b:List (Str×Addr)} {g:Str} {f:Option Addr} {e:Value} {d:Env} {a:Addr} {Q:Env->Shared->Prop}
  (l:Q (newEnv scope s.heap.objs.size c (cellsFrom (s.heap.objs.size+1) scope.names b) g f e (some d) a) { s with heap:=pushCells (s.heap.push { cls:=.type "dict",data:=.dict #[] }) scope.names }) :
  wpAny M A (newFunctionEnv scope c b [] g f e (some d) a) Q E s:=by
 simp only [newFunctionEnv,Option.isSome_some,Xx];refine yr (wpAny_alloc ?_);refine yr (wpAny_layCells _ (fun name kind h=>by cases i:kind==NameKind.cell<;>simp [i]) _ _ _ _ ?_);rw [show ({ s with heap:=s.heap.push { cls:=.type "dict",data:=.dict #[] } }:Shared).heap.objs.size=s.heap.objs.size+1 from YJ ..];rw [List.forIn_nil];exact yr (yu (yu l))
end
structure CompOk (sc scope:Scope):Prop where
 kind:scope.kind=.function
 cel:∀ y∈scope.names,y.2=.cell->scope.names.lookup y.1=some .cell
 loc:∀ y∈scope.names,y.2=.local->scope.names.lookup y.1=some .local
 free:∀ y∈scope.names,y.2=.free->sc.names.lookup y.1=some .cell\/sc.names.lookup y.1=some .free
 once:∀ y∈scope.names,y.2=.free->scope.names.lookup y.1=some .free
noncomputable def qbL (sc scope:Scope):Bool:=decide (scope.kind=.function)&&scope.names.all fun y=>match y.2 with
 | .local=>scope.names.lookup y.1==some .local
 | .free=>(sc.names.lookup y.1==some .cell||sc.names.lookup y.1==some .free)&&scope.names.lookup y.1==some .free
 | .cell=>scope.names.lookup y.1==some .cell
 | _=>true
theorem qcu (h:qbL sc scope=true):CompOk sc scope:=by
 unfold qbL at h;rw [yW] at h;have b:=YC.mp h.2;refine ⟨yk h.1,fun y a e=>?_,fun y a e=>?_,fun y a e=>?_,fun y a e=>?_⟩
 .have:=b y a;rw [e] at this;exact Yk.mp this
 .have:=b y a;rw [e] at this;exact Yk.mp this
 .have:=b y a;rw [e,yW,XH] at this;exact this.1.imp Yk.mp Yk.mp
 .have:=b y a;rw [e,yW] at this;exact Yk.mp this.2
noncomputable def qeF (nl:Nat) (ixs:List Nat) (N XN:List Str) (names:List (Str×NameKind)):Bool:=(List.range ixs.length).all fun k=>match ixs[k]?,N[nl+k]? with
 | some j,some x=>XN[j]?==some x&&names.any fun y=>y.1==x&&y.2==.free
 | _,_=>true
theorem qda {XN:List Str} {names:List (Str×NameKind)} (h:qeF nl ixs N XN names=true) (k j:Nat) (x:Str) (h1:ixs[k]?=some j) (c:N[nl+k]?=some x):XN[j]?=some x/\(x,NameKind.free)∈names:=by
 have d:k<ixs.length:=(yc.mp h1).1;have:=YC.mp h k (XW.mpr d);rw [h1,c] at this;simp only [yW] at this;refine ⟨Yk.mp this.1,?_⟩;obtain ⟨⟨n,g⟩,f,e⟩:=xH.mp this.2;rw [yW] at e;have a:n=x:=Yk.mp e.1;have b:g=.free:=Yk.mp e.2;subst a b;exact f
noncomputable def qcV (nl:Nat) (ixs:List Nat) (σ:St):St:=List.replicate nl none++ixs.map fun j=>(σ[j]?).getD none
theorem capS_len (nl:Nat) (ixs:List Nat) (σ:St):(qcV nl ixs σ).length=nl+ixs.length:=by
 unfold qcV;rw [yt,xo,ya]
theorem qcv {i:Nat} (h:(qcV nl ixs σ)[i]?=some (some v)):nl<=i/\∃ j,ixs[i-nl]?=some j/\σ[j]?=some (some v):=by
 unfold qcV at h;by_cases a:i<nl
 .rw [yT (by rw [xo];exact a),Xj] at h;split at h<;>cases h
 .rw [yz (by rw [xo];omega),xo,yd] at h;refine ⟨by omega,?_⟩
  cases e:ixs[i-nl]? with
  | none=>rw [e] at h;cases h
  | some j =>
   rw [e] at h;have h':(σ[j]?).getD none=some v:=ym h
   cases q:σ[j]? with
   | none=>rw [q] at h';cases h'
   | some u =>
    rw [q] at h';exact ⟨j,rfl,by rw [q];exact congrArg some h'⟩
noncomputable def qdx (env:Env) (y:Str×NameKind):Str×NameKind:=if (y.2==NameKind.free&&env.scope.kind==.function&&env.kindOf y.1==some .cell)=true then (y.1,NameKind.cell) else (y.1,y.2)
theorem relF_fst (env:Env) (y:Str×NameKind):(qdx env y).1=y.1:=by unfold qdx;split<;>rfl
theorem relF_snd (env:Env) (y:Str×NameKind):(qdx env y).2=y.2\/((qdx env y).2=.cell/\y.2=.free):=by
 unfold qdx;split
 .rename_i h
  rw [yW,yW] at h;exact .inr ⟨rfl,Yk.mp h.1.1⟩
 .exact .inl rfl
theorem jW:∀ {names:List (Str×NameKind)} {x:Str} {k:NameKind},(names.map (qdx env)).lookup x=some k->∃ b,names.lookup x=some b/\(x,b)∈names/\(k=b\/(k=.cell/\b=.free))
 | [],_,_,h=>by cases h
 | (n,k1)::r,x,k,h=>by
  rw [Yv,show qdx env (n,k1)=((qdx env (n,k1)).1,(qdx env (n,k1)).2) from rfl,YY,relF_fst] at h;rw [YY]
  cases c:x==n with
  | true =>
   have e:x=n:=Yk.mp c;subst e;have a:(x==(x,k1).1)=true:=c;rw [a] at h;have h':=ym h;refine ⟨k1,rfl,yO,?_⟩;rcases relF_snd env (x,k1) with z | ⟨z1,z2⟩
   .exact .inl (h'.symm.trans z)
   .exact .inr ⟨h'.symm.trans z1,z2⟩
  | false =>
   have a:(x==(n,k1).1)=false:=c;rw [a] at h;obtain ⟨b,d,f,g⟩:=jW h;exact ⟨b,d,yC _ f,g⟩
section
variable {X:Cx} {pins:List (Addr×Obj)} {σ:St} {H:Hp} {s:Shared}
theorem comp_free_of {b:List (Str×Addr)} (h:(compEnvC scope b C X.env).kindOf x=some .cell\/(compEnvC scope b C X.env).kindOf x=some .free):(x,NameKind.cell)∈scope.names\/(x,NameKind.free)∈scope.names:=by
 rcases h with h | h
 .obtain ⟨c,_,a,e | ⟨_,e⟩⟩:=jW (env:=X.env) (names:=scope.names) h
  .rw [<- e] at a;exact .inl a
  .rw [e] at a;exact .inr a
 .obtain ⟨c,_,a,e | ⟨e,_⟩⟩:=jW (env:=X.env) (names:=scope.names) h
  .rw [<- e] at a;exact .inr a
  .cases e
theorem Inv.comp {T:Obj} {h1:Heap} {tk:Nat} (I:Inv X pins σ H s) (O:CompOk X.env.scope scope)
  (hN:N.length=nl+ixs.length) (J:∀ (k j:Nat) (x:Str),ixs[k]?=some j->N[nl+k]?=some x->X.N[j]?=some x/\(x,NameKind.free)∈scope.names)
  (R:∀ b∈fp,qcP X pins H b) (K:∀ b∈fp,b<s.heap.objs.size) (M:s.heap.objs.size<=C) (Y:s.heap.objs.size<=D) (Z:D≠C) (ad:h1.Ns C fun _=>none) (k:∀ b o,s.heap.get? b=some o->h1.get? b=some o)
  (ae:h1.get? D=some T) (ab:∀ v,T.data≠.cell v) (E:CellsOk h1 (C+1) (cellsFrom (C+1) scope.names [])):Inv (X.comp N scope C s H fp) [(D,T)] (qcV nl ixs σ) H { s with heap:=h1,toks:=tk }:=by
 have a:∀ x c,(qH X.env scope.names []).lookup x=some c->X.env.cells.lookup x=some c/\(x,NameKind.free)∈scope.names:=fun x c h=>by
  rcases zh h with ⟨h1,L⟩ | h1
  .obtain ⟨G,l⟩:=I.ok.has x (by
    rcases O.free _ h1 rfl with z | z
    .exact .inl z
    .exact .inr z)
   rw [l] at L;exact ⟨by rw [l,L];rfl,h1⟩
  .cases h1
 have big:∀ c:Addr,C+1<=c->s.heap.objs.size<=c:=fun c h=>yi M (Nat.le_of_succ_le h);have S:∀ {P:Prop} {c:Addr},C+1<=c->c<s.heap.objs.size->P:=fun h g=>absurd (yj g (big _ h)) (Yo _)
 have all:∀ x c,(cellsFrom (C+1) scope.names (qH X.env scope.names [])).lookup x=some c->((x,c)∈cellsFrom (C+1) scope.names []/\C+1<=c/\h1.IsCell c none)\/(X.env.cells.lookup x=some c/\c<s.heap.objs.size):=fun x c h=>by
  rcases qaR h with z | z
  .exact .inl ⟨z,(E.empty _ _ z).2,(E.empty _ _ z).1⟩
  .obtain ⟨_,q⟩:=I.cell x c (a x c z).1;exact .inr ⟨(a x c z).1,q.lt⟩
 refine ⟨⟨I.ok.mod,O.kind,I.ok.glob,I.ok.blt,M,fun x y c h1 L=>?inj,fun x hx=>cells_some ((comp_free_of hx).imp id zi),fun x c z h=>?cab,I.ok.hd,I.ok.frames,.inl rfl,
   fun b w=>⟨y0 (yj (K b w) M),fun x c e=>?exf⟩,I.bs,yi I.ok.bsz I.sz,fun b o e w=>?_,fun b w z=>?_,I.stack,I.stkFree⟩,
  rfl,I.bare,Un.kept k,⟨_,ad,fun i x v e1 e2 e3=>?_⟩,fun x c e=>?_,I.hok.fresh M,fun x c e=>?fre,fun p hp=>?_,I.hok.kept k,?_⟩
 case inj =>
  rcases all x c h1 with ⟨r,f,_⟩ | ⟨r,f⟩<;>rcases all y c L with ⟨U,W,_⟩ | ⟨U,W⟩
  .exact name_of_addr E.apart r U
  .exact S f W
  .exact S W f
  .exact I.ok.inj x y c r U
 case cab =>
  rcases all x c h with ⟨_,f,_⟩ | ⟨r,f⟩
  .exact big _ f
  .exfalso;obtain ⟨d,F⟩:=qab (n:=C+1) (mem_of_lookup (Yk.mp z));have h:(cellsFrom (C+1) scope.names (qH X.env scope.names [])).lookup x=some c:=h;rw [ji,xm,F] at h;cases h;exact S (E.empty _ _ (mem_of_lookup F)).2 f
 case exf =>
  rcases all x c e with ⟨_,f,_⟩ | ⟨r,_⟩
  .exact fun z=>S f (by rw [z];exact K b w)
  .exact (R b w).2.2.2.2.1 x c r
 case fre =>
  rcases all x c e with ⟨_,f,_⟩ | ⟨r,_⟩
  .exact I.hok.fresh (big _ f)
  .exact I.freeC x c r
 .rcases (R b w).2.2.2.1 with z | z
  .exact I.ok.noex b o e z
  .have:=(I.ok.bs b o e).1;exact absurd (yj (yM this) z) (Yo _)
 .rcases yy.mp (I.stkSub b z) with e | e
  .exact (R b w).2.1 e
  .exact (R b w).2.2.1 e
 .obtain ⟨hi,j,hj,hv⟩:=qcv e2;obtain ⟨hx,t⟩:=J (i-nl) j x hj (by rw [Nat.add_sub_cancel' hi];exact e1);obtain ⟨m,hn,hl⟩:=I.loc;have E:=O.free _ t rfl
  obtain ⟨u,ru,lk⟩:=hl j x v hx hv (by
   rcases E with z | z
   .exact .inr (.inl z)
   .exact .inr (.inr z))
  refine ⟨u,ru,?_⟩;rcases lk with ⟨ac,_⟩ | ⟨_,c,hc,B⟩
  .have A:X.env.scope.names.lookup x=some .local:=ac;rcases E with z | z<;>· rw [z] at A;cases A
  .obtain ⟨G,l⟩:=zi (env:=X.env) (acc:=[]) t
   have e:G=c:=by
    have:=(a x G l).1;rw [hc] at this;exact (ym this).symm
   subst e
   have aa:(cellsFrom (C+1) scope.names (qH X.env scope.names [])).lookup x=some G:=by
    rw [ji,xm]
    cases q:(cellsFrom (C+1) scope.names []).lookup x with
    | none=>exact l
    | some d=>have:=O.cel _ (qaQ (mem_of_lookup q)) rfl;rw [O.once _ t rfl] at this;cases this
   refine .inr ⟨?_,G,aa,?_⟩
   .rcases e3 with z | z | z
    .obtain ⟨k0,z3,_,e | ⟨e,_⟩⟩:=jW (env:=X.env) (names:=scope.names) z
     .rw [O.once _ t rfl] at z3;cases z3;cases e
     .cases e
    .exact .inl z
    .exact .inr z
   .obtain ⟨o,ho,F⟩:=B;exact ⟨o,k _ _ ho,F⟩
 .rcases all x c e with ⟨_,_,a3⟩ | ⟨r,_⟩
  .exact ⟨none,a3⟩
  .obtain ⟨v,o,ho,F⟩:=I.cell x c r;exact ⟨v,o,k _ _ ho,F⟩
 .have e:p=(D,T):=by simpa using hp
  subst e;refine ⟨ae,I.hok.fresh Y,Z,fun z=>?_,ab⟩;rcases yy.mp (I.stkSub D z) with e | e
  .exact absurd (show X.env.locals<D from yj I.lt Y) (by rw [e];exact Yo _)
  .exact I.nofs Y e
 .show (qcV nl ixs σ).length=N.length;rw [capS_len,hN]
theorem Inv.compBack {m:Shared} {l:Hp} {i:St} (I:Inv X pins σ H s) (g:∀ b∈fp,qcP X pins H b) (y:s.heap.objs.size<=C) (p:s.heap.objs.size<=D)
  (J:Inv (X.comp N scope C s H fp) [(D,{ cls:=.type "list",data:=.seq its.toArray n })] i l m) (hv:Vals ys its) (hz:ys.length<=sizeLine):Inv X pins σ (upd l D (.lst ys)) m:=by
 obtain ⟨w,f,t,_,_⟩:=J.pin (D,{ cls:=.type "list",data:=.seq its.toArray n }) (yH _ (yB.mpr rfl));have h:∀ b o,s.heap.get? b=some o->b≠D:=fun b o e=>y0 (yj (yM e) p);have a:=J.base;refine I.call' (ch:=fp) J.os ⟨a.keep,a.slot,fun b o e n r=>?_,a.there,fun b xs e=>?_,fun b o u e=>?_,fun b x e=>?_⟩ (fun b u e=>?_) J.bare fun b d=>⟨(g b d).2.2.2.1,(g b d).2.1,(g b d).2.2.2.2.1,(g b d).2.2.2.2.2⟩
 .rw [qe (h b o e)];exact a.free b o e n r
 .have q:=a.tups b xs e;rw [qe (qm q f)];exact q
 .have q:=a.frzs b o u e;rw [qe (qm q f)];exact q
 .obtain ⟨more,q⟩:=a.tbls b x e;exact ⟨more,by rw [qe (qm q f)];exact q⟩
 .by_cases d:b=D
  .subst d;rw [qb] at e;cases e;exact ⟨hz,its,n,hv,w⟩
  .rw [qe d] at e;exact (J.hok b u e).stay (fun c v _ q=>q) (fun c q=>by rw [qe (qm q f)];exact q) fun c xs q=>by rw [qe (qm q f)];exact q
end
def qe6:TT:=fun _ H Q=>Q true H
def qdy (wi:TI) (g:TG) (tc:TT) (te:TE) (nl:Nat) (ixs:List Nat):TE:=fun σ H Q=>wi σ H fun J f =>
 ∃ W:Nat->Nat->List V->Hp->Prop,(∃ m,W 0 m [] f)/\∀ i m ys H,W i m ys H ->
  (J.stop i H/\ys.length<=sizeLine/\∀ p,H p=none->Q (.ref p) (upd H p (.lst ys))) \/
  (J.go i H/\∃ M:List V->Hp->Prop,(∀ ys' a,M ys' a->∃ e,e<m/\W (i+1) e ys' a)/\∀ x a,J.yld i H x a->g x (qcV nl ixs σ) a fun c h=>tc c h fun b d =>
   if b=true then te c d fun v l=>ys.length<sizeLine/\M (ys++[v]) l else M ys d)
def qdb (nl:Nat) (g:TG):Prop:=∀ x σ H Q,g x σ H Q->g x σ H fun a b=>Q a b/\a.length=σ.length/\∀ i,nl<=i->a[i]?=σ[i]?
theorem qP {i:Nat} (h:i<nl:=by decide):qdb nl (qb5 i):=fun x σ H Q q=>⟨q,List.length_set ..,fun j a=>XA (by omega)⟩
def qeg (X:Cx) (ifs:List Expr) (tc:TT):Prop:=
 ∀ (pins:List (Addr×Obj)) (s:Shared) (σ:St) (H:Hp) (Q:Bool->Hp->Prop),Inv X pins σ H s->tc σ H Q ->
  wpAny (model X.prog X.w) X.A (forIn ifs true fun c r=>if r=true then do let ok <- isTrue c X.env (eval c X.env);pure (ForInStep.yield ok) else pure (ForInStep.yield r)) (TP X pins σ Q) X.xe s
theorem zj:qeg X [] qe6:=fun pins s σ H Q I h=>wpAny_tests_nil ⟨H,I,h⟩
theorem qY {c:Expr} (h:PT X c tc):qeg X [c] tc:=fun pins s σ H Q I q=>wpAny_tests_one (h pins s σ H Q I q)
section
variable {X:Cx} {pins:List (Addr×Obj)} {σ:St} {H:Hp} {s:Shared}
theorem qa6 {tn:Nat->Heap->Prop} {J:It} {Q:V->Hp->Prop}
  {RR:Value->Addr->Result->Shared->Prop} (I:Inv X pins σ H s) (hc:X.calm=true) (O:CompOk X.env.scope scope)
  (hN:N.length=nl+ixs.length) (al:∀ (k j:Nat) (x:Str),ixs[k]?=some j->N[nl+k]?=some x->X.N[j]?=some x/\(x,NameKind.free)∈scope.names)
  (T:Turn X.prog X.w X.K tg J fp it tn) (st:tn 0 s.heap) (hf:∀ b∈fp,qcP X pins H b)
  (hg:∀ C s0 H0 ex,PG (X.comp N scope C s0 H0 ex) tg g) (gk:qdb nl g) (hi:∀ C s0 H0 ex,qeg (X.comp N scope C s0 H0 ex) ifs tc) (he:∀ C s0 H0 ex,PE (X.comp N scope C s0 H0 ex) elt te)
  (h:∃ W:Nat->Nat->List V->Hp->Prop,(∃ m,W 0 m [] H)/\∀ i m ys H,W i m ys H ->
   (J.stop i H/\ys.length<=sizeLine/\∀ p,H p=none->Q (.ref p) (upd H p (.lst ys))) \/
   (J.go i H/\∃ M:List V->Hp->Prop,(∀ ys' f,M ys' f->∃ m',m'<m/\W (i+1) m' ys' f)/\∀ x f,J.yld i H x f->g x (qcV nl ixs σ) f fun as a=>tc as a fun b H3 =>
    if b=true then te as H3 fun v H4=>ys.length<sizeLine/\M (ys++[v]) H4 else M ys H3))
  (az:∀ (D C:Addr) (F:Shared) (f:Hp) (Y:St) (ys:List V) (its:List Value) (n:Nat),s.heap.objs.size<=C->s.heap.objs.size<=D->Inv (X.comp N scope C s H fp) [(D,{ cls:=.type "list",data:=.seq its.toArray n })] Y f F->Vals ys its->ys.length<=sizeLine ->
   (∀ p,f p=none->Q (.ref p) (upd f p (.lst ys)))->RR (.ref D) C (.ok .next) F) :
  wpAny (model X.prog X.w) X.A (newList []) (fun acc s3=>wpAny (model X.prog X.w) X.A (newFunctionEnv scope X.env.globals (qH X.env scope.names []) [] X.env.qual none .none (some X.env)) (fun aa s4 =>
   codeAny (model X.prog X.w) X.A (.compStart (.ListComp elt [⟨tg,iter,ifs,0⟩] scope pos) 0 (.ref it) acc { aa with scope:=relabel scope X.env }) (RR acc aa.locals) s4) E s3) E s:=by
 obtain ⟨W,⟨m0,w0⟩,ar⟩:=h;refine Yc (newEnvK ?_);dsimp only;generalize ae:s.heap.push { cls:=.type "list",dict:=none,data:=.seq ([]:List Value).toArray }=a;have ac:(pushCells (a.push { cls:=.type "dict",data:=.dict #[] }) scope.names).Ns a.objs.size fun _=>none:=(Heap.Ns.new a (.type "dict")).keeps (pushCells_keeps _ _);have P:=cellsFrom_ok scope.names (a.push { cls:=.type "dict",data:=.dict #[] }) (a.objs.size+1) [] ⟨fun _ _ hm=>(nomatch hm),List.Pairwise.nil⟩ (by rw [YJ];exact yh _);rw [YJ] at P;have af:∀ b o,a.get? b=some o->(pushCells (a.push { cls:=.type "dict",data:=.dict #[] }) scope.names).get? b=some o:=fun b o e=>pushCells_keeps _ _ b o (yv _ e);generalize pushCells (a.push { cls:=.type "dict",data:=.dict #[] }) scope.names=h1 at ac P af ⊢;have hC:a.objs.size=s.heap.objs.size+1:=by rw [<- ae,YJ]
 have ay:s.heap.objs.size≠a.objs.size:=by rw [hC];exact y0 (xF _)
 have ab:s.heap.objs.size<=a.objs.size:=by rw [hC];exact xw _
 have t:∀ b,b<s.heap.objs.size->b≠a.objs.size/\b≠s.heap.objs.size:=fun b l=>⟨by rw [hC];exact y0 (Xn l),y0 l⟩;have ag:∀ b o,s.heap.get? b=some o->h1.get? b=some o:=fun b o e=>af b o (ae ▸ yv _ e);have aj:h1.get? s.heap.objs.size=some { cls:=.type "list",data:=.seq ([]:List Value).toArray }:=af _ _ (ae ▸ yL _ rfl)
 have L:∀ b∈fp,b<s.heap.objs.size:=fun b l=>by
  obtain ⟨o,ho,_⟩:=T.obj 0 _ st b l;exact yM ho
 have ad:∀ s3:Shared,s3={ s with heap:=h1 } ->
   codeAny (model X.prog X.w) X.A (.compLoop (.ListComp elt [⟨tg,iter,ifs,0⟩] scope pos) 0 (.ref it) (.ref s.heap.objs.size) (compEnvC scope (cellsFrom (a.objs.size+1) scope.names (qH X.env scope.names [])) a.objs.size X.env)) (RR (.ref s.heap.objs.size) a.objs.size) s3:=by
  rintro s3 rfl;have I0:=I.comp (N:=N) (C:=a.objs.size) (D:=s.heap.objs.size) (h1:=h1) (tk:=s.toks) O hN al hf L ab (yh _) ay ac ag aj (fun v z=>by cases z) P
  have G:∀ {f:Hp} {Y:St} {F:Shared} {pl:List (Addr×Obj)},Inv (X.comp N scope a.objs.size s H fp) pl Y f F->(∀ p∈pl,p.1=s.heap.objs.size)->(∀ b∈fp,f b=none)->∀ b∈fp,qcP (X.comp N scope a.objs.size s H fp) pl f b:=fun {f Y F pl} J bc hn b l =>
   ⟨hn b l,(t b (L b l)).1,fun z=>(by
     rcases yy.mp (I.stkSub b z) with e | e
     .exact (hf b l).2.1 e
     .exact (hf b l).2.2.1 e),.inl l,J.ok.exf b l |>.2,fun p S z=>by
    have e:=bc p (by simpa using S);rw [e] at z;exact (t b (L b l)).2 z.symm⟩
  refine compLoop_own (fun k F=>∃ i f ys its n,Inv (X.comp N scope a.objs.size s H fp) [(s.heap.objs.size,{ cls:=.type "list",data:=.seq its.toArray n })] (qcV nl ixs σ) f F/\tn i F.heap/\(∀ b∈fp,f b=none)/\Vals ys its/\W i k ys f) ?_ m0
   ⟨0,H,[],[],0,I0,T.keep _ _ _ st fun b _ o e=>ag b o e,fun b l=>(hf b l).1,.nil,w0⟩
  rintro k F ⟨i,f,ys,its,n,J1,ap,ai,v1,w1⟩
  have one:∀ p∈[((s.heap.objs.size,{ cls:=.type "list",data:=.seq its.toArray n }):Addr×Obj)],p.1=s.heap.objs.size:=fun p S=>by
   have e:p=_:=yB.mp S;rw [e]
  rcases ar i k ys f w1 with ⟨aq,hz,q⟩ | ⟨go,M,hM,step⟩
  .refine thn (T.done (X.comp N scope a.objs.size s H fp) rfl rfl rfl hc i _ F _ f _ J1 (G J1 one ai) ap aq) fun r s4 ⟨hr,J4⟩=>?_;subst hr;exact az _ _ s4 f _ ys its n ab (yh _) J4 v1 hz q
  .refine thn (T.item (X.comp N scope a.objs.size s H fp) rfl rfl rfl hc i _ F _ f _ J1 (G J1 one ai) ap go) fun r s4 ⟨u,hr,h4⟩=>?_;subst hr;refine thn h4 fun _ s5 ⟨x,H5,J5,r5,y5,ah,av⟩=>?_;have au:=J5.pinned (G J5 one av) (T.obj _ _ ah);refine thn (hg _ _ _ _ _ s5 _ H5 x u _ au r5 (gk _ _ _ _ (step x H5 y5))) fun _ s6 ⟨Z,H6,J6,q6,l6,k6⟩=>?_;refine thn (hi _ _ _ _ _ s6 Z H6 _ J6 q6) fun ok s7 ⟨H7,J7,q7⟩=>?_;have B:∀ {U:Shared} {H8:Hp} {ys':List V} {k':Nat},Inv (X.comp N scope a.objs.size s H fp) ([((s.heap.objs.size,{ cls:=.type "list",data:=.seq its.toArray n }):Addr×Obj)]++qby fp s5.heap) Z H8 U ->
     (∀ b o,b≠s.heap.objs.size->U.heap.get? b=some o->U.heap.get? b=some o)->tn (i+1) U.heap/\∀ b∈fp,H8 b=none:=fun {U H8 ys' k'} J8 _=>by
    refine ⟨T.keep _ _ _ ah fun b l o e=>(J8.pin (b,o) (yH _ (yH _ (zE l e)))).1,fun b l=>?_⟩;obtain ⟨o,e,d⟩:=T.obj _ _ ah b l;exact (J8.pin (b,o) (yH _ (yH _ (zE l e)))).2.1
   have wk:∀ (j:Nat) v,(qcV nl ixs σ)[j]?=some (some v)->Z[j]?=some (some v):=fun j v e=>by
    obtain ⟨hj,_⟩:=qcv e;rw [k6 j hj];exact e
   cases ok with
   | false =>
    rw [yD Yd] at q7 ⊢;obtain ⟨m',hm,w7⟩:=hM _ _ q7;obtain ⟨be,aw⟩:=B (ys':=ys) (k':=0) J7 (fun _ _ _ e=>e);exact ⟨m',hm,i+1,H7,ys,its,n,J7.unpinned.weak l6.symm wk,be,aw,v1,w7⟩
   | true =>
    rw [yK rfl] at q7 ⊢;refine thn (he _ _ _ _ _ s7 Z H7 _ J7 q7) fun y U ⟨v,H8,J8,r8,bg,mq⟩=>?_;obtain ⟨m',hm,w8⟩:=hM _ _ mq;obtain ⟨bf,ax⟩:=B (ys':=ys) (k':=0) J8 (fun _ _ _ e=>e);have J9:=J8.unpinned;obtain ⟨pD,nD,ao,bd,_⟩:=J9.pin (s.heap.objs.size,{ cls:=.type "list",data:=.seq its.toArray n }) (yH _ (yB.mpr rfl));refine wpAny_list_append_plain (hsz:=by rw [yw,<- v1.length];omega) ⟨n,pD⟩ fun h9 R an=>?_;obtain ⟨n9,R⟩:=R;have e9:(its.toArray.push y)=(its++[y]).toArray:=by simp
    rw [e9] at R
    have Ja:Inv (X.comp N scope a.objs.size s H fp) [] (qcV nl ixs σ) H8 { U with heap:=h9,toks:=U.toks }:=
     ((J9.pins_of (pins':=[]) fun p S=>absurd S (by simp)).turned (it:=s.heap.objs.size) (h':=h9) (t':=U.toks) (fun b o l e=>(an.2 b l).trans e) nD ao (.inr (yh _))
      (fun x c e z=>by
       rcases qaR e with w | e
       .have:=(P.empty _ _ w).2;rw [z,hC] at this;exact absurd (yi (xw _) this) (Nat.not_succ_le_self _)
       have:=zh e;rcases this with ⟨ba,hcc⟩ | hcc
       .obtain ⟨c',ak⟩:=I.ok.has x (by
         rcases O.free _ ba rfl with q | q
         .exact .inl q
         .exact .inr q)
        rw [ak] at hcc;have am:c=c':=hcc;obtain ⟨_,q⟩:=I.cell x c' ak;rw [<- am,z] at q;exact absurd q.lt (Yo _)
       .cases hcc) (fun p S=>absurd S (by simp))).weak l6.symm wk
    refine ⟨m',hm,i+1,H8,ys++[v],its++[y],n9,Ja.pins_of fun p S=>?_,?_,ax,v1.append (.cons r8 .nil),w8⟩
    .have e:p=_:=yB.mp S;subst e;exact ⟨R,nD,ao,bd,fun v z=>by cases z⟩
    .exact T.keep _ _ _ bf fun b l o e=>(an.2 b (t b (L b l)).2).trans e
 exact codeAny_compStart_list (ad _ rfl) (T.self _ 0 _ _ _ (T.keep _ _ _ st fun b _ o e=>ag b o e) (ad _ rfl))
end
section
variable {X:Cx} {tg elt iter:Expr} {ifs:List Expr} {scope:Scope} {pos:Pos} {N:List Str} {nl:Nat} {ixs:List Nat} {wi:TI} {g:TG} {tc:TT} {te:TE}
theorem jo {XN:List Str} (N:List Str) (nl:Nat) (ixs:List Nat) (G:X.env.scope=sc) (y:X.N=XN) (hc:X.calm=true) (R:qbL sc scope=true) (Y:N.length=nl+ixs.length) (d:qeF nl ixs N XN scope.names=true)
  (hi:PI X tg iter wi) (hg:∀ C t i ex,PG (X.comp N scope C t i ex) tg g) (S:qdb nl g) (ht:∀ C t i ex,qeg (X.comp N scope C t i ex) ifs tc) (he:∀ C t i ex,PE (X.comp N scope C t i ex) elt te)
  (hs:∀ x,foldedSetIterable iter X.env x=pure x:=by intro _;rfl):PE X (.ListComp elt [⟨tg,iter,ifs,0⟩] scope pos) (qdy wi g tc te nl ixs):=by
 intro pins s σ H Q I h;subst G y;have O:=qcu R;have r:=qda d;rw [eval_ListComp]
 have E:=qaa (scope:=scope) (env:=X.env) fun n F=>I.ok.has n (by
  rcases O.free _ F rfl with z | z
  .exact .inl z
  .exact .inr z)
 refine wpAny_comprehension_free (use:=none) rfl hs E O.kind O.loc (thn (hi pins s σ H _ I h) fun v s1 h1=>thn h1 fun aa s2 U=>?_);obtain ⟨it,fp,tn,J,H2,e,f,T,L,M,Z⟩:=U;subst e;refine qa6 (Q:=Q) (RR:=fun acc C=>compPost (model X.prog X.w) X.A X.xe none (EP X pins σ Q) acc C) f hc O Y r T L M hg S ht he Z ?_;intro D C s' P ab ys its n l W u hv hz q;obtain ⟨m,F,_⟩:=id u.loc;have B:=f.compBack M l W u hv hz;obtain ⟨_,nD,K,_,_⟩:=u.pin (D,{ cls:=.type "list",data:=.seq its.toArray n }) (yH _ (yB.mpr rfl));refine ⟨m,F,fun h' sb=>⟨.ref D,_,?_,rfl,q D nD⟩⟩;refine B.turned (it:=C) (h':=h') (t':=s'.toks) (fun b o hb e=>(sb.2 b hb).trans e) ((qe (H:=P) (a:=D) (b:=C) (o:=.lst ys) (Yb K)).trans u.free) (Xm (yj f.lt l)) (.inr (yi f.sz l)) (fun x c e z=>?_) (fun p hp z=>?_)
 .obtain ⟨_,q⟩:=f.cell x c e;exact absurd (yj q.lt (by rw [z];exact l)) (Yo _)
 .exact absurd (yj (yM (f.pin p hp).1) (by rw [z];exact l)) (Yo _)
theorem zV {i:Nat} {y:Str} {t f:Pos} {XN:List Str} (N:List Str) (nl:Nat) (ixs:List Nat) (aa:X.env.scope=sc) (E:X.N=XN) (hc:X.calm=true) (O':qbL sc scope=true) (hN:N.length=nl+ixs.length) (r:qeF nl ixs N XN scope.names=true)
  (S:X.N.Nodup) (W:X.N[i]?=some y) (hy:X.env.scope.names.lookup y=some .local)
  (hi:PI X tg iter wi) (hg:∀ C K u ex,PG (X.comp N scope C K u ex) tg g) (gk:qdb nl g) (ht:∀ C K u ex,qeg (X.comp N scope C K u ex) ifs tc) (he:∀ C K u ex,PE (X.comp N scope C K u ex) elt te)
  (ab:swapsWith (.ListComp elt [⟨tg,iter,ifs,0⟩] scope pos) (some (.Name y t)) f.line X.env=pure true:=by rfl)
  (hs:∀ x,foldedSetIterable iter X.env x=pure x:=by intro _;rfl):PS X (.Assign [.Name y t] (.ListComp elt [⟨tg,iter,ifs,0⟩] scope pos) f) (qee (qdy wi g tc te nl ixs) (qb5 i)):=by
 intro pins s σ H M I h;subst aa E;have O:=qcu O';have F:=qda r
 have U:=qaa (scope:=scope) (env:=X.env) fun n Y=>I.ok.has n (by
  rcases O.free _ Y rfl with z | z
  .exact .inl z
  .exact .inr z)
 rw [exec_Assign_Name_used _ _ _ _ ab];refine yr (wpAny_standAt (yr ?_));show wpAny _ X.A (do let _ <- comprehension (.ListComp elt [⟨tg,iter,ifs,0⟩] scope pos) scope X.env _ (newList []) false (eval iter X.env) (some (assign (.Name y t) X.env))) _ _ s;refine yr (YG (wpAny_comprehension_free (use:=some (assign (.Name y t) X.env)) (Q:=fun _ G=>SP X pins M .next G) rfl hs U O.kind O.loc
  (thn (hi pins s σ H _ I h) fun v s1 h1=>thn h1 fun af s2 h2=>?_)) (fun _ G hq=>yu (yu hq)) fun _ _ e=>e)
 obtain ⟨it,fp,tn,J,H2,e,d,T,ae,f2,hW⟩:=h2;subst e;refine qa6 (Q:=fun v P=>qb5 i v σ P M.nx) (RR:=fun acc C=>compPost (model X.prog X.w) X.A X.xe (some (assign (.Name y t) X.env)) (fun _ G=>SP X pins M .next G) acc C) d hc O hN F T ae f2 hg gk ht he hW ?_;intro D C G P ag ys its n l hD L hv hz q;obtain ⟨m,Y,_⟩:=id L.loc;have B:=d.compBack f2 l hD L hv hz;obtain ⟨_,nD,ac,_,_⟩:=L.pin (D,{ cls:=.type "list",data:=.seq its.toArray n }) (yH _ (yB.mpr rfl));show wpAny _ X.A (assign (.Name y t) X.env (.ref D)) _ _ _;refine wpAny_assign_Name (qbv (i:=i) (x:=y) (v:=.ref D) B S W (.inl hy) rfl (fun ad B' Z=>?_) (.inr hy));obtain ⟨a,sa,ha⟩:=Z
 have R:C≠a:=by
  rintro rfl;rcases ha with z | z
  .exact absurd (show X.env.locals<C from yj d.lt l) (by rw [z];exact Yo _)
  .obtain ⟨_,q⟩:=d.cell y C z;exact absurd (yj q.lt l) (Yo _)
 refine ⟨m,Y.sameBut sa R,fun h' sb=>⟨_,_,?_,q D nD⟩⟩;refine B'.turned (it:=C) (h':=h') (t':=ad.toks) (fun b o hb e=>(sb.2 b hb).trans e) ((qe (H:=P) (a:=D) (b:=C) (o:=.lst ys) (Yb ac)).trans L.free) (Xm (yj d.lt l)) (.inr (yi d.sz l)) (fun x c e z=>?_) (fun p hp z=>?_)
 .obtain ⟨_,q⟩:=d.cell x c e;exact absurd (yj q.lt (by rw [z];exact l)) (Yo _)
 .exact absurd (yj (yM (d.pin p hp).1) (by rw [z];exact l)) (Yo _)
end
noncomputable def Its (x:Str):It:=⟨fun i _=>i<x.cps.size,fun i H v a=>a=H/\∃ c,x.cps[i]?=some c/\v=.str ⟨#[c]⟩,fun i _=>i=x.cps.size⟩
theorem qcw {K:yg} {t:Tok} (W:∀ A:Around,A.handled=none->Walks P w A it [it] [it] x.cps.size (SignAt x) fun i h=>h.IsStrIter it T x t i)
  (M:∀ (A:Around) (i:Nat) (s:Shared) (Q:Value->Shared->Prop) (E:Value->Shared->Prop),s.heap.IsStrIter it T x t i->Q (.ref it) s->wpAny (model P w) A (pyIter (.ref it)) Q E s)
  (D:∀ v,letOwnedTupleGo tg (.ref it) v=pure ()):Turn P w K tg (Its x) [it] it (fun i h=>h.IsStrIter it T x t i) where
 mem:=by simp
 obj:=fun i h st b a=>by
  have e:b=it:=by simpa using a
  subst e;obtain ⟨o,e,c,d⟩:=st;exact ⟨o,e,fun v z=>by rw [d] at z;cases z⟩
 keep:=fun i h h' st k=>by
  obtain ⟨o,e,r⟩:=st;exact ⟨o,k it (by simp) o e,r⟩
 item:=by
  intro X y hw q hc i pins s σ H E I f st C;subst y hw q;obtain ⟨g,l,L,m,n,p⟩:=f it (by simp);refine (W X.A (I.ok.hd hc)).item i s _ _ C st fun v h' tk hv G F=>?_;obtain ⟨c,u,B,rfl⟩:=hv;have J:Inv X pins σ H { s with heap:=h',toks:=tk }:=I.turned (fun b o a e=>F b o (by simpa using a) e) g l m n p;refine ⟨_,rfl,YN (D _) ⟨.str ⟨#[c]⟩,H,J,⟨u,rfl⟩,⟨rfl,c,B,rfl⟩,G,fun b a=>(f b a).1⟩⟩
 done:=by
  intro X y hw q hc i pins s σ H E I f st C;subst y hw q;obtain ⟨g,l,L,m,n,p⟩:=f it (by simp);have e:i=x.cps.size:=C;subst e;exact (W X.A (I.ok.hd hc)).done s _ _ st fun h' tk F=>⟨rfl,I.turned (fun b o a e=>F b o (by simpa using a) e) g l m n p⟩
 self:=M
section
variable {X:Cx} {tg:Expr}
end
section
variable {K:yg} {a:Addr} {xs:List V} {g:TG} {tc:TT} {te:TE} {σ':St} {H1:Hp} {Q:V->Hp->Prop}
def qdz (J:It) (g:TG) (tc:TT) (te:TE) (σ':St) (H1:Hp) (Q:V->Hp->Prop):Prop:=
 ∃ W:Nat->Nat->List V->Hp->Prop,(∃ m,W 0 m [] H1)/\∀ i m ys H,W i m ys H ->
   (J.stop i H/\ys.length<=sizeLine/\∀ p,H p=none->Q (.ref p) (upd H p (.lst ys))) \/
   (J.go i H/\∃ M:List V->Hp->Prop,(∀ ys' a,M ys' a->∃ e,e<m/\W (i+1) e ys' a)/\∀ x a,J.yld i H x a->g x σ' a fun c f=>tc c f fun b d =>
    if b=true then te c d fun v h=>ys.length<sizeLine/\M (ys++[v]) h else M ys d)
theorem qF (c:Nat->List V->Hp->Prop) (r:c 0 [] H1) (hl:∀ i ys H,i<=xs.length->c i ys H->SqL K H a xs)
  (u:∀ i x ys H,xs[i]?=some x->c i ys H->g x σ' H fun f n=>tc f n fun b h=>if b=true then te f h fun v o=>ys.length<sizeLine/\c (i+1) (ys++[v]) o else c (i+1) ys h)
  (s:∀ ys H,c xs.length ys H->ys.length<=sizeLine/\∀ p,H p=none->Q (.ref p) (upd H p (.lst ys))):qdz (Itl K a) g tc te σ' H1 Q:=by
 refine ⟨fun i m ys H=>m=xs.length-i/\i<=xs.length/\c i ys H,⟨xs.length,by simp,YW _,r⟩,?_⟩;rintro i m ys H ⟨rfl,t,p⟩;have q:=hl i ys H t p;by_cases d:i<xs.length
 .refine .inr ⟨⟨xs,xs[i],q,by simp [d]⟩,c (i+1),fun ys' l w=>⟨xs.length-(i+1),by omega,rfl,d,w⟩,fun x l y=>?_⟩;obtain ⟨e,y⟩:=y;subst e;exact u i x ys _ (y xs q) p
 .have e:i=xs.length:=by omega
  subst e;exact .inl ⟨⟨xs,q,yh _⟩,s ys H p⟩
theorem qan {lo:Int} (a:Nat->List V->Hp->Prop) (q:a 0 [] H1)
  (s:∀ i ys H,i<n->a i ys H->g (.int (lo+i)) σ' H fun d l=>tc d l fun b f=>if b=true then te d f fun v o=>ys.length<sizeLine/\a (i+1) (ys++[v]) o else a (i+1) ys f)
  (r:∀ ys H,a n ys H->ys.length<=sizeLine/\∀ p,H p=none->Q (.ref p) (upd H p (.lst ys))):qdz (Itr lo n) g tc te σ' H1 Q:=by
 refine ⟨fun i m ys H=>m=n-i/\i<=n/\a i ys H,⟨n,by simp,YW _,q⟩,?_⟩;rintro i m ys H ⟨rfl,u,p⟩;by_cases c:i<n
 .refine .inr ⟨c,a (i+1),fun ys' h t=>⟨n-(i+1),by omega,rfl,c,t⟩,fun x h y=>?_⟩;obtain ⟨e,y⟩:=y;subst e y;exact s i ys _ c p
 .have e:i=n:=by omega
  subst e;exact .inl ⟨yh _,r ys H p⟩
theorem comp_str (a:Nat->List V->Hp->Prop) (q:a 0 [] H1)
  (s:∀ i c ys H,x.cps[i]?=some c->a i ys H->g (.str ⟨#[c]⟩) σ' H fun f n=>tc f n fun b h=>if b=true then te f h fun v o=>ys.length<sizeLine/\a (i+1) (ys++[v]) o else a (i+1) ys h)
  (r:∀ ys H,a x.cps.size ys H->ys.length<=sizeLine/\∀ p,H p=none->Q (.ref p) (upd H p (.lst ys))):qdz (Its x) g tc te σ' H1 Q:=by
 refine ⟨fun i m ys H=>m=x.cps.size-i/\i<=x.cps.size/\a i ys H,⟨x.cps.size,by simp,YW _,q⟩,?_⟩;rintro i m ys H ⟨rfl,u,p⟩;by_cases d:i<x.cps.size
 .refine .inr ⟨d,a (i+1),fun ys' l t=>⟨x.cps.size-(i+1),by omega,rfl,d,t⟩,fun v l y=>?_⟩;obtain ⟨e,c,hc,y⟩:=y;subst e y;exact s i c ys _ hc p
 .have e:i=x.cps.size:=by omega
  subst e;exact .inl ⟨rfl,r ys H p⟩
end
noncomputable def qbM:V->Option Value
 | .ty n=>some (.type n)
 | .ref a=>some (.ref a)
 | _=>none
theorem qa7 {c:Value} (h:qbM y=some c) (r:RelV y u):u=c:=by
 cases y with
 | ty n=>cases h;exact r
 | ref a=>cases h;exact r
 | _=>cases h
section
variable {X:Cx} {pins:List (Addr×Obj)} {σ:St} {H:Hp} {s:Shared}
theorem TyOf.kit {x:V} (I:Inv X pins σ H s) (b:RelV x u) (ty:TyOf X.K H x t):∃ P:Heap->Prop,PySem.W.KitX X.K u t P/\P s.heap/\u≠.builtin "__main__.__loader__#opaque":=by
 cases ty with
 | non=>cases (show u=Value.none from b);exact ⟨_,PySem.W.kitx_none,YS,(fun z=>nomatch z)⟩
 | bl y=>cases (show u=Value.bool y from b);exact ⟨_,PySem.W.kitx_bool,YS,(fun z=>nomatch z)⟩
 | int i=>obtain ⟨t,q⟩:=(show ∃ t,u=Value.int i t from b);cases q;exact ⟨_,PySem.W.kitx_int,YS,(fun z=>nomatch z)⟩
 | str y=>obtain ⟨t,q⟩:=(show ∃ t,u=Value.str y t from b);cases q;exact ⟨_,PySem.W.kitx_str,YS,(fun z=>nomatch z)⟩
 | flt y=>obtain ⟨t,q⟩:=(show ∃ t,u=Value.float y t from b);cases q;exact ⟨_,PySem.W.kitx_float,YS,(fun z=>nomatch z)⟩
 | @lst a xs ea =>
  cases (show u=Value.ref a from b);obtain ⟨_,_,n,_,h1⟩:=(show ObjOk X.prog X.w H s.heap a (.lst xs) from I.hok a _ ea);exact ⟨_,PySem.W.kitx_list,⟨_,h1,rfl⟩,(fun z=>nomatch z)⟩
 | @frz a ob xs ea =>
  cases (show u=Value.ref a from b);obtain ⟨_,_,_,n,_,h1⟩:=(show ObjOk X.prog X.w H s.heap a (.frz ob (.lst xs)) from I.hok a _ ea);exact ⟨_,PySem.W.kitx_list,⟨_,h1,rfl⟩,(fun z=>nomatch z)⟩
 | @tup a xs ea =>
  cases (show u=Value.ref a from b);obtain ⟨_,_,_,p⟩:=(show ObjOk X.prog X.w H s.heap a (.tup xs) from I.hok a _ ea);obtain ⟨o,h1,c,_⟩:=p;exact ⟨_,PySem.W.kitx_tuple,⟨o,h1,c⟩,(fun z=>nomatch z)⟩
 | @dK a kvs ea =>
  cases (show u=Value.ref a from b);obtain ⟨_,_,vs,_,p⟩:=(show ObjOk X.prog X.w H s.heap a (.dK kvs) from I.hok a _ ea);obtain ⟨o,es,ep,h1,c,_⟩:=p;exact ⟨_,PySem.W.kitx_dict,⟨o,h1,c.1⟩,(fun z=>nomatch z)⟩
 | @dT a kvs ea =>
  cases (show u=Value.ref a from b);obtain ⟨_,_,xs,_,o,es,ep,h1,c,_⟩:=(show ObjOk X.prog X.w H s.heap a (.dT kvs) from I.hok a _ ea);exact ⟨_,PySem.W.kitx_dict,⟨o,h1,c.1⟩,(fun z=>nomatch z)⟩
 | @ins a C dx fs ea cl ha hn htk hm =>
  cases (show u=Value.ref a from b);obtain ⟨d,O,_⟩:=qal I.hok ea;obtain ⟨od,J,_⟩:=O.look;exact ⟨_,PySem.W.kitx_own (cl.get _) cl.hd ha hn htk hm,J,(fun z=>nomatch z)⟩
end
section
variable {X:Cx}
theorem qaS:∀ {ys:List V} {a us:List Value},ys.map qbM=a.map some->Vals ys us->us=a
 | [],[],_,_,.nil=>rfl
 | [],_::_,_,h,_=>by cases h
 | y::ys,[],_,h,_=>by cases h
 | y::ys,c::a,_,h,.cons r t=>by
  rw [Yv,Yv] at h
  injection h with h1 h2
  rw [qa7 h1 r,qaS h2 t]
theorem qcx:∀ {bs:List Bool} {us:List Value},Vals (bs.map V.bl) us->us=bs.map Value.bool
 | [],_,.nil=>rfl
 | b::bs,_,.cons r t=>by
  have e:=qcx t;rw [e];cases r;rfl
def qe7 (K:yg):List V->Hp->VK->Prop:=fun xs H Q=>∃ (p:Addr) (bs:List Bool),xs=[.ref p]/\SqL K H p (bs.map V.bl)/\Q (.bl (bs.all id)) H
theorem call_all (hc:X.calm=true):zd X (.builtin "all") (qe7 X.K):=by
 intro pins s σ H xs us Q I r h;obtain ⟨p,bs,rfl,x,q⟩:=h;obtain ⟨u,rfl,z⟩:=qaz r;cases z;obtain ⟨its,B,pl,hz⟩:=I.list x;have e:=qcx B;subst e;have n:X.A.in1.handled=none:=I.ok.hd hc;refine call_all_walk (Xo pl.isList ?_)
 have f:p≠s.heap.objs.size:=by
  obtain ⟨o,w,_⟩:=pl.isList;exact y0 (yM w)
 refine ⟨s.heap.objs.size,_,_,_,_,_,fun i=>(bs[i]?).getD false,rfl,Walks.list n s.heap.objs.size p f (bs.map Value.bool).toArray,⟨⟨_,yL _ rfl,rfl,rfl⟩,pl.isList.at fun o e=>yv _ e⟩,fun i v s Q E hv y=>?_,fun h' tk t=>?_⟩
 .have a:(bs.map Value.bool)[i]?=some v:=by simpa using hv
  rw [yd] at a
  cases e:bs[i]? with
  | none=>rw [e] at a;cases a
  | some b =>
   rw [e] at a;cases a;have c:Q ((bs[i]?).getD false) s:=y;rw [e] at c;exact yu c
 .have e:((List.range (bs.map Value.bool).toArray.size).all fun i=>(bs[i]?).getD false)=bs.all id:=by
   rw [yw,ya]
   have g:∀ bs:List Bool,((List.range bs.length).all fun i=>(bs[i]?).getD false)=bs.all id:=by
    intro bs
    induction bs with
    | nil=>rfl
    | cons b r ih =>
     rw [yA,List.range_succ_eq_map,Xb,kn,Xb,<- ih];rfl
   exact g bs
  rw [e];refine ⟨.bl _,H,?_,rfl,q⟩;have l:Inv X pins σ H { s with heap:=s.heap.push { cls:=.type "list_iterator",data:=.fields #[.ref p,.int 0 0] } }:=I.kept (t':=s.toks) fun b o e=>yv _ e;have d:=I.fpOk (b:=s.heap.objs.size) (yh _) (I.hok.fresh (yh _));exact l.turned (it:=s.heap.objs.size) (h':=h') (t':=tk) (fun b o m e=>t b o (by simpa using m) e) d.1 d.2.1 d.2.2.2.1 d.2.2.2.2.1 d.2.2.2.2.2
theorem op_le_str:OpR X (compareOp .LtE) (fun x y H Q=>∃ i j,x=.str i/\y=.str j/\Q (.bl (!decide (j.cps.toList<i.cps.toList))) H):=by
 intro pins s σ H x y v u Q I a b h;obtain ⟨i,j,rfl,rfl,q⟩:=h;obtain ⟨t,rfl⟩:=a;obtain ⟨t',rfl⟩:=b;exact PySem.P.le_str (qcq I q (by rfl))
def qeQ:R2:=fun x y H Q=>match x,y with
 | .int i,.int j=>Q (.bl (decide (i<=j))) H
 | .str i,.str j=>Q (.bl (!decide (j.cps.toList<i.cps.toList))) H
 | _,_=>False
theorem qeG:OpR X (compareOp .LtE) qeQ:=by
 intro pins s σ H x y v u Q I a b h
 cases x with
 | int i=>cases y with
  | int j=>exact op_le pins s σ H _ _ v u Q I a b ⟨i,j,rfl,rfl,h⟩
  | _=>exact False.elim h
 | str i=>cases y with
  | str j=>exact op_le_str pins s σ H _ _ v u Q I a b ⟨i,j,rfl,rfl,h⟩
  | _=>exact False.elim h
 | _=>exact False.elim h
theorem op_is_bl:OpR X (compareOp .Is) (fun x y H Q=>∃ i j,x=.bl i/\y=.bl j/\Q (.bl (i==j)) H):=by
 intro pins s σ H x y v u Q I a b h;obtain ⟨i,j,rfl,rfl,q⟩:=h;cases a;cases b;exact wpAny_is_plain (by cases i<;>cases j<;>rfl) (qcq I q (by cases i<;>cases j<;>rfl))
def qe8:R2:=fun x y H Q=>match x,y with
 | .bl i,.bl j=>Q (.bl (i==j)) H
 | x,.non=>Q (.bl (decide (x=.non))) H
 | _,_=>False
theorem qeh:OpR X (compareOp .Is) qe8:=by
 intro pins s σ H x y v u Q I a b h
 cases y with
 | non=>exact op_isN pins s σ H x _ v u Q I a b ⟨rfl,by cases x<;>exact h⟩
 | bl j=>cases x with
  | bl i=>exact op_is_bl pins s σ H _ _ v u Q I a b ⟨i,j,rfl,rfl,h⟩
  | _=>exact False.elim h
 | _=>cases x<;>exact False.elim h
theorem op_rep_str:OpR X (binaryOp .Mult) (fun x y H Q=>∃ z k,x=.str z/\y=.int k/\MulOk z k/\Q (.str (Txt.mul z k)) H):=by
 intro pins s σ H x y v u Q I b c h;obtain ⟨z,k,rfl,rfl,a,q⟩:=h;obtain ⟨t,rfl⟩:=b;obtain ⟨t',rfl⟩:=c;exact SB.mul a fun t' k'=>⟨.str _,H,I.tok _,⟨_,rfl⟩,q⟩
def qet:R2:=fun x y H Q=>match x,y with
 | .int i,.int j=>CMul i j/\Q (.int (i*j)) H
 | .str z,.int k=>MulOk z k/\Q (.str (Txt.mul z k)) H
 | .ref a,.int k=>rRep (.ref a) (.int k) H Q
 | _,_=>False
theorem qbj:OpR X (binaryOp .Mult) qet:=by
 intro pins s σ H x y v u Q I b c h
 cases y with
 | int j=>cases x with
  | int i=>exact op_mul pins s σ H _ _ v u Q I b c ⟨i,j,rfl,rfl,h.1,h.2⟩
  | str i=>exact op_rep_str pins s σ H _ _ v u Q I b c ⟨i,j,rfl,rfl,h.1,h.2⟩
  | ref a=>exact qdI pins s σ H _ _ v u Q I b c h
  | _=>exact False.elim h
 | _=>cases x<;>exact False.elim h
def qdc (K:yg):R2:=fun x y H Q=>match x,y with
 | .int i,.int j=>Q (.int (i+j)) H
 | .str i,.str j=>i.length+j.length<=sizeLine/\Q (.str (i++j)) H
 | .ref a,.ref b=>rCat (.ref a) (.ref b) H Q\/rCatT K (.ref a) (.ref b) H Q
 | _,_=>False
theorem u_add:OpR X (binaryOp .Add) (qdc X.K):=by
 intro pins s σ H x y v u Q I c d h
 cases x with
 | int i=>cases y with
  | int j=>exact op_add pins s σ H _ _ v u Q I c d ⟨i,j,rfl,rfl,h⟩
  | _=>exact False.elim h
 | str i=>cases y with
  | str j=>exact op_add_str pins s σ H _ _ v u Q I c d ⟨i,j,rfl,rfl,h.1,h.2⟩
  | _=>exact False.elim h
 | ref a=>cases y with
  | ref b=>exact h.elim (fun h=>op_cat pins s σ H _ _ v u Q I c d h) fun h=>op_catT pins s σ H _ _ v u Q I c d h
  | _=>exact False.elim h
 | _=>exact False.elim h
def qcS (K:yg):List V->Hp->VK->Prop:=fun xs H Q=>match xs with
 | [.str z]=>z.length<=sizeLine/\Q (.int z.length) H
 | [.ref p]=>(∃ ys,(SqL K H p ys\/SqT K H p ys)/\Q (.int ys.length) H)\/∃ kvs,H p=some (.dK kvs)/\Q (.int kvs.length) H
 | _=>False
theorem call_lenU:zd X (.builtin "len") (qcS X.K):=by
 intro pins s σ H xs us Q I r h
 match xs,h with
 | [.str z],h=>exact call_len_str pins s σ H _ us Q I r ⟨z,rfl,h.1,h.2⟩
 | [.ref p],.inl ⟨ys,h,q⟩=>exact call_len_seq pins s σ H _ us Q I r ⟨p,ys,rfl,h,q⟩
 | [.ref p],.inr ⟨kvs,h,q⟩=>exact call_lenD pins s σ H _ us Q I r ⟨p,kvs,rfl,h,q⟩
theorem sl_str:SlR X (fun x lo b H Q=>∃ z,x=.str z/\z.length<=sizeLine/\Q (.str (Txt.slice z lo b)) H):=by
 intro pins s σ H x v f g lo b e Q I d a pl c h;obtain ⟨z,rfl,hz,q⟩:=h;obtain ⟨t,rfl⟩:=d;refine ⟨"str",_,F.slot_str_getitem.lookup,typeIs_str _ _ _,?_⟩
 cases pl with
 | none =>
  cases c with
  | none=>exact xI (l:=none) (u:=none) (st:=none) a rfl (XI ⟨yi (ko z _ _) hz,fun t' k=>⟨.str _,H,I.tok _,⟨_,rfl⟩,q⟩⟩)
  | int j uj=>exact xI (l:=none) (u:=some (j,uj)) (st:=none) a rfl (XI ⟨yi (ko z _ _) hz,fun t' k=>⟨.str _,H,I.tok _,⟨_,rfl⟩,q⟩⟩)
 | int i ui =>
  cases c with
  | none=>exact xI (l:=some (i,ui)) (u:=none) (st:=none) a rfl (XI ⟨yi (ko z _ _) hz,fun t' k=>⟨.str _,H,I.tok _,⟨_,rfl⟩,q⟩⟩)
  | int j uj=>exact xI (l:=some (i,ui)) (u:=some (j,uj)) (st:=none) a rfl (XI ⟨yi (ko z _ _) hz,fun t' k=>⟨.str _,H,I.tok _,⟨_,rfl⟩,q⟩⟩)
def qeR (K:yg):V->Option Int->Option Int->Hp->VK->Prop:=fun x lo b H Q=>match x with
 | .str z=>z.length<=sizeLine/\Q (.str (Txt.slice z lo b)) H
 | .ref a=>rSlL K (.ref a) lo b H Q\/rSlT K (.ref a) lo b H Q
 | _=>False
theorem u_sl:SlR X (qeR X.K):=by
 intro pins s σ H x v g i lo b f Q I e c pl d h
 cases x with
 | str z=>exact sl_str pins s σ H _ v g i lo b f Q I e c pl d ⟨z,rfl,h.1,h.2⟩
 | ref a=>exact h.elim (fun h=>sl_list pins s σ H _ v g i lo b f Q I e c pl d h) fun h=>sl_tup pins s σ H _ v g i lo b f Q I e c pl d h
 | _=>exact False.elim h
theorem qbk:∀ {ys:List Str} {us:List Value},Vals (ys.map V.str) us->StrsAre us ys
 | [],_,.nil=>.nil
 | y::ys,_,.cons r t=>by
  obtain ⟨tk,rfl⟩:=r;exact .cons y tk (qbk t)
def qeu (K:yg):V->List V->Hp->VK->Prop:=fun x vs H Q=>∃ (z:Str) (p:Addr) (ys:List Str),x=.str z/\vs=[.ref p]/\SqL K H p (ys.map V.str)/\(ys.map (·.length)).sum+ys.length*z.length<=16777216/\Q (.str (Txt.join z ys)) H
theorem mt_join:MtR X "str.join" (qeu X.K):=by
 intro pins s σ H x vs v us Q I d c h;obtain ⟨z,p,ys,rfl,rfl,a,hz,q⟩:=h;obtain ⟨t,rfl⟩:=d;obtain ⟨u,rfl,b⟩:=c.one;cases b;obtain ⟨its,r,pl,_⟩:=I.list a;exact join_list pl.isList (by simpa using qbk r) hz fun t' k=>⟨.str _,H,I.tok _,⟨_,rfl⟩,q⟩
def qeS (K:yg) (te:TE):TI:=fun σ H R=>te σ H fun v b=>match v with
 | .str x=>R (Its x) b
 | .ref a=>((∃ xs,SqL K b a xs)/\R (Itl K a) b)\/((∃ xs,SqT K b a xs)/\R (Itt K a) b)
 | _=>False
theorem pi_any {e:Expr} (z:PE X e te) (g:∀ it v,letOwnedTupleGo tg it v=pure ():=by intro _ _;rfl):PI X tg e (qeS X.K te):=by
 intro pins s σ H R I h;refine thn (z pins s σ H _ I h) fun v c ⟨y,f,d,w,l⟩=>?_
 cases y with
 | str x =>
  obtain ⟨t,rfl⟩:=w
  have fp:∀ b∈[c.heap.objs.size],qcP X pins f b:=fun b n=>by
   have e:b=c.heap.objs.size:=by simpa using n
   subst e;exact d.fpOk (yh _) (d.hok.fresh (yh _))
  cases u:x.cps.all (· < 128)
  .exact wpAny_pyIter_wide u ⟨c.heap.objs.size,[c.heap.objs.size],_,_,f,rfl,d.kept (t':=c.toks) fun b o e=>yv _ e,
    qcw (T:="str_iterator") (fun A m=>Walks.strWide m _ x t) (fun A i s Q E st h=>wpAny_pyIter_striter_wide st h) (g _),⟨_,yL _ rfl,rfl,rfl⟩,fp,l⟩
  .exact wpAny_pyIter_ascii u ⟨c.heap.objs.size,[c.heap.objs.size],_,_,f,rfl,d.kept (t':=c.toks) fun b o e=>yv _ e,
    qcw (T:="str_ascii_iterator") (fun A m=>Walks.strAscii m _ x t) (fun A i s Q E st h=>wpAny_pyIter_striter_ascii st h) (g _),⟨_,yL _ rfl,rfl,rfl⟩,fp,l⟩
 | ref a =>
  cases w
  have fp:∀ b∈[c.heap.objs.size],qcP X pins f b:=fun b n=>by
   have e:b=c.heap.objs.size:=by simpa using n
   subst e;exact d.fpOk (yh _) (d.hok.fresh (yh _))
  rcases l with ⟨⟨xs,r⟩,q⟩ | ⟨⟨xs,r⟩,q⟩
  .obtain ⟨its,B,p,hz⟩:=d.list r;exact Xo p.isList ⟨c.heap.objs.size,[c.heap.objs.size],_,_,f,rfl,d.kept (t':=c.toks) fun b o e=>yv _ e,qbx a _,⟨_,yL _ rfl,rfl,rfl⟩,fp,q⟩
  .obtain ⟨its,B,p,hz⟩:=d.tuple r;exact wpAny_pyIter_tuple (show c.heap.IsTuple a its.toArray from p) ⟨c.heap.objs.size,[c.heap.objs.size],_,_,f,rfl,d.kept (t':=c.toks) fun b o e=>yv _ e,turn_tuple a _,⟨_,yL _ rfl,rfl,rfl⟩,fp,q⟩
 | _=>exact False.elim l
end
section
variable {D:Ends} {σ:St} {H:Hp} {Q:VK} {QT:Bool->Hp->Prop} {QA:List V->Hp->Prop} {t u:TS} {te ta tb tc:TE} {c c':TT} {tr tas:TA} {r r':R2} {K:yg}
theorem vSeq (h:t { D with nx:=u D } σ H):qeK t u D σ H:=h
theorem vAsg {i:Nat} (h:te σ H fun x a=>D.nx (σ.set i (some x)) a):qee te (qb5 i) D σ H:=h
theorem vAsgS {b a:TE} {s:qen} (h:te σ H fun x c=>b σ c fun o d=>a σ d fun i e=>s o i x e fun f=>D.nx σ f):qee te (qe1 b a s) D σ H:=h
theorem vIfS (h:c σ H fun b a=>if b=true then t D σ a else u D σ a):qe0 c t u D σ H:=h
theorem vRet (h:te σ H D.rt):qeZ te D σ H:=h
theorem vRetN (h:D.rt .non H):qem D σ H:=h
theorem vDrop (h:te σ H fun _ a=>D.nx σ a):qel te D σ H:=h
theorem vNext (h:D.nx σ H):qek D σ H:=h
theorem vC (h:Q v H):tC v σ H Q:=h
theorem vVar {i:Nat} (e:σ[i]?=some (some v)) (h:Q v H):qeJ i σ H Q:=⟨v,e,h⟩
theorem vOp (h:ta σ H fun x a=>tb σ a fun y b=>r x y b Q):tOp r ta tb σ H Q:=h
theorem vUn {f:V->Hp->VK->Prop} (h:ta σ H fun x a=>f x a Q):tUn f ta σ H Q:=h
theorem vChain (h:ta σ H fun x b=>tb σ b fun y c=>r x y c fun z a=>∃ k,z=.bl k/\if k=true then tc σ a fun e d=>r' y e d Q else Q (.bl false) a):qcZ r r' ta tb tc σ H Q:=h
theorem vNil (h:QA [] H):qeE σ H QA:=h
theorem vCons (h:ta σ H fun x a=>tr σ a fun xs b=>QA (x::xs) b):qeq ta tr σ H QA:=h
theorem vCB {f:List V->Hp->VK->Prop} (h:tas σ H fun vs a=>f vs a Q):tCB f tas σ H Q:=h
theorem vCall {sp:Sp} {E:XK} (h:tas σ H fun vs a=>sp (vs++[]) a Q E):qd6 sp [] E tas σ H Q:=h
theorem vLst (h:tas σ H fun xs a=>NewL xs a Q):qe5 tas σ H Q:=h
theorem vTup (h:tas σ H fun xs a=>NewT xs a Q):qe4 tas σ H Q:=h
theorem vTest (h:te σ H fun x a=>∃ k,x=.bl k/\QT k a):qd5 te σ H QT:=h
theorem vB (h:te σ H fun x a=>∃ k,x=.bl k/\QT k a):tB te σ H QT:=h
theorem vNot (h:c σ H fun b a=>QT (!b) a):qeX c σ H QT:=h
theorem vAnd (h:c σ H fun b a=>if b=true then c' σ a QT else QT false a):qeW c c' σ H QT:=h
theorem vOr (h:c σ H fun b a=>if b=true then QT true a else c' σ a QT):tOr c c' σ H QT:=h
theorem vAndV (h:ta σ H fun x a=>∃ k,x=.bl k/\if k=true then tb σ a Q else Q (.bl false) a):qej ta tb σ H Q:=h
theorem vOrV (h:ta σ H fun x a=>∃ k,x=.bl k/\if k=true then Q (.bl true) a else tb σ a Q):qeY ta tb σ H Q:=h
theorem vNotV (h:ta σ H fun x a=>∃ k,x=.bl k/\Q (.bl (!k)) a):tNotV ta σ H Q:=h
theorem vIf (h:c σ H fun b a=>if b=true then ta σ a Q else tb σ a Q):tIf c ta tb σ H Q:=h
theorem vYes (h:QT true H):qe6 σ H QT:=h
theorem vI0 {g:Int->Int->V} {j:Int} (h:Q (g i j) H):rI0 g (.int i) (.int j) H Q:=⟨i,j,rfl,rfl,h⟩
theorem vI {C:Int->Int->Prop} {g:Int->Int->V} {j:Int} (hc:C i j) (h:Q (g i j) H):rI C g (.int i) (.int j) H Q:=⟨i,j,rfl,rfl,hc,h⟩
theorem vU {g:Int->V} (h:Q (g i) H):rU g (.int i) H Q:=⟨i,rfl,h⟩
theorem vEqI {j:Int} (h:Q (.bl (decide (i=j))) H):rEq (.int i) (.int j) H Q:=⟨rfl,by
 have e:decide (V.int i=V.int j)=decide (i=j):=by
  by_cases h:i=j
  .subst h;simp
  .rw [yl h,yl (fun e=>h (V.int.inj e))]
 rw [e];exact h⟩
theorem vEqB {i j:Bool} (h:Q (.bl (i==j)) H):rEq (.bl i) (.bl j) H Q:=⟨rfl,by rw [dec_bl];exact h⟩
theorem qao (b:H p=some (.lst xs)) (a:atI xs i=some v) (h:Q v H):rIx K (.ref p) (.int i) H Q:=.inl ⟨p,xs,i,v,rfl,rfl,SqL.of b,a,h⟩
theorem vIxLs (b:SqL K H p xs) (a:atI xs i=some v) (h:Q v H):rIx K (.ref p) (.int i) H Q:=.inl ⟨p,xs,i,v,rfl,rfl,b,a,h⟩
theorem qa8 (b:H p=some (.tup xs)) (a:atI xs i=some v) (h:Q v H):rIx K (.ref p) (.int i) H Q:=.inr (.inl ⟨p,xs,i,v,rfl,rfl,SqT.of b,a,h⟩)
theorem qe9 {ch:Nat} (hz:z.length<=sizeLine) (a:atI z.cps.toList i=some ch) (h:Q (.str ⟨#[ch]⟩) H):rIx K (.str z) (.int i) H Q:=.inr (.inr ⟨z,i,ch,rfl,rfl,hz,a,h⟩)
theorem qdA {k:Int} {j:Nat} {a:Hp->Prop} (c:H p=some (.lst xs)) (b:ixN xs.length k=some j) (h:a (upd H p (.lst (xs.set j v)))):rSetL (.ref p) (.int k) v H a:=⟨p,xs,k,j,rfl,rfl,c,b,h⟩
theorem vEx {k:Bool} {P:Bool->Prop} (h:P k):∃ k',V.bl k=.bl k'/\P k':=⟨k,rfl,h⟩
theorem vLeI {j:Int} (h:Q (.bl (decide (i<=j))) H):qeQ (.int i) (.int j) H Q:=h
theorem vLeS {i j:Str} (h:Q (.bl (!decide (j.cps.toList<i.cps.toList))) H):qeQ (.str i) (.str j) H Q:=h
theorem vIsB {i j:Bool} (h:Q (.bl (i==j)) H):qe8 (.bl i) (.bl j) H Q:=h
theorem vAddI {j:Int} (h:Q (.int (i+j)) H):qdc K (.int i) (.int j) H Q:=h
theorem qd8 {i j:Str} (hz:i.length+j.length<=sizeLine) (h:Q (.str (i++j)) H):qdc K (.str i) (.str j) H Q:=⟨hz,h⟩
theorem qbl {j:Int} (hc:CMul i j) (h:Q (.int (i*j)) H):qet (.int i) (.int j) H Q:=⟨hc,h⟩
theorem vLenS (hz:z.length<=sizeLine) (h:Q (.int z.length) H):qcS K [.str z] H Q:=⟨hz,h⟩
theorem zk (a:H p=some (.lst ys)) (h:Q (.int ys.length) H):qcS K [.ref p] H Q:=.inl ⟨ys,.inl (SqL.of a),h⟩
theorem qdJ (a:SqL K H p ys) (h:Q (.int ys.length) H):qcS K [.ref p] H Q:=.inl ⟨ys,.inl a,h⟩
theorem vLenT (a:H p=some (.tup ys)) (h:Q (.int ys.length) H):qcS K [.ref p] H Q:=.inl ⟨ys,.inr (SqT.of a),h⟩
theorem qeT {lo a:Option Int} (hz:z.length<=sizeLine) (h:Q (.str (Txt.slice z lo a)) H):qeR K (.str z) lo a H Q:=⟨hz,h⟩
theorem vSl {f:V->Option Int->Option Int->Hp->VK->Prop} {tl a:TO} (h:te σ H fun x b=>tl σ b fun l c=>a σ c fun u d=>f x l u d Q):tSl f te tl a σ H Q:=h
theorem vNoPart (h:QO none H):qc4 σ H QO:=h
theorem vPart (h:te σ H fun x a=>∃ i,x=.int i/\QO (some i) a):qer te σ H QO:=h
theorem vExI {P:Int->Prop} (h:P i):∃ j,V.int i=.int j/\P j:=⟨i,rfl,h⟩
theorem vBM (h:te σ H fun x a=>tyV K T x a/\tas σ a fun xs b=>f x xs b Q):tBM K T f te tas σ H Q:=h
theorem vBM0 (h:te σ H fun x a=>tyV K T x a/\f x [] a Q):qeO K T f te σ H Q:=h
theorem vComp (h:wi σ H fun J a=>qdz J g c te (qcV nl ixs σ) a Q):qdy wi g c te nl ixs σ H Q:=h
theorem vFor (h:wi σ H fun J e=>∃ W:Nat->Nat->St->Hp->Prop,(∃ m,W 0 m σ e)/\∀ i m σ H,W i m σ H ->
 (J.stop i H/\D.nx σ H)\/(J.go i H/\∃ N:St->Hp->Prop,(∀ b a,N b a->∃ d,d<m/\W (i+1) d b a)/\∀ x a,J.yld i H x a->g x σ a fun c f=>t { D with nx:=N,ct:=N,bk:=D.nx } c f)):qe2 wi g t D σ H:=h
theorem vRng1 (h:tas σ H fun vs a=>∃ j:Int,vs=[.int j]/\-(2 ^ 62)<=j/\j<2 ^ 62/\R (Itr 0 j.toNat) a):qeo tas σ H R:=h
theorem vAny (h:te σ H fun v b=>match v with
 | .str x=>R (Its x) b
 | .ref a=>((∃ xs,SqL K b a xs)/\R (Itl K a) b)\/((∃ xs,SqT K b a xs)/\R (Itt K a) b)
 | _=>False):qeS K te σ H R:=h
theorem vGN {i:Nat} {a:St->Hp->Prop} (h:a (σ.set i (some v)) H):qb5 i v σ H a:=h
theorem qdd {xs:List α} (b:0<=i) (h1:i<xs.length):∃ v,atI xs i=some v/\xs[i.toNat]?=some v:=by
 obtain ⟨n,rfl⟩:=xJ b;have a:n<xs.length:=by omega
 exact ⟨xs[n],qL (by simp [a]),by simp [a]⟩
end
section
variable {X:Cx} {K:yg} {o e:Expr} {es:List Expr} {to ta:TE} {t:TA} {name f:Str} {apos cpos pos:Pos} {T id:String} {r:V->List V->Hp->VK->Prop} {tg:Expr}
theorem jK (a:X.K=K):zd X (.builtin "len") (qcS K):=by subst a;exact call_lenU
theorem k_all (a:X.K=K) (hc:X.calm=true):zd X (.builtin "all") (qe7 K):=by subst a;exact call_all hc
theorem qd9 (a:X.K=K):SlR X (qeR K):=by subst a;exact u_sl
theorem jI (a:X.K=K):OpR X (binaryOp .Add) (qdc K):=by subst a;exact u_add
theorem k_join (a:X.K=K):MtR X "str.join" (qeu K):=by subst a;exact mt_join
theorem qK (b:X.K=K) (c:PE X e ta) (a:∀ it v,letOwnedTupleGo tg it v=pure ():=by intro _ _;rfl):PI X tg e (qeS K ta):=by subst b;exact pi_any c a
theorem qev (e:X.K=K) (h:PlainAttrs T) (c:Slot T name id) (d:typeOf (.builtin id)=pure (.type "method_descriptor")) (f:MtR X id r) (g:PE X o to)
  (a:attributeBase o name X.env (eval o X.env)=eval o X.env:=by rfl) (b:(apos.endLine==cpos.line)=true:=by rfl):PE X (.Call (.Attribute o name apos) [] [] cpos) (qeO K T r to):=by
 subst e;exact pe_bm0 h c d f g a b
theorem qbu (h:X.K=K) (p:PlainAttrs T) (f:Slot T name id) (g:typeOf (.builtin id)=pure (.type "method_descriptor")) (l:MtR X id r) (m:PE X o to) (i:PA X (e::es) t)
  (b:attributeBase o name X.env (eval o X.env)=eval o X.env:=by rfl)
  (d:((backTo cpos (starEach (e::es) X.env)).all (fun x=>!x.1)&&(backToKw cpos (keywordEach [] X.env)).all (fun x=>x.1.isSome)
   && decide ((e::es).length+([]:List Keyword).length+(if ([]:List Keyword).isEmpty then 0 else 1)<30))=true:=by rfl)
  (c:(apos.endLine==cpos.line)=true:=by rfl) (n:starEach (e::es) X.env=(false,eval e X.env)::starEach es X.env:=by rfl) (a:(backTo cpos (starEach es X.env)).any (·.1)=false:=by rfl) :
  PE X (.Call (.Attribute o name apos) (e::es) [] cpos) (tBM K T r to t):=by
 subst h;exact pe_bm p f g l m i b d c n a
end
structure DefOk (P:Program) (w:World) (K:yg) (mg:Str->Option Value) (base:Heap) (CX:CXT) (k:Nat) (x:Str) (ps:List Str) (sp:Sp):Prop where
 ex:∃ f fd,FnOk P w K mg base CX k f fd ps sp/\mg x=some (.ref f)/\PySem.W.keepIn K (.ref f)=true/\Binds K fd ps []
section
variable {X:Cx} {CX:CXT} {k:Nat} {ps:List Str} {sp:Sp} {E:XK} {x:Str} {p pos:Pos} {e:Expr} {es:List Expr} {t:TA}
theorem qu (D:DefOk X.prog X.w X.K X.mg X.base CX k x ps sp) (m:Room k X.A) (n:qay CX X E) (c:PA X (e::es) t) (h:Gl X x:=by rfl) (a:(x==("__debug__":Str))=false:=by decide)
  (g:starEach (e::es) X.env=(false,eval e X.env)::starEach es X.env:=by rfl) (b:(backTo pos (starEach es X.env)).any (·.1)=false:=by rfl):PE X (.Call (.Name x p) (e::es) [] pos) (qd6 sp [] E t):=by
 obtain ⟨f,o,F,l,i,d⟩:=D.ex;exact pe_call F m h l i d .nil n c a g b
theorem qbm (c:Gl X x) (a:∃ tk,X.mg x=some (.int i tk)) (b:(x==("__debug__":Str))=false:=by decide):PE X (.Name x pos) (tC (.int i)):=by
 obtain ⟨tk,a⟩:=a;exact pe_glob c a ⟨tk,rfl⟩ b
end
noncomputable def isaT (t c:String):Bool:=t==c||(t=="bool"&&c=="int")
theorem qap (K:yg):∀ t∈["NoneType","bool","int","str","list","tuple","dict"],∀ c∈["bool","int","str","list","tuple","dict"],PySem.W.kitOne K (.type t) (.type c)=some (isaT t c):=by
 intro t a c hc;simp only [yy,yX,YO] at a hc;rcases a with rfl | rfl | rfl | rfl | rfl | rfl | rfl<;>rcases hc with rfl | rfl | rfl | rfl | rfl | rfl<;>rfl
noncomputable def qdK:List Value->Bool
 | [.type a,.type b,.type c,.type d]=>a=="ValueError"&&b=="Exception"&&c=="BaseException"&&d=="object"
 | .ref _::r=>qdK r
 | _=>false
noncomputable def xcIn (K:yg) (C:Addr):Bool:=match K.lookup C with
 | some ⟨.type "type",_,.cls cd,sl⟩=>(match cd.mro,sl.toList with
  | .ref D::bm,[_,_,_,_,some (.builtin n),_]=>D==C&&!cd.hasDel&&qdK bm&&n=="ValueError.__new__"
  | _,_=>false)
 | _=>false
structure XAt (K:yg) (C:Addr):Prop where
 ga:PySem.W.findIn K (.ref C) "__getattribute__"=some (some (.builtin "BaseException.__getattribute__"))
 gn:PySem.W.findIn K (.ref C) "__getattr__"=some none
 bx:PySem.W.mroIn K C (.type "BaseException")=some true
 ob:PySem.W.mroIn K C (.type "object")=some true
 hd:PySem.W.hasDictIn K C=true
 cl:PySem.W.findIn K (.ref C) "__class__"=some (some (.builtin "object.__class__"))
 cg:PySem.W.specialIn K (.builtin "object.__class__") "__get__"=some (some (.builtin "getset_descriptor.__get__"))
 ct:PySem.W.takesIn K (.builtin "object.__class__")=some true
 sa:PySem.W.findIn K (.ref C) "__setattr__"=some (some (.builtin "object.__setattr__"))
 mr:(PySem.W.clsIn K C).any (fun cd=>qdK cd.mro)=true
 xc:xcIn K C=true
theorem bexc_ga_slot:Slot "ValueError" "__getattribute__" "BaseException.__getattribute__":=PySem.F.attr_ValueError.ga
section
variable {prog:Program} {w:World} {A:Around} {E:Value->Shared->Prop} {s:Shared} {K:yg} {x C:Addr} {ox:Obj} {od:Option Obj} {name:Str} {v:Value}
theorem xga_value {Q:Fin->Shared->Prop} (X:K.In s.heap) (I:PySem.W.InstAt s.heap x ox C od) (a:PySem.W.findObj K C od name=some (.value v)) (h:Q (.done (.ret v)) s) :
  wpAny (model prog w) A (Builtin.«object.__getattribute__» ⟨[.ref x,.str name tk],[]⟩) Q E s:=by
 have F:=PySem.W.looks_find (M:=model prog w) X I a;refine yr (yu (yr (yu (yr (I.type.here (yr (F.here ?_)))))));exact yu h
theorem xga_call {R:Result->Shared->Prop} (X:K.In s.heap) (I:PySem.W.InstAt s.heap x ox C od) (c:PySem.W.mroIn K C (.type "BaseException")=some true)
  (h:wpAny (model prog w) A.in1 (Builtin.«object.__getattribute__» ⟨[.ref x,.str name tk],[]⟩) (fun b a=>match b with | .done f=>R (.ok f) a | .again c'=>c'.quiet=true/\codeAny (model prog w) A c' R a) (fun e a=>R (.error e) a) s) :
  codeAny (model prog w) A (.call (.builtin "BaseException.__getattribute__") ⟨[.ref x,.str name tk],[]⟩) R s:=by
 refine xy bexc_ga_slot.plain PySem.F.entry_bexc_ga ?_;exact @PySem.W.check_slot (model prog w) _ _ s "BaseException.__getattribute__" "BaseException" "__getattribute__" (.ref x) [.str name tk] [] _ (by decide +kernel) (by decide +kernel) (I.type.andThen (xB X c)) (PySem.F.args_bexc_ga _ _) h
theorem qde {b:Bool} {Q:Value->Shared->Prop} (X:K.In s.heap) (I:PySem.W.InstAt s.heap x ox C od) (c:XAt K C)
  (h:wpAny (model prog w) A.in1 (Builtin.«object.__getattribute__» ⟨[.ref x,.str name tk],[]⟩) (fun a d=>match a with | .done (.ret v)=>wpAny (model prog w) A (handedOut v) Q E d | _=>False) (fun _ _=>False) s) :
  wpAny (model prog w) A (getAttrBy (.ref x) (.str name tk) b expr) Q E s:=by
 unfold getAttrBy;refine Yn (yr (I.type.here (yr ((Y2 X c.ga).here ?_))))
 have e:(onTheHeap (Value.ref C)&&Value.builtin "BaseException.__getattribute__"==Value.builtin "object.__getattribute__")=false:=by
  rw [show (Value.builtin "BaseException.__getattribute__"==Value.builtin "object.__getattribute__")=false by decide +kernel];rfl
 dsimp only;rw [e,yD (by decide)];unfold getAttrByItsOwn hookBefore;rw [yK (show onTheHeap (Value.ref C)=true from rfl)];refine yr ((Y2 X c.gn).here (yr (Xz (Yn ?_))));have f:(expr&&onTheHeap (Value.builtin "BaseException.__getattribute__"))=false:=by cases expr<;>rfl
 unfold callGetattribute;rw [f,yD (by decide)];unfold boundAndCalled;rw [bexc_ga_slot.bind];refine yr (yu ?_);show wpAny _ _ (call (.builtin "BaseException.__getattribute__") [.ref x,.str name tk]) _ _ _;refine Xv (xga_call X I c.bx (YG h (fun a d z=>?_) fun _ _ z=>z.elim));rcases a with (_ | _ | _ | _) | _<;>first | exact z | exact z.elim
theorem xget {Q:Value->Shared->Prop} (X:K.In s.heap) (I:PySem.W.InstAt s.heap x ox C od) (c:XAt K C) (a:PySem.W.findObj K C od name=some (.value v)) (b:PySem.W.handedIn v=true)
  (h:Q v { s with toks:=s.toks+1 }):wpAny (model prog w) A (getAttr (.ref x) name expr) Q E s:=by
 unfold getAttr;refine yr (wpAny_mkText (qde (s:={ s with toks:=s.toks+1 }) X I c (xga_value (s:={ s with toks:=s.toks+1 }) X I a ?_)));show wpAny _ _ (handedOut v) _ _ _;rw [PySem.W.handedOut_of b];exact yu h
theorem xclass {Q:Option Value->Shared->Prop} (X:K.In s.heap) (I:PySem.W.InstAt s.heap x ox C od) (c:XAt K C) (a:PySem.W.findObj K C od "__class__"=some (.bind (.builtin "getset_descriptor.__get__") (.builtin "object.__class__")))
  (h:Q (some (.ref C)) { s with toks:=s.toks+1 }):wpAny (model prog w) A (getAttr? (.ref x) "__class__") Q E s:=by
 unfold getAttr? getAttrBy?;refine yr (wpAny_mkText (yr (Xz (qde (s:={ s with toks:=s.toks+1 }) X I c ?_))));have F:=PySem.W.looks_find (M:=model prog w) X I a;refine yr (yu (yr (yu (yr (I.type.here (s:={ s with toks:=s.toks+1 }) (yr (F.here (s:={ s with toks:=s.toks+1 }) ?_)))))));show wpAny _ _ (holding [Value.builtin "object.__class__"] (call (.builtin "getset_descriptor.__get__") [.builtin "object.__class__",.ref x,.ref C])>>=ret) _ _ _;refine yr (Yn (Xv (PySem.W.class_get (s:={ s with toks:=s.toks+1 }) X I c.ob ?_)));refine yu ?_;show wpAny _ _ (handedOut (.ref C)) _ _ _;exact yu (yu h)
theorem findObj_class (c:XAt K C):PySem.W.findObj K C od "__class__"=some (.bind (.builtin "getset_descriptor.__get__") (.builtin "object.__class__")):=by
 obtain ⟨a,hc,_⟩:=xE c.hd;unfold PySem.W.findObj;rw [hc,Option.bind_some,c.cl,Option.bind_some];simp [c.cg,c.ct]
theorem qcy (c:XAt K C):PySem.W.KitX K (.ref x) (.ref C) (fun h=>PySem.W.InstAt h x ox C od) where
 ty:=fun _ _ _ I=>I.type
 it:=fun _ _ X _=>by
  obtain ⟨b,hc,_⟩:=xE c.hd;unfold PySem.W.clsIn at hc;split at hc
  .rename_i c1 d1 cd1 sl1 ho
   intro f i g m k q;unfold isType loadHead;exact yr (wpAny_loadPart (k _ _ (X _ _ ho)) (yu q))
  .cases hc
 ne:=fun h d l its n o X a=>by
  obtain ⟨b,hc,_⟩:=xE c.hd;refine X4.mpr fun q=>?_;have e:C=d:=Value.ref.inj (Yk.mp q);subst e;unfold PySem.W.clsIn at hc;split at hc
  .rename_i c1 d1 cd1 sl1 ho
   have z:=(X _ _ ho).symm.trans a;cases z
  .cases hc
 ca:=fun X I k=>xclass X I c (findObj_class c) k
end
theorem qbN {r:List Value} (e:qdK (.ref c::r)=true):qdK r=true:=by
 cases r with
 | nil=>cases e
 | cons a r=>exact e
theorem qbO:∀ {l:List Value},qdK l=true->∃ f:List Addr,l=f.map Value.ref++[.type "ValueError",.type "Exception",.type "BaseException",.type "object"]
 | [],e=>by cases e
 | .ref c::r,e=>by
  obtain ⟨f,q⟩:=qbO (qbN e);exact ⟨c::f,by rw [q];rfl⟩
 | .type a::r,e=>by
  match r,e with
  | [.type b,.type c,.type d],e =>
   simp only [qdK,yW,Yk] at e;obtain ⟨⟨⟨rfl,rfl⟩,rfl⟩,rfl⟩:=e;exact ⟨[],rfl⟩
theorem refuse_exc (self:Value) {l:List Value} (e:qdK l=true):refuseLoop self "__setattr__" l=pure ():=by
 obtain ⟨a,rfl⟩:=qbO e
 induction a with
 | nil=>exact PySem.F.store_ValueError.passes self
 | cons c a ih=>rw [Yv,kg,refuseLoop_ref];exact ih (qbN e)
section
variable {prog:Program} {w:World} {A:Around} {E:Value->Shared->Prop} {s:Shared} {K:yg} {x C:Addr} {name:Str} {v:Value} {R:Result->Shared->Prop}
theorem xosa (X:K.In s.heap) (I:PySem.W.InstAt s.heap x ox C od) (c:XAt K C) (n:NoAttr K C name)
  (h:wpAny (model prog w) A.in1 (Builtin.ObjectAttr.storeInOwnDict (.ref x) (.ref C) (.str name tk) name v false)
   (fun d b=>match d with | .done f=>R (.ok f) b | .again c'=>c'.quiet=true/\codeAny (model prog w) A c' R b) (fun e b=>R (.error e) b) s) :
  codeAny (model prog w) A (.call (.builtin "object.__setattr__") ⟨[.ref x,.str name tk,v],[]⟩) R s:=by
 have a:=PySem.F.store_object;obtain ⟨g,hc,l⟩:=xE c.mr;have i:PySem.W.Looks (model prog w) s.heap (mroOf (.ref C)) g.mro:=(XS X hc).andThen .now;refine xy a.slot.plain a.entry (@PySem.W.check_slot (model prog w) _ _ s "object.__setattr__" "object" "__setattr__" (.ref x) [.str name tk,v] [] _ a.kind a.split (I.type.andThen (xB X c.ob)) (a.args (.ref x) (.str name tk) v) ?_);rw [PySem.W.osa_eq,refuse_eq];refine yr (yr (I.type.here (yr (i.here ?_))));rw [refuse_exc _ l];refine yu (yr (I.type.here (yr ((Y2 X n).here (yr (yu ?_))))));exact h
theorem xset {vs:Array Value} (X:K.In s.heap) (p:s.heap.get? x=some ⟨.ref C,none,.fields vs,#[]⟩) (c:XAt K C) (n:NoAttr K C name) {Q:Unit->Shared->Prop}
  (h:∀ h',h'.get? x=some ⟨.ref C,some s.heap.objs.size,.fields vs,#[]⟩->h'.Ns1 s.heap.objs.size (fun y=>if y=name then some v else none)->(∀ b o,b≠x->s.heap.get? b=some o->h'.get? b=some o) ->
   Q () { s with heap:=h',toks:=s.toks+2 }):wpAny (model prog w) A (setAttr (.ref x) name v) Q E s:=by
 have I:PySem.W.InstAt s.heap x ⟨.ref C,none,.fields vs,#[]⟩ C none:=⟨p,rfl,rfl,YS⟩;obtain ⟨L,hc,G⟩:=xE c.hd;refine PySem.W.set_plain X I c.sa (xosa (s:={ s with toks:=s.toks+1 }) X I c n ?_);refine yr (yu (yr (yr (wpAny_loadPart p (yr ((XS X hc).here (s:={ s with toks:=s.toks+1 }) ?_))))));rw [G];obtain ⟨a,g,M,tk,O⟩:=s;show wpAny _ _ (alloc { cls:=.type "dict",data:=.dict #[] }>>=fun d=>update x (fun o=>{ cls:=o.cls,dict:=some d,data:=o.data,slots:=o.slots })>>=fun _=>pure (some d)) _ _ _;have m:x≠a.objs.size:=y0 (yM p);have i:=yv { cls:=.type "dict",data:=.dict #[] } p;refine yr (wpAny_alloc' (yr (wpAny_update' i (yu ?_))));have l:=Yt (fun o:Obj=>{ cls:=o.cls,dict:=some a.objs.size,data:=o.data,slots:=o.slots }) i rfl;have f:=(Heap.get?_update_ne (a.push { cls:=.type "dict",data:=.dict #[] }) a.objs.size x (fun o:Obj=>{ cls:=o.cls,dict:=some a.objs.size,data:=o.data,slots:=o.slots }) m.symm).trans (Heap.get?_push_at rfl rfl);generalize J:(a.push { cls:=.type "dict",data:=.dict #[] }).update x (fun o:Obj=>{ cls:=o.cls,dict:=some a.objs.size,data:=o.data,slots:=o.slots })=h2 at l f ⊢;have nd:h2.Ns a.objs.size (fun _=>none):=⟨_,#[],_,f,rfl,fun e H=>absurd H (by simp),fun _=>rfl⟩;show wpAny _ _ (Builtin.ObjectAttr.storeInDict a.objs.size (.str name tk) name v) _ _ _;unfold Builtin.ObjectAttr.storeInDict Builtin.ObjectAttr.newKeyGuard;refine yr (yu (yr (wpAny_nsSet1 (Heap.Ns1.of_empty nd) fun h' z B=>?_)));obtain ⟨N,q,D,u,t,r⟩:=z.count (PySem.Within.cons name v PySem.Within.nil);have hz:q.size<=sizeLine:=yi r (by rw [yA,Y6,Yy];omega);refine yr (wpAny_lookBehind u (by rw [t];exact pastItsLine_dict (Xp hz)) ?_);refine yu (h h' ((B.2 x m).trans l) z fun b o F e=>(B.2 b (y0 (yM e))).trans ?_);rw [<- J];exact (Heap.get?_update_ne _ _ _ _ F).trans (yv _ e)
noncomputable abbrev xfs (a:Addr):Array Value:=#[.ref a,.none,.none,.none,.bool false,.none]
end
section
variable {prog:Program} {w:World} {A:Around} {R:Result->Shared->Prop} {E:Value->Shared->Prop} {h:Heap} {g:Array GenState} {d:Drawn} {t:Nat} {os:OsState}
variable {nm q:Str} {C N:Addr} {bs bm:List Value} {hdct:Bool} {sn:List Str} {sub:List Value} {ab:Bool} {col:Option Bool} {dd:Option Addr} {k0 k1 k2 k3 k5:Option Value}
end
noncomputable def XN (e C:Addr) (dx:Option Addr):HO:=.ext fun h=>∃ a,h.get? e=some ⟨.ref C,dx,.fields (xfs a),#[]⟩
noncomputable def XO (e C:Addr) (dx:Option Addr):HO:=.ext fun h=>∃ vs,h.get? e=some ⟨.ref C,dx,.fields vs,#[]⟩
theorem XN.ok {b:Addr} (q:h.get? e=some ⟨.ref C,dx,.fields (xfs b),#[]⟩):ObjOk P w H h e (XN e C dx):=
 ⟨⟨b,q⟩,⟨_,q⟩,fun _ _ ⟨a,x⟩ k=>⟨a,k _ x⟩⟩
def IsX (H:Hp) (e C:Addr) (dx:Option Addr):Prop:=H e=some (XN e C dx)\/H e=some (XO e C dx)
theorem IsX.get (q:IsX H e C dx) (b:HOk P w H h):∃ vs,h.get? e=some ⟨.ref C,dx,.fields vs,#[]⟩:=by
 rcases q with q | q
 .obtain ⟨⟨a,x⟩,_⟩:=(show ObjOk P w H h e (XN e C dx) from b e _ q);exact ⟨_,x⟩
 .obtain ⟨⟨a,x⟩,_⟩:=(show ObjOk P w H h e (XO e C dx) from b e _ q);exact ⟨_,x⟩
section
variable {X:Cx} {pins:List (Addr×Obj)} {σ:St} {H:Hp} {s:Shared} {e C:Addr} {dx:Option Addr}
theorem qdL (I:Inv X pins σ H s) {d:Addr} {fs:List (Str×V)} (h:H d=some (.xd fs)):∃ (od:Obj) (a:Str->Option Value),s.heap.get? d=some od/\(∀ name,PySem.W.lookIn name od=some (a name))/\∀ f,RelO (fs.lookup f) (a f):=by
 obtain ⟨a,n,r⟩:=(show ObjOk X.prog X.w H s.heap d (.xd fs) from I.hok d _ h);obtain ⟨od,h1,b⟩:=qbz n;exact ⟨od,a,h1,b,r⟩
end
section
variable {X:Cx} {pins:List (Addr×Obj)} {σ:St} {H:Hp} {s:Shared} {a d:Addr} {h':Heap} {o u:HO} {t':Nat}
theorem Inv.both (I:Inv X pins σ H s) (i:Mut (H a)) (m:s.heap.objs.size<=d) (k:∀ b v,b≠a->s.heap.get? b=some v->h'.get? b=some v) (p:∃ v,h'.get? a=some v)
  (t:ObjOk X.prog X.w (upd (upd H d u) a o) h' a o) (x:ObjOk X.prog X.w (upd (upd H d u) a o) h' d u) (ne:d≠a):Inv X pins σ (upd (upd H d u) a o) { s with heap:=h',toks:=t' }:=by
 have nd:H d=none:=I.hok.fresh m;have g:∀ b q,H b=some q->¬ Mut (some q)->b≠a:=fun b q e y z=>by subst z;rw [e] at i;exact y i
 have l:∀ b,H b=none->b≠a:=fun b e z=>by subst z;rw [e] at i;exact i
 have big:∀ b v,s.heap.get? b=some v->b≠d:=fun b v e=>y0 (yj (yM e) m);have up:∀ b q,H b=some q->b≠a->upd (upd H d u) a o b=some q:=fun b q e n=>by rw [qe n,qe (qm e nd)];exact e
 refine I.un ⟨fun b v e n _ _=>k b v (l b n) e,fun b v e n _ _=>⟨v.slots,k b v (l b n) e⟩,fun b v e n _=>by rw [qe (l b n),qe (big b v e)];exact n,fun b v e _=>?_,fun b xs e=>up b _ e (g b _ e fun z=>z),fun b q xs e=>up b _ e (g b _ e fun z=>z),
  fun b A e=>⟨#[],by rw [up b _ e (g b _ e fun z=>z)];simp⟩⟩ fun b q e=>?_
 .by_cases f:b=a
  .subst f;exact p
  .exact ⟨v,k b v f e⟩
 .by_cases f:b=a
  .subst f;rw [qb] at e;cases e;exact t
  .rw [qe f] at e;by_cases h:b=d
   .subst h;rw [qb] at e;cases e;exact x
   .rw [qe h] at e;refine (I.hok b q e).stay (fun c v hc r=>k c v ?_ r) (fun c r=>up c _ r (g c _ r fun z=>z)) fun c xs r=>up c _ r (g c _ r fun z=>z);rcases hc with rfl | hc
    .exact f
    .exact g c _ hc fun z=>z
end
inductive FldR (K:yg) (f:Str) (x:V) (H:Hp) (Q:VK):Prop|mk (a C dx:Addr) (fs:List (Str×V)) (v:V) (_:x=.ref a) (_:H a=some (.ins C dx fs)) (_:Cls K C) (_:NoAttr K C f) (_:fs.lookup f=some v) (_:Q v H)
inductive XFlR (K:yg) (f:Str) (x:V) (H:Hp) (Q:VK):Prop|mk (a C dx:Addr) (fs:List (Str×V)) (v:V) (_:x=.ref a) (_:IsX H a C (some dx)) (_:XAt K C) (_:NoAttr K C f) (_:H dx=some (.xd fs)) (_:fs.lookup f=some v) (_:Q v H)
inductive FlUR (K:yg) (f:Str) (x:V) (H:Hp) (Q:VK):Prop | inl (_:FldR K f x H Q) | inr (_:XFlR K f x H Q)
inductive SFdR (K:yg) (f:Str) (x y:V) (H:Hp) (k:Hp->Prop):Prop|mk (a C dx:Addr) (fs:List (Str×V)) (_:x=.ref a) (_:H a=some (.ins C dx fs)) (_:Cls K C) (_:NoAttr K C f) (_:fs.length<1000) (_:k (upd H a (.ins C dx (qB f y fs))))
inductive SXdR (K:yg) (f:Str) (x y:V) (H:Hp) (k:Hp->Prop):Prop|mk (a C:Addr) (_:x=.ref a) (_:H a=some (XN a C none)) (_:XAt K C) (_:NoAttr K C f) (_:∀ dx,H dx=none->k (upd (upd H dx (.xd [(f,y)])) a (XN a C (some dx))))
inductive SFUR (K:yg) (f:Str) (x y:V) (H:Hp) (k:Hp->Prop):Prop | inl (_:SFdR K f x y H k) | inr (_:SXdR K f x y H k)
def qew (K:yg) (b:TE) (f:Str):TE:=fun σ H Q=>b σ H fun x a=>FlUR K f x a Q
def qex (K:yg) (c d:TE) (f:Str):TS:=fun D σ H=>d σ H fun y a=>c σ a fun x b=>SFUR K f x y b (D.nx σ)
section
variable {X:Cx} {o e value:Expr} {f:Str} {pos pos':Pos} {ta tv:TE} {K:yg}
theorem qz (y:X.K=K) (B:PE X e ta) (z:attributeBase e f X.env (eval e X.env)=eval e X.env):PE X (.Attribute e f pos) (qew K ta f):=by
 subst y;intro pins s σ H Q I h;refine attr_of z (thn (B pins s σ H _ I h) fun u G ⟨x,m,b,p,i⟩=>?_);rcases i with ⟨a,C,dx,fs,v,rfl,g,c,n,l,q⟩ | ⟨a,C,dx,fs,v,rfl,g,c,n,A,l,q⟩
 .obtain rfl:u=Value.ref a:=p;exact getattr_ok b g c n l fun F J t d=>⟨v,m,t,d,q⟩
 .obtain rfl:u=Value.ref a:=p;obtain ⟨vs,i⟩:=g.get b.hok;obtain ⟨od,E,h1,w,r⟩:=qdL b A;obtain ⟨F,D,d⟩:=RelO.some_of (v:=v) (o:=E f) (by rw [<- l];exact r f);exact xget b.kIn (od:=some od) ⟨i,rfl,rfl,h1⟩ c (PySem.W.findObj_own c.hd n rfl (by rw [w,D])) (qbA d) ⟨v,m,b.tok _,d,q⟩
theorem jJ (L:X.K=K) (M:PE X o ta) (hv:PE X value tv) (O:swapsWith value (some (.Attribute o f pos')) pos.line X.env=pure false):PS X (.Assign [.Attribute o f pos'] value pos) (qex K ta tv f):=by
 subst L;intro pins s σ H D I h;refine plainObj_wpAny_Assign_Attribute (thn (hv pins s σ H _ I h) fun u P ⟨y,B,E,A,q⟩=>thn (M pins P σ B _ E q) fun v i ⟨x,r,b,z,e⟩=>?_) O;rcases e with ⟨a,C,dx,fs,rfl,d,c,n,l,p⟩ | ⟨a,C,rfl,d,c,n,p⟩
 .obtain rfl:v=Value.ref a:=z;exact setattr_ok b d c n l A fun S F=>⟨σ,_,F,p⟩
 .obtain rfl:v=Value.ref a:=z;obtain ⟨⟨R,e⟩,_⟩:=(show ObjOk X.prog X.w r i.heap a (XN a C none) from b.hok a _ d);refine xset b.kIn e c n fun h' t G J=>?_;have nd:r i.heap.objs.size=none:=b.hok.fresh (yh _);have ne:i.heap.objs.size≠a:=Xm (yM e);refine ⟨σ,_,b.both (o:=XN a C (some i.heap.objs.size)) (u:=.xd [(f,y)]) (by rw [d];exact YS) (yh _) J ⟨_,t⟩ (XN.ok t) ⟨_,G,fun g=>?_⟩ ne,p _ nd⟩;by_cases m:g=f
  .subst m;simp only [List.lookup,xG,Xx];exact A
  .have N:(g==f)=false:=YF.mpr m;simp only [List.lookup,N,yD m];exact YS
end
def tXMake (C:Addr) (sp:Sp) (E:XK) (t:TA):TE:=fun σ H Q=>t σ H fun vs a=>vs.length<=1000/\∀ x,a x=none->sp (.ref x::vs) (upd a x (XN x C none)) (fun v b=>v=.non/\Q (.ref x) b) E
structure XMk (K:yg) (C f:Addr):Prop where
 at_:XAt K C
 init:PySem.W.findIn K (.ref C) "__init__"=some (some (.ref f))
 fn:PySem.W.isFn K (.ref f)=true
 kp:PySem.W.keepIn K (.ref C)=true
section
variable {X:Cx} {CX:CXT} {k:Nat} {f C:Addr} {fd:FuncData} {ps:List Str} {sp:Sp} {E:XK} {x m:Str} {p pos apos:Pos} {e o:Expr} {es:List Expr} {ta:TE} {t:TA}
structure CMeth (K:yg) (C:Addr) (m:Str) (f:Addr):Prop where
 rd:PySem.W.readsIn K C (.type "type")=true
 at_:PySem.W.findCls K (.ref C) (.type "type") m=some (.val (.ref f))
 ga:PySem.W.specialIn K (.ref C) "__getattribute__"=some (some (.builtin "type.__getattribute__"))
 kp:PySem.W.keepIn K (.ref f)=true
end
def tVinit (K:yg) (t:TA):TE:=fun σ H Q=>t σ H fun vs b=>∃ a C y,vs=[.ref a,y]/\b a=some (XN a C none)/\XAt K C/\Q .non b
structure VInit (K:yg):Prop where
 ga:PySem.W.findIn K (.type "type") "__getattribute__"=some (some (.builtin "type.__getattribute__"))
 su:PySem.W.subIn K (.type "type") (.type "type")=some true
 at_:PySem.W.findCls K (.type "ValueError") (.type "type") "__init__"=some (.val (.builtin "ValueError.__init__"))
section
variable {X:Cx} {p pos apos:Pos} {e:Expr} {es:List Expr} {t:TA} {K:yg}
end
structure Keep (fs zs:List Addr) (h h':Heap):Prop where
 keep:∀ b o,h.get? b=some o->b∉zs->b∉fs->h'.get? b=some o
 slot:∀ b o,h.get? b=some o->b∉zs->b∈fs->∃ sl,h'.get? b=some { o with slots:=sl }
structure Trc (h:Heap) (e:Addr) (C:Value) (dx:Option Addr) (T:Addr) (fl:Value):Prop where
 ex:∃ vs,h.get? e=some ⟨C,dx,.fields vs,#[]⟩/\vs[1]?=some (.ref T)/\vs[2]?=some .none
 tb:∃ ts,h.get? T=some ⟨.type "traceback",none,.fields ts,#[]⟩/\ts[3]?=some fl
 ne:T≠e
section
variable {M:Model} {A:Around} {E:Value->Shared->Prop} {s:Shared} {base:Heap} {env:Env} {outer:List Env} {L e:Addr} {C:Value} {dx:Option Addr} {vs:Array Value}
end
def CX1 (P:Program) (w:World):CXT:=fun b H s E e d=>∃ (a C:Addr) (dx:Option Addr) (T:Addr) (c:Hp),e=.ref a/\d.os=s.os/\AllBare d.gens/\Un (frs b) [] H c s.heap d.heap/\HOk P w c d.heap /\
 c a=some (XO a C dx)/\Trc d.heap a (.ref C) dx T .none/\s.heap.objs.size<=T/\c T=none/\E (.ref C) dx c
section
variable {X:Cx} {pins:List (Addr×Obj)} {σ:St} {H:Hp} {s:Shared}
end
structure XOk (X:Cx) (EK:St->XK):Prop where
 pass:∀ (pins:List (Addr×Obj)) (σ:St) (H:Hp) (s:Shared) (e:Value) (s':Shared),Inv X pins σ H s->CX1 X.prog X.w X.stack H s (EK σ) e s'->X.xe e s'
 rais:∀ (pins:List (Addr×Obj)) (σ:St) (H:Hp) (s:Shared) (a C:Addr) (dx:Option Addr),Inv X pins σ H s->H a=some (XN a C dx)->EK σ (.ref C) dx (upd H a (XO a C dx))->X.xe (.ref a) s
 calm:X.calm=true
section
variable {P:Program} {w:World} {K:yg} {mg:Str->Option Value} {base:Heap} {N:List Str} {qual:Str} {scope:Scope} {f:Addr} {cd:Value} {A:Around} {outer:List Env} {s0:Shared} {H0:Hp} {E:XK}
end
def tRaise (K:yg) (c:St->XK) (te:TE):TS:=fun _ σ H=>te σ H fun x b=>∃ a C dx,x=.ref a/\b a=some (XN a C dx)/\XAt K C/\c σ (.ref C) dx (upd b a (XO a C dx))
section
variable {X:Cx} {EK:St->XK} {e:Expr} {te:TE} {pos:Pos} {K:yg}
end
def tCallS (sp:Sp) (a:St->XK) (t:TA):TE:=fun σ H Q=>t σ H fun vs b=>sp vs b Q (a σ)
def tMethS (C:Addr) (m:Str) (sp:Sp) (b:St->XK) (d:TE) (t:TA):TE:=fun σ H Q=>d σ H fun x a=>MeR C m x a (t σ a fun vs c=>sp (x::vs) c Q (b σ))
def tMakeS (C:Addr) (sp:Sp) (b:St->XK) (t:TA):TE:=fun σ H Q=>t σ H fun vs a=>∀ x dx,a x=none->a dx=none->dx≠x ->
 sp (.ref x::vs) (upd (upd a dx (.own x)) x (.ins C dx [])) (fun v c=>v=.non/\Q (.ref x) c) (b σ)
structure MethOk (P:Program) (w:World) (K:yg) (mg:Str->Option Value) (base:Heap) (CX:CXT) (k:Nat) (C:Addr) (m:Str) (ps:List Str) (sp:Sp):Prop where
 ex:∃ f fd,FnOk P w K mg base CX k f fd ps sp/\Meth K C m f/\Binds K fd ps []
 cl:Cls K C
structure MakeOk (P:Program) (w:World) (K:yg) (mg:Str->Option Value) (base:Heap) (CX:CXT) (k:Nat) (C:Addr) (x:Str) (ps:List Str) (sp:Sp):Prop where
 ex:∃ f fd,FnOk P w K mg base CX k f fd ps sp/\Mk K C f/\Binds K fd ps []
 mg_:mg x=some (.ref C)
structure XMakeOk (P:Program) (w:World) (K:yg) (mg:Str->Option Value) (base:Heap) (k:Nat) (C:Addr) (x:Str) (ps:List Str) (sp:Sp):Prop where
 ex:∃ f fd,FnOk P w K mg base CX0 k f fd ps sp/\XMk K C f/\Binds K fd ps []
 mg_:mg x=some (.ref C)
section
variable {X:Cx} {EK:St->XK} {k:Nat} {f C:Addr} {fd:FuncData} {ps:List Str} {sp:Sp} {x m:Str} {p pos apos:Pos} {e o:Expr} {es:List Expr} {ta:TE} {t:TA}
theorem qI {pl:Sem Bool} (D:MethOk X.prog X.w X.K X.mg X.base CX0 k C m ps sp) (i:Room k X.A) (g:PE X o ta) (c:PA X (e::es) t)
  (b:starEach (e::es) X.env=(false,eval e X.env)::starEach es X.env:=by rfl) (a:(backTo pos (starEach es X.env)).any (·.1)=false:=by rfl)
  (l:eval (.Call (.Attribute o m apos) (e::es) [] pos) X.env=(do
   let ov <- eval o X.env
   standAt apos.atName
   let (f,first) <- holding [ov] (getMethod ov m pl)
   callWith pos f first (backTo pos (starEach (e::es) X.env)) (backToKw pos (keywordEach [] X.env))):=by rfl) :
  PE X (.Call (.Attribute o m apos) (e::es) [] pos) (qc1 C m sp [] E0 ta t):=by
 obtain ⟨f,fd,F,h,d⟩:=D.ex;exact pe_meth (pl:=pl) g D.cl h F i d .nil qE c b a l
theorem qZ {pl:Sem Bool} (D:MethOk X.prog X.w X.K X.mg X.base CX0 k C m ps sp) (d:Room k X.A) (b:PE X o ta)
  (e:eval (.Call (.Attribute o m apos) [] [] pos) X.env=(do
   let ov <- eval o X.env
   standAt apos.atName
   let (f,first) <- holding [ov] (getMethod ov m pl)
   callWith pos f first (backTo pos (starEach [] X.env)) (backToKw pos (keywordEach [] X.env))):=by rfl) :
  PE X (.Call (.Attribute o m apos) [] [] pos) (qc1 C m sp [] E0 ta qeE):=by
 obtain ⟨f,fd,F,c,a⟩:=D.ex;exact pe_meth0 (pl:=pl) b D.cl c F d a .nil qE e
end
section
variable {P:Program} {w:World} {K:yg} {mg:Str->Option Value} {base:Heap}
end
noncomputable abbrev Cx.tried (X:Cx) (pn:List (Addr×Obj)) (E:Value->Shared->Prop):Cx:={ X with pn:=pn,xe:=E }
noncomputable abbrev Cx.hand (X:Cx) (a:Addr):Cx:={ X with A:=X.A.mark (some (.ref a)),calm:=false,xe:=fun _ _=>False }
section
variable {X:Cx} {pins pins':List (Addr×Obj)} {σ:St} {H:Hp} {s:Shared} {E:Value->Shared->Prop} {a:Addr}
structure Loose (X:Cx) (pins:List (Addr×Obj)) (H:Hp) (T:Addr):Prop where
 hn:H T=none
 lo:X.s₀.heap.objs.size<=T
 nl:T≠X.env.locals
 nf:T∉X.fs
 nc:∀ x c,X.env.cells.lookup x=some c->c≠T
 np:∀ p∈X.pn++pins,p.1≠T
end
structure Held (X:Cx) (pins:List (Addr×Obj)) (H:Hp) (h:Heap) (a C:Addr) (dx:Option Addr):Prop where
 at_:H a=some (XO a C dx)
 tr:∃ T,Trc h a (.ref C) dx T .none/\Loose X pins H T
section
variable {X:Cx} {a C D:Addr} {dx:Option Addr} {c n:Str} {cp pos:Pos} {b0:Stmt} {body:List Stmt} {qbt:List ExceptHandler} {tb tr:TS} {i:Nat} {K:yg}
end
section
variable {X:Cx} {body orelse:List Stmt} {h0:ExceptHandler} {hs:List ExceptHandler} {pos:Pos} {te:TS}
end
def TyX (K:yg) (H:Hp) (x:V) (t:Value):Prop:=TyOf K H x t\/∃ a C dx,x=.ref a/\t=.ref C/\IsX H a C dx/\XAt K C/\∀ d,dx=some d->∃ fs,H d=some (.xd fs)
theorem TyX.kit {x:V} (I:Inv X pins σ H s) (e:RelV x u) (ty:TyX X.K H x t):∃ P:Heap->Prop,PySem.W.KitX X.K u t P/\P s.heap/\u≠.builtin "__main__.__loader__#opaque":=by
 rcases ty with ty | ⟨a,C,dx,rfl,rfl,hx,c,hd⟩
 .exact ty.kit I e
 .cases e;obtain ⟨vs,b⟩:=hx.get I.hok
  cases dx with
  | none=>exact ⟨_,qcy (od:=none) c,⟨b,rfl,rfl,YS⟩,fun z=>nomatch z⟩
  | some d =>
   obtain ⟨fs,f⟩:=hd d rfl;obtain ⟨od,g,h1,_⟩:=qdL I f;exact ⟨_,qcy (od:=some od) c,⟨b,rfl,rfl,h1⟩,fun z=>nomatch z⟩
def qey (K:yg):List V->Hp->VK->Prop:=fun xs H Q=>∃ x y t c b,xs=[x,y]/\TyX K H x t/\qbM y=some c/\PySem.W.kitOne K t c=some b/\Q (.bl b) H
def qdM (K:yg):List V->Hp->VK->Prop:=fun xs H Q=>∃ x p ys t a b,xs=[x,.ref p]/\TyX K H x t/\H p=some (.tup ys)/\ys.map qbM=a.map some/\PySem.W.kitAny K t a=some b/\Q (.bl b) H
section
variable {X:Cx} {K:yg}
theorem qa9 (a:X.K=K):zd X (.builtin "isinstance") (qey K):=by
 subst a;intro pins s σ H xs us Q I r h;obtain ⟨x,y,t,c,b,rfl,ty,f,d,q⟩:=h;obtain ⟨u,v,rfl,g,i⟩:=qc0 r;have e:=qa7 f i;subst e;obtain ⟨P,Z,p,ne⟩:=ty.kit I g;exact PySem.W.kia_one Z I.kIn p d ne fun tk=>⟨.bl b,H,I.tok tk,rfl,q⟩
theorem qdf (i:X.K=K):zd X (.builtin "isinstance") (qdM K):=by
 subst i;intro pins s σ H xs us Q I r h;obtain ⟨x,p,ys,t,D,b,rfl,ty,z,A,l,q⟩:=h;obtain ⟨u,v,rfl,C,f⟩:=qc0 r;cases f;obtain ⟨P,Z,B,ne⟩:=ty.kit I C;obtain ⟨_,its,f,o,y,hc,n,m⟩:=(show ObjOk X.prog X.w H s.heap p (.tup ys) from I.hok p _ z);have e:=qaS A f;subst e;obtain ⟨c,E,g,F⟩:=o;have a:c=.type "tuple":=hc;have d:g=.seq its.toArray n:=m;subst a d;exact PySem.W.kia_tup Z I.kIn B y l ne fun tk=>⟨.bl b,H,I.tok tk,rfl,q⟩
end
mutual
inductive EqD (K:yg) (H:Hp):Nat->V->V->Bool->Prop
 | flat {n:Nat} {x y:V} (fx:zQ x=true) (fy:zQ y=true):EqD K H n x y (eqV x y)
 | self {n:Nat} {a:Addr}:EqD K H n (.ref a) (.ref a) true
 | deep {n:Nat} {a b:Addr} {k:Bool} (h:EqT K H n a b k) (ne:a≠b):EqD K H n (.ref a) (.ref b) k
inductive EqT (K:yg) (H:Hp):Nat->Addr->Addr->Bool->Prop
 | lst {n:Nat} {a b:Addr} {xs ys:List V} {e:Nat->Bool} (ha:SqL K H a xs) (hb:SqL K H b ys) (hl:xs.length=ys.length) (he:∀ j x y,xs[j]?=some x->ys[j]?=some y->EqD K H n x y (e j)):EqT K H (n+1) a b ((List.range xs.length).all e)
 | lstL {n:Nat} {a b:Addr} {xs ys:List V} (ha:SqL K H a xs) (hb:SqL K H b ys) (hl:xs.length≠ys.length):EqT K H (n+1) a b false
 | tup {n:Nat} {a b:Addr} {xs ys:List V} {e:Nat->Bool} (ha:SqT K H a xs) (hb:SqT K H b ys) (he:∀ j x y,xs[j]?=some x->ys[j]?=some y->EqD K H n x y (e j)):EqT K H (n+1) a b ((List.range (min xs.length ys.length)).all e&&xs.length==ys.length)
 | lt {n:Nat} {a b:Addr} {xs ys:List V} (ha:SqL K H a xs) (hb:SqT K H b ys):EqT K H (n+1) a b false
 | tl {n:Nat} {a b:Addr} {xs ys:List V} (ha:SqT K H a xs) (hb:SqL K H b ys):EqT K H (n+1) a b false
end
theorem jj:∀ {xs:List V} {us:List Value} {j:Nat} {u:Value},Vals xs us->us[j]?=some u->∃ x,xs[j]?=some x/\RelV x u
 | _,_,_,_,.nil,e=>by simp at e
 | _,_,0,_,.cons r _,e=>by simp at e;subst e;exact ⟨_,rfl,r⟩
 | _,_,j+1,u,.cons _ t,e=>by
  obtain ⟨x,h1,a⟩:=jj (j:=j) (u:=u) t (by simpa using e);exact ⟨x,by simpa using h1,a⟩
section
variable {X:Cx} {pins:List (Addr×Obj)} {σ:St} {H:Hp} {s:Shared}
theorem qb9 (I:Inv X pins σ H s):∀ n,(∀ (A:Around) (x y:V) (k:Bool) (u v:Value),EqD X.K H n x y k->RelV x u->RelV y v->A.units+n<cLine->SeqAt.EqAt A s u v k)/\(∀ (A:Around) (a b:Addr) (k:Bool),EqT X.K H n a b k->A.units+n<cLine->SeqAt.RcAt A s (.ref a) (.ref b) k):=by
 intro n
 induction n with
 | zero =>
  have F:∀ (A:Around) (a b:Addr) (k:Bool),EqT X.K H 0 a b k->A.units+0<cLine->SeqAt.RcAt A s (.ref a) (.ref b) k:=fun A a b k h=>by cases h
  refine ⟨fun A x y k u v h g i z=>?_,F⟩
  cases h with
  | flat fx fy=>exact qc5 g i fx fy
  | self=>cases g;cases i;exact XE _
  | deep h ne=>cases h
 | succ n ih =>
  have D:∀ (A:Around) (a b:Addr) (k:Bool),EqT X.K H (n+1) a b k->A.units+(n+1)<cLine->SeqAt.RcAt A s (.ref a) (.ref b) k:=fun A a b k h z=>by
   have f:A.units<cLine:=by omega
   have o:A.in1.units+n<cLine:=by show A.units+1+n<cLine;omega
   cases h with
   | @lst _ _ _ xs ys e ha hb hl he =>
    obtain ⟨its,r,pl,hz⟩:=I.list ha;obtain ⟨c,m,d,l⟩:=I.list hb;have p:xs.length=its.toArray.size:=by rw [yw];exact r.length
    have q:ys.length=c.toArray.size:=by rw [yw];exact m.length
    rw [p];refine SeqAt.RcAt.lists pl.isList d.isList (by rw [<- p,<- q,hl]) f fun j h1 E=>?_;have t:its[j]?=some its.toArray[j]:=by simp
    have w:c[j]?=some c.toArray[j]:=by simp
    obtain ⟨x,B,g⟩:=jj r t;obtain ⟨y,C,i⟩:=jj m w;exact ih.1 A.in1 x y (e j) _ _ (he j x y B C) g i o
   | @lstL _ _ _ xs ys ha hb hl =>
    obtain ⟨its,r,pl,hz⟩:=I.list ha;obtain ⟨c,m,d,l⟩:=I.list hb;refine SeqAt.RcAt.lists_lengths pl.isList d.isList ?_ f;rw [yw,yw,<- r.length,<- m.length];simp [hl]
   | @tup _ _ _ xs ys e ha hb he =>
    obtain ⟨its,r,pl,hz⟩:=I.tuple ha;obtain ⟨c,m,d,l⟩:=I.tuple hb;have p:xs.length=its.toArray.size:=by rw [yw];exact r.length
    have q:ys.length=c.toArray.size:=by rw [yw];exact m.length
    rw [p,q];refine SeqAt.RcAt.tuples pl d f fun j h1 E=>?_;have t:its[j]?=some its.toArray[j]:=by simp
    have w:c[j]?=some c.toArray[j]:=by simp
    obtain ⟨x,B,g⟩:=jj r t;obtain ⟨y,C,i⟩:=jj m w;exact ih.1 A.in1 x y (e j) _ _ (he j x y B C) g i o
   | lt ha hb =>
    obtain ⟨its,r,pl,hz⟩:=I.list ha;obtain ⟨c,m,d,l⟩:=I.tuple hb;exact SeqAt.RcAt.list_tuple pl.isList d f
   | tl ha hb =>
    obtain ⟨its,r,pl,hz⟩:=I.tuple ha;obtain ⟨c,m,d,l⟩:=I.list hb;exact SeqAt.RcAt.tuple_list pl d.isList f
  refine ⟨fun A x y k u v h g i z=>?_,D⟩
  cases h with
  | flat fx fy=>exact qc5 g i fx fy
  | self=>cases g;cases i;exact XE _
  | deep h ne=>cases g;cases i;exact SeqAt.EqAt.of_refs ne (D A _ _ k h z)
theorem ne_refs (I:Inv X pins σ H s) {n:Nat} {A:Around} {a b:Addr} {k:Bool} (h:EqT X.K H n a b k) (z:A.units+n<cLine):SeqAt.RcNeAt A s (.ref a) (.ref b) (!k):=by
 cases n with
 | zero=>cases h
 | succ n =>
  have v:=qb9 I n;have f:A.units<cLine:=by omega
  have l:A.in1.units+n<cLine:=by show A.units+1+n<cLine;omega
  cases h with
  | @lst _ _ _ xs ys e ha hb hl he =>
   obtain ⟨its,r,pl,hz⟩:=I.list ha;obtain ⟨c,i,d,g⟩:=I.list hb;have m:xs.length=its.toArray.size:=by rw [yw];exact r.length
   have o:ys.length=c.toArray.size:=by rw [yw];exact i.length
   rw [m];refine SeqAt.RcNeAt.lists pl.isList d.isList (by rw [<- m,<- o,hl]) f fun j h1 w=>?_;obtain ⟨x,p,t⟩:=jj r (show its[j]?=some its.toArray[j] by simp);obtain ⟨y,q,u⟩:=jj i (show c[j]?=some c.toArray[j] by simp);exact v.1 A.in1 x y (e j) _ _ (he j x y p q) t u l
  | @lstL _ _ _ xs ys ha hb hl =>
   obtain ⟨its,r,pl,hz⟩:=I.list ha;obtain ⟨c,i,d,g⟩:=I.list hb;refine SeqAt.RcNeAt.lists_lengths pl.isList d.isList ?_ f;rw [yw,yw,<- r.length,<- i.length];simp [hl]
  | @tup _ _ _ xs ys e ha hb he =>
   obtain ⟨its,r,pl,hz⟩:=I.tuple ha;obtain ⟨c,i,d,g⟩:=I.tuple hb;have m:xs.length=its.toArray.size:=by rw [yw];exact r.length
   have o:ys.length=c.toArray.size:=by rw [yw];exact i.length
   rw [m,o];refine SeqAt.RcNeAt.tuples pl d f fun j h1 w=>?_;obtain ⟨x,p,t⟩:=jj r (show its[j]?=some its.toArray[j] by simp);obtain ⟨y,q,u⟩:=jj i (show c[j]?=some c.toArray[j] by simp);exact v.1 A.in1 x y (e j) _ _ (he j x y p q) t u l
  | lt ha hb =>
   obtain ⟨its,r,pl,hz⟩:=I.list ha;obtain ⟨c,i,d,g⟩:=I.tuple hb;exact SeqAt.RcNeAt.list_tuple pl.isList d f
  | tl ha hb =>
   obtain ⟨its,r,pl,hz⟩:=I.tuple ha;obtain ⟨c,i,d,g⟩:=I.list hb;exact SeqAt.RcNeAt.tuple_list pl d.isList f
theorem qdN {A:Around} {x y:V} {u v:Value} (e:RelV x u) (c:RelV y v) (f:zQ x=true) (d:zQ y=true):SeqAt.RcAt A s u v (eqV x y)/\SeqAt.RcNeAt A s u v (!eqV x y):=by
 cases x with
 | non =>
  cases e
  cases y with
  | non=>cases c;exact ⟨SeqAt.RcAt.none_none,SeqAt.RcNeAt.none_none⟩
  | bl b=>cases c;exact ⟨SeqAt.RcAt.none_bool b,SeqAt.RcNeAt.none_bool b⟩
  | int b=>obtain ⟨t,rfl⟩:=c;exact ⟨SeqAt.RcAt.none_int b t,SeqAt.RcNeAt.none_int b t⟩
  | str b=>obtain ⟨t,rfl⟩:=c;exact ⟨SeqAt.RcAt.none_str b t,SeqAt.RcNeAt.none_str b t⟩
  | _=>cases d
 | bl a =>
  cases e
  cases y with
  | non=>cases c;exact ⟨SeqAt.RcAt.bool_none a,SeqAt.RcNeAt.bool_none a⟩
  | bl b=>cases c;exact ⟨SeqAt.RcAt.bool_bool a b,SeqAt.RcNeAt.bool_bool a b⟩
  | int b=>obtain ⟨t,rfl⟩:=c;exact ⟨SeqAt.RcAt.bool_int a b t,SeqAt.RcNeAt.bool_int a b t⟩
  | str b=>obtain ⟨t,rfl⟩:=c;exact ⟨SeqAt.RcAt.bool_str a b t,SeqAt.RcNeAt.bool_str a b t⟩
  | _=>cases d
 | int a =>
  obtain ⟨t',rfl⟩:=e
  cases y with
  | non=>cases c;exact ⟨SeqAt.RcAt.int_none a t',SeqAt.RcNeAt.int_none a t'⟩
  | bl b=>cases c;exact ⟨SeqAt.RcAt.int_bool a t' b,SeqAt.RcNeAt.int_bool a t' b⟩
  | int b=>obtain ⟨t,rfl⟩:=c;exact ⟨SeqAt.RcAt.int_int a t' b t,SeqAt.RcNeAt.int_int a t' b t⟩
  | str b=>obtain ⟨t,rfl⟩:=c;exact ⟨SeqAt.RcAt.int_str a t' b t,SeqAt.RcNeAt.int_str a t' b t⟩
  | _=>cases d
 | str a =>
  obtain ⟨t',rfl⟩:=e
  cases y with
  | non=>cases c;exact ⟨SeqAt.RcAt.str_none a t',SeqAt.RcNeAt.str_none a t'⟩
  | bl b=>cases c;exact ⟨SeqAt.RcAt.str_bool a t' b,SeqAt.RcNeAt.str_bool a t' b⟩
  | int b=>obtain ⟨t,rfl⟩:=c;exact ⟨SeqAt.RcAt.str_int a t' b t,SeqAt.RcNeAt.str_int a t' b t⟩
  | str b=>obtain ⟨t,rfl⟩:=c;exact ⟨SeqAt.RcAt.str_str a t' b t,SeqAt.RcNeAt.str_str a t' b t⟩
  | _=>cases d
 | _=>cases f
end
def qea (K:yg) (c:Bool):R2:=fun x y H Q=>(zQ x=true/\zQ y=true/\Q (.bl (if c then !eqV x y else eqV x y)) H) \/
 (∃ a b k n,x=.ref a/\y=.ref b/\n<=60/\EqT K H n a b k/\Q (.bl (if c then !k else k)) H) \/
 (∃ a kvs,x=.ref a/\y=.ref a/\H a=some (.dK kvs)/\Q (.bl (!c)) H)
theorem qaT {b:Type} [DecidableEq b]:∀ {a:List (b×Value)} {k:b} {v:Value},(a.map (·.1)).Nodup->(k,v)∈a->valueAt a k=some v
 | [],_,_,_,h=>by cases h
 | (k',v')::r,k,v,hn,h=>by
  obtain ⟨h1,c⟩:=yo.mp (show (k'::r.map (·.1)).Nodup from hn);unfold valueAt;rw [xt];by_cases e:k'=k
  .subst e;simp only [decide_true];rcases yy.mp h with z | z
   .cases z;rfl
   .exact absurd (Y1.mpr ⟨(k',v),z,rfl⟩) h1
  .simp only [e,kB];rcases yy.mp h with z | z
   .cases z;exact absurd rfl e
   .exact qaT c z
theorem qca {A:Around} {s:Shared} {c:Type} [DecidableEq c] (a:List (c×Value)) (d:(a.map (·.1)).Nodup):∀ f:List (c×Value),(∀ p∈f,p∈a)->PySem.W.KeqHits A s a f true
 | [],_=>.nil
 | (k,v)::r,h=>by
  have hv:valueAt a k=some v:=qaT d (h (k,v) yO);exact .hit (e:=true) (b:=true) hv (XE v) (qca a d r fun p g=>h p (yC _ g))
section
variable {X:Cx} {K:yg}
theorem k_eqU (o:X.K=K) (t:X.A.units+100<cLine):OpR X (compareOp .Eq) (qea K false):=by
 subst o;intro pins s σ H x y u v Q I c f h;rcases h with ⟨l,m,q⟩ | ⟨a,b,k,n,rfl,rfl,p,e,q⟩ | ⟨a,kvs,rfl,rfl,i,q⟩
 .exact (qdN c f l m).1 _ _ _ _ ⟨.bl _,H,I,rfl,q⟩
 .cases c;cases f;exact (qb9 I n).2 X.A a b k e (by omega) _ _ _ _ ⟨.bl _,H,I,rfl,q⟩
 .cases c;cases f;obtain ⟨_,g,vs,r,d⟩:=(show ObjOk X.prog X.w H s.heap a (.dK kvs) from I.hok a _ i);obtain ⟨_,_,_,_,_,_,_,_,nd⟩:=id d;refine PySem.W.keq_eq g g d d (by omega) (fun _=>qca vs nd vs fun _ h=>h) ?_;rw [xG];exact ⟨.bl true,H,I,rfl,q⟩
theorem qaq (o:X.K=K) (t:X.A.units+100<cLine):OpR X (compareOp .NotEq) (qea K true):=by
 subst o;intro pins s σ H x y u v Q I c f h;rcases h with ⟨l,m,q⟩ | ⟨a,b,k,n,rfl,rfl,p,e,q⟩ | ⟨a,kvs,rfl,rfl,i,q⟩
 .exact (qdN c f l m).2 _ _ _ _ ⟨.bl _,H,I,rfl,q⟩
 .cases c;cases f;exact ne_refs I e (by omega) _ _ _ _ ⟨.bl _,H,I,rfl,q⟩
 .cases c;cases f;obtain ⟨_,g,vs,r,d⟩:=(show ObjOk X.prog X.w H s.heap a (.dK kvs) from I.hok a _ i);obtain ⟨_,_,_,_,_,_,_,_,nd⟩:=id d;refine PySem.W.keq_ne g g d d (by omega) (fun _=>qca vs nd vs fun _ h=>h) ?_;rw [xG];exact ⟨.bl false,H,I,rfl,q⟩
end
section
variable {X:Cx} {K:yg}
def qez (K:yg):R2:=fun x y H Q=>rIx K x y H Q\/∃ a v,x=.ref a/\DGet H a y (some v)/\Q v H
theorem qw (f:X.K=K) (n:X.A.units+100<cLine):IxR X (qez K):=by
 subst f;refine IxR.or ix_seq ?_;intro d c pins s σ H x y v u Q I l m h i;obtain ⟨a,z,rfl,g,q⟩:=h;cases l;exact tail_any (dict_typeIs I g) PySem.F.slot_dict_getitem.lookup (d_getItem (by omega) I g m fun p o e b=>⟨z,H,e,b,q⟩) i
def rSetU:qen:=fun o i v H Q=>rSetL o i v H Q\/∃ a b,o=.ref a/\DPut H a i v b/\Q b
theorem j8 (m:X.A.units+100<cLine):qeL X rSetU:=by
 intro pins s σ H o i v l f u Q I c b d h;rcases h with h | ⟨a,H',rfl,g,q⟩
 .exact set_list pins s σ H o i v l f u Q I c b d h
 .cases c;exact d_setItem (by omega) I g b d fun n e=>⟨H',e,q⟩
def qdO (K:yg) (b:Bool):R2:=fun x y H Q=>rIn K b x y H Q\/(∃ a o,y=.ref a/\DGet H a x o/\Q (.bl (if b then !o.isSome else o.isSome)) H) \/
 (∃ p xs e n,y=.ref p/\SqL K H p xs/\n<=60/\(∀ z∈xs,EqD K H n z x (e z))/\Q (.bl (if b then !xs.any e else xs.any e)) H)
theorem qdP {pins:List (Addr×Obj)} {σ:St} {H:Hp} {s:Shared} {xs:List V} {its:List Value} {x:V} {u:Value} {e:V->Bool} {n:Nat} {A:Around} (I:Inv X pins σ H s) (r:Vals xs its) (p:RelV x u) (o:A.units+n<cLine) (m:∀ z∈xs,EqD X.K H n z x (e z)) :
  ∃ g:Value->Bool,(∀ w,w∈its.toArray->SeqAt.EqAt A s w u (g w))/\its.toArray.any g=xs.any e:=by
 classical
 refine ⟨fun w=>decide (∃ z∈xs,RelV z w/\e z=true),fun w hw=>?_,?_⟩
 .have d:w∈its:=by simpa using hw
  obtain ⟨j,c⟩:=xR.mp d;obtain ⟨z,hz,a⟩:=jj r c;have i:=ye hz
  have eq:decide (∃ z∈xs,RelV z w/\e z=true)=e z:=by
   cases q:e z with
   | true=>exact yQ ⟨z,i,a,q⟩
   | false =>
    refine yl fun ⟨t,_,f,l⟩=>?_;rw [RelV.inj f a,q] at l;cases l
  show SeqAt.EqAt A s w u (decide (∃ z∈xs,RelV z w/\e z=true));rw [eq];exact (qb9 I n).1 A z x (e z) w u (m z i) a p o
 .rw [Y5,xH];constructor
  .intro h;have h':its.any (fun w=>decide (∃ z∈xs,RelV z w/\e z=true))=true:=by simpa using h
   obtain ⟨w,_,q⟩:=xH.mp h';obtain ⟨z,hz,_,b⟩:=yk q;exact ⟨z,hz,b⟩
  .rintro ⟨z,hz,b⟩;obtain ⟨j,c⟩:=xR.mp hz;obtain ⟨w,hw,a⟩:=r.get c;have:its.any (fun w=>decide (∃ z∈xs,RelV z w/\e z=true))=true:=xH.mpr ⟨w,ye hw,yQ ⟨z,hz,a,b⟩⟩;simpa using this
theorem qar (l:X.K=K) (m:X.A.units+100<cLine):OpR X (compareOp .In) (qdO K false):=by
 subst l;intro pins s σ H x y u v Q I b c h;rcases h with h | ⟨a,o,rfl,g,q⟩ | ⟨p,xs,e,n,rfl,hl,hn,he,q⟩
 .exact op_in_seq pins s σ H x y u v Q I b c h
 .cases c;exact d_in (by omega) I g b fun t d=>⟨.bl _,H,d,rfl,q⟩
 .cases c;obtain ⟨its,r,pl,hz⟩:=I.list hl;obtain ⟨f,h1,i⟩:=qdP (A:=X.A.in1) I r b (by show X.A.units+1+n<cLine;omega) he;exact SeqAt.in_listAt f pl.isList h1 (by rw [i];exact ⟨.bl _,H,I,rfl,q⟩)
theorem jt (l:X.K=K) (m:X.A.units+100<cLine):OpR X (compareOp .NotIn) (qdO K true):=by
 subst l;intro pins s σ H x y u v Q I b c h;rcases h with h | ⟨a,o,rfl,g,q⟩ | ⟨p,xs,e,n,rfl,hl,hn,he,q⟩
 .exact op_notIn_seq pins s σ H x y u v Q I b c h
 .cases c;exact d_notIn (by omega) I g b fun t d=>⟨.bl _,H,d,rfl,q⟩
 .cases c;obtain ⟨its,r,pl,hz⟩:=I.list hl;obtain ⟨f,h1,i⟩:=qdP (A:=X.A.in1) I r b (by show X.A.units+1+n<cLine;omega) he;exact SeqAt.notIn_listAt f pl.isList h1 (by rw [i];exact ⟨.bl _,H,I,rfl,q⟩)
def rListU (K:yg):List V->Hp->VK->Prop:=fun xs H Q=>(∃ p ys,xs=[.ref p]/\(SqL K H p ys\/SqT K H p ys)/\∀ l,H l=none->Q (.ref l) (upd H l (.lst ys))) \/
 (∃ p kvs,xs=[.ref p]/\H p=some (.dK kvs)/\∀ l,H l=none->Q (.ref l) (upd H l (.lst (kvs.map fun a=>kV a.1)))) \/
 (∃ x,xs=[.str x]/\x.length<=1000/\∀ l,H l=none->Q (.ref l) (upd H l (.lst (x.cps.toList.map fun c=>.str ⟨#[c]⟩))))
theorem qba {α c:Type} {F:α->c->Prop}:∀ {l:List α} {m:List c} {j:Nat} {a:α},Paired F l m->l[j]?=some a->∃ b,m[j]?=some b/\F a b
 | _,_,_,_,.nil,e=>by simp at e
 | _,_,0,_,.cons r _,e=>by simp at e;subst e;exact ⟨_,rfl,r⟩
 | _,_,j+1,a,.cons _ t,e=>by
  obtain ⟨b,h1,d⟩:=qba (j:=j) (a:=a) t (by simpa using e);exact ⟨b,by simpa using h1,d⟩
theorem qas:∀ {ys:List V} {us:List Value},ys.length=us.length->(∀ (j:Nat) y u,ys[j]?=some y->us[j]?=some u->RelV y u)->Vals ys us
 | [],[],_,_=>.nil
 | [],_::_,h,_=>by cases h
 | _::_,[],h,_=>by cases h
 | y::ys,u::us,h,q=>.cons (q 0 y u rfl rfl) (qas (Nat.succ.inj h) fun j c b h1 a=>q (j+1) c b (by simpa using h1) (by simpa using a))
theorem qat (J:X.K=K) (hc:X.calm=true):zd X (.type "list") (rListU K):=by
 subst J;intro pins s σ H xs us Q I r h;rcases h with h | ⟨p,kvs,rfl,ea,q⟩ | ⟨x,rfl,hx,q⟩
 .exact call_list_of pins s σ H xs us Q I r h
 .obtain ⟨u,rfl,M⟩:=qaz r;cases M;obtain ⟨hz,L,vs,D,d⟩:=(show ObjOk X.prog X.w H s.heap p (.dK kvs) from I.hok p _ ea);obtain ⟨ep,n⟩:=d.dictAt;have hl:kvs.length=vs.length:=D.length;refine PySem.W.kdl_call (PySem.W.kdl_dict (knd:=jq X.prog X.w) (kvs:=vs) (ep:=ep) L) (I.ok.hd hc) n (by rw [<- hl];exact hz) fun h' tk a f A e it=>?_;obtain ⟨o,v⟩:=it
  have hv:Vals (kvs.map fun b=>kV b.1) a.toList:=by
   refine qas (by rw [ya,hl,<- o];simp) fun j y u h1 g=>?_;obtain ⟨k,x,l,F⟩:=v j u (by simpa using g);rw [yd] at h1
   cases B:kvs[j]? with
   | none=>rw [B] at h1;cases h1
   | some b =>
    rw [B] at h1;cases h1;obtain ⟨O,C,G,N⟩:=qba D B;rw [l] at C;cases C;have E:b.1=k:=G;show RelV (kV b.1) u;rw [E];rcases qR (show qb3 k u=true from F) with ⟨i,t,rfl,rfl⟩ | ⟨z,t,rfl,rfl⟩
    .exact ⟨t,rfl⟩
    .exact ⟨t,rfl⟩
  refine ⟨.ref s.heap.objs.size,_,I.laid (t':=tk) A (yh _) (show ObjOk X.prog X.w _ h' _ (.lst (kvs.map fun b=>kV b.1)) from ⟨by rw [ya];exact hz,a.toList,f,hv,by simpa using e⟩),rfl,q _ (I.hok.fresh (yh _))⟩
 .obtain ⟨u,rfl,t,rfl⟩:=qaz r;have hsz:x.cps.size<=sizeLine:=yS (qg hx);refine call_list_str (I.ok.hd hc) x t (fun h' tk a f A e it=>?_) hsz;obtain ⟨o,v⟩:=it
  have hv:Vals (x.cps.toList.map fun c=>V.str ⟨#[c]⟩) a.toList:=by
   refine qas (by rw [ya];simp [o]) fun j y u h1 g=>?_;obtain ⟨c,t',l,rfl⟩:=v j u (by simpa using g);rw [yd] at h1;have m:x.cps.toList[j]?=some c:=by simpa using l
   rw [m] at h1;cases h1;exact ⟨t',rfl⟩
  refine ⟨.ref s.heap.objs.size,_,I.laid (t':=tk) A (yh _) (show ObjOk X.prog X.w _ h' _ (.lst (x.cps.toList.map fun c=>V.str ⟨#[c]⟩)) from ⟨by rw [ya];simpa using hsz,a.toList,f,hv,by simpa using e⟩),rfl,q _ (I.hok.fresh (yh _))⟩
end
structure CMethOk (P:Program) (w:World) (K:yg) (mg:Str->Option Value) (base:Heap) (CX:CXT) (k:Nat) (C:Addr) (x m:Str) (ps:List Str) (sp:Sp):Prop where
 ex:∃ f fd,FnOk P w K mg base CX k f fd ps sp/\CMeth K C m f/\Binds K fd ps []
 mg_:mg x=some (.ref C)
section
variable {X:Cx} {k:Nat} {C:Addr} {ps:List Str} {sp:Sp} {x m:Str} {p pos apos:Pos} {e:Expr} {es:List Expr} {t:TA}
theorem qbn (D:MakeOk X.prog X.w X.K X.mg X.base CX0 k C x ps sp) (i:Room (k+1) X.A) (c:PA X (e::es) t) (h:Gl X x:=by rfl) (a:(x==("__debug__":Str))=false:=by decide)
  (g:starEach (e::es) X.env=(false,eval e X.env)::starEach es X.env:=by rfl) (b:(backTo pos (starEach es X.env)).any (·.1)=false:=by rfl):PE X (.Call (.Name x p) (e::es) [] pos) (qd7 C sp [] E0 t):=by
 obtain ⟨f,l,F,M,d⟩:=D.ex;exact pe_make M F i h D.mg_ d .nil qE c a g b
end
theorem own_eq_same {prog:Program} {w:World} {A:Around} {E:Value->Shared->Prop} {s:Shared} {K:yg} {x C:Addr} {ox:Obj} {od:Option Obj} {Q:Value->Shared->Prop} (n:A.units<cLine) (X:K.In s.heap) (I:PySem.W.InstAt s.heap x ox C od)
  (m:PySem.W.findIn K (.ref C) "__eq__"=some (some (.builtin "object.__eq__"))) (i:PySem.W.mroIn K C (.type "object")=some true) (h:Q (.bool true) s):wpAny (model prog w) A (richCompare .Eq (.ref x) (.ref x)) Q E s:=by
 have a:∀ {g:Around} {f:Value->Shared->Prop},f (.bool true) s->wpAny (model prog w) g (call (.builtin "object.__eq__") [.ref x,.ref x]) f E s:=fun {g f} q=>by
  refine Xv (xy PySem.F.slot_object_eq.plain PySem.F.entry_object_eq (@PySem.W.check_slot (model prog w) _ _ s "object.__eq__" "object" "__eq__" (.ref x) [.ref x] [] _ (by decide +kernel) (by decide +kernel) (I.type.andThen (xB X i)) (PySem.F.args_object_eq_2 _ _) ?_));refine yr (yu (yr (wpAny_isSame_ref_self ?_)));exact yu q
 have one:wpAny (model prog w) A (tryCompare (.ref x) "__eq__" (.ref x)) (fun r c=>∃ v,r=some v/\Q v c) E s:=by
  unfold tryCompare;refine yr ?_;simp only [callSpecialIfBound?,bindSpecialIfBound?];refine Yn (yr (yr (yr (I.type.here ((Y2 X m).here ?_)))));refine yr (YZ (wpAny_ite ?_));have b:=PySem.F.slot_object_eq.bind (.ref x)
  have d:wpAny (model prog w) A (call (.builtin "object.__eq__") ([.ref x]++[.ref x])>>=fun v=>pure (some v)) (fun r c=>wpAny (model prog w) A (match r with | some .notImplemented | none=>pure none | some v=>pure (some v)) (fun r c=>∃ v,r=some v/\Q v c) E c) E s:=
   yr (a (yu (yu ⟨_,rfl,h⟩)))
  split
  .exact yr (YN b (yu d))
  .exact wpAny_tryCatch (yr (YN b (yu d)))
 unfold richCompare;simp only [oneThing_ref];refine Yn (yr (wpAny_cRoomFor n ?_));refine yr (I.type.here (yr (I.type.here ?_)));rw [yD (by simp)];refine yr (yu ?_);simp only [X0,ke];refine yr (YG one (fun r c z=>?_) fun _ _ e=>e);obtain ⟨v,rfl,l⟩:=z;exact yu l
structure OEq (K:yg) (C:Addr):Prop where
 eq:PySem.W.findIn K (.ref C) "__eq__"=some (some (.builtin "object.__eq__"))
 ob:PySem.W.mroIn K C (.type "object")=some true
def qfa (K:yg):R2:=fun x y H Q=>qea K false x y H Q\/∃ a C dx fs,x=.ref a/\y=.ref a/\H a=some (.ins C dx fs)/\OEq K C/\Q (.bl true) H
theorem k_eqW {X:Cx} {K:yg} (d:X.K=K) (e:X.A.units+100<cLine):OpR X (compareOp .Eq) (qfa K):=by
 subst d;intro pins s σ H x y u v Q I b c h;rcases h with h | ⟨a,C,dx,fs,rfl,rfl,ea,oe,q⟩
 .exact k_eqU rfl e pins s σ H x y u v Q I b c h
 .cases b;cases c;obtain ⟨f,O,_⟩:=qal I.hok ea;obtain ⟨od,J,_⟩:=O.look;exact own_eq_same (by omega) I.kIn J oe.eq oe.ob ⟨.bl true,H,I,rfl,q⟩
theorem jc {X:Cx}:MtR X "list.append" rAppend:=mt_append
theorem qbb {X:Cx}:MtR X "list.extend" rExtend:=mt_extend
theorem mtR_pop {X:Cx}:MtR X "list.pop" rPop:=mt_pop
theorem qbP {X:Cx}:MtR X "list.pop" rPopAt:=mt_popAt
theorem mtR_clear {X:Cx}:MtR X "list.clear" rClear:=mt_clear
section
variable {D:Ends} {σ:St} {H:Hp} {Q:VK} {t u:TS} {te ta tb tc:TE} {tas:TA} {K:yg} {sp:Sp} {E:XK} {EK:St->XK} {C:Addr} {f m:Str}
theorem vFldU (h:ta σ H fun x a=>FlUR K f x a Q):qew K ta f σ H Q:=h
theorem vSFldU (h:te σ H fun y a=>ta σ a fun x b=>SFUR K f x y b (D.nx σ)):qex K ta te f D σ H:=h
theorem vXMake (h:tas σ H fun vs a=>vs.length<=1000/\∀ x,a x=none->sp (.ref x::vs) (upd a x (XN x C none)) (fun v b=>v=.non/\Q (.ref x) b) E):tXMake C sp E tas σ H Q:=h
theorem vMake (h:tas σ H fun vs a=>∀ x dx,a x=none->a dx=none->dx≠x->sp (.ref x::(vs++[])) (upd (upd a dx (.own x)) x (.ins C dx [])) (fun v b=>v=.non/\Q (.ref x) b) E):qd7 C sp [] E tas σ H Q:=h
theorem vMeth (h:ta σ H fun x a=>MeR C m x a (tas σ a fun vs b=>sp (x::(vs++[])) b Q E)):qc1 C m sp [] E ta tas σ H Q:=h
theorem vVinit (h:tas σ H fun vs b=>∃ a C y,vs=[.ref a,y]/\b a=some (XN a C none)/\XAt K C/\Q .non b):tVinit K tas σ H Q:=h
theorem vCallS (h:tas σ H fun vs a=>sp vs a Q (EK σ)):tCallS sp EK tas σ H Q:=h
theorem vMethS (h:ta σ H fun x a=>MeR C m x a (tas σ a fun vs b=>sp (x::vs) b Q (EK σ))):tMethS C m sp EK ta tas σ H Q:=h
theorem vMakeS (h:tas σ H fun vs a=>∀ x dx,a x=none->a dx=none->dx≠x->sp (.ref x::vs) (upd (upd a dx (.own x)) x (.ins C dx [])) (fun v b=>v=.non/\Q (.ref x) b) (EK σ)):tMakeS C sp EK tas σ H Q:=h
theorem vRaise (h:te σ H fun x b=>∃ a C dx,x=.ref a/\b a=some (XN a C dx)/\XAt K C/\EK σ (.ref C) dx (upd b a (XO a C dx))):tRaise K EK te D σ H:=h
theorem qcT {x y:V} {t a:Value} {b:Bool} (ty:TyX K H x t) (d:qbM y=some a) (c:PySem.W.kitOne K t a=some b) (h:Q (.bl b) H):qey K [x,y] H Q:=⟨x,y,t,a,b,rfl,ty,d,c,h⟩
end
section
variable {prog:Program} {w:World} {A:Around} {E:Value->Shared->Prop} {s:Shared}
theorem none_dict {a:Addr} {Q:Value->Shared->Prop} (d:s.TypeIs (.ref a) "dict") (e:A.units<cLine) (h:Q (.bool false) s):wpAny (model prog w) A (richCompare .Eq .none (.ref a)) Q E s:=by
 refine SeqAt.rc_eq_decline_or (k:=false) rfl d (by decide) PySem.F.sub_dict_NoneType YK PySem.F.slot_dict_eq_refl
  (fun _ c=>call_gives YK rfl PySem.F.entry_NoneType_eq (PySem.F.args_NoneType_eq_2 _ _) (SeqAt.NoneType___eq___none_ref_0 a) c) (fun f c=>?_) (fun _ c=>YN (rfl:isSame .none (.ref a)=pure false) c) (.inr e) h
 refine YB PySem.F.slot_dict_eq_refl d PySem.F.entry_dict_eq ?_ (PySem.F.args_dict_eq_2 _ _);show wpAny _ _ (Builtin.Dict.dictSlotArgs "__eq__" ⟨[.ref a,.none],[]⟩>>=_) _ _ s;refine yr ?_;unfold Builtin.Dict.dictSlotArgs;refine yr (wpAny_notOrdered_dict d ?_);show wpAny _ _ (pure (Value.ref a,Value.none)) _ _ s;refine yu ?_;refine yr (kh (T:="NoneType") (b:=false) rfl PySem.F.sub_NoneType_dict ?_);simp only [Bool.not_false,Xx];exact yr (kq (yu ⟨_,rfl,c⟩))
theorem none_own {K:yg} {x C:Addr} {ox:Obj} {od:Option Obj} {Q:Value->Shared->Prop} (l:A.units<cLine) (X:K.In s.heap) (I:PySem.W.InstAt s.heap x ox C od) (g:OEq K C) (i:PySem.W.mroIn K C (.type "NoneType")=some false)
  (h:Q (.bool false) s):wpAny (model prog w) A (richCompare .Eq .none (.ref x)) Q E s:=by
 have m:wpAny (model prog w) A (tryCompare .none "__eq__" (.ref x)) (fun r a=>r=none/\a=s) E s:=by
  unfold tryCompare;refine yr ?_;simp only [callSpecialIfBound?,bindSpecialIfBound?];refine Yn (yr (yr ?_));refine yr (YN (rfl:typeOf .none=pure (.type "NoneType")) ?_);refine YN YK.lookup ?_;refine yr (YZ (wpAny_ite ?_))
  have d:wpAny (model prog w) A (call (.builtin "NoneType.__eq__") ([.none]++[.ref x])>>=fun v=>pure (some v)) (fun r a=>wpAny (model prog w) A (match r with | some .notImplemented | none=>pure none | some v=>pure (some v)) (fun r a=>r=none/\a=s) E a) E s:=
   yr (call_gives YK rfl PySem.F.entry_NoneType_eq (PySem.F.args_NoneType_eq_2 _ _) (SeqAt.NoneType___eq___none_ref_0 x) (yu (yu ⟨rfl,rfl⟩)))
  split
  .exact yr (YN (YK.bind .none) (yu d))
  .exact wpAny_tryCatch (yr (YN (YK.bind .none) (yu d)))
 have n:wpAny (model prog w) A (tryCompare (.ref x) "__eq__" .none) (fun r a=>r=none/\a=s) E s:=by
  unfold tryCompare;refine yr ?_;simp only [callSpecialIfBound?,bindSpecialIfBound?];refine Yn (yr (yr (yr (I.type.here ((Y2 X g.eq).here ?_)))));refine yr (YZ (wpAny_ite ?_));have b:=PySem.F.slot_object_eq.bind (.ref x)
  have c:∀ {f:Value->Shared->Prop},f .notImplemented s->wpAny (model prog w) A (call (.builtin "object.__eq__") [.ref x,.none]) f E s:=fun {f} q=>by
   refine Xv (xy PySem.F.slot_object_eq.plain PySem.F.entry_object_eq (@PySem.W.check_slot (model prog w) _ _ s "object.__eq__" "object" "__eq__" (.ref x) [.none] [] _ (by decide +kernel) (by decide +kernel) (I.type.andThen (xB X g.ob)) (PySem.F.args_object_eq_2 _ _) ?_));refine yr (yu (yr (YN (rfl:isSame (.ref x) .none=pure false) ?_)));exact yu q
  have d:wpAny (model prog w) A (call (.builtin "object.__eq__") ([.ref x]++[.none])>>=fun v=>pure (some v)) (fun r a=>wpAny (model prog w) A (match r with | some .notImplemented | none=>pure none | some v=>pure (some v)) (fun r a=>r=none/\a=s) E a) E s:=
   yr (c (yu (yu ⟨rfl,rfl⟩)))
  split
  .exact yr (YN b (yu d))
  .exact wpAny_tryCatch (yr (YN b (yu d)))
 unfold richCompare;refine Yn (yr (wpAny_cRoomFor l ?_));show wpAny _ _ (typeOf .none>>=_) _ _ _;refine yr (YN (rfl:typeOf .none=pure (.type "NoneType")) (yr (I.type.here ?_)));rw [yK (by rfl)];refine yr ((xB X i).here ?_);simp only [X0,ke];refine yr (YG m (fun r a z=>?_) fun _ _ e=>e);obtain ⟨rfl,rfl⟩:=z;simp only [Bool.not_false,Xx];refine yr (YG n (fun r a z=>?_) fun _ _ e=>e);obtain ⟨rfl,rfl⟩:=z;refine yr (kq (yr (YN (rfl:isSame .none (.ref x)=pure false) (yu h))))
end
def rNoneRef (K:yg):R2:=fun x y H Q=>∃ a,x=.non/\y=.ref a/\((∃ xs,SqL K H a xs\/SqT K H a xs)\/(∃ kvs,H a=some (.dK kvs))\/∃ C dx fs,H a=some (.ins C dx fs)/\OEq K C/\PySem.W.mroIn K C (.type "NoneType")=some false)/\Q (.bl false) H
def qeH (K:yg):R2:=fun x y H Q=>qfa K x y H Q\/rNoneRef K x y H Q
theorem zW {X:Cx} {K:yg} (e:X.K=K) (l:X.A.units+100<cLine):OpR X (compareOp .Eq) (qeH K):=by
 intro pins s σ H x y u v Q I f g h;rcases h with h | ⟨a,rfl,rfl,h,q⟩
 .exact k_eqW e l pins s σ H x y u v Q I f g h
 .subst e;cases f;cases g;have b:EP X pins σ Q (.bool false) s:=⟨.bl false,H,I,rfl,q⟩;rcases h with ⟨xs,hl | hl⟩ | ⟨kvs,c⟩ | ⟨C,dx,fs,c,m,i⟩
  .obtain ⟨its,r,pl,_⟩:=I.list hl;exact SeqAt.RcAt.none_list pl.isList (by omega) _ _ _ _ b
  .obtain ⟨its,r,pl,_⟩:=I.tuple hl;exact SeqAt.RcAt.none_tuple pl (by omega) _ _ _ _ b
  .obtain ⟨_,_,vs,_,d⟩:=(show ObjOk X.prog X.w H s.heap a (.dK kvs) from I.hok a _ c);exact none_dict d.typeIs (by omega) b
  .obtain ⟨n,O,_⟩:=qal I.hok c;obtain ⟨od,J,_⟩:=O.look;exact none_own (by omega) I.kIn J m i b
def XL (K:yg) (C:Addr) (c:List Value):Prop:=∃ l m N bs a sn sub ab b d e f g h i,K.lookup C=some (excClassObj l m C N bs c a sn sub ab b d e f g h i "ValueError.__new__")
section
variable {K:yg} {C D:Addr} {bm bn:List Value}
end
end L2
namespace HT
open PySem PySem.Spec PyProof.Rows
variable {sl:Addr} {vs:Value}
section
variable {prog:Program} {w:World} {A:Around} {E:Value->Shared->Prop} {s:Shared}
theorem sliceApplied_rev {Q:Int×Int×Nat->Shared->Prop} (d:s.heap.IsSliceOf sl .none .none vs) (e:IsPart vs (some (-1)))
  (h:Q (1,-1,2) s):wpAny (model prog w) A (Builtin.Slice.sliceApplied (.ref sl) (pure ((2:Nat):Int))) Q E s:=by
 obtain ⟨f,b,c,a⟩:=id d;unfold Builtin.Slice.sliceApplied Builtin.Slice.sliceFields;refine yr (yr (XC b a (x:=.none) rfl (yr (XC b a (x:=.none) rfl (yr (XC b a (x:=vs) rfl (yu ?_)))))));refine yr (qam e ?_);show wpAny _ _ (if ((-1:Int)==0)=true then _ else _) _ _ s;rw [yD (by decide)];refine yr (XY (yr (XY (yr (yu ?_)))));exact yu h
theorem getItem_pair_rev {t:Addr} {x y:Value} {Q:Value->Shared->Prop} (b:IsTup s.heap t #[x,y]) (f:s.heap.IsSliceOf sl .none .none vs) (l:IsPart vs (some (-1)))
  (h:Q (.ref s.heap.objs.size) { s with heap:=s.heap.push { cls:=.type "tuple",data:=.seq #[y,x] } }):wpAny (model prog w) A (getItem (.ref t) (.ref sl)) Q E s:=by
 have a:sizeOk (.seq #[y,x]):=by
  show 2<=sizeLine
  decide
 obtain ⟨i,e,d,g⟩:=id f;have c:s.TypeIs (.ref sl) "slice":=⟨i,e,d⟩;unfold getItem
 try with_reducible refine Yn ?_
 first | refine yr (yu ?_) | skip
 refine yr (wpAny_sequenceKey b.typeIs (by decide) ?_);refine yr (Y4 (name:=Str.ofString "__getitem__") b.typeIs Ys
  (YB Ys b.typeIs entry_tuple_getitem ?_ (args_tuple_getitem _ _)))
 show wpAny _ _ (Builtin.Tuple.tupleItemsOf (.ref t)>>=_) _ _ s;refine yr (tupleItemsOf_ b ?_);refine yr (km c ?_);rw [yK (by decide)];refine yr (sliceApplied_rev f l ?_);show wpAny _ _ (if ((1:Int)==0&&(-1:Int)==1&&2==2)=true then _ else _) _ _ s;rw [yD (by decide)]
 first
  | exact yr (m:=Builtin.Tuple.tupleExact _) (Yc (yu ⟨_,rfl,yu h⟩) a)
  | exact yr (m:=Builtin.Tuple.tupleExact _) (Yc (yr (yu (yu ⟨_,rfl,yu h⟩))) a)
  | exact yr (yr (m:=Builtin.Tuple.tupleExact _) (Yc (yu (yu ⟨_,rfl,yu h⟩)) a))
  | exact yr (yr (m:=Builtin.Tuple.tupleExact _) (Yc (yu ⟨_,rfl,yu h⟩) a))
end
end HT
namespace L2
open PySem PySem.Spec PyProof.Rows
variable {H:Hp} {σ:St}
def qfb (K:yg) (d:TE) (e:TO):TE:=fun σ H Q=>d σ H fun x c=>e σ c fun o b=>o=some (-1)/\∃ a y z,x=.ref a/\SqT K b a [y,z]/\∀ p,b p=none->Q (.ref p) (upd b p (.tup [z,y]))
theorem vRev {K:yg} {c:TE} {d:TO} {Q:VK} (h:c σ H fun x e=>d σ e fun o b=>o=some (-1)/\∃ a y z,x=.ref a/\SqT K b a [y,z]/\∀ p,b p=none->Q (.ref p) (upd b p (.tup [z,y]))):qfb K c d σ H Q:=h
section
variable {X:Cx} {K:yg} {e st:Expr} {te:TE} {ts:TO} {p2 pos:Pos}
theorem qdQ (C:X.K=K) (D:PE X e te) (E:PO X (some st) ts):PE X (.Subscript e (.Slice none none (some st) p2) pos) (qfb K te ts):=by
 subst C;intro c s σ H Q I h;refine Subscript_ (thn (D c s σ H _ I h) fun v N ⟨x,n,t,M,L⟩=>?_);refine wpAny_Slice ?_;rw [X7];refine yu ?_;refine yu ?_;refine thn (E c N σ n _ t L) fun m d ⟨o,p,u,pt,B,a,y,z,ex,F,q⟩=>?_;subst B ex;cases M;have f:Inv X c σ p { d with heap:=d.heap.push { cls:=.type "slice",data:=.fields #[.none,.none,m] } }:=u.kept (t':=d.toks) fun b J q=>yv _ q;obtain ⟨G,r,l,hz⟩:=f.tuple F;obtain ⟨O,P,rfl,g,i⟩:=qc0 r;show wpAny (model X.prog X.w) X.A (subscriptTail e (.Slice none none (some st) p2) (.ref a) (.ref d.heap.objs.size)) (EP X c σ Q) X.xe { d with heap:=d.heap.push { cls:=.type "slice",data:=.fields #[.none,.none,m] } };refine tail_any (ops:=[.ref a,.ref d.heap.objs.size]) l.typeIs Ys.lookup (HT.getItem_pair_rev l (XZ ..) pt ?_) (by with_unfolding_all rfl);refine ⟨.ref _,_,f.laid (t':=d.toks) (o:=.tup [z,y]) (fun b J q=>yv _ q) (yh _) ?_,rfl,q _ (f.hok.fresh (yh _))⟩;exact ⟨by show 2<=sizeLine;decide,_,.cons i (.cons g .nil),IsTup.new _ _⟩
end
noncomputable def Ite (K:yg) (a:Addr):It:=
 ⟨fun i H=>∃ xs x,SqL K H a xs/\xs[i]?=some x,fun i H x b=>∃ t y,x=.ref t/\H t=none/\b=upd H t (.tup [.int i,y])/\∀ xs,SqL K H a xs->xs[i]?=some y,fun i H=>∃ xs,SqL K H a xs/\xs.length<=i⟩
def iEnum (K:yg) (c:TA):TI:=fun σ H R=>c σ H fun vs b=>∃ a xs,vs=[.ref a]/\SqL K b a xs/\R (Ite K a) b
theorem vEnum {K:yg} {b:TA} {R:It->Hp->Prop} (h:b σ H fun vs c=>∃ a xs,vs=[.ref a]/\SqL K c a xs/\R (Ite K a) c):iEnum K b σ H R:=h
section
variable {X:Cx}
end
end L2
namespace L2
open PySem PySem.Spec PyProof.Rows PySem.Builtin PySem.Builtin.Str
theorem vDGet2 {e ty f:TE} {b:St} {H:Hp} {Q:VK} (h:e b H fun x c=>∃ a,x=.ref a/\IsD c a/\ty b c fun y g=>f b g fun z d=>∃ o,DGet d a y o/\Q (o.getD z) d):tDGet2 e ty f b H Q:=h
end L2
namespace L2
open PySem PySem.Spec PyProof.Rows
theorem eqV_strD (a b:Str):eqV (.str a) (.str b)=decide (a=b):=by
 have e:eqV (.str a) (.str b)=(a==b):=by simp [eqV]
 rw [e,Y5,Yk,Ye]
theorem qbQ:∀ (ys:List Str) (y:Str) (m:Nat) (b:m<ys.length),m<ys.idxOf y->ys[m]≠y
 | [],_,_,b,_=>by simp at b
 | a::r,y,m,b,h=>by
  rw [List.idxOf_cons] at h;by_cases e:a=y
  .subst e;simp at h
  .have c:(a==y)=false:=YF.mpr e;rw [c] at h
   cases m with
   | zero=>exact e
   | succ k =>
    have d:k<r.idxOf y:=by
     have h:k+1<r.idxOf y+1:=h;omega
    exact qbQ r y k (by simpa using b) d
section
variable {X:Cx} {K:yg}
def rIndex (K:yg):V->List V->Hp->VK->Prop:=fun x vs H Q=>∃ (p:Addr) (ys:List Str) (y:Str),x=.ref p/\vs=[.str y]/\SqL K H p (ys.map V.str)/\y∈ys/\Q (.int (ys.idxOf y:Nat)) H
theorem qcb (B:X.K=K):MtR X "list.index" (rIndex K):=by
 subst B;intro z s O H x vs v us Q I L J h;obtain ⟨p,ys,y,rfl,rfl,C,E,q⟩:=h;cases L;obtain ⟨u,rfl,G⟩:=J.one;obtain ⟨a,r,pl,hz⟩:=I.list C;obtain ⟨⟨cls,A,data,M⟩,t,hc,n,o⟩:=id pl.isList;simp only at hc o;subst hc o;have fs:(ys.map V.str).all zQ=true:=by rw [kn];exact YC.mpr fun _ _=>rfl
 have b:(ys.map V.str).length=a.length:=r.length;rw [ya] at b;have d:ys.idxOf y<ys.length:=List.idxOf_lt_length_iff.mpr E
 have at_:∀ (m:Nat) (i:m<ys.length) (c:m<a.toArray.size),eqU (.str y) a.toArray[m]=decide (ys[m]=y):=fun m i c=>by
  have g:(ys.map V.str)[m]?=some (.str ys[m]):=by rw [yd,yb i];rfl
  obtain ⟨w,hw,l⟩:=r.get g
  have e:a.toArray[m]=w:=by
   have:a.toArray[m]?=some w:=by simpa using hw
   rw [xp c] at this;exact ym this
  rw [e,qc6 l rfl,eqV_strD]
 have N:ys.length<=sizeLine:=by rw [ya] at hz;exact hz
 have D:sizeLine<2 ^ 63-1:=by decide
 refine Xg xK ⟨_,t,rfl⟩ PySem.F.entry_list_index (PySem.F.args_list_index_2 _ _)
  (SeqAt.list_indexAt p a.toArray n A M u (eqU (.str y)) (ys.idxOf y) (by simpa [<- b] using d) (by omega) ?_ ?_) ⟨t,fun w hw=>zF G rfl r fs w (by simpa using hw),.int _,H,I.tok _,⟨_,rfl⟩,q⟩
 .rw [at_ _ d];exact yQ (xM d)
 .intro m i f;rw [at_ m (by omega)];exact yl fun e=>qbQ ys y m (by omega) f e
end
theorem qaU (xs:List V) (k:Nat):qcQ xs none (some (k:Int))=xs.take k:=by
 unfold qcQ;rw [HT.sIx_none,HT.sIx_nat,List.drop_zero,kC];by_cases h:k<=xs.length
 .rw [ku h]
 .rw [ki (by omega),YD (yh _),YD (by omega)]
theorem cutV_drop (xs:List V) (k:Nat):qcQ xs (some (k:Int)) none=xs.drop k:=by
 unfold qcQ;rw [HT.sIx_none,HT.sIx_nat];by_cases h:k<=xs.length
 .rw [ku h,YD (by rw [kf];omega)]
 .rw [ki (by omega),List.drop_length,List.drop_of_length_le (by omega)];simp
section
variable {X:Cx} {K:yg}
end
end L2
namespace HT
open PySem PySem.Spec PyProof.Rows
section
variable {prog:Program} {w:World} {A:Around} {E:Value->Shared->Prop} {s:Shared}
end
end HT
namespace L2
open PySem PySem.Spec PyProof.Rows
def tStep (K:yg) (e:TE) (f:TO):TE:=fun c H Q=>e c H fun x d=>f c d fun o b=>∃ a y z,x=.ref a/\SqT K b a [y,z]/\((o=some (-1)/\∀ p,b p=none->Q (.ref p) (upd b p (.tup [z,y])))\/(o=some 1/\Q (.ref a) b))
theorem vStep {K:yg} {d:TE} {e:TO} {c:St} {H:Hp} {Q:VK} (h:d c H fun x f=>e c f fun o b=>∃ a y z,x=.ref a/\SqT K b a [y,z]/\((o=some (-1)/\∀ p,b p=none->Q (.ref p) (upd b p (.tup [z,y])))\/(o=some 1/\Q (.ref a) b))):tStep K d e c H Q:=h
section
variable {X:Cx} {K:yg} {e st:Expr} {te:TE} {ts:TO} {p2 pos:Pos}
end
def FG (K:yg) (a:Str) (st:Stmt):Prop:=∃ f b,PySem.W.nsIn K mainGlobals a=some (some (.ref f))/\Fun K a a st f b
def FM (K:yg) (C:Addr) (m b:Str) (st:Stmt):Prop:=∃ f a,PySem.W.findIn K (.ref C) m=some (some (.ref f))/\PySem.W.isFn K (.ref f)=true/\Fun K m b st f a
structure XQ (K:yg) (C:Addr):Prop where
 xa:PySem.W.findIn K (.ref C) "__getattribute__"=some (some (.builtin "BaseException.__getattribute__"))
 xb:PySem.W.findIn K (.ref C) "__getattr__"=some none
 xd:PySem.W.mroIn K C (.type "BaseException")=some true
 xe:PySem.W.mroIn K C (.type "object")=some true
 xf:PySem.W.hasDictIn K C=true
 xg:PySem.W.findIn K (.ref C) "__class__"=some (some (.builtin "object.__class__"))
 xh:PySem.W.findIn K (.ref C) "__setattr__"=some (some (.builtin "object.__setattr__"))
 p:PySem.W.keepIn K (.ref C)=true
section
variable {P:Program} {w:World} {K:yg} {mg:Str->Option Value} {base h:Heap} {CX:CXT} {k:Nat} {sp:Sp} {st:Stmt} {f:Addr} {fd:FuncData} {ps:List Str} {nm m ql x:Str} {C:Addr}
theorem lN0 {P:List Value->Prop} (h:P []):∀ us:List Value,us.length=0->P us:=fun us e=>by rw [List.eq_nil_of_length_eq_zero e];exact h
theorem lNs {P:List Value->Prop} {n:Nat} (h:∀ a r,r.length=n->P (a::r)):∀ us:List Value,us.length=n+1->P us:=fun us e=>by
 cases us with
 |nil=>cases e
 |cons a r=>exact h a r (Nat.succ.inj e)
theorem lN1 {P:List Value->Prop} (h:∀ a,P [a]):∀ us:List Value,us.length=1->P us:=lNs fun a=>lN0 (h a)
theorem lN2 {P:List Value->Prop} (h:∀ a b,P [a,b]):∀ us:List Value,us.length=2->P us:=lNs fun a=>lN1 (h a)
theorem lN3 {P:List Value->Prop} (h:∀ a b c,P [a,b,c]):∀ us:List Value,us.length=3->P us:=lNs fun a=>lN2 (h a)
theorem lN4 {P:List Value->Prop} (h:∀ a b c d,P [a,b,c,d]):∀ us:List Value,us.length=4->P us:=lNs fun a=>lN3 (h a)
abbrev BA (x ql:Str) (st:Stmt) (ps:List Str):Prop:=∀ (kV b d:Value) (c:Option Addr) (a ct:Value) (us:List Value),us.length=ps.length->bindArgs (PySem.W.fnOf x ql (zU st) (zz st) (qh st) .none kV b d c a ct) ⟨us,[]⟩=pure (ps.zip us)
theorem fg_mk (X:K.In h) (G:h.Ns mainGlobals mg) (a:PySem.W.nsIn K mainGlobals nm=some (some (.ref f))) (F:Fun K nm nm st f fd) (o:FnOk P w K mg base CX k f fd ps sp)
  (b:BA nm nm st ps:=by first | (exact fun _ _ _ _ _ _=>lN1 fun _=>rfl) | (exact fun _ _ _ _ _ _=>lN2 fun _ _=>rfl) | (exact fun _ _ _ _ _ _=>lN3 fun _ _ _=>rfl) | (exact fun _ _ _ _ _ _=>lN4 fun _ _ _ _=>rfl)) :
  DefOk P w K mg base CX k nm ps sp:=⟨_,_,o,PySem.W.mg_of X G a,F.kp,F.binds b⟩
theorem fm_mk (b:Cls K C) (a:PySem.W.findIn K (.ref C) m=some (some (.ref f))) (n:PySem.W.isFn K (.ref f)=true) (F:Fun K m ql st f fd) (o:FnOk P w K mg base CX k f fd ps sp)
  (c:BA m ql st ps:=by first | (exact fun _ _ _ _ _ _=>lN1 fun _=>rfl) | (exact fun _ _ _ _ _ _=>lN2 fun _ _=>rfl) | (exact fun _ _ _ _ _ _=>lN3 fun _ _ _=>rfl) | (exact fun _ _ _ _ _ _=>lN4 fun _ _ _ _=>rfl)) :
  MethOk P w K mg base CX k C m ps sp:=⟨⟨_,_,o,⟨a,n,F.kp⟩,F.binds c⟩,b⟩
theorem fw_mk (X:K.In h) (G:h.Ns mainGlobals mg) (c:PySem.W.nsIn K mainGlobals x=some (some (.ref C))) (d:PySem.W.makesIn K C=true) (e:PySem.W.keepIn K (.ref C)=true) (a:PySem.W.findIn K (.ref C) "__init__"=some (some (.ref f))) (n:PySem.W.isFn K (.ref f)=true) (F:Fun K "__init__" ql st f fd) (o:FnOk P w K mg base CX k f fd ps sp)
  (b:BA "__init__" ql st ps:=by first | (exact fun _ _ _ _ _ _=>lN1 fun _=>rfl) | (exact fun _ _ _ _ _ _=>lN2 fun _ _=>rfl) | (exact fun _ _ _ _ _ _=>lN3 fun _ _ _=>rfl)) :
  MakeOk P w K mg base CX k C x ps sp:=⟨⟨_,_,o,⟨d,a,n,e⟩,F.binds b⟩,PySem.W.mg_of X G c⟩
end
end L2
namespace HT
open PySem PySem.Spec PyProof.Rows
section
variable {prog:Program} {w:World} {A:Around} {E:Value->Shared->Prop} {s:Shared}
end
end HT
namespace L2
open PySem PySem.Spec PyProof.Rows
variable {H:Hp} {te:TE} {σ:St}
section
variable {X:Cx} {K:yg} {pos p:Pos} {x:Str}
end
section
variable {X:Cx} {K:yg} {e lo st:Expr} {te:TE} {tl ts:TO} {p2 pos:Pos}
def qfc (K:yg) (te:TE):TI:=fun σ H R=>te σ H fun v b=>∃ a xs,v=.ref a/\SqL K b a xs/\R (Itl K a) b
theorem viLst {K:yg} {R:It->Hp->Prop} (h:te σ H fun v b=>∃ a xs,v=.ref a/\SqL K b a xs/\R (Itl K a) b):qfc K te σ H R:=h
theorem ki_lst {x:Expr} (m:X.K=K) (r:PE X e te):PI X x e (qfc K te):=by
 subst m;intro c s σ H R I h;refine thn (r c s σ H _ I h) fun v d ⟨y,g,f,w,a,xs,i,t,q⟩=>?_;subst i;cases w
 have l:∀ b∈[d.heap.objs.size],qcP X c g b:=fun b n=>by
  have e:b=d.heap.objs.size:=by simpa using n
  subst e;exact f.fpOk (yh _) (f.hok.fresh (yh _))
 obtain ⟨u,z,p,hz⟩:=f.list t;exact Xo p.isList ⟨d.heap.objs.size,[d.heap.objs.size],_,_,g,rfl,f.kept (t':=d.toks) fun b o e=>yv _ e,qbx a _,⟨_,yL _ rfl,rfl,rfl⟩,l,q⟩
end
def qfd (K:yg) (te:TE) (d:TO):TE:=fun σ H Q=>te σ H fun x c=>d σ c fun o b=>o=some (-1)/\∃ a xs,x=.ref a/\SqL K b a xs/\∀ p,b p=none->Q (.ref p) (upd b p (.lst xs.reverse))
theorem qfe {K:yg} {c:TO} {Q:VK} (h:te σ H fun x d=>c σ d fun o b=>o=some (-1)/\∃ a xs,x=.ref a/\SqL K b a xs/\∀ p,b p=none->Q (.ref p) (upd b p (.lst xs.reverse))):qfd K te c σ H Q:=h
theorem qcz:∀ {xs:List V} {us:List Value},Vals xs us->Vals xs.reverse us.reverse
 | _,_,.nil=>.nil
 | _,_,.cons r t=>by
  rw [List.reverse_cons,List.reverse_cons];exact (qcz t).append (.cons r .nil)
section
variable {X:Cx} {K:yg} {e st:Expr} {te:TE} {ts:TO} {p2 pos:Pos}
theorem qdR (y:X.K=K) (z:PE X e te) (B:PO X (some st) ts):PE X (.Subscript e (.Slice none none (some st) p2) pos) (qfd K te ts):=by
 subst y;intro c s σ H Q I h;refine Subscript_ (thn (z c s σ H _ I h) fun v J ⟨x,m,p,G,F⟩=>?_);refine wpAny_Slice ?_;rw [X7];refine yu ?_;refine yu ?_;refine thn (B c J σ m _ p F) fun l d ⟨o,n,t,pt,u,a,xs,ex,C,q⟩=>?_;subst u ex;cases G;have f:Inv X c σ n { d with heap:=d.heap.push { cls:=.type "slice",data:=.fields #[.none,.none,l] } }:=t.kept (t':=d.toks) fun b E q=>yv _ q;obtain ⟨D,r,i,hz⟩:=f.list C;have g:=r.length;show wpAny (model X.prog X.w) X.A (subscriptTail e (.Slice none none (some st) p2) (.ref a) (.ref d.heap.objs.size)) (EP X c σ Q) X.xe { d with heap:=d.heap.push { cls:=.type "slice",data:=.fields #[.none,.none,l] } };refine tail_any (ops:=[.ref a,.ref d.heap.objs.size]) i.isList.typeIs X3.lookup (wpAny_getItem_list_slice i.isList (XZ ..) .none .none pt (by decide) ?_ (by rw [yw]<;>omega)) (by with_unfolding_all rfl);rw [PySem.W.krv_pick];refine ⟨.ref _,_,f.laid (t':=d.toks) (o:=.lst xs.reverse) (fun b E q=>yv _ q) (yh _) ?_,rfl,q _ (f.hok.fresh (yh _))⟩;exact ⟨by rw [Yu];exact hz,_,0,qcz r,yL _ rfl⟩
end
section
variable {X:Cx} {a:Expr} {ta:TA} {p p2 pos pos2:Pos}
end
end L2
namespace L2
structure Sb (V:Nat->Prop):Prop where
 z:V 0
 a:∀ x y,V x->V y->V (x ^^^ y)
def jn (V:Nat->Prop) (x:Nat):Nat->Prop:=fun y=>V y\/V (y ^^^ x)
def Spn:List Nat->Nat->Prop
 | []=>fun y=>y=0
 | a::L=>jn (Spn L) a
open Classical in
def Bnd (b n v:Nat):Prop:=∀ i,v.testBit i=true->b<=i/\i<b+n
open Classical in
noncomputable def swp:Nat->Nat->List Nat->Nat
 | 0,_,_=>0
 | n+1,b,L=>match L.filter (fun v=>v.testBit b) with
  | []=>swp n (b+1) L
  | p::t=>1+swp n (b+1) (L.filter (fun v=>!v.testBit b)++t.map fun v=>v ^^^ p)
open Classical in
noncomputable def rk (L:List Nat):Nat:=swp 30 0 L
open Classical in
noncomputable def les:Nat×Nat->List (Nat×Nat)->Nat×Nat
 | s,[]=>s
 | s,o::os=>if s.1 ^^^ o.1<s.1 then les (s.1 ^^^ o.1,s.2 ^^^ o.2) os else les s os
structure Ech (os:List (Nat×Nat)):Prop where
 nz:∀ o∈os,o.1≠0
 pw:os.Pairwise fun a b=>b.1.testBit a.1.log2=false
noncomputable def csm:List Nat->Nat->Nat->Nat
 | [],_,_=>0
 | a::L,k,c=>(if c.testBit k then a else 0) ^^^ csm L (k+1) c
noncomputable def stp (st:List (Nat×Nat)) (n v:Nat):List (Nat×Nat):=if (les (v,1 <<< n) st).1=0 then st else st++[les (v,1 <<< n) st]
structure Stp (L:List Nat) (n:Nat) (st:List (Nat×Nat)):Prop where
 ech:Ech st
 sum:∀ o∈st,csm L 0 o.2=o.1
 low:∀ o∈st,o.2<2 ^ n
 lt:∀ o∈st,o.1<2 ^ 30
 spn:∀ v,Spn (st.map (·.1)) v↔Spn (L.take n) v
 free:st.map (fun o=>o.2.log2)=(List.range n).filter fun i=>decide (rk (L.take i)<rk (L.take (i+1)))
 len:st.length<=n
end L2
namespace L2
open PySem PySem.Spec PyProof.Rows
section
variable {X:Cx}
end
def Fl:V->Prop
 | .non=>True
 | .bl _=>True
 | .int i=>-999999999999<=i/\i<=999999999999
 | _=>False
noncomputable def fD:V->PyData
 | .non=>.none
 | .bl b=>.bool b
 | .int i=>.int i
 | .str x=>.str x
 | _=>.none
def FlS (xs:List V):Prop:=xs.length<=1000/\∀ x∈xs,Fl x
def ShwT (H:Hp) (v:V) (t:Str):Prop:=match v with
 | .non=>t="None"
 | .bl b=>t=if b then Str.ofString "True" else Str.ofString "False"
 | .int i=>i.natAbs.log2<1920/\t=toString i
 | .str x=>(reprText x).length<=sizeLine/\t=reprText x
 | .ref p=>(∃ xs,H p=some (.lst xs)/\FlS xs/\t=(PyData.list (xs.map fD)).shown)\/∃ xs,H p=some (.tup xs)/\FlS xs/\t=(PyData.tuple (xs.map fD)).shown
 | _=>False
section
variable {X:Cx} {K:yg}
end
section
variable {K:yg} {a:Addr} {xs:List V} {g:TG} {tc:TT} {te:TE} {σ':St} {H1:Hp} {Q:V->Hp->Prop}
end
section
variable {K:yg} {a b:Addr} {xs ys:List V} {g:TG} {tc:TT} {te:TE} {σ':St} {H1:Hp} {Q:V->Hp->Prop}
end
section
variable {X:Cx} {K:yg}
end
section
variable {X:Cx} {K:yg} {e st:Expr} {te:TE} {ts:TO} {p2 pos:Pos}
end
mutual
inductive Dat (H:Hp):V->PyData->Prop
 | non:Dat H .non .none
 | bl (b:Bool):Dat H (.bl b) (.bool b)
 | int (i:Int):Dat H (.int i) (.int i)
 | str (x:Str):Dat H (.str x) (.str x)
 | lst {a:Addr} {xs:List V} {ds:List PyData}:H a=some (.lst xs)->DatS H xs ds->Dat H (.ref a) (.list ds)
 | tup {a:Addr} {xs:List V} {ds:List PyData}:H a=some (.tup xs)->DatS H xs ds->Dat H (.ref a) (.tuple ds)
 | dnil {a:Addr}:H a=some (.dK [])->Dat H (.ref a) (.dict [])
inductive DatS (H:Hp):List V->List PyData->Prop
 | nil:DatS H [] []
 | cons {v:V} {vs:List V} {d:PyData} {ds:List PyData}:Dat H v d->DatS H vs ds->DatS H (v::vs) (d::ds)
end
structure Shw (d:PyData) (n m:Nat):Prop where
 s:d.showable=true
 l:d.leavesShort 13=true
 b:d.bulk<=n
 p:d.depth<=m
structure ShwS (ds:List PyData) (n m:Nat):Prop where
 s:PyData.showableAll ds=true
 l:PyData.leavesShortAll 13 ds=true
 b:PyData.bulkAll ds<=n
 p:PyData.depthAll ds<=m
section
variable {X:Cx} {K:yg} {pins:List (Addr×Obj)} {σ:List (Option V)} {H:Hp} {s:Shared}
end
theorem qcA {f:Str×NameKind->Str×NameKind} (b:∀ y,(f y).1=y.1) (c:∀ y,(f y).2=y.2\/(f y).2=.cell):∀ {ns:List (Str×NameKind)} {x:Str},(ns.lookup x=some .cell\/ns.lookup x=some .free)->((ns.map f).lookup x=some .cell\/(ns.map f).lookup x=some .free)
 | [],x,h=>by simp at h
 | y::r,x,h=>by
  have e:((y::r).map f)=((f y).1,(f y).2)::r.map f:=rfl;have d:y::r=(y.1,y.2)::r:=rfl;rw [d,YY] at h;rw [e,YY,b y]
  cases a:x==y.1 with
  | false=>rw [a] at h;exact qcA b c h
  | true =>
   rw [a] at h;rcases c y with z | z
   .rw [z];exact h
   .rw [z];exact .inl rfl
theorem compB_re {sc scope:Scope} {env:Env} (h:qbL sc scope=true):qbL (relabel sc env) scope=true:=by
 unfold qbL at h ⊢;rw [yW] at h ⊢;refine ⟨h.1,YC.mpr fun y b=>?_⟩;have:=YC.mp h.2 y b
 cases a:y.2 with
 | free =>
  rw [a] at this;simp only [yW,XH,Yk] at this ⊢;refine ⟨?_,this.2⟩;exact qcA (fun y=>by dsimp only;split<;>rfl) (fun y=>by dsimp only;split<;>simp) this.1
 | _=>rw [a] at this;first | done | exact this | cases this
section
variable {X:Cx} {tg elt iter:Expr} {ifs:List Expr} {scope sc1:Scope} {pos:Pos} {N N1:List Str} {nl:Nat} {ixs:List Nat} {wi:TI} {g:TG} {tc:TT} {te:TE} {C1:Addr} {s1:Shared} {H1:Hp} {ex1:List Addr}
theorem pe_compIn (N:List Str) (nl:Nat) (ixs:List Nat) (hc:X.calm=true) (d:qbL sc1 scope=true) (f:N.length=nl+ixs.length) (a:qeF nl ixs N N1 scope.names=true)
  (l:PI (X.comp N1 sc1 C1 s1 H1 ex1) tg iter wi) (i:∀ C c b ex,PG ((X.comp N1 sc1 C1 s1 H1 ex1).comp N scope C c b ex) tg g) (e:qdb nl g) (n:∀ C c b ex,qeg ((X.comp N1 sc1 C1 s1 H1 ex1).comp N scope C c b ex) ifs tc) (h:∀ C c b ex,PE ((X.comp N1 sc1 C1 s1 H1 ex1).comp N scope C c b ex) elt te)
  (m:∀ x,foldedSetIterable iter (X.comp N1 sc1 C1 s1 H1 ex1).env x=pure x:=by intro _;rfl):PE (X.comp N1 sc1 C1 s1 H1 ex1) (.ListComp elt [⟨tg,iter,ifs,0⟩] scope pos) (qdy wi g tc te nl ixs):=
 jo (sc:=relabel sc1 X.env) (XN:=N1) N nl ixs rfl rfl hc (compB_re d) f a l i e n h m
end
section
variable {X:Cx} {K:yg}
end
noncomputable abbrev Cx.soft (X:Cx):Cx:={ X with calm:=false }
structure RoomW (k:Nat) (A:Around):Prop where
 dp:A.depth+3*k+5<recursionLimit
 un:A.units+16*k+200<cLine
 gd:A.guards=some []
theorem RoomW.deeper {k:Nat} {A:Around} (r:RoomW (k+1) A) (env:Env):RoomW k (A.deeper env):=
 ⟨by have:=r.dp;show A.depth+1+3*k+5<_;omega,by have:=r.un;show A.units+3+16*k+200<_;omega,r.gd⟩
theorem Room.soft {j k:Nat} {A:Around} {h:Option Value} (r:Room k A) (l:j<=k):RoomW j (A.mark h):=⟨by have:=r.dp;show A.depth+3*j+5<_;omega,by have:=r.un;show A.units+16*j+200<_;omega,r.gd⟩
structure FnOkW (P:Program) (w:World) (K:yg) (mg:Str->Option Value) (base:Heap) (k:Nat) (f:Addr) (fd:FuncData) (ps:List Str) (sp:Sp):Prop where
 len:∀ vs H Q E,sp vs H Q E->vs.length=ps.length
 run:∀ (A:Around) (outer:List Env) (s:Shared) (H:Hp) (args:Args) (us:List Value) (vs:List V) (Q:VK) (E:XK),RoomW k A->Env0 P w K mg base A outer s H->BindsTo s fd args (ps.zip us)->Vals vs us->sp vs H Q E ->
  codeAny (model P w) A (.call (.ref f) args) (CR CX0 outer P w H s Q E) s
structure DefOkW (P:Program) (w:World) (K:yg) (mg:Str->Option Value) (base:Heap) (k:Nat) (x:Str) (ps:List Str) (sp:Sp):Prop where
 ex:∃ f fd,FnOkW P w K mg base k f fd ps sp/\mg x=some (.ref f)/\PySem.W.keepIn K (.ref f)=true/\Binds K fd ps []
section
variable {X:Cx} {k:Nat} {f C:Addr} {fd:FuncData} {ps:List Str} {sp:Sp} {x m:Str} {p pos apos:Pos} {e o:Expr} {es:List Expr} {ta:TE} {t:TA}
end
section
variable {P:Program} {w:World} {K:yg} {mg:Str->Option Value} {base:Heap}
end
section
variable {prog:Program} {w:World} {A:Around} {E:Value->Shared->Prop} {s:Shared}
abbrev IsZp (h:Heap) (z TI TO:Addr) (b:Value) (a:Bool):Prop:=h.get? z=some { cls:=.type "zip",dict:=none,data:=.fields #[b,.bool a,.bool false,.ref TI,.ref TO],slots:=#[] }
def ZAt (z TI TO N:Nat) (h:Heap):Prop:=IsZip h z TI TO .none\/∃ T a o,N<=T/\IsZp h z TI TO (rawInt (T:Nat)) a/\h.get? T=some o
end
structure LZ (z TI TO i1 i2 a b S N:Nat) (xs ys:Array Value) (h0:Heap) (i:Nat) (acc:Array Value) (c:Nat) (h:Heap):Prop where
 zp:ZAt z TI TO N h
 ti:IsPair h TI (.ref i1) (.ref i2)
 tO:∃ u v,IsPair h TO u v
 j1:h.IsListIter i1 a i
 j2:h.IsListIter i2 b i
 la:h.IsList a xs
 lb:h.IsList b ys
 ls:h.get? S=some { cls:=.type "list",dict:=none,data:=.seq acc c,slots:=#[] }
 sz:N<=h.objs.size
 len:acc.size=i
 its:∀ (j:Nat) v,acc[j]?=some v->∃ t x y,v=.ref t/\N<=t/\IsPair h t x y/\xs[j]?=some x/\ys[j]?=some y
 nd:∀ (j k:Nat) v,acc[j]?=some v->acc[k]?=some v->j=k
 kp:∀ q o,q<N->q≠z->q≠TO->q≠i1->q≠i2->q≠S->h0.get? q=some o->h.get? q=some o
structure LE (z TO i1 i2 S N:Nat) (xs ys:Array Value) (h0:Heap) (n:Nat) (acc:Array Value) (c:Nat) (h:Heap):Prop where
 ls:h.get? S=some { cls:=.type "list",dict:=none,data:=.seq acc c,slots:=#[] }
 len:acc.size=n
 its:∀ (j:Nat) v,acc[j]?=some v->∃ t x y,v=.ref t/\N<=t/\IsPair h t x y/\xs[j]?=some x/\ys[j]?=some y
 nd:∀ (j k:Nat) v,acc[j]?=some v->acc[k]?=some v->j=k
 kp:∀ q o,q<N->q≠z->q≠TO->q≠i1->q≠i2->q≠S->h0.get? q=some o->h.get? q=some o
structure LA (z TI TO i1 i2 a b S N:Nat):Prop where
 D:ZipApart z TI TO i1 i2 a b
 lt:z<S/\TI<S/\TO<S/\i1<S/\i2<S/\a<S/\b<S
 S:S<N
section
variable {prog:Program} {w:World} {A:Around} {R:Result->Shared->Prop} {z TI TO i1 i2 a b S N:Nat} {xs ys:Array Value} {h0:Heap}
end
section
variable {prog:Program} {w:World} {A:Around} {E:Value->Shared->Prop} {s:Shared}
end
structure Zl (H H':Hp) (l:Addr) (ts:List Addr) (xs ys:List V):Prop where
 sm:L2.Same H H'
 fl:H l=none
 ls:H' l=some (.lst (ts.map V.ref))
 len:ts.length=min xs.length ys.length
 tp:∀ (j:Nat) t,ts[j]?=some t->H t=none/\∃ x y,xs[j]?=some x/\ys[j]?=some y/\H' t=some (.tup [x,y])
section
variable {X:Cx}
end
section
variable {prog:Program} {w:World} {A:Around} {E:Value->Shared->Prop} {s:Shared} {a:Addr}
def TxS (w:World) (h:Heap) (a:Addr) (b:List Str):Prop:=
 ∃ (es:Array (Int×Value)) (ep:Nat) (t:SetTable),h.get? a=some { cls:=.type "set",dict:=none,data:=.set es ep t } /\
  (∀ e∈es.toList,∃ k u,e=(hashStr w k,Value.str k u))/\(es.toList.map fun e=>strOf e.2).Perm b/\t.fits es.size=true/\(es.size=0\/t.plain=false)/\es.size<scanBound
theorem TxS.keep {h h':Heap} {b:List Str} (x:TxS w h a b) (e:∀ o,h.get? a=some o->h'.get? a=some o):TxS w h' a b:=by
 obtain ⟨es,ep,t,c,r⟩:=x;exact ⟨es,ep,t,e _ c,r⟩
theorem TxS.len {h:Heap} {a:List Str} {es:Array (Int×Value)} (p:(es.toList.map fun e=>strOf e.2).Perm a):es.size=a.length:=by
 rw [<- p.length_eq,ya,Yh]
theorem or_plain {t:SetTable} {n:Nat} (a:t.plain=false):(t.orStandIn n).plain=false:=by
 unfold SetTable.orStandIn;split
 .exact a
 .rfl
theorem lay_plain {t:SetTable} {es:Array (Int×Value)} {h:Int} {x:Value} (a:t.plain=false):(layNew t es h x).2.1.plain=false:=by
 unfold layNew;split
 .exact or_plain a
 .rfl
theorem laid_plain {m f v:Nat} {l p:Bool} {a:Array Int} {r:SetTable×Array Nat} (h:SetTable.laid m f v l p a=some r):r.1.plain=p:=by
 unfold SetTable.laid at h
 cases hc:SetTable.layClean m a with
 | none=>rw [hc] at h;cases h
 | some o=>rw [hc] at h;cases h;rfl
theorem relay_plain {t:SetTable} {es:Array (Int×Value)} {n:Nat} (a:t.plain=false):(relayAll t es n).2.1.plain=false:=by
 unfold relayAll;split
 .rename_i t' order h
  dsimp only;split
  .rw [laid_plain (r:=(t',order)) h];exact a
  .rfl
 .rfl
theorem elems_of {es:List (Int×Value)} (h:∀ e∈es,∃ k u,e=(hashStr w k,Value.str k u)):ElemsOf (PySem.strKind prog w) es:=by
 intro e a;obtain ⟨k,u,rfl⟩:=h e a;exact ⟨⟨k,strKind_is _ _ _ _,rfl⟩,rfl⟩
theorem qdS {h:Heap} {es es':Array (Int×Value)} {ep:Nat} {t t':SetTable} (b:h.get? a=some { cls:=.type "set",dict:=none,data:=.set es ep t }):(h.update a (Obj.putSet es' t')).get? a=some { cls:=.type "set",dict:=none,data:=.set es' (ep+1) t' }:=by
 have:=Yt (Obj.putSet es' t') b rfl;exact this
theorem add_txt {G:List Str} {k:Str} {u:Tok} {Q:Bool->Shared->Prop} (hS:TxS w s.heap a G) (hk:k∉G) (hb:G.length+1<scanBound)
  (h:∀ h',Heap.SameBut a s.heap h'->TxS w h' a (G++[k])->Q true { s with heap:=h' }) :
  wpAny (model prog w) A (setAddHashed a (.str k u) (hashStr w k)) Q E s:=by
 obtain ⟨es,ep,t,U,y,hp,hf,ad,hsz⟩:=hS;have m:=elems_of (prog:=prog) y;unfold setAddHashed setAddHashedIn;refine Yn (yr (YI U rfl hf ?_));dsimp only;rw [byScan_of (knd:=PySem.strKind prog w) rfl hsz m];simp only [↓reduceIte];unfold setAddByScan;refine yr ?_;refine yr (kq ?_);refine yr (wpAny_setScan_of (knd:=PySem.strKind prog w) (k:=k) (strKind_is _ _ _ _) U rfl hf m ?_)
 have ab:es.toList.findIdx? (fun e=>(PySem.strKind prog w).is k e.2)=none:=by
  rw [List.findIdx?_eq_none_iff];intro e H;obtain ⟨k',u',rfl⟩:=y e H;have aa:k≠k':=fun X=>hk (hp.mem_iff.mp (Y1.mpr ⟨_,H,X.symm⟩))
  cases hc:(PySem.strKind prog w).is k (Value.str k' u') with
  | false=>rfl
  | true=>exact absurd ((PySem.strKind prog w).inj _ _ _ hc (strKind_is _ _ _ _)) aa
 rw [ab];dsimp only;have d:=layNew_perm t es (hashStr w k) (.str k u);have f:=layNew_fits t es (hashStr w k) (.str k u);have N:=@lay_plain t es (hashStr w k) (.str k u);generalize layNew t es (hashStr w k) (.str k u)=L at d f N ⊢;obtain ⟨c,t1,T,ac⟩:=L;dsimp only at d f N ⊢;rw [Array.toList_push] at d
 have M:∀ (b:Bool) {l:Shared} {W:Unit->Shared->Prop},W () l->wpAny (model prog w) A (match b with | true=>rule "set.scan.the-table-gave-way" | false=>pure ()) W E l:=
  fun b l W hq=>by cases b<;>first | exact yu hq | exact kq hq
 have o:∀ e∈c.toList,∃ k u,e=(hashStr w k,Value.str k u):=fun e H=>by
  rcases yx.mp (d.mem_iff.mp H) with h1 | h1
  .exact y e h1
  .exact ⟨k,u,yB.mp h1⟩
 have C:(c.toList.map fun e=>strOf e.2).Perm (G++[k]):=by
  refine (d.map _).trans ?_;rw [yF];exact hp.append_right _
 have F:c.size<scanBound:=by rw [TxS.len (h:=s.heap) C,yt];exact hb
 have S:=fits_of_scanBound F;refine yr (M _ ?_)
 have v:∀ g:SetTable,g.fits c.size=true->g.plain=false->wpAny (model prog w) A (do
    storeSet a c g
    if (!T&&g.tooFull)=true then do
      (match (relayAll g c (SetTable.grown c.size)).2.2 with | true=>rule "set.scan.the-table-gave-way" | false=>pure ())
      storeSet a (relayAll g c (SetTable.grown c.size)).1 (relayAll g c (SetTable.grown c.size)).2.1
      pure (some true)
     else pure (some true)) (fun r I=>∃ h',r=some true/\I={ s with heap:=h' }/\Heap.SameBut a s.heap h'/\TxS w h' a (G++[k])) E s:=by
  intro g Z O;refine yr (wpAny_storeSet_of U rfl ?_ S);have B:=qdS (es':=c) (t':=g) U;have p:=YV s.heap a (Obj.putSet c g);split
  .have i:=relayAll_perm g c (SetTable.grown c.size);have z:=relayAll_fits g c (SetTable.grown c.size);have D:=relay_plain (es:=c) (n:=SetTable.grown c.size) O;generalize relayAll g c (SetTable.grown c.size)=R at i z D ⊢;obtain ⟨J,t3,g2⟩:=R;dsimp only at i z D ⊢;have P:J.size=c.size:=by rw [<- Yh,i.length_eq,Yh]
   refine yr (M _ ?_);refine yr (wpAny_storeSet_of B rfl ?_ (by rw [P];exact S));exact yu ⟨_,rfl,rfl,p.trans (YV _ a _),J,_,t3,qdS B,fun e H=>o e (i.mem_iff.mp H),(i.map _).trans C,z,.inr D,by rw [P];exact F⟩
  .exact yu ⟨_,rfl,rfl,p,c,_,g,B,o,C,Z,.inr O,F⟩
 have K:∀ {r:Option Bool} {I:Shared},(∃ h',r=some true/\I={ s with heap:=h' }/\Heap.SameBut a s.heap h'/\TxS w h' a (G++[k]))->Q true I/\r=some true:=fun ⟨h',e,X,Y,hT⟩=>by
  subst X;exact ⟨h h' Y hT,e⟩
 split
 .refine yr ?_;rw [hashByValue_scannable 8 rfl];refine yu ?_;refine YG (v _ ?_ ?_) (fun r I x=>?_) fun _ _ e=>e
  .exact SetTable.fits_plain_off f
  .rfl
  .obtain ⟨q,rfl⟩:=K x;exact yu q
 .rename_i hpf
  refine yr (yu ?_);simp only [↓reduceIte];refine YG (v _ f (by simpa using hpf)) (fun r I x=>?_) fun _ _ e=>e;obtain ⟨q,rfl⟩:=K x;exact yu q
theorem loop_txt {I:Addr} {T C:List Addr} {G:Array GenState->Array GenState->Prop} {P:Nat->Value->Prop} {St:Nat->Shared->Prop} {R:Result->Shared->Prop} {ks:List Str} (W:WalksS prog w A.in1 I T C G ks.length P St) (p:a∉T)
  (B:∀ i v,P i v->∃ (k:Str) (t:Tok),ks[i]?=some k/\v=.str k t) (hn:ks.Nodup) (l:ks.length+1<scanBound) :
  ∀ (n i:Nat) (s:Shared),ks.length-i=n->i<=ks.length->St i s->TxS w s.heap a (ks.take i) ->
   (∀ c,Moved (a::C) G s c->TxS w c.heap a ks->R (.ok (.ret .none)) c) ->
   codeAny (model prog w) A (.builtin "set.update.loop" ⟨[.ref a,.ref I],[]⟩) R s:=by
 have q:a∉C:=fun h=>p (W.sub _ h);have g:∀ b∈C,b∈a::C:=fun b l=>yC _ l;intro n
 induction n with
 | zero =>
  intro i s hk Y f D E;have e:ks.take i=ks:=YD (by omega);rw [e] at D;have L:i=ks.length:=by omega
  rw [L] at f;refine Xe PyProof.Rows.F.entry_set_update_loop ?_;rw [xV xi _];show wpAny _ A.in1 (pyNext (.ref I)>>=_) _ _ s;refine yr (W.done s _ _ f fun c u=>?_);show wpAny _ A.in1 (ret Value.none) _ _ c;exact yu (E c (u.mono g) (D.keep fun o e=>u.heap a _ q e))
 | succ n ih =>
  intro i s hk Y f D E;have d:i<ks.length:=by omega
  refine Xe PyProof.Rows.F.entry_set_update_loop ?_;rw [xV xi _];show wpAny _ A.in1 (pyNext (.ref I)>>=_) _ _ s;refine yr (W.item i s _ _ d f fun v c X z u=>?_);obtain ⟨k,t,S,rfl⟩:=B i v X;have r:ks[i]=k:=by rw [yb d] at S;exact ym S
  have H:TxS w c.heap a (ks.take i):=D.keep fun o e=>u.heap a _ q e;show wpAny _ A.in1 (holding [Value.str k t] (setAdd a (.str k t))>>=_) _ _ c;refine yr (Yn ?_);unfold setAdd;refine Yn ?_;refine yr ((PySem.strKind prog w).pyHash (k:=k) (strKind_is _ _ _ _) ?_);refine add_txt (s:={ c with toks:=c.toks+1 }) H (fun N=>?_) (by rw [yJ];omega) fun h' y J=>?_
  .obtain ⟨j,Z,U⟩:=List.mem_take_iff_getElem.mp N;have M:j<i:=yj Z (Nat.min_le_left _ _);exact (Yp.mp hn) j i (by omega) d M (U.trans r.symm)
  .have K:TxS w h' a (ks.take (i+1)):=by rw [List.take_succ_eq_append_getElem d,r];exact J
   refine yu ⟨X9 xi _,ih (i+1) _ (by omega) d (W.frame _ c _ _ z (xw _) fun b l o e=>?_) K fun O x m=>?_⟩
   .rw [y.2 b (fun h:b=a=>p (by rw [<- h];exact l))];exact e
   .refine E O (Moved.trans W.gtrans ((u.mono g).then_heap (xw _) fun b o l e=>?_) x) m;rw [y.2 b (fun h:b=a=>l (by rw [h];exact yO))];exact e
theorem fresh_txt {h:Heap} {b:Bool} (e:h.get? a=some { cls:=.type "set",dict:=none,data:=.set #[] 0 (.fresh 0 0 b) }):TxS w h a []:=
 ⟨#[],0,_,e,fun e c=>by simp at c,.refl _,rfl,.inl rfl,by decide⟩
theorem set_txt {l:Addr} {f:Array Value} {ks:List Str} {Q:Value->Shared->Prop} (hh:A.handled=none) (hl:s.heap.IsList l f) (B:f.size=ks.length)
  (H:∀ (i:Nat) (v:Value),f[i]?=some v->∃ (k:Str) (t:Tok),ks[i]?=some k/\v=.str k t) (hn:ks.Nodup) (hb:ks.length+1<scanBound)
  (h:∀ (h':Heap) (tk:Nat),TxS w h' s.heap.objs.size ks->(∀ b o,s.heap.get? b=some o->h'.get? b=some o)->Q (.ref s.heap.objs.size) { s with heap:=h',toks:=tk }) :
  wpAny (model prog w) A (call (.type "set") [.ref l]) Q E s:=by
 obtain ⟨c,tl,Z⟩:=F.called_set.mro;have P:=F.called_set.made;have ad:=F.called_set.sub;refine Xv (codeAny_of_tree ?_);show wpAny _ _ (callAny (.type "set") _) _ _ _;refine yu ⟨Code.quiet_builtin _ (by decide +kernel),Xe F.entry_type_call ?_⟩;rw [Around.under_plain (weight_type_call_type "set" [.ref l] []) rfl];have h1:=F.called_set.notType;have h2:=F.called_set.canCreate;have ag:=F.typeCall_set_1 (.ref l)
 repeat (any_goals (first | assumption | wp_step))
 refine xY (code_set_new_1 (.ref l) (E:=E) (Q₁:=fun I g=>∃ d:Bool,I=.ref s.heap.objs.size/\g={ s with heap:=s.heap.push { cls:=.type "set",dict:=none,data:=.set #[] 0 (.fresh 0 0 d) } }) fun d=>⟨d,rfl,rfl⟩) fun r g G=>?_
 cases r with
 | error e=>exact G
 | ok fl =>
  cases fl with
  | next=>exact G.elim
  | brk=>exact G.elim
  | cont=>exact G.elim
  | ret I =>
   obtain ⟨d,rfl,rfl⟩:=G;generalize q:({ cls:=.type "set",dict:=none,data:=.set #[] 0 (.fresh 0 0 d) }:Obj)=o0;have Y:(s.heap.push o0).get? s.heap.objs.size=some o0:=yL _ (by rw [<- q];rfl);have hT:Shared.TypeIs { s with heap:=s.heap.push o0 } (.ref s.heap.objs.size) "set":=⟨_,Y,by rw [<- q]⟩;have ah:=F.called_set.init.lookup;have af:=F.called_set.init.bind (.ref s.heap.objs.size)
   repeat (any_goals (first | assumption | wp_step))
   refine xY (xy (R:=wants (fun r m=>r=.none/\∃ h' tk,m={ s with heap:=h',toks:=tk }/\TxS w h' s.heap.objs.size ks/\(∀ b o,s.heap.get? b=some o->h'.get? b=some o)) E) F.called_set.init.plain F.entry_set_init (check_set_init_1 hT ?_)) fun J m a=>?_
   .obtain ⟨ol,D,u,nl,x⟩:=id hl;obtain ⟨ae,T,S,L⟩:=ol;simp only at u x;subst u;subst x;have aa:=yv o0 D;have ac:=F.sub_list_set;have ab:=F.sub_list_frozenset;have ai:(Value.type "list"==Value.type "dict")=false:=by decide
    have y:(s.heap.push o0).IsList l f:=hl.push _;subst q;unfold Builtin.«set.__init__» noKeywords Builtin.Frozenset.updateFrom;generalize M:pyIter=PI
    wp_walk
    subst M;refine Xo y ?_;refine yr (wpAny_runValue ?_);have z:l<s.heap.objs.size:=yM D;have N:A.in1.in1.in1.handled=none:=by simp [hh]
    have W:=(Walks.list (prog:=prog) (w:=w) N (s.heap.push { cls:=.type "set",dict:=none,data:=.set #[] 0 (.fresh 0 0 d) }).objs.size l (by rw [YJ];exact y0 (Xn z)) f).toS;rw [B] at W;refine loop_txt W (by rw [YJ];simp only [yy,yX,YO,not_or];exact ⟨y0 (xF _),Xm z⟩) H hn hb (ks.length-0) 0 _ rfl (YW _) ⟨⟨_,yL _ rfl,rfl,rfl⟩,(y.push _)⟩ (fresh_txt (yv _ Y)) ?_;intro s' K n;obtain ⟨h',g',d',X,U⟩:=s';have eg:g'=s.gens:=K.gens;have ed:d'=s.drawn:=K.drawn;have eo:U=s.os:=K.os;subst eg;subst ed;subst eo;show wpAny _ _ _ _ _ _;refine yu ?_;show wpAny _ _ (ret Value.none) _ _ _;refine yu ⟨rfl,h',X,rfl,n,fun b o e=>K.heap b o (fun p=>?_) (yv _ (yv _ e))⟩;have C:=yM e;rw [YJ] at p;simp only [yy,yX,YO] at p;rcases p with rfl | rfl
    .exact absurd C (Yo _)
    .exact absurd (Nat.lt_of_succ_lt C) (Yo _)
   .cases J with
    | error e=>exact a
    | ok fl₂ =>
     cases fl₂ with
     | next=>exact a.elim
     | brk=>exact a.elim
     | cont=>exact a.elim
     | ret r =>
      obtain ⟨rfl,h',tk,rfl,n,O⟩:=a
      repeat (any_goals (first | assumption | wp_step))
      exact h _ _ n O
end
theorem si_next:Slot "set_iterator" "__next__" "set_iterator.__next__":=
 .of (owner:="set_iterator") (n:="__next__") (by rw [typeLookup_type,builtinLookup_eq_fast];kernel_rfl) (by decide +kernel) (by decide +kernel) (by decide +kernel)
  (by first | exact .inl (by decide +kernel) | exact .inr (by decide +kernel)) (by rw [isSubtype_type];kernel_rfl)
theorem zl:entryFor table "set_iterator.__next__"=some Builtin.«set_iterator.__next__»:=entryFor_of_tree (by kernel_rfl)
theorem qcB:Manifest.owners.lookup (String.ofList ['r','o','t','a','r','e','t','i','_','t','e','s'].reverse)=some Manifest.sig_set_iterator:=by kernel_rfl
theorem zA (a:Value):argsOk "set_iterator.__next__" ⟨[a],[]⟩:=by
 unfold argsOk;rw [signature?_of (id:="set_iterator.__next__") (n:=['_','_','t','x','e','n','_','_']) (o:=['r','o','t','a','r','e','t','i','_','t','e','s']) (by kernel_rfl) qcB];kernel_rfl
theorem qdg:Slot "set_iterator" "__iter__" "set_iterator.__iter__":=
 .of (owner:="set_iterator") (n:="__iter__") (by rw [typeLookup_type,builtinLookup_eq_fast];kernel_rfl) (by decide +kernel) (by decide +kernel) (by decide +kernel)
  (by first | exact .inl (by decide +kernel) | exact .inr (by decide +kernel)) (by rw [isSubtype_type];kernel_rfl)
theorem si_iter_entry:entryFor table "set_iterator.__iter__"=some Builtin.«dict_keyiterator.__iter__»:=
 entryFor_alias (id':="dict_keyiterator.__iter__") (by kernel_rfl) rfl (by decide +kernel) (by kernel_rfl)
theorem si_iter_args (a:Value):argsOk "set_iterator.__iter__" ⟨[a],[]⟩:=by
 unfold argsOk;rw [signature?_of (id:="set_iterator.__iter__") (n:=['_','_','r','e','t','i','_','_']) (o:=['r','o','t','a','r','e','t','i','_','t','e','s']) (by kernel_rfl) qcB];kernel_rfl
theorem zS:entryFor table "set.__iter__"=some Builtin.«frozenset.__iter__»:=
 entryFor_alias (id':="frozenset.__iter__") (by kernel_rfl) rfl (by decide +kernel) (by kernel_rfl)
theorem qcc {a:Type}:∀ (l:List a) (k:Nat) (h:k<l.length),(l[k]::l.eraseIdx k).Perm l
 | _::_,0,_=>.refl _
 | x::l,k+1,h=>(ky x _ _).trans ((qcc l k (Nat.lt_of_succ_lt_succ h)).cons x)
theorem qau {b:Type} (f:Nat->Nat):∀ (n k:Nat) (xs:List b) (out:Array b),xs.length<=n->(pickOrder.go f n k xs out).toList.Perm (out.toList++xs)
 | 0,k,xs,out,h=>by
  cases List.length_eq_zero_iff.mp (Nat.le_zero.mp h);rw [pickOrder.go,Yl]
 | n+1,k,xs,out,h=>by
  rw [pickOrder.go];split
  .rename_i x hx
   have a:f k % xs.length<xs.length:=(yc.mp hx).1;refine (qau f n (k+1) _ _ (by rw [xW a];omega)).trans ?_;rw [Array.toList_push,yY];refine List.Perm.append_left _ ?_;have c:=(yc.mp hx).2;rw [<- c];exact qcc _ _ a
  .rename_i hx
   have:xs=[]:=by
    cases xs with
    | nil=>rfl
    | cons x r=>exact absurd (List.getElem?_eq_none_iff.mp hx) (Nat.not_le.mpr (Nat.mod_lt _ (Nat.zero_lt_succ _)))
   rw [this,Yl]
section
variable {prog:Program} {w:World} {A:Around} {E:Value->Shared->Prop} {s:Shared} {a:Addr}
theorem wp_choose' {a:Source} {n:Nat} {Q:Nat->Shared->Prop} (b:n≠0) (h:∀ i d,i<n->Q i { s with drawn:=d }):wpAny (model prog w) A (choose a n) Q E s:=fun _ _ _ =>
 ⟨b,h _ _ (Nat.mod_lt _ (Nat.pos_of_ne_zero b))⟩
theorem qbR {b:Type}:∀ (n:Nat) (xs:List b) (s:Shared) (Q:List b->Shared->Prop),xs.length=n->(∀ ys d,ys.Perm xs->Q ys { s with drawn:=d })->wpAny (model prog w) A (drawOrder n xs) Q E s
 | 0,xs,s,Q,h,hq=>by
  cases List.length_eq_zero_iff.mp h;exact yu (hq [] s.drawn (.refl _))
 | n+1,x::r,s,Q,h,hq=>by
  rw [drawOrder]
  .refine yr (wp_choose' (by simp) fun i d a=>?_);rw [yb a];dsimp only;refine yr (qbR n _ _ _ (by rw [xW a];simpa using h) fun ys d' c=>?_);exact yu (hq _ d' ((c.cons _).trans (qcc _ _ a)))
  .intro e;cases e
end
noncomputable def siO (f:Value) (i:Nat) (a:Addr) (n ep:Nat):Obj:={ cls:=.type "set_iterator",data:=.fields #[f,.int i 0,.ref a,.int n 0,.int ep 0] }
section
variable {prog:Program} {w:World} {A:Around} {E:Value->Shared->Prop} {s:Shared} {a I T:Addr} {es:Array (Int×Value)} {ep i:Nat} {t:SetTable} {f:Value} {Q:Option Value->Shared->Prop}
theorem zm (b:s.heap.get? I=some (siO f i a es.size ep)):s.TypeIs (.ref I) "set_iterator":=⟨_,b,rfl⟩
theorem qbS {k:Nat} {Q:Option (Value×Nat)->Shared->Prop} (f:w.params.followText "set-order"=true) (c:s.heap.get? a=some { cls:=.type "set",dict:=none,data:=.set es ep t }) (d:t.fits es.size=true)
  (h:Q (((pickOrder (w.params.setOrder a ep) es)[i]?).map fun e=>(e.2,k)) s):wpAny (model prog w) A (setNext a k i ep) Q E s:=by
 have b:∀ {Q:Bool->Shared->Prop} {E:Value->Shared->Prop},Q true s->wpAny (model prog w) A setsByText Q E s:=fun {Q E} q=>by
  unfold setsByText;refine yr (YZ (yu ?_));show Q (w.params.followText "set-order") s;rw [f];exact q
 unfold setNext;refine yr (YI c rfl d ?_);dsimp only;refine yr (b ?_);rw [yK rfl,yD (by simp)];unfold setWalk;refine yr ?_;refine yr (YI c rfl d ?_);dsimp only;refine yr (b ?_);rw [yK rfl];refine yr (YZ (yu ?_));exact yu h
theorem qdh {s₀:Shared} {h:Heap} (o:A.handled=none) (g:s={ s₀ with heap:=h }) (l:h.get? I=some { cls:=.type "set_iterator",data:=.fields #[f,.int i 0,.ref a,.int es.size 0,.int ep 0] })
  (n:∀ h',Heap.ExtBut I h h'->Q none { s₀ with heap:=h' }) :
  wpAny (model prog w) A.in1 (do
     setField (Value.ref I) 2 Value.none
     let x <- newExc (Value.type "StopIteration") []
     raiseNew x)
    (fun c d=>∃ v,c=Fin.done (Flow.ret v)/\wpAny (model prog w) A (pure (some v)) Q E d)
    (fun e d =>
     wpAny (model prog w) A
      (do
       let r <- isInstance e (Value.type "StopIteration")
       if r=true then pure none else throw e)
      Q E d) s:=by
 subst g;refine yr (Xq l rfl (by simp) ?_);refine yr ?_;simp only [newExc,newTuple];refine yr (Yc ?_ (by size_fits));refine yr (m:=firstArgMember _ _) (YN (a:=Value.none) (by first | rfl | (simp only [firstArgMember];rfl)) ?_);refine Yc ?_ (by size_fits);simp only [raiseNew];refine yr (wpAny_handled ?_);rw [show A.in1.handled=none from o];refine yr (yu (wpAny_throw ?_));refine yr (kh (T:="StopIteration") (b:=true) ⟨_,yL _ rfl,rfl⟩ isSubtype_stop ?_);exact yu (n _ (((YV ..).extBut.push _).push _))
theorem qbT (l:A.handled=none) (h:w.params.followText "set-order"=true) (b:s.heap.get? I=some (siO (.int 0 0) i a es.size ep)) (c:s.heap.get? a=some { cls:=.type "set",dict:=none,data:=.set es ep t }) (d:t.fits es.size=true)
  (g:∀ x,(pickOrder (w.params.setOrder a ep) es)[i]?=some x->∀ h',h'.get? I=some (siO (.int 0 0) (i+1) a es.size ep)->Heap.SameBut I s.heap h'->Q (some x.2) { s with heap:=h' })
  (f:(pickOrder (w.params.setOrder a ep) es)[i]?=none->∀ h',Heap.ExtBut I s.heap h'->Q none { s with heap:=h' }) :
  wpAny (model prog w) A (pyNext (.ref I)) Q E s:=by
 unfold pyNext;refine yr (Xz (Y4 (name:=Str.ofString "__next__") (zm b) si_next
  (YB si_next (zm b) zl ?_ (zA _))))
 unfold Builtin.«set_iterator.__next__»;refine yr (yu ?_);dsimp only;refine yr (wpAny_fieldsOf b rfl ?_);dsimp only;refine yr (xC c rfl d ?_);rw [yD (by simp)];simp only [Yx];refine yr (qbS h c d ?_)
 cases e:(pickOrder (w.params.setOrder a ep) es)[i]? with
 | none =>
  exact qdh l rfl b (f e)
 | some x =>
  show wpAny _ _ (setField (Value.ref I) 0 (rawInt 0)>>=fun _=>setField (Value.ref I) 1 (rawInt (↑i+1))>>=fun _=>ret x.2) _ _ _;refine yr (Xq b rfl (by simp [siO]) ?_);have h1:=Yt (Obj.mapFields (·.setIfInBounds 0 (rawInt 0))) b rfl;refine yr (Xq h1 rfl (by simp [siO]) (yu ⟨_,rfl,yu (g x e _ ?_ ((YV ..).trans (YV ..)))⟩));exact Yt _ h1 rfl
end
section
variable {prog:Program} {w:World} {A:Around} {E:Value->Shared->Prop} {s:Shared} {a I T:Addr} {es:Array (Int×Value)} {ep i:Nat} {t:SetTable} {f:Value} {Q:Option Value->Shared->Prop} {js:List Nat}
theorem qbU (v:A.handled=none) (c:s.heap.get? I=some (siO (.ref T) i a es.size ep)) (d:s.heap.get? a=some { cls:=.type "set",dict:=none,data:=.set es ep t }) (h:t.fits es.size=true)
  (p:s.heap.get? T=some { cls:=.type "tuple",data:=.seq (js.map fun j:Nat=>rawInt j).toArray })
  (n:∀ j,js[i]?=some j->∃ x,es[j]?=some x/\∀ h',h'.get? I=some (siO (.ref T) (i+1) a es.size ep)->Heap.SameBut I s.heap h'->Q (some x.2) { s with heap:=h' })
  (m:js[i]?=none->∀ h',Heap.ExtBut I s.heap h'->Q none { s with heap:=h' }) :
  wpAny (model prog w) A (pyNext (.ref I)) Q E s:=by
 unfold pyNext;refine yr (Xz (Y4 (name:=Str.ofString "__next__") (zm c) si_next
  (YB si_next (zm c) zl ?_ (zA _))))
 unfold Builtin.«set_iterator.__next__»;refine yr (yu ?_);dsimp only;refine yr (wpAny_fieldsOf c rfl ?_);dsimp only;refine yr (xC d rfl h ?_);rw [yD (by simp)];refine yr (wpAny_seqItems p rfl ?_);simp only [Yx];have u:(js.map fun j:Nat=>rawInt j).toArray[i]?=(js[i]?).map fun j:Nat=>rawInt j:=by simp
 rw [u]
 cases l:js[i]? with
 | none =>
  show wpAny _ _ (setField (Value.ref I) 0 (rawInt 0)>>=fun _=>setField (Value.ref I) 2 .none>>=fun _=>newExc (.type "StopIteration") []>>=fun x=>raiseNew x) _ _ _;refine yr (Xq c rfl (by simp [siO]) ?_);have h1:=Yt (Obj.mapFields (·.setIfInBounds 0 (rawInt 0))) c rfl;refine qdh (s₀:=s) v rfl (f:=rawInt 0) h1 fun h' r=>m l h' ?_;exact fun b o g e=>r b o g ((YV ..).extBut b o g e)
 | some j =>
  obtain ⟨x,ex,q⟩:=n j l;show wpAny _ _ (setNextDrawn a ((j:Int)).toNat ep>>=fun x=>setField (Value.ref I) 1 (rawInt (↑i+1))>>=fun _=>ret x) _ _ _;rw [Yx];unfold setNextDrawn;refine yr (yr (YI d rfl h ?_));dsimp only;rw [yD (by simp),ex];refine yu ?_;refine yr (Xq c rfl (by simp [siO]) (yu ⟨_,rfl,yu (q _ ?_ (YV ..))⟩));exact Yt _ c rfl
theorem qcd {Q:Value->Shared->Prop} (b:s.heap.get? I=some (siO f i a es.size ep)) (h:Q (.ref I) s):wpAny (model prog w) A (pyIter (.ref I)) Q E s:=by
 refine X5 (zm b) qdg (YB qdg (zm b) si_iter_entry ?_ (si_iter_args _));show wpAny _ _ (ret (.ref I)) _ _ s;exact yu ⟨_,rfl, "set_iterator",_,zm b,si_next.lookup,h⟩
theorem walkA (n:A.handled=none) (c:w.params.followText "set-order"=true) (l:a≠I) (m:t.fits es.size=true) (y:(pickOrder (w.params.setOrder a ep) es).size=es.size) :
  Walks prog w A I [I,a] [I] es.size (fun i v=>∃ x,(pickOrder (w.params.setOrder a ep) es)[i]?=some x/\v=x.2) (fun i h=>h.get? I=some (siO (.int 0 0) i a es.size ep)/\h.get? a=some { cls:=.type "set",dict:=none,data:=.set es ep t }) where
 sub:=fun b c=>by simp at c;simp [c]
 frame:=fun _ _ _ st p=>⟨p I (by simp) _ st.1,p a (by simp) _ st.2⟩
 item:=fun i s Q E u st d=>by
  refine qbT n c st.1 st.2 m (fun x f h' g q=>?_) fun f=>?_
  .exact d _ h' s.toks ⟨x,f,rfl⟩ ⟨g,q.extBut a _ l st.2⟩ fun b o c e=>q.extBut b o (fun h=>c (by simp [h])) e
  .rw [Array.getElem?_eq_none_iff] at f;omega
 done:=fun s Q E st d=>qbT n c st.1 st.2 m (fun x f=>by have:=(Array.getElem?_eq_some_iff.mp f).1;omega) fun _ h' r=>d h' s.toks fun b o c e=>r b o (fun h=>c (by simp [h])) e
 self:=fun _ _ _ _ st d=>qcd st.1 d
theorem walkB (r:A.handled=none) (m:a≠I) (y:T≠I) (q:t.fits es.size=true) (n:js.Perm (List.range es.size)) :
  Walks prog w A I [I,a,T] [I] es.size (fun i v=>∃ j x,js[i]?=some j/\es[j]?=some x/\v=x.2) (fun i h=>h.get? I=some (siO (.ref T) i a es.size ep)/\h.get? a=some { cls:=.type "set",dict:=none,data:=.set es ep t }/\h.get? T=some { cls:=.type "tuple",data:=.seq (js.map fun j:Nat=>rawInt j).toArray }) where
 sub:=fun b c=>by simp at c;simp [c]
 frame:=fun _ _ _ st l=>⟨l I (by simp) _ st.1,l a (by simp) _ st.2.1,l T (by simp) _ st.2.2⟩
 item:=fun i s Q E B st f=>by
  refine qbU r st.1 st.2.1 q st.2.2 (fun j d=>?_) fun d=>?_
  .have u:j<es.size:=XW.mp (n.mem_iff.mp (ye d));refine ⟨es[j],xp u,fun h' g p=>?_⟩;exact f _ h' s.toks ⟨j,_,d,xp u,rfl⟩ ⟨g,p.extBut a _ m st.2.1,p.extBut T _ y st.2.2⟩ fun b o c e=>p.extBut b o (fun h=>c (by simp [h])) e
  .rw [List.getElem?_eq_none_iff,n.length_eq,xU] at d;omega
 done:=fun s Q E st f=>qbU r st.1 st.2.1 q st.2.2 (fun j d=>by have:=(yc.mp d).1;rw [n.length_eq,xU] at this;omega) fun _ h' z=>f h' s.toks fun b o c e=>z b o (fun h=>c (by simp [h])) e
 self:=fun _ _ _ _ st f=>qcd st.1 f
end
section
variable {prog:Program} {w:World} {A:Around} {E:Value->Shared->Prop} {s:Shared} {a I T:Addr} {es:Array (Int×Value)} {ep i:Nat} {t:SetTable}
theorem iter_txt {Q:Value->Shared->Prop} (o:1<es.size) (l:t.plain=false) (hz:es.size<=sizeLine) (c:s.heap.get? a=some { cls:=.type "set",dict:=none,data:=.set es ep t }) (i:t.fits es.size=true)
  (p:w.params.followText "set-order"=true->Q (.ref s.heap.objs.size) { s with heap:=s.heap.push (siO (.int 0 0) 0 a es.size ep) })
  (r:∀ (f:List Nat) d,f.Perm (List.range es.size)->Q (.ref (s.heap.objs.size+1)) { s with heap:=(s.heap.push { cls:=.type "tuple",data:=.seq (f.map fun j:Nat=>rawInt j).toArray }).push (siO (.ref s.heap.objs.size) 0 a es.size ep),drawn:=d }) :
  wpAny (model prog w) A (pyIter (.ref a)) Q E s:=by
 have m:s.TypeIs (.ref a) "set":=⟨_,c,rfl⟩;refine X5 m xS (YB xS m zS ?_ (PySem.F.args_set_iter_1 _));unfold Builtin.«frozenset.__iter__»;refine yr (yu ?_);dsimp only;unfold Builtin.Frozenset.sizeOf;refine yr (yr (xC c rfl i (yu ?_)));unfold setDrawn setsByText;refine yr (yr (YI c rfl i ?_));dsimp only;refine yr (yr (YZ (yu ?_)));refine yu ?_
 have e:∀ {s:Shared} {Q:Nat->Shared->Prop} {E:Value->Shared->Prop},s.heap.get? a=some { cls:=.type "set",dict:=none,data:=.set es ep t }->Q ep s->wpAny (model prog w) A.in1 (setEpoch a) Q E s:=fun h q=>by
  unfold setEpoch;exact yr (YI h rfl i (yu q))
 cases g:w.params.followText "set-order" with
 | true =>
  refine xu (fun b=>?_) fun _=>?_
  .have b:(!w.params.followText "set-order"&&_)=true:=b;rw [g] at b;exact absurd b (by simp)
  .refine yr (yu ?_);refine yr (e c ?_);refine yr (Yc ?_);exact yu ⟨_,rfl, "set_iterator",_,⟨_,yL _ rfl,rfl⟩,si_next.lookup,p g⟩
 | false =>
  refine xu (fun _=>?_) fun b=>?_
  .refine yr (qbR _ _ _ _ xU fun f d n=>?_);refine yr (wpAny_newTuple ?_ (by rw [ya,n.length_eq,xU];exact hz));refine yr (e (yv _ c) ?_);refine yr (Yc ?_);have:=r f d n;rw [<- YJ s.heap { cls:=.type "tuple",data:=.seq (f.map fun j:Nat=>rawInt j).toArray }] at this;exact yu ⟨_,rfl, "set_iterator",_,⟨_,yL _ rfl,rfl⟩,si_next.lookup,this⟩
  .refine absurd (show (!w.params.followText "set-order"&&(!t.plain&&decide (es.size>1)))=true from ?_) b;rw [g,l];simpa using o
theorem hint_set {Q:Bool->Shared->Prop} {r:Addr} (d:s.TypeIs (.ref r) "set") (h:Q false s):wpAny (model prog w) A (Builtin.List.listLengthHint (.ref r)) Q E s:=by
 unfold Builtin.List.listLengthHint;refine yr (wpAny_specialOf d PySem.F.slot_set_len.lookup ?_);generalize c:("set.__len__":String)=e
 wp_delta
 rw [show splitId e=some ("set","__len__") from by subst c;decide +kernel];subst c;refine yr (kh (T:="set") (b:=true) d (by rw [isSubtype_type];kernel_rfl) ?_);refine xu (fun a=>absurd a (by decide)) (fun _=>?_);refine xu (fun _=>?_) (fun a=>absurd (by decide +kernel) a);refine yr (km d ?_);exact yu h
end
section
variable {prog:Program} {w:World} {A:Around} {E:Value->Shared->Prop} {s:Shared} {a:Addr} {ss:List Str} {w₁:World}
theorem set_next0 {es:Array (Int×Value)} {ep i k:Nat} {t:SetTable} {Q:Option (Value×Nat)->Shared->Prop} (c:es.size=0) (d:s.heap.get? a=some { cls:=.type "set",dict:=none,data:=.set es ep t }) (f:t.fits es.size=true)
  (h:Q none s):wpAny (model prog w) A (setNext a k i ep) Q E s:=by
 cases e:w.params.followText "set-order" with
 | true =>
  have b:(pickOrder (w.params.setOrder a ep) es).toList.Perm es.toList:=by
   have:=qau (w.params.setOrder a ep) es.size 0 es.toList #[] (by simp);simpa [pickOrder] using this
  have m:(pickOrder (w.params.setOrder a ep) es).size=0:=by rw [<- Yh,b.length_eq,Yh,c]
  refine qbS e d f ?_;rw [Array.getElem?_eq_none_iff.mpr (by omega)];exact h
 | false =>
  have g:es=#[]:=Array.eq_empty_of_size_eq_zero c;subst g;unfold setNext;refine yr (YI d rfl f ?_);dsimp only;unfold setsByText;refine yr (yr (YZ (yu ?_)));show wpAny _ _ (if w.params.followText "set-order"=true then _ else _) _ _ _;rw [e,yD (by decide)];refine xu (fun l=>?_) fun _=>?_
  .exact absurd (show (!t.plain&&false)=true from l) (by simp)
  .refine yr ?_;show wpAny _ _ (if (!t.led&&false)=true then _ else pure ()) _ _ _;rw [yD (by simp)];exact yu (yu h)
theorem next_txt0 {es:Array (Int×Value)} {ep i:Nat} {t:SetTable} {I:Addr} {Q:Option Value->Shared->Prop} (e:es.size=0) (g:A.handled=none) (b:s.heap.get? I=some (siO (.int 0 0) i a es.size ep)) (c:s.heap.get? a=some { cls:=.type "set",dict:=none,data:=.set es ep t }) (d:t.fits es.size=true)
  (f:∀ h',Heap.ExtBut I s.heap h'->Q none { s with heap:=h' }) :
  wpAny (model prog w) A (pyNext (.ref I)) Q E s:=by
 unfold pyNext;refine yr (Xz (Y4 (name:=Str.ofString "__next__") (zm b) si_next
  (YB si_next (zm b) zl ?_ (zA _))))
 unfold Builtin.«set_iterator.__next__»;refine yr (yu ?_);dsimp only;refine yr (wpAny_fieldsOf b rfl ?_);dsimp only;refine yr (xC c rfl d ?_);rw [yD (by simp)];simp only [Yx];refine yr (set_next0 e c d ?_);exact qdh g rfl b f
theorem walk0 {es:Array (Int×Value)} {ep:Nat} {t:SetTable} {I:Addr} (g:es.size=0) (n:A.handled=none) (m:t.fits es.size=true) :
  Walks prog w A I [I,a] [I] 0 (fun _ _=>False) (fun i h=>h.get? I=some (siO (.int 0 0) i a es.size ep)/\h.get? a=some { cls:=.type "set",dict:=none,data:=.set es ep t }) where
 sub:=fun b d=>by simp at d;simp [d]
 frame:=fun _ _ _ st f=>⟨f I (by simp) _ st.1,f a (by simp) _ st.2⟩
 item:=fun i s Q E p st c=>absurd p (Nat.not_lt_zero i)
 done:=fun s Q E st c=>next_txt0 g n st.1 st.2 m fun h' l=>c h' s.toks fun b o d e=>l b o (fun h=>d (by simp [h])) e
 self:=fun _ _ _ _ st c=>qcd st.1 c
theorem iter_txt0 {es:Array (Int×Value)} {ep:Nat} {t:SetTable} {Q:Value->Shared->Prop} (f:es.size=0) (b:s.heap.get? a=some { cls:=.type "set",dict:=none,data:=.set es ep t }) (d:t.fits es.size=true)
  (g:Q (.ref s.heap.objs.size) { s with heap:=s.heap.push (siO (.int 0 0) 0 a es.size ep) }) :
  wpAny (model prog w) A (pyIter (.ref a)) Q E s:=by
 have e:s.TypeIs (.ref a) "set":=⟨_,b,rfl⟩;refine X5 e xS (YB xS e zS ?_ (PySem.F.args_set_iter_1 _));unfold Builtin.«frozenset.__iter__»;refine yr (yu ?_);dsimp only;unfold Builtin.Frozenset.sizeOf;refine yr (yr (xC b rfl d (yu ?_)));unfold setDrawn setsByText;refine yr (yr (YI b rfl d ?_));dsimp only;refine yr (yr (YZ (yu ?_)));refine yu ?_;refine xu (fun c=>?_) fun _=>?_
 .have c:(!w.params.followText "set-order"&&(!t.plain&&decide (es.size>1)))=true:=c;rw [f] at c;exact absurd c (by simp)
 .refine yr (yu ?_);unfold setEpoch;refine yr (yr (YI b rfl d (yu ?_)));refine yr (Yc ?_);exact yu ⟨_,rfl, "set_iterator",_,⟨_,yL _ rfl,rfl⟩,si_next.lookup,g⟩
theorem way_txt {Q:Value->Shared->Prop} (x:TxS w₁ s.heap a ss) (z:ss.length≠1)
  (h:∀ (I:Addr) (h':Heap) (d:Drawn) (J:List Addr) (P:Nat->Value->Prop) (St:Nat->Heap->Prop),(∀ l:Around,l.handled=none->Walks prog w l I J [I] ss.length P St)->(∀ i v,P i v->∃ k u,v=Value.str k u)->St 0 h' ->
   (∀ b o,s.heap.get? b=some o->h'.get? b=some o)->s.heap.objs.size<=I->(∀ b∈J,b=a\/s.heap.objs.size<=b)->Q (.ref I) { s with heap:=h',drawn:=d }) :
  wpAny (model prog w) A (pyIter (.ref a)) Q E s:=by
 obtain ⟨es,ep,t,g,m,L,n,D,K⟩:=x;have hl:es.size=ss.length:=TxS.len (h:=s.heap) L;have hz:=fits_of_scanBound K;have p:a<s.heap.objs.size:=yM g;rw [<- hl] at z h;by_cases r:es.size=0
 .refine iter_txt0 r g n (h _ _ s.drawn [s.heap.objs.size,a] (fun _ _=>False) (fun i h=>h.get? s.heap.objs.size=some (siO (.int 0 0) i a es.size ep)/\h.get? a=some { cls:=.type "set",dict:=none,data:=.set es ep t }) (fun l f=>?_) (fun i v hv=>hv.elim) ⟨yL _ rfl,yv _ g⟩ (fun b o e=>yv _ e) (yh _) fun b c=>?_)
  .rw [r];have:=walk0 (prog:=prog) (w:=w) (a:=a) (ep:=ep) (I:=s.heap.objs.size) r f n
   rwa [r] at this
  .simp only [yy,yX,YO] at c;rcases c with rfl | rfl
   .exact .inr (yh _)
   .exact .inl rfl
 replace z:1<es.size:=by omega
 refine iter_txt z (D.resolve_left (by omega)) hz g n (fun B=>?_) fun M d C=>?_
 .have q:(pickOrder (w.params.setOrder a ep) es).toList.Perm es.toList:=by
   have:=qau (w.params.setOrder a ep) es.size 0 es.toList #[] (by simp);simpa [pickOrder] using this
  have F:(pickOrder (w.params.setOrder a ep) es).size=es.size:=by rw [<- Yh,q.length_eq,Yh]
  refine h _ _ s.drawn [s.heap.objs.size,a] _ _ (fun l f=>walkA (ep:=ep) f B (y0 p) n F) (fun i v hv=>?_) ⟨yL _ rfl,yv _ g⟩ (fun b o e=>yv _ e) (yh _) fun b c=>?_
  .obtain ⟨y,H,rfl⟩:=hv;obtain ⟨k,u,rfl⟩:=m y (q.mem_iff.mp (XB.mpr (Array.mem_of_getElem? H)));exact ⟨k,u,rfl⟩
  .simp only [yy,yX,YO] at c;rcases c with rfl | rfl
   .exact .inr (yh _)
   .exact .inl rfl
 .have G:(s.heap.push { cls:=.type "tuple",data:=.seq (M.map fun j:Nat=>rawInt j).toArray }).objs.size=s.heap.objs.size+1:=YJ _ _;refine h _ _ d [s.heap.objs.size+1,a,s.heap.objs.size] _ _ (fun l f=>walkB (ep:=ep) f (y0 (Xn p)) (y0 (xF _)) n C) (fun i v hv=>?_) ⟨?_,?_,?_⟩ (fun b o e=>yv _ (yv _ e)) (xw _) fun b c=>?_
  .obtain ⟨j,y,_,H,rfl⟩:=hv;obtain ⟨k,u,rfl⟩:=m y (XB.mpr (Array.mem_of_getElem? H));exact ⟨k,u,rfl⟩
  .rw [<- G];exact yL _ rfl
  .exact yv _ (yv _ g)
  .exact yv _ (yL _ rfl)
  .simp only [yy,yX,YO] at c;rcases c with rfl | rfl | rfl
   .exact .inr (xw _)
   .exact .inl rfl
   .exact .inr (yh _)
theorem ext_txt {R:Result->Shared->Prop} {S:Addr} {res:Value} {q:Nat} (Z:A.handled=none) (x:TxS w₁ s.heap a ss) (h2:ss.length≠1) (n:ss.length<=sizeLine) (E:S≠a) (Y:s.heap.get? S=some { cls:=.type "list",data:=.seq #[] q })
  (hR:∀ h' d tk c C,(∀ b o,b≠S->s.heap.get? b=some o->h'.get? b=some o)->h'.get? S=some { cls:=.type "list",dict:=none,data:=.seq c C,slots:=#[] }->c.size=ss.length->(∀ v∈c.toList,∃ k u,v=Value.str k u)->R (.ok (.ret res)) { s with heap:=h',toks:=tk,drawn:=d }) :
  wpAny (model prog w) A.in1 (Builtin.List.listExtendWith (.ref S) (.ref a) res)
   (fun M B=>match M with | .done f=>R (.ok f) B | .again C=>C.quiet=true/\codeAny (model prog w) A C R B) (fun e B=>R (.error e) B) s:=by
 have H:∀ h:Heap,TxS w₁ h a ss->∀ d g tk os,Shared.TypeIs ⟨h,g,d,tk,os⟩ (.ref a) "set":=fun h y d g tk os=>by obtain ⟨_,_,_,e,_⟩:=y;exact ⟨_,e,rfl⟩
 have N:=yM Y;unfold Builtin.List.listExtendWith;refine yr (km (T:="set") (H _ x _ _ _ _) ?_);have h1:Builtin.List.listSameRef (.ref S) (.ref a)=false:=by simp [Builtin.List.listSameRef,E]
 have U:(Value.type "set"==Value.type "list")=false:=by decide
 have X:(Value.type "set"==Value.type "tuple")=false:=by decide
 simp only [h1,U,X,X8,X0,ke];refine yr (way_txt x h2 fun I h' d fp P St W hP p D hI O=>?_)
 have G:S∉fp:=fun L=>by
  rcases O S L with e | e
  .exact E e
  .exact absurd N (Nat.not_lt.mpr e)
 have l:=D _ _ Y;have K:∀ (h:Heap) (i tk:Nat),St 0 h->(∀ b o,b≠S->s.heap.get? b=some o->h.get? b=some o) ->
   h.get? S=some { cls:=.type "list",data:=.seq #[] i }->codeAny (model prog w) A (.builtin "list.extend.loop" ⟨[.ref S,.ref I,res],[]⟩) R { s with heap:=h,toks:=tk,drawn:=d }:=by
  intro h i tk p D t;refine codeAny_extend_loopS (W A.in1 Z).toS n S G res ss.length 0 _ #[] i rfl (YW _) p t (ItemsOf.nil _) fun B c C L l r=>?_;rw [Moved.eq_with L];refine hR B.heap d B.toks c C (fun b o n e=>L.heap b o (fun hmem=>?_) (D b o n e)) l r.1 fun v hv=>?_
  .rcases yy.mp hmem with e' | hmem
   .exact n e'
   .rw [yB.mp hmem] at e;exact absurd (yM e) (Nat.not_lt.mpr hI)
  .obtain ⟨j,hj⟩:=xR.mp hv;rw [xQ] at hj;exact hP j v (r.2 j v hj)
 refine yr (Yn (hint_set (H _ (x.keep fun o e=>D _ _ e) _ _ _ _) ?_));refine xu (fun _=>?_) (fun _=>yu ⟨X9 PySem.F.plain_extend_loop _,K _ q _ p (fun b o _ e=>D b o e) l⟩);refine yr (kq ?_);refine yr ?_;show wpAny _ _ (updateSeq S (·.push .none)>>=fun _=>updateSeq S (·.pop)) _ _ _;refine yr (wpAny_updateSeq l rfl ?_);have m:=Yt (Obj.mapSeq (·.push Value.none)) l rfl;refine wpAny_updateSeq (hz:=by seq_fits) m rfl ?_;have z:=Yt (Obj.mapSeq (·.pop)) m rfl;refine yu ⟨X9 PySem.F.plain_extend_loop _,K _ _ _ ?_ (fun b o n e=>?_) z⟩
 .refine (W A Z).frame 0 _ _ p fun b n o e=>?_;have J:b≠S:=fun h=>G (h ▸ n);exact (YT _ _ (Yb J)).trans ((YT _ _ (Yb J)).trans e)
 .exact (YT _ _ (Yb n)).trans ((YT _ _ (Yb n)).trans (D b o e))
end
section
variable {prog:Program} {w:World} {A:Around} {E:Value->Shared->Prop} {s:Shared} {a:Addr} {ss:List Str} {w₁:World}
theorem coll_txt {R:List Value->Shared->Prop} (I:A.handled=none) (x:TxS w₁ s.heap a ss) (i:ss.length≠1) (H:ss.length<=sizeLine)
  (h:∀ (h':Heap) (d:Drawn) (tk:Nat) (acc:List Value),(∀ b o,s.heap.get? b=some o->h'.get? b=some o)->s.heap.objs.size<h'.objs.size->acc.length=ss.length->(∀ v∈acc,∃ k u,v=Value.str k u)->R acc { s with heap:=h',toks:=tk,drawn:=d }) :
  wpAny (model prog w) A (collect (.ref a)) R E s:=by
 have t:a<s.heap.objs.size:=by obtain ⟨_,_,_,e,_⟩:=x;exact yM e
 unfold collect;refine yr (wpAny_runValue (Xe entry_proto_collect' ?_));rw [xV PySem.F.plain_proto_collect _];show wpAny _ A.in1 (newList []>>=fun l=>again (.builtin "list.__iadd__" ⟨[l,.ref a],[]⟩)) _ _ s;refine yr (Yc ?_);refine yu ⟨X9 PySem.F.plain_list_iadd _,Xe entry_list_iadd' ?_⟩;rw [xV PySem.F.plain_list_iadd _];have m:(s.heap.push { cls:=.type "list",data:=.seq ([]:List Value).toArray }).get? s.heap.objs.size=some { cls:=.type "list",data:=.seq #[] }:=yL _ rfl;show wpAny _ A.in1 (Builtin.List.listExtendWith (.ref s.heap.objs.size) (.ref a) (.ref s.heap.objs.size)) _ _ _;have B:=ext_txt (prog:=prog) (w:=w) (A:=A) (s:={ s with heap:=s.heap.push { cls:=.type "list",data:=.seq ([]:List Value).toArray } }) (res:=.ref s.heap.objs.size)
  (R:=fun (q:Result) (C:Shared)=>∃ (h':Heap) (d:Drawn) (tk:Nat) (c:Array Value) (n:Nat),q=.ok (.ret (.ref s.heap.objs.size))/\C={ s with heap:=h',toks:=tk,drawn:=d } /\
   (∀ b o,s.heap.get? b=some o->h'.get? b=some o)/\h'.get? s.heap.objs.size=some { cls:=.type "list",dict:=none,data:=.seq c n,slots:=#[] }/\c.size=ss.length/\∀ v∈c.toList,∃ k u,v=Value.str k u)
  I (x.keep fun o e=>yv _ e) i H (Xm t) m
  (fun h' d tk c n p g h1 i=>⟨h',d,tk,c,n,rfl,rfl,fun b o e=>p b o (y0 (yM e)) (yv _ e),g,h1,i⟩)
 refine YG B (fun r C y=>?_) fun e C y=>?_
 .cases r with
  | done f =>
   obtain ⟨h',d,tk,c,n,e,rfl,p,g,h1,i⟩:=y;cases e;show wpAny _ A (load s.heap.objs.size>>=_) _ _ _;refine yr (wpAny_load g ?_);exact yu (h h' d tk c.toList p (yM g) (by rw [Yh];exact h1) i)
  | again c₁ =>
   refine ⟨y.1,xY y.2 fun q D z=>?_⟩;obtain ⟨h',d,tk,c,n,rfl,rfl,p,g,h1,i⟩:=z;show wpAny _ A (load s.heap.objs.size>>=_) _ _ _;refine yr (wpAny_load g ?_);exact yu (h h' d tk c.toList p (yM g) (by rw [Yh];exact h1) i)
 .obtain ⟨_,_,_,_,_,G,_⟩:=y;cases G
theorem sort_txt {Q:Value->Shared->Prop} (y:A.handled=none) (x:TxS w₁ s.heap a ss) (t:ss.length≠1) (g:ss.length<64)
  (h:∀ (D:Addr) (h':Heap) (d:Drawn) (tk e:Nat) (out:List Value) (us:List Str),(∀ b o,s.heap.get? b=some o->h'.get? b=some o)->s.heap.objs.size<=D->h'.get? D=some (seqObj "list" out.toArray e)->StrsAre out us->us.length=ss.length->Q (.ref D) { s with heap:=h',toks:=tk,drawn:=d }) :
  wpAny (model prog w) A (call (.builtin "sorted") [.ref a]) Q E s:=by
 refine Calls.call_function_entry kind_sorted plain_sorted entry_sorted (args_sorted1 _) ?_;unfold Builtin.«sorted»;refine yr (m:=checkCount "sorted" 1 1 _) (yu ?_);refine yr (coll_txt y x t (by rw [Yy];omega) fun h' d tk vs p l hl hv=>?_);refine yr (wpAny_newList ?_ (by rw [hl,Yy];omega));have c:(h'.push (seqObj "list" vs.toArray 0)).get? h'.objs.size=some (seqObj "list" vs.toArray 0):=yL _ rfl;have i:=strsAre_map vs hv;refine yr (Yn (YB slot_list_sort ⟨_,c,rfl⟩ entry_list_sort (list_sort_treeK strKind_oneLt c i.keysOf (fun q r qbt e=>keyKind_strs (by rw [<- e];exact i)) (by rw [hl];exact g) fun f z B=>⟨_,rfl,?_⟩) (args_list_sort _)));obtain ⟨us,h1,u,_⟩:=sorted_out_str i z B;obtain ⟨e,v⟩:=sortedHeap_at (out:=(arrOf f).map (·.2)) c;refine yu ⟨_,rfl,h h'.objs.size _ d tk e ((arrOf f).map (·.2)).toList us (fun b o n=>?_) (yS l) ?_ h1 (by rw [u.length_eq,ya,hl])⟩
 .have:=yM (p b o n);rw [sortedHeap_old (y0 this) (by rw [size_push'];exact Xn this)];exact yv _ (p b o n)
 .rw [Array.toArray_toList];exact v
end
section
variable {X:Cx} {K:yg}
theorem Inv.drawn {a:List (Addr×Obj)} {b:List (Option V)} {H:Hp} {s:Shared} (I:Inv X a b H s) (d:Drawn):Inv X a b H { s with drawn:=d }:=⟨I.ok,I.os,I.bare,I.base,I.loc,I.cell,I.free,I.freeC,I.pin,I.hok,I.len⟩
theorem qce:∀ {ys:List Str} {us:List Value},StrsAre us ys->Vals (ys.map V.str) us
 | [],_,.nil=>.nil
 | y::ys,_,.cons _ tk r=>.cons ⟨tk,rfl⟩ (qce r)
theorem qdi:∀ {ys:List Str} {us:List Value},StrsAre us ys->∀ (i:Nat) (v:Value),us[i]?=some v->∃ (k:Str) (t:Tok),ys[i]?=some k/\v=.str k t
 | _,_,.cons y tk r,0,v,h=>⟨y,tk,rfl,(ym h).symm⟩
 | _,_,.cons y tk r,i+1,v,h=>qdi r i v h
noncomputable def qeI (a:Addr) (b:List Str):HO:=.ext fun h=>∃ w,TxS w h a b
def rSetS (K:yg):List V->Hp->VK->Prop:=fun xs H Q=>∃ (p:Addr) (a:List Str),xs=[.ref p]/\SqL K H p (a.map V.str)/\a.Nodup/\a.length<=100/\∀ l:Addr,H l=none->Q (.ref l) (upd H l (qeI l a))
theorem k_setS (g:X.K=K) (hc:X.calm=true):zd X (.type "set") (rSetS K):=by
 subst g;intro d s B H xs us Q I r h;obtain ⟨p,b,rfl,t,n,h1,q⟩:=h;obtain ⟨u,rfl,z⟩:=qaz r;cases z;obtain ⟨a,f,pl,hz⟩:=I.list t;have y:=qbk f;have hl:a.length=b.length:=by rw [<- f.length,ya]
 refine set_txt (ks:=b) (I.ok.hd hc) pl.isList (by simpa using hl) (fun i v e=>qdi y i v (by simpa using e)) n (by unfold scanBound;omega) fun h' tk c m=>?_;have l:=I.hok.fresh (yh s.heap.objs.size);refine ⟨.ref _,_,I.laid (o:=qeI s.heap.objs.size b) (t':=tk) m (yh _) ⟨⟨_,c⟩,?_,fun h1 A x e=>?_⟩,rfl,q _ l⟩
 .obtain ⟨_,_,_,e,_⟩:=c;exact ⟨_,e⟩
 .obtain ⟨w,x⟩:=x;exact ⟨w,x.keep e⟩
def rSortS:List V->Hp->VK->Prop:=fun xs H Q=>∃ (p:Addr) (a:List Str),xs=[.ref p]/\H p=some (qeI p a)/\a.length≠1/\a.length<64/\∀ (l:Addr) (us:List Str),H l=none->us.length=a.length->Q (.ref l) (upd H l (.lst (us.map V.str)))
theorem k_sortS (hc:X.calm=true):zd X (.builtin "sorted") rSortS:=by
 intro c s y H xs us Q I r h;obtain ⟨p,x,rfl,t,f,a,q⟩:=h;obtain ⟨u,rfl,v⟩:=qaz r;cases v;obtain ⟨⟨w,g⟩,_,_⟩:=I.hok p _ t;refine sort_txt (I.ok.hd hc) g f a fun D h' d tk e out us m b i n hl=>?_;have l:H D=none:=I.hok.fresh b;refine ⟨.ref D,_,(I.laid (o:=.lst (us.map V.str)) (t':=tk) m b ⟨?_,out,e,qce n,i⟩).drawn d,rfl,q D us l hl⟩;rw [ya,hl];exact yS (qg (by omega))
def rSortX (K:yg):List V->Hp->VK->Prop:=fun xs H Q=>∃ (p:Addr) (a:List Str),xs=[.ref p]/\SqL K H p (a.map V.str)/\a.length<64/\∀ (l:Addr) (us:List Str),H l=none->us.Perm a->sortedS us=true->Q (.ref l) (upd H l (.lst (us.map V.str)))
theorem qdj (m:X.K=K):zd X (.builtin "sorted") (rSortX K):=by
 subst m;intro f s z H xs us Q I r h;obtain ⟨p,y,rfl,v,l,q⟩:=h;obtain ⟨u,rfl,x⟩:=qaz r;cases x;obtain ⟨a,g,pl,hz⟩:=I.list v;have hl:a.length<64:=by have:=g.length;rw [ya] at this;omega
 refine PyProof.Rows.sorted_strs (vs:=a) pl.isList (qbk g) hl fun out c h1 d i=>?_;obtain ⟨e,n⟩:=PyProof.Rows.sortedAll_at s.heap a out;have t:H (s.heap.objs.size+1)=none:=I.hok.fresh (xw _)
 have new:ObjOk X.prog X.w (upd H (s.heap.objs.size+1) (.lst (c.map V.str))) (PyProof.Rows.sortedAll s.heap a out) (s.heap.objs.size+1) (.lst (c.map V.str)):=by
  refine ⟨?_,out.toList,e,qce h1,?_⟩
  .rw [ya,d.length_eq];exact yS (qg (by omega))
  .rw [n]
 exact ⟨.ref (s.heap.objs.size+1),_,I.laid (t':=s.toks) (fun b o e=>PyProof.Rows.sortedAll_old e) (xw _) new,rfl,q _ c t d i⟩
def LeS (a b:Str):Prop:=a.cps.toList<=b.cps.toList
theorem qdk:∀ (l:List Str) (p:Str),risingS p l=true->(p::l).Pairwise LeS
 | [],p,_=>Xk _ _
 | x::r,p,h=>by
  have h:(!ltCps x.cps.toList p.cps.toList&&risingS x r)=true:=h;rw [yW,ltCps_eq,YU,YQ] at h;have h1:LeS p x:=h.1;have a:=qdk r x h.2;refine X1.mpr ⟨fun y hy=>?_,a⟩;rcases yy.mp hy with rfl | hy
  .exact h1
  .exact List.le_trans h1 (List.rel_of_pairwise_cons a hy)
theorem qbV {l:List Str} (h:sortedS l=true):l.Pairwise LeS:=by
 cases l with
 | nil=>exact .nil
 | cons x r=>exact qdk r x h
theorem sorted_eq {l m:List Str} (h:sortedS l=true) (h':sortedS m=true) (p:l.Perm m):l=m:=by
 refine List.Perm.eq_of_pairwise (le:=LeS) (fun a b _ _ h1 c=>?_) (qbV h) (qbV h') p;have e:=List.le_antisymm h1 c
 cases a with | mk a=>cases b with | mk b =>
 exact congrArg _ (Array.toList_inj.mp e)
end
end L2
namespace K31
open PySem L2 PyProof.Rows
variable {A:Str->Str->Prop} {E:XK} {G H H' H0 H1 H2:Hp} {K:W.Frag} {Pd:Str->Prop} {S S':FS} {a:Fo} {ab q:Str×Str} {b c m s t u v y z:Str} {cf cw dx l p x:Addr} {d lo ol:V} {dn l' l1 l2 m1 ps r rs rv rw rz ss:List Str} {i n:Nat} {kps qs tps ups:List (Str×Str)} {kvs:List (Key×V)} {lr:Option (List Str)} {ns:List Nat} {o:HO} {pss:List (List Str)} {ts us:List Addr} {xs ys:List V} {α β:Type}
theorem Sr (H:Hp):L2.Same H H:=L2.Same.refl H
theorem j9 {k:Nat} {A:Around} (a:Room k A):A.units+100<cLine:=by have:=a.un;omega
theorem hmR {k j:Nat} {A:Around} (a:Room k A) (h:j<=k:=by decide):Room j A:=a.mono h
local macro_rules | `(tactic| walk_at "w")=>`(tactic| first
 | with_reducible refine vSeq ?_ | with_reducible refine vAsg ?_ | with_reducible refine vAsgS ?_ | with_reducible refine vIfS ?_ | with_reducible refine vRet ?_ | with_reducible refine vNext ?_ | with_reducible refine vC ?_
 | ((with_reducible refine' vVar ?hv ?_);(case hv=>rfl)) | with_reducible refine vOp ?_ | with_reducible refine vChain ?_ | with_reducible refine vNil ?_ | with_reducible refine vCons ?_ | with_reducible refine vCB ?_ | with_reducible refine vCall ?_
 | with_reducible refine vLst ?_ | with_reducible refine vTup ?_ | with_reducible refine vTest ?_ | with_reducible refine vB ?_ | with_reducible refine vNot ?_ | with_reducible refine vAnd ?_ | with_reducible refine vOr ?_
 | with_reducible refine vAndV ?_ | with_reducible refine vOrV ?_ | with_reducible refine vNotV ?_ | with_reducible refine vYes ?_ | with_reducible refine vLeI ?_ | with_reducible refine vLeS ?_ | with_reducible refine vIsB ?_ | with_reducible refine vAddI ?_ | with_reducible refine vSl ?_ | with_reducible refine vNoPart ?_ | with_reducible refine vPart ?_ | with_reducible refine vExI ?_ | with_reducible refine vBM ?_ | with_reducible refine vBM0 ?_ | with_reducible refine vComp ?_ | with_reducible refine vFor ?_ | with_reducible refine vRng1 ?_ | with_reducible refine vAny ?_ | with_reducible refine vGN ?_ | with_reducible refine vI0 ?_ | with_reducible refine vEqI ?_ | with_reducible refine vEqB ?_ | with_reducible refine vEx ?_ | with_reducible refine vDrop ?_ | with_reducible refine vRetN ?_ | with_reducible refine vFldU ?_ | with_reducible refine vSFldU ?_ | with_reducible refine vXMake ?_ | with_reducible refine vMake ?_ | with_reducible refine vMeth ?_ | with_reducible refine vVinit ?_ | with_reducible refine vCallS ?_ | with_reducible refine vRaise ?_ | with_reducible refine vMethS ?_ | with_reducible refine vMakeS ?_ | with_reducible refine vUn ?_ | with_reducible refine vIf ?_ | with_reducible refine vRev ?_ | with_reducible refine vEnum ?_ | with_reducible refine vDGet2 ?_ | with_reducible refine vStep ?_)
local macro_rules | `(tactic| walk_at "v")=>`(tactic| repeat walk_at "w")
local macro_rules | `(tactic| ext)=>`(tactic| walk_at "v")
noncomputable def fAtt:List Str:=["board","partners","rows","parents","bases","rings","waiting","longer"]
structure Txt (K:W.Frag) (mg:Str->Option Value) (cc:Nat->Addr) (cw:Addr):Prop where
 b_len:mg "len"=none
 b_int:mg "int"=none
 b_enumerate:mg "enumerate"=none
 b_all:mg "all"=none
 b_max:mg "max"=none
 b_min:mg "min"=none
 b_isinstance:mg "isinstance"=none
 b_bool:mg "bool"=none
 b_str:mg "str"=none
 b_range:mg "range"=none
 b_list:mg "list"=none
 b_tuple:mg "tuple"=none
 g_LONGEST_NAME:∃ tk,mg "LONGEST_NAME"=some (.int 6 tk)
 g_MOST_PLACES:∃ tk,mg "MOST_PLACES"=some (.int 14 tk)
 g_MOST_TIES:∃ tk,mg "MOST_TIES"=some (.int 30 tk)
 wcl:Cls K cw
 wn:NoAttr K cw "numbers"
 wo:NoAttr K cw "order"
 wr:NoAttr K cw "near"
 m_Web:mg "Web"=some (.ref cw)
 m_Forest:mg "Forest"=some (.ref (cc 9))
 fcl:Cls K (cc 9)
 fa:∀ a∈fAtt,NoAttr K (cc 9) a
 b_sorted:mg "sorted"=none
 b_set:mg "set"=none
theorem K5:FnScope ["thing"] ["thing"] (qh zB):=fS
theorem K6:FnScope ["bits","number"] ["bits","number"] (qh qac):=fS
theorem KZ:FnScope ["numbers","thing"] ["numbers","thing"] (qh zI):=fS
theorem Ke:FnScope ["numbers","thing","both"] ["numbers","thing"] (qh jl):=fS
theorem qD (a:L2.Same H H1) (hl:H1 l=none):L2.Same H (upd H1 l o):=fun c u e=>by
 have q:=a c u e;rw [qe (qm q hl)];exact q
theorem qak (a:L2.Same H H1) (hl:H l=none):L2.Same H (upd H1 l o):=fun c u e=>by
 rw [qe (qm e hl)];exact a c u e
noncomputable def sg (c:Nat):Bool:=if (!decide (([c]:List Nat)<("a":Str).cps.toList))=true then !decide (("z":Str).cps.toList < [c]) else false
noncomputable def zn (x:Str):Bool:=if 1<=x.length/\x.length<=6 then x.cps.toList.all sg else false
theorem nameS_at {x:Str} (h:zn x=true):1<=x.length/\x.length<=6/\x.cps.toList.all sg=true:=by
 unfold zn at h;split at h
 .rename_i z;exact ⟨z.1,z.2,h⟩
 .cases h
structure All2 {α β:Type} (R:α->β->Prop) (l:List α) (m:List β):Prop where
 len:l.length=m.length
 at_:∀ (k:Nat) a b,l[k]?=some a->m[k]?=some b->R a b
theorem All2.nil {R:α->β->Prop}:All2 R [] []:=⟨rfl,fun k a b h=>by simp at h⟩
theorem All2.mono {R S:α->β->Prop} {l:List α} {m:List β} (h:All2 R l m) (f:∀ a b,R a b->S a b):All2 S l m:=⟨h.len,fun k a b x y=>f a b (h.at_ k a b x y)⟩
theorem All2.snoc {R:α->β->Prop} {l:List α} {m:List β} {x:α} {y:β} (h:All2 R l m) (r:R x y):All2 R (l++[x]) (m++[y]):=by
 refine ⟨by rw [yt,yt,h.len];rfl,fun k a b c d=>?_⟩;by_cases e:k<l.length
 .rw [yT e] at c;rw [yT (by rw [<- h.len];exact e)] at d;exact h.at_ k a b c d
 .rw [yz (by omega)] at c;rw [yz (by rw [<- h.len];omega)] at d
  have f:k-l.length=0:=by
   have:=(yc.mp c).1;simp at this;omega
  rw [<- h.len] at d;rw [f] at c d;cases c;cases d;exact r
theorem All2.mem {R:α->β->Prop} {l:List α} {m:List β} (h:All2 R l m) {x:α} (c:x∈l):∃ y∈m,R x y:=by
 obtain ⟨k,b,e⟩:=YH c;have a:k<m.length:=by rw [<- h.len];exact b
 exact ⟨m[k],Xw a,h.at_ k x m[k] (by rw [yb b,e]) (yb a)⟩
def PL (H:Hp) (l:Addr) (ts:List Addr) (tps:List (Str×Str)):Prop:=H l=some (.lst (ts.map V.ref))/\All2 (fun t ab=>H t=some (.tup [.str ab.1,.str ab.2])) ts tps
theorem PL.same (h:PL H l ts tps) (s:L2.Same H H'):PL H' l ts tps:=⟨s _ _ h.1,h.2.mono fun _ _ z=>s _ _ z⟩
section
variable {P:Program} {w:World} {K:W.Frag} {mg:Str->Option Value} {base:Heap} {cc:Nat->Addr} {cw:Addr} {f:Addr} {fd:FuncData}
inductive spName (vs:List V) (H:Hp) (Q:VK) (E:XK):Prop|mk (x:Str) (_:vs=[.str x]) (_:zn x=true) (_:∀ H',L2.Same H H'->Q (.bl true) H')
theorem ok_name (F:Fun K "is_name" "is_name" zB f fd) (T:Txt K mg cc cw):FnOk P w K mg base CX0 1 f fd ["thing"] spName:=by
 refine F.ok K5 fun _ _ _ _ H vs Q E u h=>?_
 .obtain ⟨x,rfl,p,q⟩:=h;obtain ⟨y,s,t⟩:=nameS_at p;refine ⟨_,(qc (qN (PW.pt (qaL (jr (jh (qp (qa9 (K:=K) rfl) rfl T.b_isinstance Y7 (qa (pv 0) (qa (j5 (v:=.ty "str") rfl T.b_str boot_str rfl) qd))))) (zR (jr (pt_chain qeG qeG qi (qp (jK (K:=K) rfl) rfl T.b_len Yz (qa (pv 0) qd)) (qbm rfl T.g_LONGEST_NAME)))))) (qf (qo j4)) qt)
 (qf (qo (qp (k_all (K:=K) rfl rfl) rfl T.b_all boot_all (qa (jo (sc:=qh zB) (XN:=["thing"]) ["sign"] 1 [] rfl rfl rfl (by decide +kernel) rfl (by decide +kernel)
  (qK (K:=K) rfl (pv 0)) (fun _ _ _ _=>(qr (i:=0) (show (["sign"]:List Str).Nodup by decide +kernel) rfl (yR rfl))) qP
  (fun _ _ _ _=>zj)
  (fun _ _ _ _=>(pe_chain qeG qeG qbw (pv 0) qbw))) qd))))),?_⟩
  ext;refine qcT (.inl (.str x)) rfl (qap K "str" (by simp) "str" (by simp)) ?_;ext;refine yq ?_;ext;refine vLenS (yi s (by decide)) ?_;ext;refine qG (fun h1=>?_) fun h1=>absurd (yQ (by omega)) h1;ext;refine qG (fun g=>by simp only [YU,YQ] at g;omega) fun g=>?_;ext;refine comp_str (fun i ys H'=>H'=H/\ys=((x.cps.toList.take i).map sg).map V.bl) ⟨rfl,by simp⟩ (fun i c ys H' hc e=>?_) fun ys H' e=>?_
  .obtain ⟨rfl,rfl⟩:=e;ext;refine zg ?_;ext
   have hl:(List.map V.bl (List.map sg (List.take i x.cps.toList))).length<sizeLine:=by
    rw [ya,ya,yJ];exact qg (yi (kc _ _) (by simpa [Str.length] using (show x.length<=1000 by omega)))
   have a:∀ b,b=sg c->(List.map V.bl (List.map sg (List.take i x.cps.toList)))++[V.bl b]=List.map V.bl (List.map sg (List.take (i+1) x.cps.toList)):=by
    intro b n;have m:x.cps.toList[i]?=some c:=by simpa using hc
    rw [n,yG,m];simp
   refine qG (fun d=>?_) fun d=>⟨hl,rfl,a _ (by unfold sg;rw [yD d])⟩;ext;exact ⟨hl,rfl,a _ (by unfold sg;rw [yK d])⟩
  .obtain ⟨rfl,rfl⟩:=e;have r:x.cps.toList.take x.cps.size=x.cps.toList:=by rw [<- Yh,yN]
   rw [r];refine ⟨?_,fun l hl=>?_⟩
   .rw [ya,ya];exact yS (qg (by simpa [Str.length] using (show x.length<=1000 by omega)))
   .ext;refine ⟨l,x.cps.toList.map sg,rfl,SqL.of qb,?_⟩;have z:=q _ (qD (Sr H') (o:=.lst ((x.cps.toList.map sg).map V.bl)) hl);rw [kn];rw [<- t] at z;exact z
inductive spBit (vs:List V) (H:Hp) (Q:VK) (E:XK):Prop|mk (b n:Int) (_:vs=[.int b,.int n]) (_:0<=n) (_:Q (.bl (decide (Builtin.bitAnd (b / 2 ^ n.toNat) 1=1))) H)
theorem ok_bit (F:Fun K "has_bit" "has_bit" qac f fd):FnOk P w K mg base CX0 1 f fd ["bits","number"] spBit:=by
 refine F.ok K6 fun _ _ _ _ H vs Q E c h=>?_
 .obtain ⟨b,n,rfl,a,q⟩:=h;have d:=j9 c;refine ⟨_,(qf (qo (jH (zW (K:=K) rfl d) (qA op_and (qA op_shr (pv 0) (pv 1)) qi) qi (qx _)))),?_⟩;ext;refine vI a ?_;ext;refine .inl (.inl (.inl ⟨rfl,rfl,?_⟩));exact q
noncomputable def qa0:List Str->Nat->List (Key×V)
 | [],_=>[]
 | s::r,i=>(.inr s,.int i)::qa0 r (i+1)
theorem qbW (y:Str):∀ (ss:List Str) (i:Nat),qa0 (ss++[y]) i=qa0 ss i++[(.inr y,.int (i+ss.length:Nat))]
 | [],i=>rfl
 | s::r,i=>by
  show (_::qa0 (r++[y]) (i+1))=_::(qa0 r (i+1)++_);rw [qbW y r (i+1)];have:i+1+r.length=i+(s::r).length:=by simp;omega
  rw [this]
theorem zo:∀ (ss:List Str) (i:Nat),(qa0 ss i).length=ss.length
 | [],_=>rfl
 | _::r,i=>congrArg (· + 1) (zo r (i+1))
theorem qaV:∀ {ss:List Str} {i:Nat},y∉ss->jT (qa0 ss i) (.inr y:Key)=none
 | [],_,_=>rfl
 | s::r,i,h=>by
  have h1:¬ s=y:=fun e=>h (by rw [e];exact yO);show jT ((.inr s,V.int i)::qa0 r (i+1)) _=none;rw [qS (p:=((.inr s:Key),V.int i)) (fun e=>h1 (xv e))];exact qaV fun m=>h (yC _ m)
theorem jR:∀ {ss:List Str} {i:Nat},y∈ss->∃ j,j<ss.length/\ss[j]?=some y/\jT (qa0 ss i) (.inr y:Key)=some (.int (i+j:Nat))
 | [],_,h=>by cases h
 | s::r,i,h=>by
  by_cases e:s=y
  .subst e;exact ⟨0,by simp,rfl,jd (p:=((.inr s:Key),V.int i)) rfl⟩
  .rcases yy.mp h with z | z
   .exact absurd z.symm e
   .obtain ⟨j,h1,b,c⟩:=jR (i:=i+1) z;refine ⟨j+1,by simp;omega,by simpa using b,?_⟩;show jT ((.inr s,V.int i)::qa0 r (i+1)) _=_;rw [qS (p:=((.inr s:Key),V.int i)) (fun a=>e (xv a)),c];have:i+1+j=i+(j+1):=by omega
    rw [this]
theorem qaW (y:Str) (ss:List Str) (i:Nat):(jT (qa0 ss i) (.inr y:Key)).isSome=decide (y∈ss):=by
 by_cases h:y∈ss
 .obtain ⟨j,_,_,e⟩:=jR (i:=i) h;rw [e,yQ h];rfl
 .rw [qaV h,yl h];rfl
inductive spPlace (vs:List V) (H:Hp) (Q:VK) (E:XK):Prop|mk (d:Addr) (ss:List Str) (x:Str) (_:vs=[.ref d,.str x]) (_:H d=some (.dK (qa0 ss 0))) (_:zn x=true) (_:x∈ss) (_:∀ H',L2.Same H H'->Q (.bl true) H')
theorem ok_place (F:Fun K "is_place" "is_place" zI f fd) (c:DefOk P w K mg base CX0 1 "is_name" ["thing"] spName):FnOk P w K mg base CX0 2 f fd ["numbers","thing"] spPlace:=by
 refine F.ok KZ fun _ _ _ _ H vs Q E a h=>?_
 .obtain ⟨d,ss,x,rfl,e,g,l,q⟩:=h;have i:=j9 a;refine ⟨_,(qf (qo (qa2 (qu c (hmR a) qE (qa (pv 1) qd)) (qaM (jH (qar (K:=K) rfl i) (pv 1) (pv 0) (by with_unfolding_all rfl)))))),?_⟩;ext;refine ⟨x,rfl,g,fun H1 b=>?_⟩;ext;refine zg ?_;ext;refine .inr (.inl ⟨d,_,rfl,DGet.k (k:=Sum.inr x) (b d _ e),?_⟩);rw [qaW,yQ l];exact q H1 b
inductive spTwo (vs:List V) (H:Hp) (Q:VK) (E:XK):Prop|mk (d t:Addr) (ss:List Str) (a b:Str) (_:vs=[.ref d,.ref t]) (_:H d=some (.dK (qa0 ss 0))) (_:H t=some (.tup [.str a,.str b])) (_:zn a=true) (_:zn b=true) (_:a∈ss) (_:b∈ss) (_:a≠b) (_:∀ H',L2.Same H H'->Q (.bl true) H')
theorem ok_two (F:Fun K "are_two_places" "are_two_places" jl f fd) (T:Txt K mg cc cw) (p:DefOk P w K mg base CX0 2 "is_place" ["numbers","thing"] spPlace):FnOk P w K mg base CX0 3 f fd ["numbers","thing"] spTwo:=by
 refine F.ok Ke fun _ _ _ _ H vs Q E n h=>?_
 .obtain ⟨d,t,ss,a,b,rfl,r,c,x,y,s,u,m,q⟩:=h;have g:=j9 n;refine ⟨_,(qc (qN (PW.pt (qaL (jr (jh (qp (qa9 (K:=K) rfl) rfl T.b_isinstance Y7 (qa (pv 1) (qa (j5 (v:=.ty "tuple") rfl T.b_tuple boot_tuple rfl) qd))))) (zR (qk (qaq (K:=K) rfl g) (qp (jK (K:=K) rfl) rfl T.b_len Yz (qa (pv 1) qd)) qi (qx _))))) (qf (qo j4)) qt)
 (qc (qq (i:=2) Ke.nd rfl (yR rfl) (qa2 (qu p (hmR n) qE (qa (pv 0) (qa (qv (qw (K:=K) rfl g) (pv 1) qi (fun _ _=>rfl)) qd))) (qaM (qu p (hmR n) qE (qa (pv 0) (qa (qv (qw (K:=K) rfl g) (pv 1) qi (fun _ _=>rfl)) qd))))))
 (qf (qo (qa2 (pv 2) (qaM (jH (qaq (K:=K) rfl g) (qv (qw (K:=K) rfl g) (pv 1) qi (fun _ _=>rfl)) (qv (qw (K:=K) rfl g) (pv 1) qi (fun _ _=>rfl)) (qx _)))))))),?_⟩
  ext;refine qcT (.inl (.tup c)) rfl (qap K "tuple" (by simp) "tuple" (by simp)) ?_;ext;refine yq ?_;ext;refine vLenT c ?_;ext;refine .inl ⟨rfl,rfl,?_⟩;ext;refine yq ?_;ext;refine .inl (qa8 c rfl ?_);ext;refine ⟨d,ss,a,rfl,r,x,s,fun H1 l=>?_⟩;ext;refine zg ?_;ext;refine .inl (qa8 (l _ _ c) rfl ?_);ext;refine ⟨d,ss,b,rfl,l _ _ r,y,u,fun H2 o=>?_⟩;ext;refine zg ?_;ext;refine .inl (qa8 (o _ _ (l _ _ c)) rfl ?_);ext;refine .inl (qa8 (o _ _ (l _ _ c)) rfl ?_);refine .inl ⟨rfl,rfl,?_⟩;have z:=q H2 (l.trans o);have e:(if true=true then !eqV (V.str a) (V.str b) else eqV (V.str a) (V.str b))=true:=by simp [eqV,m]
  rw [e];exact z
theorem Kc:FnScope ["names","numbers","name"] ["names"] (qh jX):=fS
theorem qcf (m j:Nat):decide (Builtin.bitAnd ((m:Int) / 2 ^ (j:Int).toNat) 1=1)=m.testBit j:=by
 rw [PyProof.Rows.bitAnd_m1,Nat.testBit_eq_decide_div_mod_eq];rw [Yx];have e:(m:Int) / 2 ^ j=((m / 2 ^ j:Nat):Int):=by rw [Int.natCast_ediv,Int.natCast_pow];rfl
 rw [e]
 congr 1
 apply propext;omega
theorem qdT (m j:Nat):Builtin.bitOr (m:Int) (1*2 ^ (j:Int).toNat)=((m ||| 2 ^ j:Nat):Int):=by
 have e:(1*2 ^ (j:Int).toNat:Int)=((2 ^ j:Nat):Int):=by rw [Yx,Int.one_mul,Int.natCast_pow];rfl
 rw [e];generalize 2 ^ j=k;have c:Builtin.bitNot (m:Int)=-(m:Int)-1:=rfl;have d:Builtin.bitNot (k:Int)=-(k:Int)-1:=rfl;unfold Builtin.bitOr Builtin.bitAnd;rw [c,d,yl (by omega),yl (by omega)];dsimp only;unfold Builtin.bitNot;have a:(-(-(m:Int)-1)-1).toNat=m:=by omega
 have b:(-(-(k:Int)-1)-1).toNat=k:=by omega
 rw [a,b];omega
def But (x:Addr) (H H':Hp):Prop:=∀ b o,b≠x->H b=some o->H' b=some o
theorem But.refl (x:Addr) (H:Hp):But x H H:=fun _ _ _ e=>e
theorem But.same (a:But x H H1) (b:L2.Same H1 H2):But x H H2:=fun c o n e=>b c o (a c o n e)
theorem But.put (a:But x H H1):But x H (upd H1 x o):=fun c u n e=>by rw [qe n];exact a c u n e
theorem But.new (a:But x H H1) (hl:H1 l=none):But x H (upd H1 l o):=a.same (qD (Sr H1) hl)
theorem qdl {a q:Addr} {Q:VK} (h:H a=some (.lst xs)) (b:H q=some (.tup [.ty "list",.ty "tuple"])) (k:Q (.bl true) H):qdM K [.ref a,.ref q] H Q:=
 ⟨_,q,_,_,[.type "list",.type "tuple"],true,rfl,.inl (.lst h),b,rfl,rfl,k⟩
inductive spNums (vs:List V) (H:Hp) (Q:VK) (E:XK):Prop|mk (a:Addr) (ss:List Str) (_:vs=[.ref a]) (_:H a=some (.lst (ss.map V.str))) (_:ss.length<=14) (_:ss.Nodup) (_:(∀ s∈ss,zn s=true)) (_:∀ d H',L2.Same H H'->H d=none->H' d=some (.dK (qa0 ss 0))->Q (.ref d) H')
theorem ok_nums (F:Fun K "numbers_of" "numbers_of" jX f fd) (T:Txt K mg cc cw) (N:DefOk P w K mg base CX0 1 "is_name" ["thing"] spName) :
  FnOk P w K mg base CX0 4 f fd ["names"] spNums:=by
 refine F.ok Kc fun _ _ _ _ H vs Q E I h=>?_
 .obtain ⟨a,ss,rfl,m,O,s,t,q⟩:=h;have J:=j9 I;refine ⟨_,(qc (qN (jr (jh (qp (qdf (K:=K) rfl) rfl T.b_isinstance Y7 (qa (pv 0) (qa (qax (qa (j5 (v:=.ty "list") rfl T.b_list xP rfl) (qa (j5 (v:=.ty "tuple") rfl T.b_tuple boot_tuple rfl) qd))) qd))))) (qf jA) qt)
 (qc (qN (qk qb6 (qp (jK (K:=K) rfl) rfl T.b_len Yz (qa (pv 0) qd)) (qbm rfl T.g_MOST_PLACES) (qx _)) (qf jA) qt)
 (qc (qq (i:=1) Kc.nd rfl (yR rfl) zH)
 (qc (jp yU rfl (qK (K:=K) rfl (pv 0)) (qr (i:=2) Kc.nd rfl (yR rfl))
 (qc (qN (jr (jh (qu N (hmR I) qE (qa (pv 2) qd)))) (qf jA) qt)
 (qc (qN (qk (qar (K:=K) rfl J) (pv 2) (pv 1) (by with_unfolding_all rfl)) (qf jA) qt)
 (qf (jV (qp (jK (K:=K) rfl) rfl T.b_len Yz (qa (pv 1) qd)) (j6 (pv 1) (pv 2) (j8 J)))))))
 (qf (qo (pv 1))))))),?_⟩
  ext;refine ⟨by show 2<=sizeLine;decide,fun g R=>?_⟩;have n:=qD (Sr H) (o:=.tup [.ty "list",.ty "tuple"]) R;ext;refine qdl (n _ _ m) qb ?_;ext;refine yq ?_;ext;refine zk (n _ _ m) ?_;rw [ya];ext;refine qG (fun h=>by have:=yk h;omega) fun _=>?_;ext;intro d D;have M:=qD n (o:=.dK []) D;have c:H d=none:=n.free D;ext;refine .inl ⟨⟨_,SqL.of (M _ _ m)⟩,qX (K:=K) (fun i r H'=>∃ B,r=[some (.ref a),some (.ref d),B]/\L2.Same H H'/\H' d=some (.dK (qa0 (ss.take i) 0))) ⟨none,rfl,M,qb⟩ (fun i r H' _ e=>by obtain ⟨_,_,z,_⟩:=e;exact SqL.of (z _ _ m)) (fun i y r H' L e=>?_) fun r H' e=>?_⟩
  .obtain ⟨B,rfl,A,b⟩:=e;rw [yd] at L;obtain ⟨x,u,rfl⟩:=yn.mp L;have S:i<ss.length:=(yc.mp u).1;have l:ss.take (i+1)=ss.take i++[x]:=by rw [yG,u];rfl
   have G:x∉ss.take i:=fun z=>by
    have C:(ss.take (i+1)).Nodup:=s.sublist (X2 _ _);rw [l] at C;exact (yZ.mp C).2.2 _ z x (by simp) rfl
   ext;refine ⟨x,rfl,t x (ye u),fun H1 p=>?_⟩;have U:=A.trans p;ext;refine yq ?_;ext;refine .inr (.inl ⟨d,_,rfl,DGet.k (k:=Sum.inr x) (p _ _ b),?_⟩);rw [qaW,yl G];ext;refine yq ?_;ext;refine .inr ⟨_,p _ _ b,?_⟩;ext;refine .inr ⟨d,_,rfl,DPut.k (k:=Sum.inr x) (p _ _ b) (qg (by rw [zo,yJ];omega)),?_⟩;refine ⟨_,rfl,qak U c,?_⟩;rw [qb,qaD _ (qaV G),l,qbW,zo];simp only [xN]
  .obtain ⟨B,rfl,A,b⟩:=e;ext;rw [ya,yN] at b;exact q d H' A c b
theorem K2:FnScope ["self","names","ties"] ["self","names","ties"] (qh zJ):=fS
theorem kX:FnScope ["numbers","ties","near","tie","one","other"] ["numbers","ties"] (qh qad):=fS
def qaX (ss:List Str) (ns:List Nat) (c:List (Str×Str)):Prop:=ns.length=ss.length/\(∀ a,ns.getD a 0<2 ^ ss.length)/\∀ a b s t,ss[a]?=some s->ss[b]?=some t->(ns.getD a 0).testBit b=decide ((s,t)∈c\/(t,s)∈c)
theorem qM (h:ss.Nodup) {a b:Nat} (i:ss[a]?=some s) (l:ss[b]?=some s):a=b:=by
 have e:=Yp.mp h;obtain ⟨f,c⟩:=yc.mp i;obtain ⟨g,d⟩:=yc.mp l;rcases Nat.lt_trichotomy a b with q | q | q
 .exact absurd (c.trans d.symm) (e a b f g q)
 .exact q
 .exact absurd (d.trans c.symm) (e b a g f q)
theorem bits_zero:qaX ss (List.replicate ss.length 0) []:=by
 have z:∀ a,(List.replicate ss.length 0).getD a 0=0:=fun a=>by
  simp only [List.getD,Xj];split<;>rfl
 refine ⟨by simp,fun a=>by rw [z a];exact Nat.two_pow_pos _,fun a b s t c d=>?_⟩;rw [z a];simp
theorem qae {j v:Nat} (h:i<ns.length):(ns.set i v).getD j 0=if i=j then v else ns.getD j 0:=by
 simp only [List.getD,List.getElem?_set];by_cases e:i=j
 .subst e;simp [h]
 .simp [e]
theorem bits_step {f:List (Str×Str)} (D:qaX ss ns f) (o:ss.Nodup) {j:Nat} (d:ss[i]?=some s) (l:ss[j]?=some t) (n:s≠t) :
  qaX ss ((ns.set i (ns.getD i 0 ||| 2 ^ j)).set j (ns.getD j 0 ||| 2 ^ i)) (f++[(s,t)]):=by
 obtain ⟨hl,m,h⟩:=D;have B:i<ns.length:=by rw [hl];exact (yc.mp d).1
 have C:j<ns.length:=by rw [hl];exact (yc.mp l).1
 have F:i≠j:=fun e=>by rw [e,l] at d;cases d;exact n rfl
 have y:i<ss.length:=(yc.mp d).1;have A:j<ss.length:=(yc.mp l).1;refine ⟨by simp [hl],fun a=>?_,fun a b u v g c=>?_⟩
 .rw [qae (by simpa using C),qae B];split
  .exact Nat.or_lt_two_pow (m _) (Nat.pow_lt_pow_right (by decide) y)
  .split
   .exact Nat.or_lt_two_pow (m _) (Nat.pow_lt_pow_right (by decide) A)
   .exact m _
 rw [qae (by simpa using C),qae B];have p:=h a b u v g c;have E:∀ P Q:Prop,(P↔Q)->∀ [Decidable P] [Decidable Q],decide P=decide Q:=fun P Q e=>by intro _ _;exact YR.mpr e
 by_cases w:j=a
 .subst w;rw [l] at g;cases g;rw [yK rfl,Nat.testBit_or,p,Nat.testBit_two_pow];by_cases r:i=b
  .subst r;rw [d] at c;cases c;simp
  .have vs:v≠s:=fun e=>by subst e;exact r (qM o d c)
   simp only [r,kB,X8];apply YR.mpr;simp only [yx,yB,Xc];constructor
   .rintro (z | z)
    .exact .inl (.inl z)
    .exact .inr (.inl z)
   .rintro ((z | ⟨z,_⟩) | (z | ⟨z,_⟩))
    .exact .inl z
    .exact absurd z.symm n
    .exact .inr z
    .exact absurd z vs
 .rw [yD w];by_cases q:i=a
  .subst q;rw [d] at g;cases g;rw [yK rfl,Nat.testBit_or,p,Nat.testBit_two_pow];by_cases x:j=b
   .subst x;rw [l] at c;cases c;simp
   .have H:v≠t:=fun e=>by subst e;exact x (qM o l c)
    simp only [x,kB,X8];apply YR.mpr;simp only [yx,yB,Xc];constructor
    .rintro (z | z)
     .exact .inl (.inl z)
     .exact .inr (.inl z)
    .rintro ((z | ⟨_,z⟩) | (z | ⟨_,z⟩))
     .exact .inl z
     .exact absurd z H
     .exact .inr z
     .exact absurd z n
  .rw [yD q,p];have us:u≠s:=fun e=>by subst e;exact q (qM o d g)
   have G:u≠t:=fun e=>by subst e;exact w (qM o l g)
   apply YR.mpr;simp only [yx,yB,Xc];constructor
   .rintro (z | z)
    .exact .inl (.inl z)
    .exact .inr (.inl z)
   .rintro ((z | ⟨z,_⟩) | (z | ⟨_,z⟩))
    .exact .inl z
    .exact absurd z us
    .exact .inr z
    .exact absurd z G
noncomputable def qcg (ns:List Nat):List V:=ns.map fun (n:Nat)=>.int (n:Int)
theorem qaE (h:i<ns.length):(qcg ns)[i]?=some (.int (ns.getD i 0:Nat)):=by
 unfold qcg;rw [yd,yb h];simp [List.getD,h]
theorem qcC (ns:List Nat) (i m:Nat):(qcg ns).set i (.int m)=qcg (ns.set i m):=by
 unfold qcg;rw [List.map_set]
theorem natV_zero (k:Nat):(List.replicate k [V.int 0]).flatten=qcg (List.replicate k 0):=by
 induction k with
 | zero=>rfl
 | succ k ih=>rw [Y9,xx,ih];rfl
theorem qch {j:Nat} (h:j<n):ixN n (j:Int)=some j:=by
 unfold ixN;rw [yK (by omega),yK (by omega)];rfl
def UN (x y:Str×Str):Prop:=x≠y/\x≠(y.2,y.1)
structure TGo (ss:List Str) (tps:List (Str×Str)):Prop where
 few:tps.length<=30
 inn:∀ ab∈tps,ab.1∈ss/\ab.2∈ss/\ab.1≠ab.2
 un:tps.Pairwise UN
structure WOk (ss:List Str) (ns:List Nat):Prop where
 len:ns.length=ss.length
 few:ss.length<=14
 nd:ss.Nodup
 lt:∀ a,ns.getD a 0<2 ^ ss.length
 nm:∀ s∈ss,zn s=true
inductive WebAt (cw:Addr) (H:Hp) (x:Addr) (ss:List Str) (ns:List Nat):Prop|mk (dx d ol n:_) (_:H x=some (.ins cw dx (qB "near" (.ref n) (qB "order" (.ref ol) (qB "numbers" (.ref d) []))))) (_:H d=some (.dK (qa0 ss 0))) (_:H ol=some (.lst (ss.map V.str))) (_:H n=some (.lst (qcg ns))) (_:WOk ss ns)
theorem WebAt.same (h:WebAt cw H x ss ns) (s:L2.Same H H'):WebAt cw H' x ss ns:=by
 obtain ⟨dx,d,ol,n,h1,a,b,c,e⟩:=h;exact ⟨dx,d,ol,n,s _ _ h1,s _ _ a,s _ _ b,s _ _ c,e⟩
inductive WebN (H0:Hp) (cw:Addr) (H:Hp) (x:Addr) (ss:List Str) (ns:List Nat):Prop|mk (dx d ol n:_) (_:H x=some (.ins cw dx (qB "near" (.ref n) (qB "order" (.ref ol) (qB "numbers" (.ref d) []))))) (_:H d=some (.dK (qa0 ss 0))) (_:H ol=some (.lst (ss.map V.str))) (_:H n=some (.lst (qcg ns))) (_:WOk ss ns) (_:H0 d=none) (_:H0 ol=none) (_:H0 n=none)
theorem WebN.web (h:WebN H0 cw H x ss ns):WebAt cw H x ss ns:=by
 obtain ⟨dx,d,ol,n,h1,a,b,c,e,_⟩:=h;exact ⟨dx,d,ol,n,h1,a,b,c,e⟩
inductive WebP (A:Addr->Prop) (cw:Addr) (H:Hp) (x:Addr) (ss:List Str) (ns:List Nat):Prop|mk (dx d ol n:_) (_:H x=some (.ins cw dx (qB "near" (.ref n) (qB "order" (.ref ol) (qB "numbers" (.ref d) []))))) (_:H d=some (.dK (qa0 ss 0))) (_:H ol=some (.lst (ss.map V.str))) (_:H n=some (.lst (qcg ns))) (_:WOk ss ns) (_:¬ A x) (_:¬ A d) (_:¬ A ol) (_:¬ A n)
theorem WebP.web {A:Addr->Prop} (h:WebP A cw H x ss ns):WebAt cw H x ss ns:=by
 obtain ⟨dx,d,ol,n,h1,a,b,c,e,_⟩:=h;exact ⟨dx,d,ol,n,h1,a,b,c,e⟩
theorem WebP.keep {A:Addr->Prop} (h:WebP A cw H x ss ns) (k:∀ b o,¬ A b->H b=some o->H' b=some o):WebP A cw H' x ss ns:=by
 obtain ⟨dx,d,ol,n,h1,g,i,l,m,a,c,e,f⟩:=h;exact ⟨dx,d,ol,n,k _ _ a h1,k _ _ c g,k _ _ e i,k _ _ f l,m,a,c,e,f⟩
theorem WebN.apart {A:Addr->Prop} (h:WebN H0 cw H x ss ns) (o:¬ A x) (b:∀ a,A a->H0 a≠none):WebP A cw H x ss ns:=by
 obtain ⟨dx,d,ol,n,h1,g,i,l,m,c,e,f⟩:=h;exact ⟨dx,d,ol,n,h1,g,i,l,m,o,fun z=>b _ z c,fun z=>b _ z e,fun z=>b _ z f⟩
theorem qbX:∀ (ss:List Str) (i:Nat),(qa0 ss i).map (fun a=>kV a.1)=ss.map V.str
 | [],_=>rfl
 | s::r,i=>congrArg (V.str s::·) (qbX r (i+1))
inductive spNear (vs:List V) (H:Hp) (Q:VK) (E:XK):Prop|mk (d l:Addr) (ss:List Str) (ts:List Addr) (tps:List (Str×Str)) (_:vs=[.ref d,.ref l]) (_:H d=some (.dK (qa0 ss 0))) (_:ss.length<=14) (_:ss.Nodup) (_:(∀ s∈ss,zn s=true)) (_:PL H l ts tps) (_:TGo ss tps) (_:∀ n ns H',L2.Same H H'->H n=none->H' n=some (.lst (qcg ns))->qaX ss ns tps->Q (.ref n) H')
theorem ok_near (F:Fun K "near_of" "near_of" qad f fd) (T:Txt K mg cc cw) (kU:DefOk P w K mg base CX0 3 "are_two_places" ["numbers","thing"] spTwo) (Ka:DefOk P w K mg base CX0 1 "has_bit" ["bits","number"] spBit) :
  FnOk P w K mg base CX0 4 f fd ["numbers","ties"] spNear:=by
 refine F.ok kX fun _ _ _ _ H vs Q E hr h=>?_
 .obtain ⟨d,l,ss,ts,tps,rfl,X,aj,af,I,⟨hl,G⟩,hg,q⟩:=h;have m:=j9 hr;have M:=G.len;have few:=hg.few;refine ⟨_,(qc (qN (jr (jh (qp (qdf (K:=K) rfl) rfl T.b_isinstance Y7 (qa (pv 1) (qa (qax (qa (j5 (v:=.ty "list") rfl T.b_list xP rfl) (qa (j5 (v:=.ty "tuple") rfl T.b_tuple boot_tuple rfl) qd))) qd))))) (qf jA) qt)
 (qc (qN (qk qb6 (qp (jK (K:=K) rfl) rfl T.b_len Yz (qa (pv 1) qd)) (qbm rfl T.g_MOST_TIES) (qx _)) (qf jA) qt)
 (qc (qq (i:=2) kX.nd rfl (yR rfl) (qA qdI (qO (qa qi qd)) (qp (jK (K:=K) rfl) rfl T.b_len Yz (qa (pv 0) qd))))
 (qc (jp yU rfl (qK (K:=K) rfl (pv 1)) (qr (i:=3) kX.nd rfl (yR rfl))
 (qc (qN (jr (jh (qu kU (hmR hr) qE (qa (pv 0) (qa (pv 3) qd))))) (qf jA) qt)
 (qc (qq (i:=4) kX.nd rfl (yR rfl) (qv (qw (K:=K) rfl m) (pv 0) (qv (qw (K:=K) rfl m) (pv 3) qi (fun _ _=>rfl)) (fun _ _=>rfl)))
 (qc (qq (i:=5) kX.nd rfl (yR rfl) (qv (qw (K:=K) rfl m) (pv 0) (qv (qw (K:=K) rfl m) (pv 3) qi (fun _ _=>rfl)) (fun _ _=>rfl)))
 (qc (qN (jh (qu Ka (hmR hr) qE (qa (qv (qw (K:=K) rfl m) (pv 2) (pv 4) (fun _ _=>rfl)) (qa (pv 5) qd)))) (qf jA) qt)
 (qc (jV (qA qep (qv (qw (K:=K) rfl m) (pv 2) (pv 4) (fun _ _=>rfl)) (qA qdG qi (pv 5))) (j6 (pv 2) (pv 4) (j8 m)))
 (qf (jV (qA qep (qv (qw (K:=K) rfl m) (pv 2) (pv 5) (fun _ _=>rfl)) (qA qdG qi (pv 4))) (j6 (pv 2) (pv 5) (j8 m))))))))))
 (qf (qo (pv 2))))))),?_⟩
  ext;refine ⟨by show 2<=sizeLine;decide,fun g aa=>?_⟩;have s0:=qD (Sr H) (o:=.tup [.ty "list",.ty "tuple"]) aa;ext;refine qdl (s0 _ _ hl) qb ?_;ext;refine yq ?_;ext;refine zk (s0 _ _ hl) ?_;rw [ya];ext;refine qG (fun h=>by have:=yk h;omega) fun _=>?_;ext;refine ⟨by show 1<=sizeLine;decide,fun z ah=>?_⟩;have s1:=qD s0 (o:=.lst [.int 0]) ah;ext;refine .inr ⟨_,s1 _ _ X,?_⟩;ext;rw [zo];refine ⟨z,_,_,rfl,rfl,qb,by omega,by omega,by show 1*_<=sizeLine;rw [Yx];exact yS (qg (by omega)),fun n hn=>?_⟩;rw [Yx,natV_zero];have s2:=qD s1 (o:=.lst (qcg (List.replicate ss.length 0))) hn;have n0:H n=none:=s1.free hn;ext;refine .inl ⟨⟨_,SqL.of (s2 _ _ hl)⟩,qX (K:=K) (fun i Z H'=>∃ v3 v4 v5 ns,Z=[some (.ref d),some (.ref l),some (.ref n),v3,v4,v5]/\L2.Same H H'/\H' n=some (.lst (qcg ns))/\qaX ss ns (tps.take i))
   ⟨none,none,none,_,rfl,s2,qb,bits_zero⟩ (fun i Z H' _ J=>by obtain ⟨_,_,_,_,_,z,_⟩:=J;exact SqL.of (z _ _ hl)) (fun i y Z H' hy J=>?_) fun Z H' J=>?_⟩
  .obtain ⟨v3,v4,v5,ns,rfl,O,B,a⟩:=J;rw [yd] at hy;obtain ⟨t,ht,rfl⟩:=yn.mp hy;have ac:i<ts.length:=(yc.mp ht).1;obtain ⟨⟨r,s⟩,x⟩:∃ ab,tps[i]?=some ab:=⟨_,yb (by rw [<- M];exact ac)⟩;have W:=G.at_ i t _ ht x;obtain ⟨m1,Y,c⟩:=hg.inn _ (ye x);dsimp only at W m1 Y c;have L:tps.take (i+1)=tps.take i++[(r,s)]:=by rw [yG,x];rfl
   have ag:¬ ((r,s)∈tps.take i\/(s,r)∈tps.take i):=fun z=>by
    have h3:(tps.take (i+1)).Pairwise UN:=hg.un.sublist (X2 _ _);rw [L] at h3;have h4:=(List.pairwise_append.mp h3).2.2;rcases z with z | z
    .exact (h4 _ z (r,s) (by simp)).1 rfl
    .exact (h4 _ z (r,s) (by simp)).2 rfl
   obtain ⟨D,ad,b,S⟩:=jR (i:=0) m1;obtain ⟨C,ae,u,U⟩:=jR (i:=0) Y;rw [xN] at S U;have ai:D≠C:=fun e=>by rw [e,u] at b;cases b;exact c rfl
   have p:D<ns.length:=by rw [a.1];exact ad
   have N:C<ns.length:=by rw [a.1];exact ae
   ext;refine ⟨d,t,ss,r,s,rfl,O _ _ X,O _ _ W,I _ m1,I _ Y,m1,Y,c,fun H1 t1=>?_⟩;have R:=O.trans t1;have A:=t1 _ _ B;ext;refine yq ?_;ext;refine .inl (qa8 (R _ _ W) rfl ?_);refine .inr ⟨d,.int D,rfl,?_,?_⟩
   .have:=DGet.k (k:=Sum.inr r) (R _ _ X);rw [S] at this;exact this
   ext;refine .inl (qa8 (R _ _ W) rfl ?_);refine .inr ⟨d,.int C,rfl,?_,?_⟩
   .have:=DGet.k (k:=Sum.inr s) (R _ _ X);rw [U] at this;exact this
   ext;refine .inl (qao A (qL (qaE p)) ?_);ext;refine ⟨_,_,rfl,by omega,?_⟩;rw [qcf,a.2.2 D C r s b u,yl ag];ext;refine yq ?_;ext;refine .inl (qao A (qL (qaE p)) ?_);ext;refine vI ⟨by omega,by omega,by decide⟩ ?_;ext;rw [qdT];refine .inl (qdA A (qch (by unfold qcg;rw [ya];exact p)) ?_);rw [qcC];ext;have e2:(ns.set D (ns.getD D 0 ||| 2 ^ C)).getD C 0=ns.getD C 0:=by rw [qae p,yD ai]
   refine .inl (qao qb (qL (qaE (by simpa using N))) ?_);ext;refine vI ⟨by omega,by omega,by decide⟩ ?_;ext;rw [qdT,e2];refine .inl (qdA qb (qch (by unfold qcg;rw [ya];simpa using N)) ?_);rw [qcC];refine ⟨_,_,_,_,rfl,qak (qak R n0) n0,qb,?_⟩;rw [L];exact bits_step a af b u c
  .obtain ⟨v3,v4,v5,ns,rfl,O,B,a⟩:=J;ext;rw [ya,M,yN] at a;exact q n _ H' O n0 B a
inductive spWeb (cw:Addr) (vs:List V) (H:Hp) (Q:VK) (E:XK):Prop|mk (x dx a l:Addr) (ss:List Str) (ts:List Addr) (tps:List (Str×Str)) (_:vs=[.ref x,.ref a,.ref l]) (_:H x=some (.ins cw dx [])) (_:H a=some (.lst (ss.map V.str))) (_:ss.length<=14) (_:ss.Nodup) (_:(∀ s∈ss,zn s=true)) (_:PL H l ts tps) (_:TGo ss tps) (_:∀ ns H',But x H H'->WebN H cw H' x ss ns->qaX ss ns tps->Q .non H')
theorem PL.but {C:Addr} {fs:List (Str×V)} (h:PL H l ts tps) (a:H x=some (.ins C dx fs)) (b:But x H H'):PL H' l ts tps:=
 ⟨b _ _ (zw h.1 a (by intro z;cases z)) h.1,h.2.mono fun t ab e=>b _ _ (zw e a (by intro z;cases z)) e⟩
theorem ok_web (F:Fun K "__init__" "Web.__init__" zJ f fd) (T:Txt K mg cc cw) (Z:DefOk P w K mg base CX0 4 "numbers_of" ["names"] spNums) (ub:DefOk P w K mg base CX0 4 "near_of" ["numbers","ties"] spNear) :
  FnOk P w K mg base CX0 5 f fd ["self","names","ties"] (spWeb cw):=by
 refine F.ok K2 fun _ _ _ _ H vs Q E O h=>?_
 .obtain ⟨x,dx,a,l,ss,ts,tps,rfl,X,ha,m,nd,r,N,hg,q⟩:=h;have hu:=j9 O;refine ⟨_,(qc (jJ (K:=K) rfl (pv 0) (qu Z (hmR O) qE (qa (pv 1) qd)) rfl)
 (qc (jJ (K:=K) rfl (pv 0) (jE (qat (K:=K) rfl rfl) rfl T.b_list xP (qa (qz (K:=K) rfl (pv 0) rfl) qd)) rfl)
 (qf (jJ (K:=K) rfl (pv 0) (qu ub (hmR O) qE (qa (qz (K:=K) rfl (pv 0) rfl) (qa (pv 2) qd))) rfl)))),?_⟩
  ext;refine ⟨a,ss,rfl,ha,m,nd,r,fun d H1 Y M U=>?_⟩;have b1:=(But.refl x H).same Y;have B:=Y _ _ X;have s:d≠x:=zw U B (by intro z;cases z);ext;refine .inl ⟨x,cw,dx,[],rfl,B,T.wcl,T.wn,by decide,?_⟩;have L:=b1.put (o:=.ins cw dx (qB "numbers" (.ref d) []));have g:upd H1 x (.ins cw dx (qB "numbers" (.ref d) [])) d=some (.dK (qa0 ss 0)):=by rw [qe s];exact U
  have c:upd H1 x (.ins cw dx (qB "numbers" (.ref d) [])) x=_:=qb;generalize upd H1 x (.ins cw dx (qB "numbers" (.ref d) []))=H2 at L g c;ext;refine .inl ⟨x,cw,dx,_,.ref d,rfl,c,T.wcl,T.wn,by rw [qy,yK rfl],?_⟩;ext;refine .inr (.inl ⟨d,_,rfl,g,fun ol t=>?_⟩);rw [qbX];have I:ol≠x:=fun e=>by subst e;rw [c] at t;cases t
  have b3:=L.new (o:=.lst (ss.map V.str)) t
  have A:H ol=none:=by
   cases S:H ol with
   | none=>rfl
   | some o'=>rw [L ol o' I S] at t;cases t
  have R:d≠ol:=qm g t;ext;refine .inl ⟨x,cw,dx,_,rfl,(by rw [qe I.symm];exact c),T.wcl,T.wo,Yr (jm _ _ _) (by decide),?_⟩;have G:=b3.put (o:=.ins cw dx (qB "order" (.ref ol) (qB "numbers" (.ref d) [])));have p:upd (upd H2 ol (.lst (ss.map V.str))) x (.ins cw dx (qB "order" (.ref ol) (qB "numbers" (.ref d) []))) d=some (.dK (qa0 ss 0)):=by rw [qe s,qe R];exact g
  have y:upd (upd H2 ol (.lst (ss.map V.str))) x (.ins cw dx (qB "order" (.ref ol) (qB "numbers" (.ref d) []))) ol=some (.lst (ss.map V.str)):=by rw [qe I];exact qb
  have i:upd (upd H2 ol (.lst (ss.map V.str))) x (.ins cw dx (qB "order" (.ref ol) (qB "numbers" (.ref d) []))) x=_:=qb;generalize upd (upd H2 ol (.lst (ss.map V.str))) x (.ins cw dx (qB "order" (.ref ol) (qB "numbers" (.ref d) [])))=H3 at G p y i;ext;refine .inl ⟨x,cw,dx,_,.ref d,rfl,i,T.wcl,T.wn,by rw [qy,yD (by decide +kernel),qy,yK rfl],?_⟩;ext;refine ⟨d,l,ss,ts,tps,rfl,p,m,nd,r,N.but X G,hg,fun n ns H4 J u W b=>?_⟩;have C:=J _ _ i;have D:n≠x:=zw W C (by intro z;cases z);ext;refine .inl ⟨x,cw,dx,_,rfl,C,T.wcl,T.wr,Yr (jm _ _ _) (Yr (Nat.succ_le_succ (jm _ _ _)) (by decide)),?_⟩
  have v:H n=none:=by
   cases S:H n with
   | none=>rfl
   | some o'=>rw [G n o' D S] at u;cases u
  exact q ns _ (G.same J).put ⟨dx,d,ol,n,qb,by rw [qe s];exact J _ _ p,by rw [qe I];exact J _ _ y,by rw [qe D];exact W,⟨b.1,m,nd,b.2.1,r⟩,M,A,v⟩ b
theorem KL:FnScope ["self"] ["self"] (qh jY):=fS
theorem Ky:FnScope ["self","thing"] ["self","thing"] (qh ju):=fS
theorem Kz:FnScope ["self","place"] ["self","place"] (qh jv):=fS
theorem KM:FnScope ["self","place"] ["self","place"] (qh jZ):=fS
theorem Ku:FnScope ["self","place"] ["self","place"] (qh jg):=fS
theorem Kw:FnScope ["self","one","other","bits"] ["self","one","other"] (qh zK):=fS
theorem KA:FnScope ["self","bits"] ["self","bits"] (qh jk):=fS
theorem jP {n:V}:(qB "near" n (qB "order" ol (qB "numbers" d []))).lookup ("numbers":Str)=some d:=by
 rw [qy,yD (by decide +kernel),qy,yD (by decide +kernel),qy,yK rfl]
theorem qbo {n:V}:(qB "near" n (qB "order" ol (qB "numbers" d []))).lookup ("order":Str)=some ol:=by
 rw [qy,yD (by decide +kernel),qy,yK rfl]
theorem lk_near {n:V}:(qB "near" n (qB "order" ol (qB "numbers" d []))).lookup ("near":Str)=some n:=by
 rw [qy,yK rfl]
theorem qav {f:Str} {n:V} (h:(f=="near"||f=="order"||f=="numbers")=false):(qB "near" n (qB "order" ol (qB "numbers" d []))).lookup f=none:=by
 simp only [Bool.or_eq_false_iff,YF] at h;rw [qy,yD h.1.1,qy,yD h.1.2,qy,yD h.2];rfl
noncomputable def inB:List Str->Nat->Nat->List Str
 | [],_,_=>[]
 | s::r,i,b=>if b.testBit i=true then s::inB r (i+1) b else inB r (i+1) b
theorem qaF (y:Str) (b:Nat):∀ (l:List Str) (k:Nat),inB (l++[y]) k b=inB l k b++(if b.testBit (k+l.length)=true then [y] else [])
 | [],k=>by simp [inB]
 | s::r,k=>by
  have a:=qaF y b r (k+1);have e:k+1+r.length=k+(s::r).length:=by simp;omega
  rw [e] at a;simp only [kg,inB,a];split<;>simp
theorem qaY (b:Nat):∀ (l:List Str) (k:Nat),(inB l k b).length<=l.length
 | [],_=>yh _
 | s::r,k=>by
  have a:=qaY b r (k+1);simp only [inB];split
  .simp;omega
  .simp;omega
inductive spHas (cw:Addr) (vs:List V) (H:Hp) (Q:VK) (E:XK):Prop|mk (x:Addr) (ss:List Str) (ns:List Nat) (y:Str) (_:vs=[.ref x,.str y]) (_:WebAt cw H x ss ns) (_:y∈ss) (_:∀ H',L2.Same H H'->Q (.bl true) H')
inductive spNum (cw:Addr) (vs:List V) (H:Hp) (Q:VK) (E:XK):Prop|mk (x:Addr) (ss:List Str) (ns:List Nat) (y:Str) (j:Nat) (_:vs=[.ref x,.str y]) (_:WebAt cw H x ss ns) (_:ss[j]?=some y) (_:∀ H',L2.Same H H'->Q (.int (j:Nat)) H')
inductive spBB (cw:Addr) (vs:List V) (H:Hp) (Q:VK) (E:XK):Prop|mk (x:Addr) (ss:List Str) (ns:List Nat) (y:Str) (j:Nat) (_:vs=[.ref x,.str y]) (_:WebAt cw H x ss ns) (_:ss[j]?=some y) (_:∀ H',L2.Same H H'->Q (.int (ns.getD j 0:Nat)) H')
inductive spNIn (cw:Addr) (vs:List V) (H:Hp) (Q:VK) (E:XK):Prop|mk (x:Addr) (ss:List Str) (ns:List Nat) (b:Nat) (_:vs=[.ref x,.int b]) (_:WebAt cw H x ss ns) (_:∀ l,H l=none->Q (.ref l) (upd H l (.lst ((inB ss 0 b).map V.str))))
inductive spBs (cw:Addr) (vs:List V) (H:Hp) (Q:VK) (E:XK):Prop|mk (x:Addr) (ss:List Str) (ns:List Nat) (y:Str) (j:Nat) (_:vs=[.ref x,.str y]) (_:WebAt cw H x ss ns) (_:ss[j]?=some y) (_:∀ H',L2.Same H H'->∀ l,H' l=none->Q (.ref l) (upd H' l (.lst ((inB ss 0 (ns.getD j 0)).map V.str))))
inductive spTied (cw:Addr) (vs:List V) (H:Hp) (Q:VK) (E:XK):Prop|mk (x:Addr) (ss:List Str) (ns:List Nat) (y z:Str) (j i:Nat) (_:vs=[.ref x,.str y,.str z]) (_:WebAt cw H x ss ns) (_:ss[j]?=some y) (_:ss[i]?=some z) (_:∀ H',L2.Same H H'->Q (.bl ((ns.getD j 0).testBit i)) H')
inductive spPls (cw:Addr) (vs:List V) (H:Hp) (Q:VK) (E:XK):Prop|mk (x:Addr) (ss:List Str) (ns:List Nat) (_:vs=[.ref x]) (_:WebAt cw H x ss ns) (_:∀ l,H l=none->Q (.ref l) (upd H l (.lst (ss.map V.str))))
theorem ok_has (F:Fun K "has_place" "Web.has_place" ju f fd) (T:Txt K mg cc cw) (b:DefOk P w K mg base CX0 2 "is_place" ["numbers","thing"] spPlace):FnOk P w K mg base CX0 3 f fd ["self","thing"] (spHas cw):=by
 refine F.ok Ky fun _ _ _ _ H vs Q E e h=>?_
 .obtain ⟨x,ss,ns,y,rfl,⟨dx,d,ol,n,g,c,l,i,hw⟩,a,q⟩:=h;refine ⟨_,(qf (qo (qu b (hmR e) qE (qa (qz (K:=K) rfl (pv 0) rfl) (qa (pv 1) qd))))),?_⟩;ext;refine .inl ⟨x,cw,dx,_,.ref d,rfl,g,T.wcl,T.wn,jP,?_⟩;ext;exact ⟨d,ss,y,rfl,c,hw.nm _ a,a,q⟩
theorem ok_num (F:Fun K "number_of" "Web.number_of" jv f fd) (T:Txt K mg cc cw) (o:MethOk P w K mg base CX0 3 cw "has_place" ["self","thing"] (spHas cw)):FnOk P w K mg base CX0 4 f fd ["self","place"] (spNum cw):=by
 refine F.ok Kz fun _ _ _ _ H vs Q E e h=>?_
 .obtain ⟨x,ss,ns,y,j,rfl,c,b,q⟩:=h;obtain ⟨dx,d,ol,n,g,r,v,u,hw⟩:=id c;have l:=ye b;have s:=j9 e;refine ⟨_,(qc (qN (jr (jh (qI o (hmR e) (pv 0) (qa (pv 1) qd)))) (qf jA) qt)
 (qf (qo (qv (qw (K:=K) rfl s) (qz (K:=K) rfl (pv 0) rfl) (pv 1) (fun _ _=>rfl))))),?_⟩
  ext;refine ⟨x,dx,_,rfl,g,qav (by decide +kernel),?_⟩;ext;refine ⟨x,ss,ns,y,rfl,c,l,fun H1 a=>?_⟩;ext;refine yq ?_;obtain ⟨i,t,p,m⟩:=jR (i:=0) l;rw [xN,qM hw.nd p b] at m;ext;refine .inl ⟨x,cw,dx,_,.ref d,rfl,a _ _ g,T.wcl,T.wn,jP,?_⟩;ext;refine .inr ⟨d,.int j,rfl,?_,q H1 a⟩;have:=DGet.k (k:=Sum.inr y) (a _ _ r);rw [m] at this;exact this
theorem ok_bb (F:Fun K "bits_beside" "Web.bits_beside" jg f fd) (T:Txt K mg cc cw) (m:MethOk P w K mg base CX0 4 cw "number_of" ["self","place"] (spNum cw)):FnOk P w K mg base CX0 5 f fd ["self","place"] (spBB cw):=by
 refine F.ok Ku fun _ _ _ _ H vs Q E c h=>?_
 .obtain ⟨x,ss,ns,y,j,rfl,b,a,q⟩:=h;obtain ⟨dx,d,ol,n,e,o,p,i,hw⟩:=id b;have l:=j9 c;refine ⟨_,(qf (qo (qv (qw (K:=K) rfl l) (qz (K:=K) rfl (pv 0) rfl) (qI m (hmR c) (pv 0) (qa (pv 1) qd)) (fun _ _=>rfl)))),?_⟩;ext;refine .inl ⟨x,cw,dx,_,.ref n,rfl,e,T.wcl,T.wr,lk_near,?_⟩;ext;refine ⟨x,dx,_,rfl,e,qav (by decide +kernel),?_⟩;ext;refine ⟨x,ss,ns,y,j,rfl,b,a,fun H1 g=>?_⟩;exact .inl (qao (g _ _ i) (qL (qaE (by rw [hw.len];exact (yc.mp a).1))) (q H1 g))
theorem ok_nin (F:Fun K "names_in" "Web.names_in" jk f fd) (T:Txt K mg cc cw) (A:DefOk P w K mg base CX0 1 "has_bit" ["bits","number"] spBit):FnOk P w K mg base CX0 2 f fd ["self","bits"] (spNIn cw):=by
 refine F.ok KA fun _ _ _ _ H vs Q E u h=>?_
 .obtain ⟨x,ss,ns,b,rfl,⟨dx,d,ol,n,v,D,t,L,hw⟩,q⟩:=h;have I:=j9 u;refine ⟨_,(qf (qo (jo (sc:=qh jk) (XN:=["self","bits"]) ["name","bits","self"] 1 [1,0] rfl rfl rfl (by decide +kernel) rfl (by decide +kernel)
  (qK (K:=K) rfl (qz (K:=K) rfl (pv 0) rfl)) (fun _ _ _ _=>(qr (i:=0) (show (["name","bits","self"]:List Str).Nodup by decide +kernel) rfl (yR rfl))) qP
  (fun _ _ _ _=>(qY (jh (qu A (hmR u) qE (qa (pv 1) (qa (qv (qw (K:=K) rfl I) (qz (K:=K) rfl (pv 2) rfl) (pv 0) (fun _ _=>rfl)) qd))))))
  (fun _ _ _ _=>(pv 0))))),?_⟩
  ext;refine .inl ⟨x,cw,dx,_,.ref ol,rfl,v,T.wcl,T.wo,qbo,?_⟩;refine .inl ⟨⟨_,SqL.of t⟩,qF (K:=K) (fun i ys H'=>H'=H/\ys=(inB (ss.take i) 0 b).map V.str) ⟨rfl,by simp [inB]⟩ (fun i ys H' _ e=>by rw [e.1];exact SqL.of t) (fun i y ys H' r e=>?_) fun ys H' e=>?_⟩
  .obtain ⟨rfl,rfl⟩:=e;have G:i<ss.length:=by simpa using (yc.mp r).1
   have c:ss[i]?=some ss[i]:=yb G;generalize ss[i]=s at c;have B:y=.str s:=by rw [yd,c] at r;cases r;rfl
   subst B;obtain ⟨j,J,C,z⟩:=jR (i:=0) (ye c);rw [xN] at z;have p:j=i:=qM hw.nd C c;subst p;have g:ss.take (j+1)=ss.take j++[s]:=by rw [yG,c];rfl
   have a:(ss.take j).length=j:=by rw [yJ];omega
   ext;refine .inl ⟨x,cw,dx,_,.ref d,rfl,v,T.wcl,T.wn,jP,?_⟩;ext;refine .inr ⟨d,.int j,rfl,?_,?_⟩
   .have:=DGet.k (k:=Sum.inr s) D;rw [z] at this;exact this
   ext;refine ⟨_,_,rfl,by omega,?_⟩;rw [qcf];ext
   have few:((inB (ss.take j) 0 b).map V.str).length<sizeLine:=by
    rw [ya];exact qg (yi (qaY _ _ _) (by rw [a];have:=hw.few;omega))
   refine qG (fun o=>?_) fun o=>?_
   .ext;refine ⟨few,rfl,?_⟩;rw [g,qaF,a,xN,yK o];simp
   .refine ⟨rfl,?_⟩;rw [g,qaF,a,xN,yD o];simp
  .obtain ⟨rfl,rfl⟩:=e;have m:ss.take (ss.map V.str).length=ss:=by rw [ya,yN]
   rw [m];refine ⟨?_,fun l hl=>q l hl⟩;rw [ya];exact yS (qg (yi (qaY _ _ _) (by have:=hw.few;omega)))
theorem ok_bs (F:Fun K "beside" "Web.beside" jZ f fd) (T:Txt K mg cc cw) (l:MethOk P w K mg base CX0 5 cw "bits_beside" ["self","place"] (spBB cw)) (g:MethOk P w K mg base CX0 2 cw "names_in" ["self","bits"] (spNIn cw)):FnOk P w K mg base CX0 6 f fd ["self","place"] (spBs cw):=by
 refine F.ok KM fun _ _ _ _ H vs Q E b h=>?_
 .obtain ⟨x,ss,ns,y,j,rfl,a,i,q⟩:=h;obtain ⟨dx,d,ol,n,c,_⟩:=id a;refine ⟨_,(qf (qo (qI g (hmR b) (pv 0) (qa (qI l (hmR b) (pv 0) (qa (pv 1) qd)) qd)))),?_⟩;ext;refine ⟨x,dx,_,rfl,c,qav (by decide +kernel),?_⟩;ext;refine ⟨x,dx,_,rfl,c,qav (by decide +kernel),?_⟩;ext;refine ⟨x,ss,ns,y,j,rfl,a,i,fun H1 e=>?_⟩;ext;exact ⟨x,ss,ns,_,rfl,a.same e,q H1 e⟩
theorem ok_tied (F:Fun K "tied" "Web.tied" zK f fd) (T:Txt K mg cc cw) (o:MethOk P w K mg base CX0 5 cw "bits_beside" ["self","place"] (spBB cw)) (p:MethOk P w K mg base CX0 4 cw "number_of" ["self","place"] (spNum cw))
  (g:DefOk P w K mg base CX0 1 "has_bit" ["bits","number"] spBit):FnOk P w K mg base CX0 6 f fd ["self","one","other"] (spTied cw):=by
 refine F.ok Kw fun _ _ _ _ H vs Q E b h=>?_
 .obtain ⟨x,ss,ns,y,z,j,i,rfl,a,m,l,q⟩:=h;obtain ⟨dx,d,ol,n,e,_⟩:=id a;refine ⟨_,(qc (qq (i:=3) Kw.nd rfl (yR rfl) (qI o (hmR b) (pv 0) (qa (pv 1) qd)))
 (qf (qo (qu g (hmR b) qE (qa (pv 3) (qa (qI p (hmR b) (pv 0) (qa (pv 2) qd)) qd)))))),?_⟩
  ext;refine ⟨x,dx,_,rfl,e,qav (by decide +kernel),?_⟩;ext;refine ⟨x,ss,ns,y,j,rfl,a,m,fun H1 c=>?_⟩;ext;refine ⟨x,dx,_,rfl,c _ _ e,qav (by decide +kernel),?_⟩;ext;refine ⟨x,ss,ns,z,i,rfl,a.same c,l,fun H2 r=>?_⟩;ext;refine ⟨_,_,rfl,by omega,?_⟩;rw [qcf];exact q H2 (c.trans r)
theorem ok_pls (F:Fun K "places" "Web.places" jY f fd) (T:Txt K mg cc cw):FnOk P w K mg base CX0 1 f fd ["self"] (spPls cw):=by
 refine F.ok KL fun _ _ _ _ H vs Q E g h=>?_
 .obtain ⟨x,ss,ns,rfl,⟨dx,d,ol,n,b,c,a,e,hw⟩,q⟩:=h;refine ⟨_,(qf (qo (jE (qat (K:=K) rfl rfl) rfl T.b_list xP (qa (qz (K:=K) rfl (pv 0) rfl) qd)))),?_⟩;ext;refine .inl ⟨x,cw,dx,_,.ref ol,rfl,b,T.wcl,T.wo,qbo,?_⟩;ext;exact .inl ⟨ol,_,rfl,.inl (SqL.of a),q⟩
theorem qdU (b:ss.Nodup) (h:ss[i]?=some s):ss.idxOf s=i:=by
 have a:s∈ss:=ye h;have hl:ss.idxOf s<ss.length:=xj a;exact qM b (by rw [yb hl,xM]) h
theorem qbc (f:ss.Nodup) (b:Nat):inB ss 0 b=ss.filter fun s=>b.testBit (ss.idxOf s):=by
 have e:∀ k,k<=ss.length->inB (ss.take k) 0 b=(ss.take k).filter fun s=>b.testBit (ss.idxOf s):=fun k=>by
  induction k with
  | zero=>intro _;simp [inB]
  | succ k ih =>
   intro h;have a:ss[k]?=some ss[k]:=yb (by omega);generalize ss[k]=g at a;have d:ss.take (k+1)=ss.take k++[g]:=by rw [yG,a];rfl
   have c:(ss.take k).length=k:=by rw [yJ];omega
   rw [d,qaF,y9,ih (by omega),c,xN]
   congr 1
   rw [yV,Yq,qdU f a]
 have:=e ss.length (yh _)
 rwa [yN] at this
theorem k9:FnScope ["self","ties","one","other"] ["self"] (qh zL):=fS
theorem inB_mem (a:ss.Nodup) {b:Nat} (h:s∈inB ss 0 b):s∈ss/\b.testBit (ss.idxOf s)=true:=by
 rw [qbc a] at h;exact yp.mp h
noncomputable def qeU (ss:List Str) (ns:List Nat) (i:Nat):List (Str×Str):=((inB ss 0 (ns.getD i 0)).filter fun o=>decide (i<ss.idxOf o)).map fun o=>(ss.getD i "",o)
noncomputable def qcD (ss:List Str) (ns:List Nat) (i:Nat):List (Str×Str):=(List.range i).flatMap (qeU ss ns)
def PrAt (H H':Hp) (l:Addr) (t:Addr) (ab:Str×Str):Prop:=H t=none/\t≠l/\H' t=some (.tup [.str ab.1,.str ab.2])
theorem PrAt.same {t:Addr} (h:PrAt H H1 l t ab) (s:L2.Same H1 H2):PrAt H H2 l t ab:=⟨h.1,h.2.1,s _ _ h.2.2⟩
inductive spTs (cw:Addr) (vs:List V) (H:Hp) (Q:VK) (E:XK):Prop|mk (x:Addr) (ss:List Str) (ns:List Nat) (_:vs=[.ref x]) (_:WebAt cw H x ss ns) (_:∀ (l:Addr) (ts:List Addr) (H':Hp),L2.Same H H'->H l=none->H' l=some (.lst (ts.map V.ref))->ts.length<=196->All2 (PrAt H H' l) ts (qcD ss ns ss.length)->Q (.ref l) H')
theorem ok_ts (F:Fun K "ties" "Web.ties" zL f fd) (T:Txt K mg cc cw) (Ki:MethOk P w K mg base CX0 6 cw "beside" ["self","place"] (spBs cw)):FnOk P w K mg base CX0 7 f fd ["self"] (spTs cw):=by
 refine F.ok k9 fun _ _ _ _ H vs Q E hr h=>?_
 .obtain ⟨x,ss,ns,rfl,hW,q⟩:=h;have hu:=j9 hr;obtain ⟨dx,d,ol,n,hx,hd,ho,hn,hw⟩:=id hW;have few:=hw.few
  have Z:∀ (H1:Hp) (y:Str) (i:Nat),L2.Same H H1->ss[i]?=some y->DGet H1 d (.str y) (some (.int (i:Nat))):=fun H1 y i R D=>by
   obtain ⟨j,hj,gj,vj⟩:=jR (i:=0) (ye D);rw [xN] at vj;have af:j=i:=qM hw.nd gj D;subst af;have:=DGet.k (k:=Sum.inr y) (R _ _ hd);rw [vj] at this;exact this
  refine ⟨_,(qc (qq (i:=1) k9.nd rfl (yR rfl) (qO qd))
 (qc (jp yU rfl (qK (K:=K) rfl (qz (K:=K) rfl (pv 0) rfl)) (qr (i:=2) k9.nd rfl (yR rfl))
 (qf (jp yU rfl (qK (K:=K) rfl (qI Ki (hmR hr) (pv 0) (qa (pv 2) qd))) (qr (i:=3) k9.nd rfl (yR rfl))
 (qf (qN (qk qdw (qv (qw (K:=K) rfl hu) (qz (K:=K) rfl (pv 0) rfl) (pv 2) (fun _ _=>rfl)) (qv (qw (K:=K) rfl hu) (qz (K:=K) rfl (pv 0) rfl) (pv 3) (fun _ _=>rfl)) (qx _)) (qf (qV (qbu (K:=K) rfl yP Yi Yj jc (pv 1) (qa (qax (qa (pv 2) (qa (pv 3) qd))) qd)))) qt)))))
 (qf (qo (pv 1))))),?_⟩
  ext;refine ⟨by decide,fun l hl=>?_⟩;have s0:=qD (Sr H) (o:=.lst []) hl;ext;refine .inl ⟨x,cw,dx,_,.ref ol,rfl,s0 _ _ hx,T.wcl,T.wo,qbo,?_⟩;refine .inl ⟨⟨_,SqL.of (s0 _ _ ho)⟩,qX (K:=K) (fun i J H'=>∃ (ts:List Addr) (x2 U:Option V),J=[some (.ref x),some (.ref l),x2,U]/\L2.Same H H'/\H' l=some (.lst (ts.map V.ref))/\ts.length<=i*14/\All2 (PrAt H H' l) ts (qcD ss ns i))
   ⟨[],none,none,rfl,s0,qb,by simp,All2.nil⟩ (fun i J H' _ B=>by obtain ⟨_,_,_,_,z,_⟩:=B;exact SqL.of (z _ _ ho)) (fun i y J H1 hy B=>?_) fun J H1 B=>?_⟩
  .obtain ⟨ts,x2,U,rfl,R,G,s,c⟩:=B;have hi:i<ss.length:=by simpa using (yc.mp hy).1
   have D:ss[i]?=some ss[i]:=yb hi;generalize ss[i]=p at D;have ey:y=.str p:=by rw [yd,D] at hy;cases hy;rfl
   subst ey;have al:=hw.nm p (ye D);ext;refine ⟨x,dx,_,rfl,R _ _ hx,qav (by decide +kernel),?_⟩;ext;refine ⟨x,ss,ns,p,i,rfl,hW.same R,D,fun H2 s2 b X=>?_⟩;have s3:=R.trans s2;have s4:=qD s3 (o:=.lst ((inB ss 0 (ns.getD i 0)).map V.str)) X;have S:=qD s2 (o:=.lst ((inB ss 0 (ns.getD i 0)).map V.str)) X;have eb:upd H2 b (.lst ((inB ss 0 (ns.getD i 0)).map V.str)) b=some (.lst ((inB ss 0 (ns.getD i 0)).map V.str)):=qb;have ah:b≠l:=fun e=>by rw [e,s2 _ _ G] at X;cases X
   have aj:H b=none:=s3.free X;refine .inl ⟨⟨_,SqL.of qb⟩,?_⟩;generalize upd H2 b (.lst ((inB ss 0 (ns.getD i 0)).map V.str))=H3 at s4 S eb ⊢;have L:∀ o,o∈inB ss 0 (ns.getD i 0)->o∈ss:=fun o h=>(inB_mem hw.nd h).1;have ad:=qaY (ns.getD i 0) ss 0;have r:qeU ss ns i=((inB ss 0 (ns.getD i 0)).filter fun o=>decide (i<ss.idxOf o)).map fun o=>(ss.getD i "",o):=rfl;have aa:ss.getD i ""=p:=by simp [List.getD,D]
   rw [aa] at r;generalize ak:inB ss 0 (ns.getD i 0)=bs at eb L ad r ⊢;refine qX (K:=K) (fun k J H'=>∃ (us:List Addr) (U:Option V),J=[some (.ref x),some (.ref l),some (.str p),U]/\L2.Same H H'/\H' b=some (.lst (bs.map V.str))/\H' l=some (.lst (us.map V.ref))/\us.length<=i*14+k/\All2 (PrAt H H' l) us (qcD ss ns i++((bs.take k).filter fun o=>decide (i<ss.idxOf o)).map fun o=>(p,o)))
    ⟨ts,_,rfl,s4,eb,S _ _ G,s,by simpa using c.mono fun _ _ h=>h.same S⟩ (fun k J H' _ B=>by obtain ⟨_,_,_,_,z,_⟩:=B;exact SqL.of z) (fun k u J H5 N B=>?_) fun J H5 B=>?_
   .obtain ⟨us,U,rfl,I,C,g,v,a⟩:=B;have hk:k<bs.length:=by simpa using (yc.mp N).1
    have gk:bs[k]?=some bs[k]:=yb hk;generalize bs[k]=m at gk;have eu:u=.str m:=by rw [yd,gk] at N;cases N;rfl
    subst eu;have ag:=L m (ye gk);have ae:=xj ag;have ac:ss[ss.idxOf m]?=some m:=by rw [yb ae,xM]
    have Y:bs.take (k+1)=bs.take k++[m]:=by rw [yG,gk];rfl
    ext;refine .inl ⟨x,cw,dx,_,.ref d,rfl,I _ _ hx,T.wcl,T.wn,jP,?_⟩;ext;refine .inr ⟨d,.int i,rfl,Z H5 p i I D,?_⟩;ext;refine .inl ⟨x,cw,dx,_,.ref d,rfl,I _ _ hx,T.wcl,T.wn,jP,?_⟩;ext;refine .inr ⟨d,.int (ss.idxOf m:Nat),rfl,Z H5 m _ I ac,?_⟩;ext;refine qG (fun M=>?_) fun M=>?_
    .have A:i<ss.idxOf m:=by have:=yk M;omega
     ext;refine ⟨.inl ⟨rfl,_,SqL.of g⟩,?_⟩;ext;refine ⟨by show 2<=sizeLine;decide,fun t ht=>?_⟩;have O:l≠t:=qm g ht;have ai:b≠t:=qm C ht;have s6:=qD (Sr H5) (o:=.tup [.str p,.str m]) ht;ext;refine ⟨l,_,_,rfl,rfl,by rw [qe O];exact g,by rw [ya];exact qg (by have:i*14<=14*14:=Nat.mul_le_mul_right 14 (by omega);omega),?_⟩;refine ⟨us++[t],_,rfl,qak (I.trans s6) hl,by rw [qe ah,qe ai];exact C,by rw [qb,yF];rfl,by rw [yt];show us.length+1<=_;omega,?_⟩;rw [Y,y9,yF,<- yY];have W:([m].filter fun o=>decide (i<ss.idxOf o)).map (fun o=>(p,o))=[(p,m)]:=by simp [A]
     rw [W];refine All2.snoc (a.mono fun t' ab h=>⟨h.1,h.2.1,?_⟩) ⟨I.free ht,O.symm,?_⟩
     .rw [qe h.2.1];exact s6 _ _ h.2.2
     .rw [qe O.symm,qb]
    .have A:¬ i<ss.idxOf m:=fun h=>M (yQ (by omega));refine ⟨us,_,rfl,I,C,g,by omega,?_⟩;have W:([m].filter fun o=>decide (i<ss.idxOf o)).map (fun o=>(p,o))=[]:=by simp [A]
     rw [Y,y9,yF,W,Yl];exact a
   .obtain ⟨us,U,rfl,I,C,g,v,a⟩:=B;rw [ya,yN] at a;rw [ya] at v;refine ⟨us,_,_,rfl,I,g,by omega,?_⟩;unfold qcD at a ⊢;rw [List.range_succ,xD];have W:[i].flatMap (qeU ss ns)=(bs.filter fun o=>decide (i<ss.idxOf o)).map fun o=>(p,o):=by rw [<- r];simp
    rw [W];exact a
  .obtain ⟨ts,x2,U,rfl,R,G,s,c⟩:=B;rw [ya] at s c;ext;exact q l ts H1 R hl G (by have:ss.length*14<=14*14:=Nat.mul_le_mul_right 14 few;omega) c
theorem uc:FnScope ["_law_script","_law_k"] ["_law_script","_law_k"] (qh qaG):=fS
theorem ug:FnScope ["_law_cell_here"] ["_law_cell_here"] (qh qbp):=fS
theorem Kn:FnScope ["_law_box_here","_law_many","_law_number"] ["_law_box_here","_law_many"] (qh qaH):=fS
def Box (H:Hp) (p:Addr):Prop:=∃ a b c:Int,H p=some (.lst [.int a,.int b,.int c])
def BB (p:Addr) (H H':Hp):Prop:=(∀ b o,b≠p->H b=some o->H' b=some o)/\Box H' p
theorem BB.refl (h:Box H p):BB p H H:=⟨fun _ _ _ e=>e,h⟩
theorem BB.trans (a:BB p H H1) (b:BB p H1 H2):BB p H H2:=⟨fun c o n e=>b.1 c o n (a.1 c o n e),b.2⟩
theorem BB.new (a:BB p H H1) (hl:H1 l=none):BB p H (upd H1 l o):=by
 obtain ⟨x,y,z,b⟩:=a.2;refine ⟨fun c u n e=>?_,x,y,z,?_⟩
 .have q:=a.1 c u n e;rw [qe (qm q hl)];exact q
 .rw [qe (qm b hl)];exact b
inductive spTake (vs:List V) (H:Hp) (Q:VK) (E:XK):Prop|mk (p:Addr) (m:Int) (_:vs=[.ref p,.int m]) (_:Box H p) (_:0<m) (_:m<1073741824) (_:∀ (r:Int) (H':Hp),0<=r->r<m->BB p H H'->Q (.int r) H')
theorem ok_take (F:Fun K "_law_take" "_law_take" qaH f fd):FnOk P w K mg base CX0 1 f fd ["_law_box_here","_law_many"] spTake:=by
 refine F.ok Kn fun _ _ _ _ H vs Q E q h=>?_
 .obtain ⟨p,m,rfl,⟨a,b,c,g⟩,l,h1,k⟩:=h;have d:=j9 q;refine ⟨_,(qc (qN (qk qb6 (qv (qw (K:=K) rfl d) (pv 0) qi (fun _ _=>rfl)) qi (qx _)) (qc (qq (i:=2) Kn.nd rfl (yR rfl) (qA j7 (qv (qw (K:=K) rfl d) (pv 0) qi (fun _ _=>rfl)) (pv 1)))
 (qc (jV (qA qcY (qv (qw (K:=K) rfl d) (pv 0) qi (fun _ _=>rfl)) (pv 1)) (j6 (pv 0) qi (j8 d)))
 (qf (qo (pv 2))))) qt)
 (qc (jV (qA (jI (K:=K) rfl) (qv (qw (K:=K) rfl d) (pv 0) qi (fun _ _=>rfl)) qi) (j6 (pv 0) qi (j8 d)))
 (qc (qq (i:=2) Kn.nd rfl (yR rfl) (qA j7 (qA (jI (K:=K) rfl) (qA (jI (K:=K) rfl) (qA qbj (qv (qw (K:=K) rfl d) (pv 0) qi (fun _ _=>rfl)) qi) (qA qbj qi (qv (qw (K:=K) rfl d) (pv 0) qi (fun _ _=>rfl)))) qi) qi))
 (qc (qq (i:=2) Kn.nd rfl (yR rfl) (qA j7 (qA (jI (K:=K) rfl) (qA (jI (K:=K) rfl) (qA qbj (pv 2) (pv 2)) (qA qbj qi (qv (qw (K:=K) rfl d) (pv 0) qi (fun _ _=>rfl)))) qi) qi))
 (qf (qo (qA j7 (qA j7 (qA qbj (pv 2) (qA (jI (K:=K) rfl) (pv 2) qi)) qi) (pv 1)))))))),?_⟩
  ext;refine .inl (qao g rfl ?_);ext;refine qG (fun hc=>?_) (fun hc=>?_)
  .ext;refine .inl (qao g rfl ?_);ext;refine vI l ?_;ext;refine .inl (qao g rfl ?_);ext;refine vI ⟨l,h1⟩ ?_;ext;refine .inl (qdA g rfl ?_);ext;exact k _ _ (YL _ (by omega)) (YM _ l) ⟨fun x o n e=>by rw [qe n];exact e,_,_,_,qb⟩
  .ext;refine .inl (qao g rfl ?_);ext;refine .inl (qdA g rfl ?_);ext;refine .inl (qao qb rfl ?_);ext;refine qbl (.inr (by decide)) ?_;ext;refine .inl (qao qb rfl ?_);ext;refine qbl (.inl (by decide)) ?_;ext;refine vI (by decide) ?_;ext;have r:=YL (b*48271+7919*(c+1)+101) (show (2147483647:Int)≠0 by decide);have s:=YM (b*48271+7919*(c+1)+101) (show (0:Int)<2147483647 by decide);refine qbl (.inl ⟨by omega,by omega⟩) ?_;ext;refine .inl (qao qb rfl ?_);ext;refine qbl (.inl (by decide)) ?_;ext;refine vI (by decide) ?_;ext;generalize ((b*48271+7919*(c+1)+101) % 2147483647*((b*48271+7919*(c+1)+101) % 2147483647)+104729*(c+1)+7)=z;have t:=YL z (show (2147483629:Int)≠0 by decide);have u:=YM z (show (0:Int)<2147483629 by decide);refine qbl (.inl ⟨by omega,by omega⟩) ?_;ext;refine vI (by decide) ?_;ext;refine vI l ?_;exact k _ _ (YL _ (by omega)) (YM _ l) ⟨fun x o n e=>by rw [qe n];exact e,_,_,_,qb⟩
inductive spCell (K:W.Frag) (vs:List V) (H:Hp) (Q:VK) (E:XK):Prop|mk (a:Addr) (ns:List Int) (k:Int) (_:vs=[.ref a,.int k]) (_:SqL K H a (ns.map V.int)) (_:0<=k) (_:k<1000) (_:∀ i:Int,Q (.int i) H)
theorem ok_cell (F:Fun K "_law_cell" "_law_cell" qaG f fd) (T:Txt K mg cc cw):FnOk P w K mg base CX0 1 f fd ["_law_script","_law_k"] (spCell K):=by
 refine F.ok uc fun _ _ _ _ H vs Q E m h=>?_
 .obtain ⟨a,ns,k,rfl,e,l,h1,q⟩:=h;have n:=j9 m;refine ⟨_,(qc (qN (qk qdw (pv 1) (qp (jK (K:=K) rfl) rfl T.b_len Yz (qa (pv 0) qd)) (qx _)) (qf (qo (qv (qw (K:=K) rfl n) (pv 0) (pv 1) (fun _ _=>rfl)))) qt)
 (qf (qo (qA (jI (K:=K) rfl) (qA qbj qi (pv 1)) qi)))),?_⟩
  ext;refine qdJ e ?_;ext;refine qG (fun hc=>?_) (fun hc=>?_)
  .ext;have c:k<(ns.map V.int).length:=yk hc;obtain ⟨v,g,b⟩:=qdd l c;rw [yd] at b
   cases d:ns[k.toNat]? with
   | none=>rw [d] at b;cases b
   | some i =>
    rw [d] at b;cases b;exact .inl (vIxLs e g (q i))
  .ext;refine qbl (.inl (by decide)) ?_;ext;exact q _
inductive spBox (vs:List V) (H:Hp) (Q:VK) (E:XK):Prop|mk (i:Int) (_:vs=[.int i]) (_:∀ (p:Addr) (a b c:Int),H p=none->Q (.ref p) (upd H p (.lst [.int a,.int b,.int c])))
theorem ok_box (F:Fun K "_law_box" "_law_box" qbp f fd):FnOk P w K mg base CX0 1 f fd ["_law_cell_here"] spBox:=by
 refine F.ok ug fun _ _ _ _ H vs Q E b h=>?_
 .obtain ⟨i,rfl,q⟩:=h;have c:=j9 b;refine ⟨_,(qc (qN (qk op_ge (pv 0) (qA op_pow qi qi) (qx _)) (qf (qo (qO (qa (pv 0) (qa (qA j7 (pv 0) qi) (qa qi qd)))))) qt)
 (qf (qo (qO (qa qi (qa (qA j7 (pv 0) qi) (qa qi qd))))))),?_⟩
  ext;refine vI ⟨by decide,by decide,by decide⟩ ?_;ext;refine qG (fun hc=>?_) (fun hc=>?_)
  .ext;refine vI (by decide) ?_;ext;exact ⟨by show 3<=sizeLine;decide,fun p a=>q p _ _ _ a⟩
  .ext;refine vI (by decide) ?_;ext;exact ⟨by show 3<=sizeLine;decide,fun p a=>q p _ _ _ a⟩
theorem BB.apart (a:BB p H H1) (hl:H1 l=none):l≠p:=fun e=>by subst e;obtain ⟨_,_,_,z⟩:=a.2;rw [z] at hl;cases hl
theorem BB.free (a:BB p H H1) (hl:H1 l=none):H l=none:=by
 cases q:H l with
 | none=>rfl
 | some o=>rw [a.1 l o (a.apart hl) q] at hl;cases hl
theorem BB.put (a:BB p H H1) (hl:H l=none) (d:l≠p):BB p H (upd H1 l o):=by
 obtain ⟨x,y,z,b⟩:=a.2;exact ⟨fun c u n e=>by rw [qe (qm e hl)];exact a.1 c u n e,x,y,z,by rw [qe d.symm];exact b⟩
theorem BB.same (a:BB p H H1) (s:L2.Same H1 H2):BB p H H2:=by
 obtain ⟨x,y,z,b⟩:=a.2;exact ⟨fun c u n e=>s c u (a.1 c u n e),x,y,z,s _ _ b⟩
theorem Box.apart (h:Box H p) (hl:H l=none):l≠p:=(BB.refl h).apart hl
noncomputable def NewH (H H':Hp):Hp:=fun a=>match H a with | none=>H' a | some _=>none
theorem je:∀ {l m:List Str},l.Nodup->(∀ x∈l,x∈m)->l.length<=m.length
 | [],_,_,_=>YW _
 | x::r,m,hn,h=>by
  obtain ⟨h1,c⟩:=yo.mp hn;have a:=h x yO;have d:=je (l:=r) (m:=m.erase x) c fun y b=>(List.mem_erase_of_ne (fun e=>h1 (by rw [<- e];exact b))).mpr (h y (yC _ b));rw [xz a] at d;have:0<m.length:=xO a;simp only [yA];omega
theorem zq (c:Str) (ss:List Str):inV (.str c) (ss.map V.str)=decide (c∈ss):=by
 unfold inV;rw [List.any_map,Y5,xH,Ye];constructor
 .rintro ⟨y,a,e⟩;have:y=c:=eq_of_beq e;rw [<- this];exact a
 .intro h;exact ⟨c,h,xG c⟩
theorem jF (ss:List Str):(ss.map V.str).all zQ=true:=by rw [kn];exact YC.mpr fun _ _=>rfl
inductive spFresh (vs:List V) (H:Hp) (Q:VK) (E:XK):Prop|mk (l:Addr) (ss:List Str) (_:vs=[.ref l]) (_:H l=some (.lst (ss.map V.str))) (_:ss.length<=14) (_:∀ (x:Str) (H':Hp),L2.Same H H'->zn x=true->x∉ss->Q (.str x) H')
noncomputable def signs:List Str:=("abcdefghijklmno":Str).cps.toList.map fun c=>⟨#[c]⟩
theorem kI:FnScope ["_law_box_here","_law_many","_law_letters","_law_way","_law_shift","_law_step","_law_stem","_law_ahead","_law_names_here","_law_k","_law_name"] ["_law_box_here","_law_many"] (qh za):=fS
theorem slice_ix (k n:Nat):Builtin.Str.strSliceIndices none (some (k:Int)) 1 n=List.range (min k n):=by
 unfold Builtin.Str.strSliceIndices sliceRange;simp only [show (1:Int)>0 by decide,Xx];rw [yD (show ¬ ((k:Int)<0) by omega)];have a:max 0 (min (k:Int) n)=((min k n:Nat):Int):=by omega
 rw [a];have b:(fun (j:Nat)=>((0:Int)+1*(j:Int)).toNat)=id:=by funext j;show _=j;omega
 rw [b,List.map_id]
 congr 1
 split
 .rw [Int.ediv_one];omega
 .omega
theorem qdm (a:Array Nat):∀ m,m<=a.size->(List.range m).filterMap (a[·]?)=a.toList.take m
 | 0,_=>rfl
 | m+1,h=>by
  rw [List.range_succ,List.filterMap_append,qdm a m (by omega),yG]
  congr 1
  have e:a[m]?=some a[m]:=xp (by omega);have b:a.toList[m]?=some a[m]:=by rw [xQ];exact e
  rw [b,x0,e];rfl
theorem zM (z:Str) (k:Nat):(Txt.slice z none (some (k:Int))).cps.toList=z.cps.toList.take k:=by
 unfold Txt.slice;rw [slice_ix];have hz:z.length=z.cps.toList.length:=by simp [Str.length]
 split
 .rename_i h
  rw [xU] at h;have:min k z.length=z.length:=by simpa using h
  rw [YD (by omega)]
 .show (List.filterMap _ _).toArray.toList=_;rw [qdm z.cps (min k z.length) (kc _ _)];show z.cps.toList.take (min k z.length)=_;by_cases a:k<=z.length
  .rw [ku a]
  .rw [ki (by omega),YD (by omega),YD (by omega)]
theorem qaf (a b:Str):(a++b).cps.toList=a.cps.toList++b.cps.toList:=by
 show (a.cps++b.cps).toList=_;exact Array.toList_append
theorem qcE:∀ {xs:List Str},(∀ x∈xs,x.cps.toList.all sg=true)->(Str.join "" xs).cps.toList.all sg=true
 | [],_=>rfl
 | [x],h=>h x (by simp)
 | x::y::r,h=>by
  have e:Str.join "" (x::y::r)=x++""++Str.join "" (y::r):=rfl;rw [e,qaf,qaf,XJ,XJ,h x (by simp),qcE fun z hz=>h z (yC _ hz)]
  decide +kernel
theorem qeb {c:Nat} (h:97<=c) (b:c<=122):sg c=true:=by
 have a:∀ i,i<26->sg (97+i)=true:=by decide +kernel
 have:=a (c-97) (by omega)
 rwa [show 97+(c-97)=c by omega] at this
theorem join_len {xs:List Str} (h:∀ x∈xs,x.length=1):(Txt.join "" xs).length=xs.length:=by
 have e:Txt.join "" xs=Str.join "" xs:=Yk.mp (join_plain_closes "" xs);rw [e]
 cases xs with
 | nil=>rfl
 | cons a l =>
  rw [len_join_cons]
  have b:∀ l:List Str,(∀ x∈l,x.length=1)->(l.map (·.length)).sum=l.length:=by
   intro l
   induction l with
   | nil=>intro _;rfl
   | cons a l ih =>
    intro h;rw [Yv,List.sum_cons,h a yO,ih fun x c=>h x (yC _ c),yA];omega
  have z:("":Str).length=0:=by decide +kernel
  rw [b _ h,z];omega
theorem sum_ones {xs:List Str} (h:∀ x∈xs,x.length=1):(xs.map (·.length)).sum=xs.length:=by
 induction xs with
 | nil=>rfl
 | cons a l ih =>
  rw [Yv,List.sum_cons,h a yO,ih fun x b=>h x (yC _ b),yA];omega
def Signs (p:Addr) (H:Hp) (i:Nat) (ys:List V) (H':Hp):Prop:=BB p H H'/\∃ xs:List Str,ys=xs.map V.str/\xs.length=i/\∀ x∈xs,x.length=1/\x.cps.toList.all sg=true
theorem Signs.start (h:Box H p):Signs p H 0 [] H:=⟨BB.refl h,[],rfl,rfl,fun _ h=>by cases h⟩
theorem Signs.more {c:Nat} (h:Signs p H i ys H1) (b:BB p H1 H2) (hc:sg c=true):Signs p H (i+1) (ys++[.str ⟨#[c]⟩]) H2:=by
 obtain ⟨a,xs,rfl,hl,h1⟩:=h;refine ⟨a.trans b,xs++[⟨#[c]⟩],by rw [yF];rfl,by rw [yt,hl];rfl,fun x d=>?_⟩;rcases yx.mp d with z | z
 .exact h1 x z
 .rw [yB.mp z];exact ⟨rfl,by simp [hc]⟩
theorem Signs.len (h:Signs p H i ys H1):ys.length=i:=by
 obtain ⟨_,xs,rfl,hl,_⟩:=h;rw [ya,hl]
noncomputable def L26:Str:="abcdefghijklmnopqrstuvwxyz"
theorem qdV {i:Int} (b:0<=i) (h1:i<26):atI L26.cps.toList i=some (97+i.toNat):=by
 obtain ⟨n,rfl⟩:=xJ b;have a:∀ n,n<26->L26.cps.toList[n]?=some (97+n):=by decide +kernel
 rw [Yx];exact qL (a n (by omega))
theorem qcF {x:Str} {l:List Nat} (e:x.cps.toList=l) (h1:1<=l.length) (a:l.length<=6) (h:l.all sg=true):zn x=true:=by
 have hl:x.length=l.length:=by rw [<- e];simp [Str.length]
 unfold zn;rw [yK ⟨by omega,by omega⟩,e];exact h
theorem qbY (h:∀ (i j:Nat) (s:Str),ss[i]?=some s->ss[j]?=some s->i=j):ss.Nodup:=by
 refine Yp.mpr fun i j a c b e=>?_;have:=h i j ss[j] (by rw [yb a,e]) (yb c);omega
theorem qcG {step sh a b:Int} (c:step∈[(1:Int),3,5,7,9,11,15,25]) (g:0<=a) (h:0<=b) (d:a<26) (f:b<26) (e:(sh+step*a) % 26=(sh+step*b) % 26):a=b:=by
 simp only [yy,yX,YO] at c;rcases c with rfl | rfl | rfl | rfl | rfl | rfl | rfl | rfl<;>omega
def NL (p:Addr) (H':Hp) (l:Addr) (ss:List Str):Prop:=H' l=some (.lst (ss.map V.str))/\l≠p
structure NOk (ss:List Str):Prop where
 few:ss.length<=14
 nd:ss.Nodup
 nm:∀ s∈ss,zn s=true
inductive spNames (vs:List V) (H:Hp) (Q:VK) (E:XK):Prop|mk (p:Addr) (m:Int) (_:vs=[.ref p,.int m]) (_:Box H p) (_:0<=m) (_:m<=14) (_:∀ (l:Addr) (ss:List Str) (H':Hp),BB p H H'->H l=none->NL p H' l ss->NOk ss->(ss.length:Int)<=m->Q (.ref l) H')
theorem ok_names (F:Fun K "_law_names" "_law_names" za f fd) (T:Txt K mg cc cw) (X:DefOk P w K mg base CX0 1 "_law_take" ["_law_box_here","_law_many"] spTake):FnOk P w K mg base CX0 2 f fd ["_law_box_here","_law_many"] spNames:=by
 refine F.ok kI fun _ _ _ s H vs Q E O h=>?_
 .obtain ⟨p,m,rfl,hB,m0,am,q⟩:=h;have hu:=j9 O;refine ⟨_,(qc (qq (i:=2) kI.nd rfl (XG rfl) qbw)
 (qc (qq (i:=3) kI.nd rfl (yR rfl) (qu X (hmR O) qE (qa (pv 0) (qa qi qd))))
 (qc (qq (i:=4) kI.nd rfl (XG rfl) (qu X (hmR O) qE (qa (pv 0) (qa qi qd))))
 (qc (qq (i:=5) kI.nd rfl (XG rfl) (qv (qw (K:=K) rfl hu) (qO (qa qi (qa qi (qa qi (qa qi (qa qi (qa qi (qa qi (qa qi qd))))))))) (qu X (hmR O) qE (qa (pv 0) (qa qi qd))) (fun _ _=>rfl)))
 (qc (qq (i:=6) kI.nd rfl (XG rfl) (qbu (K:=K) rfl PySem.F.plainAttrs_str PySem.F.slot_str_join PySem.F.type_str_join (k_join (K:=K) rfl) qbw (qa (jo (sc:=qh za) (XN:=["_law_box_here","_law_many","_law_letters","_law_way","_law_shift","_law_step","_law_stem","_law_ahead","_law_names_here","_law_k","_law_name"]) ["_law_k","_law_letters","_law_box_here"] 1 [2,0] rfl rfl rfl (by decide +kernel) rfl (by decide +kernel)
  (jD rfl T.b_range (qa qi qd)) (fun _ _ _ _=>(qr (i:=0) (show (["_law_k","_law_letters","_law_box_here"]:List Str).Nodup by decide +kernel) rfl (yR rfl))) qP
  (fun _ _ _ _=>zj)
  (fun _ _ _ _=>(qv (qw (K:=K) rfl hu) (pv 1) (qu X (hmR O) qE (qa (pv 2) (qa qi qd))) (fun _ _=>rfl)))) qd)))
 (qc (qN (qk (zW (K:=K) rfl hu) (pv 3) qi (qx _)) (qf (qo (jo (sc:=qh za) (XN:=["_law_box_here","_law_many","_law_letters","_law_way","_law_shift","_law_step","_law_stem","_law_ahead","_law_names_here","_law_k","_law_name"]) ["_law_k","_law_letters","_law_stem","_law_shift","_law_step"] 1 [2,6,4,5] rfl rfl rfl (by decide +kernel) rfl (by decide +kernel)
  (jD rfl T.b_range (qa (pv 1) qd)) (fun _ _ _ _=>(qr (i:=0) (show (["_law_k","_law_letters","_law_stem","_law_shift","_law_step"]:List Str).Nodup by decide +kernel) rfl (yR rfl))) qP
  (fun _ _ _ _=>zj)
  (fun _ _ _ _=>(qA (jI (K:=K) rfl) (qv (qw (K:=K) rfl hu) (pv 1) (qA j7 (qA (jI (K:=K) rfl) (pv 3) (qA qbj (pv 4) (qA qcY (pv 0) qi))) qi) (fun _ _=>rfl)) (ze (qd9 (K:=K) rfl) (pv 2) zT (jQ (qA j7 (pv 0) qi)))))))) qt)
 (qc (qq (i:=7) kI.nd rfl (yR rfl) (qu X (hmR O) qE (qa (pv 0) (qa qi qd))))
 (qc (qq (i:=8) kI.nd rfl (yR rfl) (qO qd))
 (qc (jp yU rfl (jD rfl T.b_range (qa (pv 1) qd)) (qr (i:=9) kI.nd rfl (yR rfl))
 (qc (qq (i:=10) kI.nd rfl (yR rfl) (qA (jI (K:=K) rfl) (ze (qd9 (K:=K) rfl) (pv 6) zT (jQ (pv 7))) (qv (qw (K:=K) rfl hu) (pv 2) (qA j7 (qA (jI (K:=K) rfl) (pv 4) (qA qbj (pv 5) (pv 9))) qi) (fun _ _=>rfl))))
 (qf (qV (qbu (K:=K) rfl yP Yi Yj jc (pv 8) (qa (qA (jI (K:=K) rfl) (pv 10) (ze (qd9 (K:=K) rfl) (pv 6) zT (jQ (qA qbj (qu X (hmR O) qE (qa (pv 0) (qa (qA qa3 qi (pv 7)) qd))) (qA qa3 (pv 3) qi))))) qd))))))
 (qf (qo (pv 8)))))))))))),?_⟩
  ext;refine ⟨p,3,rfl,hB,by decide,by decide,fun D H1 w0 w1 b1=>?_⟩;ext;refine ⟨p,26,rfl,b1.2,by decide,by decide,fun a H2 an ao b2=>?_⟩;replace b2:=b1.trans b2;ext;refine ⟨by show 8<=sizeLine;decide,fun l8 h8=>?_⟩;generalize S:[V.int 1,V.int 3,V.int 5,V.int 7,V.int 9,V.int 11,V.int 15,V.int 25]=xs;have b3:=b2.new (o:=.lst xs) h8;have n8:=b2.apart h8;have e8:upd H2 l8 (.lst xs) l8=some (.lst xs):=qb;generalize upd H2 l8 (.lst xs)=H3 at b3 e8 ⊢;ext;refine ⟨p,8,rfl,b3.2,by decide,by decide,fun r H4 r0 r1 B=>?_⟩;replace e8:=B.1 _ _ n8 e8;replace B:=b3.trans B;have al:xs.length=8:=by rw [<- S];rfl
  obtain ⟨v,ix,hv⟩:=qdd (xs:=xs) r0 (by omega)
  obtain ⟨step,rfl,ac,ap,aq⟩:∃ i:Int,v=.int i/\i∈[(1:Int),3,5,7,9,11,15,25]/\0<=i/\i<=25:=by
   have hm:=ye hv;rw [<- S] at hm;simp only [yy,yX,YO] at hm;rcases hm with rfl | rfl | rfl | rfl | rfl | rfl | rfl | rfl<;>exact ⟨_,rfl,by decide,by decide,by decide⟩
  refine .inl (qao e8 ix ?_);clear hv ix S e8;ext;refine ⟨rfl,?_⟩;ext;refine ⟨5,rfl,by decide,by decide,qan (lo:=0) (n:=5) (Signs p H4) (Signs.start B.2) (fun i ys H' J y=>?_) fun ys H5 y=>?_⟩
  .ext;refine zg ?_;ext;refine ⟨p,26,rfl,y.1.2,by decide,by decide,fun r aj r0 r1 hb=>?_⟩;refine .inl (qe9 (by decide +kernel) (qdV r0 r1) ?_);exact ⟨by rw [y.len];exact qg (by omega),y.more hb (qeb (by omega) (by omega))⟩
  .refine ⟨by rw [y.len];decide,fun l5 h5=>?_⟩;obtain ⟨af,I,rfl,hn,h1⟩:=y;replace B:=(B.trans af).new (o:=.lst (I.map V.str)) h5;ext;refine ⟨_,l5,I,rfl,rfl,SqL.of qb,by rw [sum_ones fun x hx=>(h1 x hx).1,show ("":Str).length=0 by decide +kernel];omega,?_⟩;have u:(Txt.join "" I).length=5:=by rw [join_len fun x hx=>(h1 x hx).1];omega
   have C:(Txt.join "" I).cps.toList.all sg=true:=by
    have e:Txt.join "" I=Str.join "" I:=Yk.mp (join_plain_closes "" I);rw [e];exact qcE fun x hx=>(h1 x hx).2
   generalize Txt.join "" I=b at u C ⊢;have Y:b.cps.toList.length=5:=by rw [<- u];simp [Str.length]
   have U:∀ k,(b.cps.toList.take k).all sg=true:=fun k=>YC.mpr fun c hc=>YC.mp C c (List.mem_of_mem_take hc)
   have R:∀ k:Nat,(Txt.slice b none (some (k:Int))).length=min k 5:=fun k=>by
    have:(Txt.slice b none (some (k:Int))).length=(Txt.slice b none (some (k:Int))).cps.toList.length:=by simp [Str.length]
    rw [this,zM,yJ,Y]
   generalize upd H5 l5 (.lst (I.map V.str))=H6 at B ⊢;have z:∀ {i:Int} {H:Hp} {Q:VK},0<=i->i<26->Q (.str ⟨#[97+i.toNat]⟩) H->qez K (.str L26) (.int i) H Q:=fun h0 h1 k=>.inl (qe9 (by decide +kernel) (qdV h0 h1) k);ext;refine .inl (.inl (.inl ⟨rfl,rfl,?_⟩));ext;refine qG (fun hw=>?_) fun hw=>?_
   .ext;refine ⟨m,rfl,by omega,by omega,qan (lo:=0) (fun i ys H'=>H'=H6/\∃ ss:List Str,ys=ss.map V.str/\ss.length=i/\∀ (j:Nat) s,ss[j]?=some s->s.cps.toList=(97+((a+step*((j:Int) / 6)) % 26).toNat)::b.cps.toList.take (j % 6)) ⟨rfl,[],rfl,rfl,by simp⟩ (fun i ys H' J y=>?_) fun ys H' y=>?_⟩
    .obtain ⟨rfl,ss,rfl,d,g⟩:=y;ext;refine zg ?_;ext;refine vI ⟨by decide,by decide⟩ ?_;ext;refine qbl (.inl ⟨by omega,by omega⟩) ?_;ext;refine vI (by decide) ?_;ext;refine z (YL _ (by decide)) (YM _ (by decide)) ?_;ext;refine vI (by decide) ?_;ext;refine qeT (yi (XU u) (by decide)) ?_;rw [XV,show ((i:Int) % 6)=((i % 6:Nat):Int) by omega];refine qd8 (by rw [R];show 1+_<=_;exact yS (qg (by omega))) ?_;refine ⟨by rw [ya,d];exact qg (by omega),rfl,ss++[_],by rw [yF];rfl,by rw [yt,d];rfl,fun j s t=>?_⟩;by_cases N:j<ss.length
     .rw [yT N] at t;exact g j s t
     .rw [yz (by omega)] at t;have h0:j-ss.length=0:=by have:=(yc.mp t).1;simp at this;omega
      rw [h0] at t;cases t;have M:j=i:=by omega
      subst M;rw [qaf,zM];rfl
    .obtain ⟨rfl,ss,rfl,d,g⟩:=y;refine ⟨by rw [ya,d];exact yS (qg (by omega)),fun l hl=>?_⟩;refine q l ss _ (B.new hl) (B.free hl) ⟨qb,B.apart hl⟩ ⟨by omega,qbY fun i j s J t=>?_,fun s y=>?_⟩ (by omega)
     .have ei:=g i s J;have ej:=g j s t;have li:=(yc.mp J).1;have lj:=(yc.mp t).1;rw [ei,List.cons.injEq] at ej;obtain ⟨e1,e2⟩:=ej;have e3:=congrArg List.length e2;rw [yJ,yJ,Y] at e3
      have e4:(i:Int) / 6=(j:Int) / 6:=qcG (sh:=a) ac (by omega) (by omega) (by omega) (by omega) (by
       have p1:=YL (a+step*((i:Int) / 6)) (show (26:Int)≠0 by decide);have p2:=YL (a+step*((j:Int) / 6)) (show (26:Int)≠0 by decide);omega)
      omega
     .obtain ⟨j,t,e⟩:=YH y;refine qcF (g j s (by rw [yb t,e])) (by simp) (by simp [Y];omega) ?_;rw [Xb,U,qeb (by omega) (by have:=YM (a+step*((j:Int) / 6)) (show (0:Int)<26 by decide);omega)];rfl
   .ext;refine ⟨p,4,rfl,B.2,by decide,by decide,fun ae H7 a0 a1 Z=>?_⟩;obtain ⟨A,rfl⟩:=xJ a0;replace Z:=B.trans Z;ext;refine ⟨by decide,fun l hl=>?_⟩;have b8:=Z.new (o:=.lst []) hl;have nl:=Z.apart hl;have aa:=Z.free hl;ext;refine ⟨m,rfl,by omega,by omega,zy (fun i σ H'=>BB p H H'/\∃ (ss:List Str) (x9 W:Option V),σ=[some (.ref p),some (.int m),some (.str L26),some (.int D),some (.int a),some (.int step),some (.str b),some (.int (A:Int)),some (.ref l),x9,W]/\H' l=some (.lst (ss.map V.str))/\ss.length=i/\∀ (j:Nat) s,ss[j]?=some s->zn s=true/\s.cps.toList[A]?=some (97+((a+step*(j:Int)) % 26).toNat))
     ⟨b8,[],none,none,rfl,qb,rfl,by simp⟩ (fun i σ H8 J hp=>?_) fun σ H8 hp=>?_⟩
    .obtain ⟨b9,ss,x9,W,rfl,g,d,hk⟩:=hp;ext;refine qeT (yi (XU u) (by decide)) ?_;ext;refine qbl (.inl ⟨by omega,by omega⟩) ?_;ext;refine vI (by decide) ?_;ext;rw [XV];refine z (YL _ (by decide)) (YM _ (by decide)) ?_;refine qd8 (by rw [R];show _+1<=_;exact yS (qg (by omega))) ?_;have L:(Txt.slice b none (some (A:Int))++(⟨#[97+((a+step*(i:Int)) % 26).toNat]⟩:Str)).cps.toList=b.cps.toList.take A++[97+((a+step*(i:Int)) % 26).toNat]:=by rw [qaf,zM]
     have ag:(Txt.slice b none (some (A:Int))++(⟨#[97+((a+step*(i:Int)) % 26).toNat]⟩:Str)).length<=6:=by
      have:(Txt.slice b none (some (A:Int))++(⟨#[97+((a+step*(i:Int)) % 26).toNat]⟩:Str)).length=(Txt.slice b none (some (A:Int))++(⟨#[97+((a+step*(i:Int)) % 26).toNat]⟩:Str)).cps.toList.length:=by simp [Str.length]
      rw [this,L];simp [Y];omega
     generalize Txt.slice b none (some (A:Int))++(⟨#[97+((a+step*(i:Int)) % 26).toNat]⟩:Str)=nm at L ag ⊢;ext;refine ⟨.inl ⟨rfl,_,SqL.of g⟩,?_⟩;ext;refine ⟨p,_,rfl,b9.2,by omega,by omega,fun r H9 r0 r1 G=>?_⟩;replace g:=G.1 _ _ nl g;replace G:=b9.trans G;ext;refine qbl (.inl ⟨by omega,by omega⟩) ?_;ext;refine qeT (yi (XU u) (by decide)) ?_
     have ad:D=1\/D=2:=by
      have:¬ D=0:=fun e=>hw (by subst e;rfl);omega
     obtain ⟨k,ak,ek⟩:∃ k:Nat,k<=5-A/\r*(D-1)=(k:Int):=by
      rcases ad with rfl | rfl
      .exact ⟨0,by omega,by omega⟩
      .exact ⟨r.toNat,by omega,by omega⟩
     rw [ek];refine qd8 (by rw [R];exact yS (qg (by omega))) ?_;refine ⟨l,_,_,rfl,rfl,g,by rw [ya,d];exact qg (by omega),?_⟩;refine ⟨G.put aa nl,ss++[_],_,_,rfl,by rw [qb,yF];rfl,by rw [yt,d];rfl,fun j s t=>?_⟩;by_cases N:j<ss.length
     .rw [yT N] at t;exact hk j s t
     .rw [yz (by omega)] at t;have h0:j-ss.length=0:=by have:=(yc.mp t).1;simp at this;omega
      rw [h0] at t;cases t;have M:j=i:=by omega
      subst M;have eF:(nm++Txt.slice b none (some (k:Int))).cps.toList=b.cps.toList.take A++[97+((a+step*(j:Int)) % 26).toNat]++b.cps.toList.take k:=by rw [qaf,L,zM]
      have ai:=YM (a+step*(j:Int)) (show (0:Int)<26 by decide);refine ⟨qcF eF (by simp;omega) (by simp [Y];omega) ?_,?_⟩
      .rw [XJ,XJ,U,U,Xb,qeb (by omega) (by omega)];rfl
      .rw [eF,yY,yz (by rw [yJ];omega)];have:A-(b.cps.toList.take A).length=0:=by rw [yJ,Y];omega
       rw [this];rfl
    .obtain ⟨b9,ss,x9,W,rfl,g,d,hk⟩:=hp;ext;refine q l ss _ b9 aa ⟨g,nl⟩ ⟨by omega,qbY fun i j s J t=>?_,fun s y=>?_⟩ (by omega)
     .have ei:=(hk i s J).2;have ej:=(hk j s t).2;have li:=(yc.mp J).1;have lj:=(yc.mp t).1;rw [ei,Option.some.injEq] at ej
      have e4:(i:Int)=(j:Int):=qcG (sh:=a) ac (by omega) (by omega) (by omega) (by omega) (by
       have p1:=YL (a+step*(i:Int)) (show (26:Int)≠0 by decide);have p2:=YL (a+step*(j:Int)) (show (26:Int)≠0 by decide);omega)
      omega
     .obtain ⟨j,t,e⟩:=YH y;exact (hk j s (by rw [yb t,e])).1
theorem Kb:FnScope ["_law_box_here","_law_names_here","_law_found","_law_base","_law_k","_law_j"] ["_law_box_here","_law_names_here"] (qh qaI):=fS
theorem Kh:FnScope ["_law_box_here","_law_most","_law_many","_law_names_here"] ["_law_box_here","_law_most"] (qh qag):=fS
theorem Kd:FnScope ["_law_box_here","_law_ties_here","_law_left","_law_found"] ["_law_box_here","_law_ties_here"] (qh jG):=fS
theorem NL.bb (h:NL p H l ss) (b:BB p H H'):NL p H' l ss:=⟨b.1 _ _ h.2 h.1,h.2⟩
theorem NL.same (h:NL p H l ss) (s:L2.Same H H'):NL p H' l ss:=⟨s _ _ h.1,h.2⟩
def PrT (p:Addr) (H:Hp) (t:Addr) (ab:Str×Str):Prop:=t≠p/\H t=some (.tup [.str ab.1,.str ab.2])
def TL (p:Addr) (H:Hp) (l:Addr) (ts:List Addr) (tps:List (Str×Str)):Prop:=H l=some (.lst (ts.map V.ref))/\l≠p/\All2 (PrT p H) ts tps
theorem TL.bb (h:TL p H l ts tps) (b:BB p H H'):TL p H' l ts tps:=⟨b.1 _ _ h.2.1 h.1,h.2.1,h.2.2.mono fun t ab z=>⟨z.1,b.1 _ _ z.1 z.2⟩⟩
theorem TL.same (h:TL p H l ts tps) (s:L2.Same H H'):TL p H' l ts tps:=⟨s _ _ h.1,h.2.1,h.2.2.mono fun t ab z=>⟨z.1,s _ _ z.2⟩⟩
theorem PrT.put {t:Addr} (h:PrT p H t ab) (hl:H l=some (.lst xs)):PrT p (upd H l (.lst ys)) t ab:=⟨h.1,by rw [qe (zw h.2 hl (by intro z;cases z))];exact h.2⟩
theorem TL.more {t:Addr} (h:TL p H l ts tps) (a:PrT p H t ab):TL p (upd H l (.lst (ts.map V.ref++[.ref t]))) l (ts++[t]) (tps++[ab]):=
 ⟨by rw [qb,yF];rfl,h.2.1,(h.2.2.mono fun _ _ z=>z.put h.1).snoc (a.put h.1)⟩
theorem TL.other {l':Addr} (h:TL p H l ts tps) (ne:l≠l') (hl:H l'=some (.lst xs)):TL p (upd H l' (.lst ys)) l ts tps:=⟨by rw [qe ne];exact h.1,h.2.1,h.2.2.mono fun _ _ z=>z.put hl⟩
theorem qbZ (f:α->β):∀ (l:List α) (k:Nat),(l.map f).eraseIdx k=(l.eraseIdx k).map f
 | [],_=>rfl
 | _::_,0=>rfl
 | a::r,k+1=>congrArg (f a::·) (qbZ f r k)
theorem All2.erase {R:α->β->Prop} {l:List α} {m:List β} (h:All2 R l m) (k:Nat):All2 R (l.eraseIdx k) (m.eraseIdx k):=by
 refine ⟨by rw [List.length_eraseIdx,List.length_eraseIdx,h.len],fun j a b d c=>?_⟩;rw [List.getElem?_eraseIdx] at d c;split at d
 .rename_i hlt
  rw [yK hlt] at c;exact h.at_ j a b d c
 .rename_i hlt
  rw [yD hlt] at c;exact h.at_ (j+1) a b d c
theorem qbd:∀ (l:List α) (k:Nat) (h:k<l.length),(l[k]::l.eraseIdx k).Perm l
 | [],_,h=>absurd h (Nat.not_lt_zero _)
 | a::r,0,_=>.refl _
 | a::r,k+1,h=>(ky a _ _).trans (.cons a (qbd r k (Nat.lt_of_succ_lt_succ h)))
theorem TL.less (h:TL p H l ts tps) (k:Nat):TL p (upd H l (.lst ((ts.map V.ref).eraseIdx k))) l (ts.eraseIdx k) (tps.eraseIdx k):=
 ⟨by rw [qb,qbZ],h.2.1,(h.2.2.erase k).mono fun _ _ z=>z.put h.1⟩
structure TOk (ss:List Str) (tps:List (Str×Str)):Prop where
 few:tps.length<=30
 ok:∀ ab∈tps,∃ j k:Nat,j<k/\ss[j]?=some ab.1/\ss[k]?=some ab.2
 nd:tps.Nodup
inductive spTies (vs:List V) (H:Hp) (Q:VK) (E:XK):Prop|mk (p n:Addr) (ss:List Str) (_:vs=[.ref p,.ref n]) (_:Box H p) (_:NL p H n ss) (_:NOk ss) (_:∀ (l:Addr) (ts:List Addr) (tps:List (Str×Str)) (H':Hp),BB p H H'->H l=none->TL p H' l ts tps->TOk ss tps->Q (.ref l) H')
inductive spDrawn (vs:List V) (H:Hp) (Q:VK) (E:XK):Prop|mk (p:Addr) (m:Int) (_:vs=[.ref p,.int m]) (_:0<=m) (_:m<=14) (_:Box H p) (_:∀ (t n l:Addr) (ss:List Str) (ts:List Addr) (tps:List (Str×Str)) (H':Hp),BB p H H'->H' t=some (.tup [.ref n,.ref l])->H n=none->NL p H' n ss->NOk ss->H l=none->TL p H' l ts tps->TOk ss tps->Q (.ref t) H')
def Shuf (tps ups:List (Str×Str)):Prop:=∃ c,ups.Perm c/\All2 (fun a b=>b=a\/b=(a.2,a.1)) tps c
inductive spShuf (vs:List V) (H:Hp) (Q:VK) (E:XK):Prop|mk (p l:Addr) (ts:List Addr) (tps:List (Str×Str)) (_:vs=[.ref p,.ref l]) (_:Box H p) (_:TL p H l ts tps) (_:tps.length<=30) (_:∀ (l':Addr) (us:List Addr) (ups:List (Str×Str)) (H':Hp),BB p H H'->H l'=none->TL p H' l' us ups->Shuf tps ups->Q (.ref l') H')
theorem qcH {z:Addr} {Q:VK} (hl:H l=some (.lst xs)) (hz:H z=some (.lst [])) (q:Q (.bl (!xs.isEmpty)) H):qea K true (.ref l) (.ref z) H Q:=by
 cases xs with
 | nil=>exact .inr (.inl ⟨l,z,true,1,rfl,rfl,by decide,EqT.lst (n:=0) (e:=fun _=>true) (SqL.of hl) (SqL.of hz) rfl fun j x y h=>by (simp at h),q⟩)
 | cons x r=>exact .inr (.inl ⟨l,z,false,1,rfl,rfl,by decide,EqT.lstL (SqL.of hl) (SqL.of hz) (by simp),q⟩)
theorem ok_ties (F:Fun K "_law_ties" "_law_ties" qaI f fd) (T:Txt K mg cc cw) (kD:DefOk P w K mg base CX0 1 "_law_take" ["_law_box_here","_law_many"] spTake):FnOk P w K mg base CX0 2 f fd ["_law_box_here","_law_names_here"] spTies:=by
 refine F.ok Kb fun _ _ _ _ H vs Q E hr h=>?_
 .obtain ⟨p,n,ss,rfl,hB,L,X,q⟩:=h;have few:=X.few;have M:=j9 hr;refine ⟨_,(qc (qq (i:=2) Kb.nd rfl (yR rfl) (qO qd))
 (qc (qq (i:=3) Kb.nd rfl (yR rfl) (qv (qw (K:=K) rfl M) (qO (qa qi (qa qi (qa qi (qa qi qd))))) (qu kD (hmR hr) qE (qa (pv 0) (qa qi qd))) (fun _ _=>rfl)))
 (qc (jp yU rfl (jD rfl T.b_range (qa (qp (jK (K:=K) rfl) rfl T.b_len Yz (qa (pv 1) qd)) qd)) (qr (i:=4) Kb.nd rfl (yR rfl))
 (qf (jp yU rfl (jD rfl T.b_range (qa (pv 4) qd)) (qr (i:=5) Kb.nd rfl (yR rfl))
 (qf (qN (PW.pt (qaw (qk (zW (K:=K) rfl M) (qu kD (hmR hr) qE (qa (pv 0) (qa (pv 3) qd))) qi (qx _)) (zx (qk qdw (qp (jK (K:=K) rfl) rfl T.b_len Yz (qa (pv 2) qd)) qi (qx _))))) (qf (qV (qbu (K:=K) rfl yP Yi Yj jc (pv 2) (qa (qax (qa (qv (qw (K:=K) rfl M) (pv 1) (pv 5) (fun _ _=>rfl)) (qa (qv (qw (K:=K) rfl M) (pv 1) (pv 4) (fun _ _=>rfl)) qd))) qd)))) qt)))))
 (qf (qo (pv 2)))))),?_⟩
  ext;refine ⟨by decide,fun l hl=>?_⟩;have O:=(BB.refl hB).new (o:=.lst []) hl;have nl:=hB.apart hl;have A:TL p (upd H l (.lst [])) l [] []:=⟨qb,nl,All2.nil⟩;generalize upd H l (.lst [])=H1 at O A ⊢;ext;refine ⟨by show 4<=sizeLine;decide,fun l4 s=>?_⟩;generalize z:[V.int 2,V.int 2,V.int 3,V.int 5]=xs;have R:=O.new (o:=.lst xs) s;have n4:=O.apart s;have G:upd H1 l4 (.lst xs) l4=some (.lst xs):=qb;replace A:=A.same (qD (Sr H1) (o:=.lst xs) s);generalize upd H1 l4 (.lst xs)=H2 at R G A ⊢;ext;refine ⟨p,4,rfl,R.2,by decide,by decide,fun r H3 r0 r1 D=>?_⟩;replace G:=D.1 _ _ n4 G;replace A:=A.bb D;replace D:=R.trans D;have ae:xs.length=4:=by rw [<- z];rfl
  obtain ⟨v,N,hv⟩:=qdd (xs:=xs) r0 (by omega)
  obtain ⟨bs,rfl,ac,af⟩:∃ i:Int,v=.int i/\0<i/\i<=25:=by
   have hm:=ye hv;rw [<- z] at hm;simp only [yy,yX,YO] at hm;rcases hm with rfl | rfl | rfl | rfl<;>exact ⟨_,rfl,by decide,by decide⟩
  refine .inl (qao G N ?_);clear hv N z G;ext;have W:H3 n=some (.lst (ss.map V.str)):=D.1 _ _ L.2 L.1;refine zk W ?_;rw [ya];refine ⟨_,rfl,by omega,by omega,zy (fun i C H'=>BB p H H'/\∃ (ts:List Addr) (tps:List (Str×Str)) (x4 B:Option V),C=[some (.ref p),some (.ref n),some (.ref l),some (.int bs),x4,B]/\TL p H' l ts tps/\tps.length<=30/\tps.Nodup/\∀ ab∈tps,∃ j k,j<k/\ss[j]?=some ab.1/\ss[k]?=some ab.2/\k<i)
   ⟨D,[],[],none,none,rfl,A,by simp,by simp,by simp⟩ (fun i C H4 hi u=>?_) fun C H4 u=>?_⟩
  .obtain ⟨S,ts,tps,x4,B,rfl,t4,b,nd,ok⟩:=u;have Y:i<ss.length:=by omega
   ext;refine ⟨_,rfl,by omega,by omega,zy (fun j C H'=>BB p H H'/\∃ (ts:List Addr) (tps:List (Str×Str)) (B:Option V),C=[some (.ref p),some (.ref n),some (.ref l),some (.int bs),some (.int (0+(i:Int))),B]/\TL p H' l ts tps/\tps.length<=30/\tps.Nodup/\∀ ab∈tps,∃ a k,a<k/\ss[a]?=some ab.1/\ss[k]?=some ab.2/\(k<i\/(k=i/\a<j)))
    ⟨S,ts,tps,_,rfl,t4,b,nd,fun ab h=>by obtain ⟨a,k,h1,c,g,s⟩:=ok ab h;exact ⟨a,k,h1,c,g,.inl s⟩⟩ (fun j C H5 hj u=>?_) fun C H5 u=>?_⟩
   .obtain ⟨J,ts,tps,B,rfl,d,b,nd,ok⟩:=u;have Z:j<ss.length:=by omega
    have aa:j<i:=by omega
    have keep:∀ ab∈tps,∃ a k,a<k/\ss[a]?=some ab.1/\ss[k]?=some ab.2/\(k<i\/(k=i/\a<j+1)):=fun ab h=>by
     obtain ⟨a,k,h1,c,g,s⟩:=ok ab h;exact ⟨a,k,h1,c,g,by omega⟩
    ext;refine ⟨p,_,rfl,J.2,ac,by omega,fun r H6 r0 r1 m=>?_⟩;replace d:=d.bb m;replace m:=J.trans m;ext;refine .inl (.inl (.inl ⟨rfl,rfl,?_⟩));ext;refine qG (fun _=>?_) fun _=>?_
    .ext;refine zk d.1 ?_;ext;refine qG (fun U=>?_) fun _=>?_
     .have ad:ts.length<30:=by
       have:=yk U;rw [ya] at this;omega
      have I:H6 n=some (.lst (ss.map V.str)):=m.1 _ _ L.2 L.1
      have at_:∀ (k:Nat),k<ss.length->∃ x,atI (ss.map V.str) (0+(k:Int))=some (.str x)/\ss[k]?=some x:=fun k hk=>by
       rw [XV];exact ⟨ss[k],qL (by rw [yd,yb hk];rfl),yb hk⟩
      obtain ⟨x,N,gx⟩:=at_ j Z;obtain ⟨y,iy,gy⟩:=at_ i Y;ext;refine ⟨.inl ⟨rfl,_,SqL.of d.1⟩,?_⟩;ext;refine .inl (qao I N ?_);ext;refine .inl (qao I iy ?_);ext;refine ⟨by show 2<=sizeLine;decide,fun t ht=>?_⟩;have nt:=m.apart ht;have b7:=m.new (o:=.tup [.str x,.str y]) ht;have t7:=d.same (qD (Sr H6) (o:=.tup [.str x,.str y]) ht);refine ⟨l,_,_,rfl,rfl,t7.1,by rw [ya];exact qg (by omega),?_⟩;refine ⟨b7.put hl nl,_,tps++[(x,y)],_,rfl,t7.more (ab:=(x,y)) ⟨nt,qb⟩,by rw [yt,<- d.2.2.len];show ts.length+1<=30;omega,?_,fun ab h=>?_⟩
      .refine yZ.mpr ⟨nd,by simp,fun ab h cd c e=>?_⟩;rw [yB.mp c] at e;subst e;obtain ⟨a,k,h1,c,g,s⟩:=ok _ h;have e1:a=j:=qM X.nd c gx;have e2:k=i:=qM X.nd g gy;omega
      .rcases yx.mp h with h | h
       .exact keep ab h
       .rw [yB.mp h];exact ⟨j,i,aa,gx,gy,.inr ⟨rfl,by omega⟩⟩
     .exact ⟨m,ts,tps,_,rfl,d,b,nd,keep⟩
    .ext;refine yq ?_;exact ⟨m,ts,tps,_,rfl,d,b,nd,keep⟩
   .obtain ⟨J,ts,tps,B,rfl,d,b,nd,ok⟩:=u;exact ⟨J,ts,tps,_,_,rfl,d,b,nd,fun ab h=>by obtain ⟨a,k,h1,c,g,s⟩:=ok ab h;exact ⟨a,k,h1,c,g,by omega⟩⟩
  .obtain ⟨S,ts,tps,x4,B,rfl,t4,b,nd,ok⟩:=u;ext;exact q l ts tps _ S hl t4 ⟨b,fun ab h=>by obtain ⟨a,k,h1,c,g,_⟩:=ok ab h;exact ⟨a,k,h1,c,g⟩,nd⟩
theorem ok_drawn (F:Fun K "_law_drawn" "_law_drawn" qag f fd) (y:DefOk P w K mg base CX0 1 "_law_take" ["_law_box_here","_law_many"] spTake) (X:DefOk P w K mg base CX0 2 "_law_names" ["_law_box_here","_law_many"] spNames) (Y:DefOk P w K mg base CX0 2 "_law_ties" ["_law_box_here","_law_names_here"] spTies) :
  FnOk P w K mg base CX0 3 f fd ["_law_box_here","_law_most"] spDrawn:=by
 refine F.ok Kh fun _ _ _ _ H vs Q E e h=>?_
 .obtain ⟨p,mm,rfl,T,U,L,q⟩:=h;have N:=j9 e;refine ⟨_,(qc (qq (i:=2) Kh.nd rfl (yR rfl) (qu y (hmR e) qE (qa (pv 0) (qa qi qd))))
 (qc (qN (qk (zW (K:=K) rfl N) (qu y (hmR e) qE (qa (pv 0) (qa qi qd))) qi (qx _)) (qf (qq (i:=2) Kh.nd rfl (yR rfl) (qu y (hmR e) qE (qa (pv 0) (qa (qA (jI (K:=K) rfl) (pv 1) qi) qd))))) qt)
 (qc (qq (i:=3) Kh.nd rfl (yR rfl) (qu X (hmR e) qE (qa (pv 0) (qa (pv 2) qd))))
 (qf (qo (qax (qa (pv 3) (qa (qu Y (hmR e) qE (qa (pv 0) (qa (pv 3) qd))) qd)))))))),?_⟩
  ext;refine ⟨p,8,rfl,L,by decide,by decide,fun m H1 m0 m1 A=>?_⟩;ext;refine ⟨p,8,rfl,A.2,by decide,by decide,fun r H2 r0 r1 c=>?_⟩;replace c:=A.trans c;ext;refine .inl (.inl (.inl ⟨rfl,rfl,?_⟩));ext
  have s:∀ (n:Addr) (ss:List Str) (b:Hp),BB p H b->H n=none->NL p b n ss->NOk ss->spTies [.ref p,.ref n] b (fun v u=>NewT [.ref n,v] u Q) E0:=fun n ss b d a C D =>
   ⟨p,n,ss,rfl,d.2,C,D,fun l ts tps u B x tl M=>⟨(by decide:2<=sizeLine),fun t G=>by
    have J:=d.trans B;have I:=qD (Sr u) (o:=.tup [.ref n,.ref l]) G;have W:=tl.2.1;exact q t n l ss ts tps _ (J.new G) qb a ((C.bb B).same I) D (d.free x) (tl.same I) M⟩⟩
  refine qG (fun _=>?_) fun _=>?_
  .ext;refine ⟨p,_,rfl,c.2,by omega,by omega,fun O Z R S g=>?_⟩;replace g:=c.trans g;ext;refine ⟨p,O,rfl,g.2,by omega,by omega,fun n ss b d a z few _=>?_⟩;ext;exact s n ss b (g.trans d) (g.free a) z few
  .ext;refine ⟨p,m,rfl,c.2,by omega,by omega,fun n ss b d a z few _=>?_⟩;ext;exact s n ss b (c.trans d) (c.free a) z few
theorem ok_shuf (F:Fun K "_law_shuffled" "_law_shuffled" jG f fd) (T:Txt K mg cc cw) (kD:DefOk P w K mg base CX0 1 "_law_take" ["_law_box_here","_law_many"] spTake):FnOk P w K mg base CX0 2 f fd ["_law_box_here","_law_ties_here"] spShuf:=by
 refine F.ok Kd fun _ _ _ _ H vs Q E hr h=>?_
 .obtain ⟨p,l,ts,tps,rfl,hB,O,few,q⟩:=h;have hu:=j9 hr;have au:ts.length<=30:=by rw [O.2.2.len];exact few
  refine ⟨_,(qc (zV (sc:=qh jG) (XN:=["_law_box_here","_law_ties_here","_law_left","_law_found"]) ["_law_tie","_law_box_here"] 1 [0] rfl rfl rfl (by decide +kernel) rfl (by decide +kernel) (i:=2) Kd.nd rfl rfl
  (qK (K:=K) rfl (pv 1)) (fun _ _ _ _=>(qr (i:=0) (show (["_law_tie","_law_box_here"]:List Str).Nodup by decide +kernel) rfl (yR rfl))) qP
  (fun _ _ _ _=>zj)
  (fun _ _ _ _=>(qv (qw (K:=K) rfl hu) (qO (qa (pv 0) (qa (qdQ (K:=K) rfl (pv 0) (jQ (qbh zY qi))) qd))) (qu kD (hmR hr) qE (qa (pv 1) (qa qi qd))) (fun _ _=>rfl))))
 (qc (qq (i:=3) Kd.nd rfl (yR rfl) (qO qd))
 (qc (qaB yU (qk (qaq (K:=K) rfl hu) (pv 2) (qO qd) (qx _))
 (qf (qV (qbu (K:=K) rfl yP Yi Yj jc (pv 3) (qa (qbu (K:=K) rfl yP Xs Xu qbP (pv 2) (qa (qu kD (hmR hr) qE (qa (pv 0) (qa (qp (jK (K:=K) rfl) rfl T.b_len Yz (qa (pv 2) qd)) qd))) qd)) qd)))))
 (qf (qo (pv 3)))))),?_⟩
  ext;refine .inl ⟨⟨_,SqL.of O.1⟩,qF (K:=K) (a:=l) (xs:=ts.map V.ref) (fun i ys H'=>BB p H H'/\∃ (us:List Addr) (ups:List (Str×Str)),ys=us.map V.ref/\us.length=i/\All2 (PrT p H') us ups/\All2 (fun a b=>b=a\/b=(a.2,a.1)) (tps.take i) ups) ⟨BB.refl hB,[],[],rfl,rfl,All2.nil,by simpa using All2.nil⟩
   (fun i ys H' _ h=>SqL.of (h.1.1 _ _ O.2.1 O.1)) (fun i x ys H1 hx hp=>?_) fun ys H1 hp=>?_⟩
  .obtain ⟨M,us,ups,rfl,C,s,hA⟩:=hp;rw [yd] at hx
   cases ht:ts[i]? with
   | none=>rw [ht] at hx;cases hx
   | some t =>
    rw [ht] at hx;cases hx;have an:i<ts.length:=(yc.mp ht).1;have ac:i<tps.length:=by rw [<- O.2.2.len];exact an
    have gi:tps[i]?=some tps[i]:=yb ac;generalize tps[i]=ab at gi;obtain ⟨nt,n⟩:=(O.bb M).2.2.at_ i t ab ht gi;have ap:tps.take (i+1)=tps.take i++[ab]:=by rw [yG,gi];rfl
    obtain ⟨a,b⟩:=ab;dsimp only at n;ext;refine zg ?_;ext;refine vU ?_;ext;refine ⟨rfl,t,_,_,rfl,SqT.of n,fun g B=>?_⟩;have I:=M.new (o:=.tup [.str b,.str a]) B;have n2:=M.apart B;have s2:=qD (Sr H1) (o:=.tup [.str b,.str a]) B;have N:upd H1 g (.tup [.str b,.str a]) g=some (.tup [.str b,.str a]):=qb;replace n:=s2 _ _ n;replace s:=s.mono (S:=PrT p (upd H1 g (.tup [.str b,.str a]))) fun t ab z=>⟨z.1,s2 _ _ z.2⟩;generalize upd H1 g (.tup [.str b,.str a])=H2 at I N n s ⊢;clear s2;ext;refine ⟨by show 2<=sizeLine;decide,fun L h3=>?_⟩;have U:=I.new (o:=.lst [.ref t,.ref g]) h3;have n3:=I.apart h3;have s3:=qD (Sr H2) (o:=.lst [.ref t,.ref g]) h3;have Z:upd H2 L (.lst [.ref t,.ref g]) L=some (.lst [.ref t,.ref g]):=qb;replace n:=s3 _ _ n;replace N:=s3 _ _ N;replace s:=s.mono (S:=PrT p (upd H2 L (.lst [.ref t,.ref g]))) fun t ab z=>⟨z.1,s3 _ _ z.2⟩;generalize upd H2 L (.lst [.ref t,.ref g])=H3 at U N Z n s ⊢;clear s3;ext;refine ⟨p,2,rfl,U.2,by decide,by decide,fun r G r0 r1 A=>?_⟩;replace n:=A.1 _ _ nt n;replace N:=A.1 _ _ n2 N;replace Z:=A.1 _ _ n3 Z;replace s:=s.mono (S:=PrT p G) fun t ab z=>⟨z.1,A.1 _ _ z.1 z.2⟩;replace A:=U.trans A
    have aa:∀ u Y,PrT p G u Y->(Y=(a,b)\/Y=(b,a))->(us.map V.ref).length<sizeLine/\(BB p H G/\∃ (vs:List Addr) (c:List (Str×Str)),us.map V.ref++[V.ref u]=vs.map V.ref/\vs.length=i+1/\All2 (PrT p G) vs c/\All2 (fun a b=>b=a\/b=(a.2,a.1)) (tps.take (i+1)) c):=fun u Y hu am =>
     ⟨by rw [ya,C];exact qg (by omega),A,us++[u],ups++[Y],by rw [yF];rfl,by rw [yt,C];rfl,s.snoc hu,by rw [ap];exact hA.snoc am⟩
    have ao:r=0\/r=1:=by omega
    rcases ao with rfl | rfl
    .exact .inl (qao (v:=.ref t) Z (qL (j:=0) rfl) (aa t (a,b) ⟨nt,n⟩ (.inl rfl)))
    .exact .inl (qao (v:=.ref g) Z (qL (j:=1) rfl) (aa g (b,a) ⟨n2,N⟩ (.inr rfl)))
  .obtain ⟨M,us,y,rfl,C,s,hA⟩:=hp;rw [ya] at C hA;have al:tps.take ts.length=tps:=by rw [O.2.2.len,yN]
   rw [al] at hA;refine ⟨by rw [ya];exact yS (qg (by omega)),fun l1 h1=>?_⟩;have I:=M.new (o:=.lst (us.map V.ref)) h1;have n1:=M.apart h1;have z1:=M.free h1;have ah:=qD (Sr H1) (o:=.lst (us.map V.ref)) h1;have t1:TL p (upd H1 l1 (.lst (us.map V.ref))) l1 us y:=⟨qb,n1,s.mono fun t ab z=>⟨z.1,ah _ _ z.2⟩⟩;generalize upd H1 l1 (.lst (us.map V.ref))=H2 at I t1 ⊢;clear ah;ext;refine ⟨by decide,fun l2 B=>?_⟩;have U:=I.new (o:=.lst []) B;have n2:=I.apart B;have z2:=I.free B;have af:l1≠l2:=qm t1.1 B;have t3:=t1.same (qD (Sr H2) (o:=.lst []) B);have g:TL p (upd H2 l2 (.lst [])) l2 [] []:=⟨qb,n2,All2.nil⟩;generalize upd H2 l2 (.lst [])=H3 at U g t3 ⊢;ext;refine ⟨fun m σ H'=>∃ (us vs:List Addr) (ups c:List (Str×Str)),m=us.length/\σ=[some (.ref p),some (.ref l),some (.ref l1),some (.ref l2)]/\BB p H H'/\TL p H' l1 us ups/\TL p H' l2 vs c/\us.length+vs.length<=30/\(c++ups).Perm y,⟨_,us,[],y,[],rfl,rfl,U,t3,g,by simp;omega,by simp⟩,fun m σ G hW=>?_⟩;obtain ⟨us,vs,ups,c,rfl,rfl,A,u4,v4,ae,d⟩:=hW;ext;refine ⟨by decide,fun z hz=>?_⟩;have sz:=qD (Sr G) (o:=.lst []) hz;have b5:=A.new (o:=.lst []) hz;have R:=u4.same sz;have v5:=v4.same sz;have e5:upd G z (.lst []) z=some (.lst []):=qb;generalize upd G z (.lst [])=H5 at b5 R v5 e5 ⊢;refine qcH R.1 e5 ?_;ext
   cases us with
   | nil =>
    refine yq ?_;ext;have eu:ups=[]:=List.eq_nil_of_length_eq_zero (by rw [<- R.2.2.len];rfl);rw [eu,Yl] at d;exact q l2 vs c H5 b5 z2 v5 ⟨y,d,hA⟩
   | cons D ur =>
    refine qG (fun _=>?_) (fun h=>absurd rfl h);refine ⟨fun ak H'=>∃ (us vs:List Addr) (ups c:List (Str×Str)),us.length=ur.length/\ak=[some (.ref p),some (.ref l),some (.ref l1),some (.ref l2)]/\BB p H H'/\TL p H' l1 us ups/\TL p H' l2 vs c/\us.length+vs.length<=30/\(c++ups).Perm y,fun ak H' ⟨aq,ar,ai,aj,e,qbt⟩=>⟨_,by rw [yA,<- e];exact xF _,aq,ar,ai,aj,rfl,qbt⟩,?_⟩;ext;refine ⟨.inl ⟨rfl,_,SqL.of v5.1⟩,?_⟩;ext;refine ⟨.inl ⟨rfl,_,SqL.of R.1⟩,?_⟩;ext;refine zk R.1 ?_;ext;rw [ya];rw [yA] at ae;refine ⟨p,_,rfl,b5.2,by (rw [yA];omega),by (rw [yA];omega),fun r H6 r0 r1 X=>?_⟩;have u6:=R.bb X;have v6:=v5.bb X;replace X:=b5.trans X;obtain ⟨k,rfl⟩:=xJ r0;have W:k<(D::ur).length:=by rw [yA];rw [yA] at r1;omega
    have ad:k<ups.length:=by rw [<- R.2.2.len];exact W
    have gk:((D::ur).map V.ref)[k]?=some (.ref ((D::ur)[k])):=by rw [yd,yb W];rfl
    have as:(k:Int)<2 ^ 62:=by rw [yA] at W;omega
    refine ⟨l1,_,_,k,_,rfl,rfl,u6.1,by omega,by omega,(qb7 (qch (by rw [ya];exact W))).1,gk,?_⟩;have pk:=u6.2.2.at_ k ((D::ur)[k]) ups[k] (yb W) (yb ad);have u7:=u6.less k;have v7:=v6.other (ys:=((D::ur).map V.ref).eraseIdx k) af.symm u6.1;have b7:=X.put (o:=.lst (((D::ur).map V.ref).eraseIdx k)) z1 n1;have ag:=pk.put (ys:=((D::ur).map V.ref).eraseIdx k) u6.1;generalize upd H6 l1 (.lst (((D::ur).map V.ref).eraseIdx k))=H7 at u7 v7 b7 ag ⊢;have J:((D::ur).eraseIdx k).length=ur.length:=by rw [xW W,yA];omega
    refine ⟨l2,_,_,rfl,rfl,v7.1,by rw [ya];exact qg (by omega),?_⟩;refine ⟨_,_,_,_,J,rfl,b7.put z2 n2,u7.other af v7.1,v7.more ag,?_,?_⟩
    .rw [J,yt,YX];omega
    .rw [yY];exact (List.Perm.append_left c (qbd ups k ad)).trans d
theorem all_true (n:Nat):(List.range n).all (fun _=>true)=true:=by simp
theorem qcI {a b:Addr} {c t':Str} (h:H b=some (.tup [.str c,.str t'])) (g:H a=some (.tup [.str s,.str t])):EqD K H 1 (.ref b) (.ref a) (decide ((c,t')=(s,t))):=by
 by_cases e:b=a
 .subst e;rw [h] at g;cases g;rw [yQ rfl];exact .self
 .have z:=EqT.tup (K:=K) (H:=H) (n:=0) (e:=fun j=>if j=0 then eqV (.str c) (.str s) else eqV (.str t') (.str t)) (SqT.of h) (SqT.of g) fun j x y d f=>by
   match j,d,f with
   | 0,d,f=>cases d;cases f;exact .flat rfl rfl
   | 1,d,f=>cases d;cases f;exact .flat rfl rfl
  have i:((List.range (min [V.str c,V.str t'].length [V.str s,V.str t].length)).all (fun j=>if j=0 then eqV (.str c) (.str s) else eqV (.str t') (.str t))&&[V.str c,V.str t'].length==[V.str s,V.str t].length)=decide ((c,t')=(s,t)):=by
   show ((c==s)&&((t'==t)&&true)&&true)=_;rw [Y5];simp
  rw [i] at z;exact .deep z e
theorem TL.pl (h:TL p H l ts tps):PL H l ts tps:=⟨h.1,h.2.2.mono fun _ _ z=>z.2⟩
noncomputable def qcU (H:Hp) (z:V):Option (Str×Str):=match z with
 | .ref t=>(match H t with
  | some (.tup [.str a,.str b])=>some (a,b)
  | _=>none)
 | _=>none
theorem qbq {t:Addr} {a:Str} (h:H t=some (.tup [.str a,.str b])):qcU H (.ref t)=some (a,b):=by
 unfold qcU;dsimp only;rw [h]
theorem any_in (h:All2 (fun t ab=>H t=some (.tup [.str ab.1,.str ab.2])) ts tps) (st:Str×Str):((ts.map V.ref).any fun z=>decide (qcU H z=some st))=decide (st∈tps):=by
 rw [Y5,xH,Ye];constructor
 .rintro ⟨z,hz,e⟩;obtain ⟨t,f,rfl⟩:=Y1.mp hz;obtain ⟨ab,b,r⟩:=h.mem f;have e:=yk e;rw [qbq r] at e;cases e;exact b
 .intro d;obtain ⟨k,c,e⟩:=YH d;have a:k<ts.length:=by rw [h.len];exact c
  have r:=h.at_ k ts[k] tps[k] (yb a) (yb c);refine ⟨.ref ts[k],Y1.mpr ⟨_,Xw a,rfl⟩,yQ ?_⟩;rw [qbq r,e]
theorem qec {a:Addr} {Q:VK} (h:PL H l ts tps) (d:H a=some (.tup [.str s,.str t])) (q:Q (.bl (decide ((s,t)∈tps))) H):qdO K false (.ref a) (.ref l) H Q:=by
 refine .inr (.inr ⟨l,ts.map V.ref,fun z=>decide (qcU H z=some (s,t)),1,rfl,SqL.of h.1,by decide,fun z hz=>?_,?_⟩)
 .obtain ⟨b,f,rfl⟩:=Y1.mp hz;obtain ⟨ab,_,r⟩:=h.2.mem f;have e:=qcI (K:=K) r d
  have c:decide (qcU H (.ref b)=some (s,t))=decide ((ab.1,ab.2)=(s,t)):=by
   rw [qbq r];apply YR.mpr;rw [Option.some.injEq]
  show EqD K H 1 (.ref b) (.ref a) (decide (qcU H (.ref b)=some (s,t)));rw [c];exact e
 .rw [any_in h.2];exact q
theorem jf {y:V} (a:(ss.map V.str)[i]?=some y):∃ s,ss[i]?=some s/\y=.str s:=by
 rw [yd] at a
 cases h:ss[i]? with
 | none=>rw [h] at a;cases a
 | some s=>rw [h] at a;cases a;exact ⟨s,rfl,rfl⟩
def Adj (ss:List Str) (ns:List Nat) (tps:List (Str×Str)):Prop:=∀ a b s t,ss[a]?=some s->ss[b]?=some t->((ns.getD a 0).testBit b=true↔((s,t)∈tps\/(t,s)∈tps))
theorem eqT_two {a b:Addr} (c:H a=some (.lst xs)) (d:H b=some (.lst ys)) (hl:xs.length=ys.length) (h:∀ (j:Nat) x y,xs[j]?=some x->ys[j]?=some y->EqD K H n x y true):EqT K H (n+1) a b true:=by
 have z:=EqT.lst (K:=K) (H:=H) (n:=n) (e:=fun _=>true) (SqL.of c) (SqL.of d) hl h;rw [all_true] at z;exact z
theorem eqT_pl {r:Addr} (h:PL H l ts tps) (g:PL H r us tps):EqT K H 2 l r true:=by
 refine eqT_two h.1 g.1 (by rw [ya,ya,h.2.len,g.2.len]) fun j x y c d=>?_;rw [yd] at c d
 cases a:ts[j]? with
 | none=>rw [a] at c;cases c
 | some t =>
  cases b:us[j]? with
  | none=>rw [b] at d;cases d
  | some u =>
   rw [a] at c;rw [b] at d;cases c;cases d;have f:j<tps.length:=by rw [<- h.2.len];exact (yc.mp a).1
   have e:=qcI (K:=K) (h.2.at_ j t tps[j] a (yb f)) (g.2.at_ j u tps[j] b (yb f));rw [yQ rfl] at e;exact e
theorem Kj:FnScope ["web","thing","paired","tie"] ["web","thing"] (qh zr):=fS
theorem KF:FnScope ["self","thing"] ["self","thing"] (qh jL):=fS
noncomputable def qb2 (a:List Str):List (Key×V):=a.map fun s=>(.inr s,.bl true)
theorem qah (y:Str):∀ a:List Str,(jT (qb2 a) (.inr y:Key)).isSome=decide (y∈a)
 | []=>rfl
 | s::r=>by
  by_cases e:s=y
  .subst e;show (jT (((.inr s:Key),V.bl true)::qb2 r) _).isSome=_;rw [yQ (by simp)];simp [jT]
  .show (jT (((.inr s:Key),V.bl true)::qb2 r) _).isSome=_;rw [qS (p:=((.inr s:Key),V.bl true)) (fun z=>e (xv z)),qah y r];apply YR.mpr;simp [Yb e]
theorem qcJ {a:List Str} (h:y∉a):zf (qb2 a) (.inr y:Key) (.bl true)=qb2 (a++[y]):=by
 have:jT (qb2 a) (.inr y:Key)=none:=by
  have:=qah y a;rw [yl h] at this;exact xZ.mp (by rw [<- Option.not_isSome,this];rfl)
 rw [qaD _ this];unfold qb2;rw [yF];rfl
noncomputable def qj (qs:List (Str×Str)):List Str:=qs.flatMap fun q=>[q.1,q.2]
noncomputable def prK (qs:List (Str×Str)):List (Key×V):=qs.flatMap fun q=>[(.inr q.1,.str q.2),(.inr q.2,.str q.1)]
noncomputable def pt:List (Str×Str)->Str->Option Str
 | [],_=>none
 | q::r,s=>if q.1=s then some q.2 else if q.2=s then some q.1 else pt r s
theorem zC (s:Str):∀ qs,jT (prK qs) (.inr s:Key)=(pt qs s).map V.str
 | []=>rfl
 | q::r=>by
  show jT (((.inr q.1:Key),V.str q.2)::((.inr q.2:Key),V.str q.1)::prK r) _=(pt (q::r) s).map V.str;unfold pt;by_cases h1:q.1=s
  .rw [jd (p:=((.inr q.1:Key),V.str q.2)) (congrArg Sum.inr h1),yK h1];rfl
  .rw [qS (p:=((.inr q.1:Key),V.str q.2)) (fun z=>h1 (xv z)),yD h1];by_cases a:q.2=s
   .rw [jd (p:=((.inr q.2:Key),V.str q.1)) (congrArg Sum.inr a),yK a];rfl
   .rw [qS (p:=((.inr q.2:Key),V.str q.1)) (fun z=>a (xv z)),yD a,zC s r]
theorem pt_none:∀ {qs:List (Str×Str)},pt qs s=none↔s∉qj qs
 | []=>by simp [pt,qj]
 | q::r=>by
  have e:qj (q::r)=q.1::q.2::qj r:=rfl;rw [e];unfold pt;by_cases h1:q.1=s
  .rw [yK h1];simp [h1]
  .rw [yD h1];by_cases a:q.2=s
   .rw [yK a];simp [a]
   .rw [yD a,pt_none];simp only [yy,not_or];exact ⟨fun z=>⟨Yb h1,Yb a,z⟩,fun z=>z.2.2⟩
structure PGo (ss:List Str) (tps qs:List (Str×Str)):Prop where
 inn:∀ q∈qs,(q∈tps\/(q.2,q.1)∈tps)/\q.1∈ss/\q.2∈ss/\q.1≠q.2
 nd:(qj qs).Nodup
 few:qs.length<=30
theorem zt (qs:List (Str×Str)):(qj qs).length=2*qs.length:=by
 induction qs with
 | nil=>rfl
 | cons q r ih=>show (q.1::q.2::qj r).length=_;simp only [yA];omega
theorem j0 (qs:List (Str×Str)) (q:Str×Str):qj (qs++[q])=qj qs++[q.1,q.2]:=by
 unfold qj;rw [xD];rfl
theorem PGo.new (g:PGo ss tps qs) (h:qs[i]?=some ab):qs.take (i+1)=qs.take i++[ab]/\(qj (qs.take i++[ab])).Nodup/\ab.1∉qj (qs.take i)/\ab.2∉qj (qs.take i):=by
 have b:qs.take (i+1)=qs.take i++[ab]:=by rw [yG,h];rfl
 have a:(qj (qs.take i++[ab])).Nodup:=by
  rw [<- b];have:qj qs=qj (qs.take (i+1))++qj (qs.drop (i+1)):=by unfold qj;rw [<- xD,List.take_append_drop]
  have e:=g.nd;rw [this] at e;exact (yZ.mp e).1
 have c:=a;rw [j0] at c;have d:=(yZ.mp c).2.2;exact ⟨b,a,fun z=>d _ z ab.1 (by simp) rfl,fun z=>d _ z ab.2 (by simp) rfl⟩
inductive spHt (cw:Addr) (vs:List V) (H:Hp) (Q:VK) (E:XK):Prop|mk (x t:Addr) (ss:List Str) (ns:List Nat) (tps:List (Str×Str)) (ab:Str×Str) (_:vs=[.ref x,.ref t]) (_:WebAt cw H x ss ns) (_:Adj ss ns tps) (_:H t=some (.tup [.str ab.1,.str ab.2])) (_:(ab∈tps\/(ab.2,ab.1)∈tps)) (_:ab.1∈ss) (_:ab.2∈ss) (_:ab.1≠ab.2) (_:∀ H',L2.Same H H'->Q (.bl true) H')
inductive spAp (cw:Addr) (vs:List V) (H:Hp) (Q:VK) (E:XK):Prop|mk (x l:Addr) (ss:List Str) (ns:List Nat) (us:List Addr) (tps qs:List (Str×Str)) (_:vs=[.ref x,.ref l]) (_:WebAt cw H x ss ns) (_:Adj ss ns tps) (_:PL H l us qs) (_:PGo ss tps qs) (_:∀ H',L2.Same H H'->Q (.bl true) H')
theorem ok_ht (F:Fun K "has_tie" "Web.has_tie" jL f fd) (T:Txt K mg cc cw) (D:DefOk P w K mg base CX0 3 "are_two_places" ["numbers","thing"] spTwo) (z:MethOk P w K mg base CX0 6 cw "tied" ["self","one","other"] (spTied cw)):FnOk P w K mg base CX0 7 f fd ["self","thing"] (spHt cw):=by
 refine F.ok KF fun _ _ _ _ H vs Q E g h=>?_
 .obtain ⟨x,t,ss,ns,tps,ab,rfl,r,A,n,c,m1,l,e,q⟩:=h;have u:=j9 g;obtain ⟨y,m,ol,I,s,d,C,B,hw⟩:=id r;refine ⟨_,(qf (qo (qa2 (qu D (hmR g) qE (qa (qz (K:=K) rfl (pv 0) rfl) (qa (pv 1) qd))) (qaM (qI z (hmR g) (pv 0) (qa (qv (qw (K:=K) rfl u) (pv 1) qi (fun _ _=>rfl)) (qa (qv (qw (K:=K) rfl u) (pv 1) qi (fun _ _=>rfl)) qd))))))),?_⟩;ext;refine .inl ⟨x,cw,y,_,.ref m,rfl,s,T.wcl,T.wn,jP,?_⟩;ext;refine ⟨m,t,ss,ab.1,ab.2,rfl,d,n,hw.nm _ m1,hw.nm _ l,m1,l,e,fun H1 b=>?_⟩;refine ⟨true,rfl,zg ?_⟩;have a:=b _ _ n;ext;refine ⟨x,y,_,rfl,b _ _ s,qav (by decide +kernel),?_⟩;ext;refine .inl (qa8 a (v:=.str ab.1) (qL (j:=0) rfl) ?_);ext;refine .inl (qa8 a (v:=.str ab.2) (qL (j:=1) rfl) ?_);ext;obtain ⟨j,p⟩:=yf m1;obtain ⟨i,o⟩:=yf l;refine ⟨x,ss,ns,ab.1,ab.2,j,i,rfl,r.same b,p,o,fun H2 G=>?_⟩;rw [(A j i ab.1 ab.2 p o).mpr c];exact q H2 (b.trans G)
theorem ok_ap (F:Fun K "are_pairs" "are_pairs" zr f fd) (T:Txt K mg cc cw) (KN:MethOk P w K mg base CX0 7 cw "has_tie" ["self","thing"] (spHt cw)):FnOk P w K mg base CX0 8 f fd ["web","thing"] (spAp cw):=by
 refine F.ok Kj fun _ _ _ _ H vs Q E X h=>?_
 .obtain ⟨x,l,ss,ns,us,tps,qs,rfl,W,hA,⟨hl,r⟩,g,q⟩:=h;have e:=j9 X;obtain ⟨wx,dd,ol,nn,hb,_⟩:=id W;have few:=g.few;have N:=r.len;refine ⟨_,(qc (qN (jr (jh (qp (qa9 (K:=K) rfl) rfl T.b_isinstance Y7 (qa (pv 1) (qa (j5 (v:=.ty "list") rfl T.b_list xP rfl) qd))))) (qf (qo j4)) qt)
 (qc (qq (i:=2) Kj.nd rfl (yR rfl) zH)
 (qc (jp yU rfl (qK (K:=K) rfl (pv 1)) (qr (i:=3) Kj.nd rfl (yR rfl))
 (qc (qN (PW.pt (qaL (jr (jh (qI KN (hmR X) (pv 0) (qa (pv 3) qd)))) (qaL (qk (qar (K:=K) rfl e) (qv (qw (K:=K) rfl e) (pv 3) qi (fun _ _=>rfl)) (pv 2) (by with_unfolding_all rfl)) (zR (qk (qar (K:=K) rfl e) (qv (qw (K:=K) rfl e) (pv 3) qi (fun _ _=>rfl)) (pv 2) (by with_unfolding_all rfl)))))) (qf (qo j4)) qt)
 (qc (jV j4 (j6 (pv 2) (qv (qw (K:=K) rfl e) (pv 3) qi (fun _ _=>rfl)) (j8 e)))
 (qf (jV j4 (j6 (pv 2) (qv (qw (K:=K) rfl e) (pv 3) qi (fun _ _=>rfl)) (j8 e)))))))
 (qf (qo j4))))),?_⟩
  ext;refine qcT (.inl (.lst hl)) rfl (qap K "list" (by simp) "list" (by simp)) ?_;ext;refine yq ?_;ext;intro d C;have O:=qD (Sr H) (o:=.dK []) C;have U:upd H d (.dK []) d=some (.dK (qb2 [])):=qb;generalize upd H d (.dK [])=H1 at O U;ext;refine .inl ⟨⟨_,.of (O _ _ hl)⟩,qX (xs:=us.map V.ref) (fun i G J=>L2.Same H J/\∃ R,G=[some (.ref x),some (.ref l),some (.ref d),R]/\J d=some (.dK (qb2 (qj (qs.take i))))) ⟨O,_,rfl,U⟩ (fun i G J _ u=>.of (u.1 _ _ hl)) (fun i y G J Y u=>?_) fun G J u=>?_⟩
  .obtain ⟨n,R,rfl,c⟩:=u;rw [yd] at Y;obtain ⟨b,s,rfl⟩:=yn.mp Y;have hi:i<us.length:=(yc.mp s).1;obtain ⟨ab,m⟩:∃ ab,qs[i]?=some ab:=⟨_,yb (by rw [<- N];exact hi)⟩;have B:=r.at_ i b ab s m;obtain ⟨ht,m1,m2,t⟩:=g.inn ab (ye m);obtain ⟨M,aa,Z,n2⟩:=g.new m;have ac:(qj (qs.take i)).length<=60:=by rw [zt,yJ];omega
   have L:b≠d:=fun z=>by rw [z,C] at B;cases B
   ext;refine ⟨x,wx,_,rfl,n _ _ hb,qav (by decide +kernel),?_⟩;ext;refine ⟨x,b,ss,ns,tps,ab,rfl,W.same n,hA,n _ _ B,ht,m1,m2,t,fun I D=>?_⟩;have A:=n.trans D;have a:=A _ _ B;ext;refine yq ?_;ext;refine .inl (qa8 a (v:=.str ab.1) (qL (j:=0) rfl) ?_);ext;refine .inr (.inl ⟨d,_,rfl,DGet.k (k:=Sum.inr ab.1) (D _ _ c),?_⟩);rw [yD (by decide),qah,yl Z];ext;refine yq ?_;ext;refine .inl (qa8 a (v:=.str ab.2) (qL (j:=1) rfl) ?_);ext;refine .inr (.inl ⟨d,_,rfl,DGet.k (k:=Sum.inr ab.2) (D _ _ c),?_⟩);rw [yD (by decide),qah,yl n2];ext;refine yq ?_;ext;refine .inl (qa8 a (v:=.str ab.1) (qL (j:=0) rfl) ?_);ext;refine .inr ⟨d,_,rfl,DPut.k (k:=Sum.inr ab.1) (D _ _ c) (by unfold qb2;rw [ya,Yy];omega),?_⟩;rw [qcJ Z];have s3:=qak A (o:=.dK (qb2 (qj (qs.take i)++[ab.1]))) C;have S:upd I d (.dK (qb2 (qj (qs.take i)++[ab.1]))) d=some (.dK (qb2 (qj (qs.take i)++[ab.1]))):=qb;have p:upd I d (.dK (qb2 (qj (qs.take i)++[ab.1]))) b=some (.tup [.str ab.1,.str ab.2]):=by rw [qe L];exact a
   generalize upd I d (.dK (qb2 (qj (qs.take i)++[ab.1])))=J3 at s3 S p;ext;refine .inl (qa8 p (v:=.str ab.2) (qL (j:=1) rfl) ?_);ext;refine .inr ⟨d,_,rfl,DPut.k (k:=Sum.inr ab.2) S (by unfold qb2;rw [ya,yt,Yy];simp only [yA,Y6];omega),?_⟩;rw [qcJ (fun z=>by rcases yx.mp z with z | z;exact n2 z;exact t (yB.mp z).symm)];exact ⟨qak s3 C,_,rfl,by rw [qb,M,j0,yY];rfl⟩
  .obtain ⟨n,R,rfl,c⟩:=u;ext;exact q J n
theorem k7:FnScope ["web","pairs","partners","pair"] ["web","pairs"] (qh jM):=fS
theorem prK_len (qs:List (Str×Str)):(prK qs).length=2*qs.length:=by
 induction qs with
 | nil=>rfl
 | cons q r ih=>show (_::_::prK r).length=_;simp only [yA];rw [ih];omega
theorem prK_snoc (qs:List (Str×Str)) (q:Str×Str):prK (qs++[q])=prK qs++[(.inr q.1,.str q.2),(.inr q.2,.str q.1)]:=by
 unfold prK;rw [xD];rfl
theorem prK_put (h:(qj (qs++[q])).Nodup):zf (zf (prK qs) (.inr q.1:Key) (.str q.2)) (.inr q.2:Key) (.str q.1)=prK (qs++[q]):=by
 rw [j0] at h;obtain ⟨h1,b,c⟩:=yZ.mp h;have e:q.1∉qj qs:=fun z=>c _ z _ (by simp) rfl;have f:q.2∉qj qs:=fun z=>c _ z q.2 (by simp) rfl;have g:q.1≠q.2:=by simp at b;exact b
 have i:jT (prK qs) (.inr q.1:Key)=none:=by rw [zC,pt_none.mpr e];rfl
 rw [qaD _ i]
 have a:jT (prK qs++[((.inr q.1:Key),V.str q.2)]) (.inr q.2:Key)=none:=by
  have a:jT (prK qs) (.inr q.2:Key)=none:=by rw [zC,pt_none.mpr f];rfl
  unfold jT at a ⊢;rw [List.find?_append];have:(prK qs).find? (fun d=>decide (d.1=(.inr q.2:Key)))=none:=by simpa using a
  rw [this];simp [g]
 rw [qaD _ a,prK_snoc];simp
inductive spPn (cw:Addr) (vs:List V) (H:Hp) (Q:VK) (E:XK):Prop|mk (x l:Addr) (ss:List Str) (ns:List Nat) (us:List Addr) (tps qs:List (Str×Str)) (_:vs=[.ref x,.ref l]) (_:WebAt cw H x ss ns) (_:Adj ss ns tps) (_:PL H l us qs) (_:PGo ss tps qs) (_:∀ (d:Addr) (H':Hp),L2.Same H H'->H d=none->H' d=some (.dK (prK qs))->Q (.ref d) H')
theorem ok_pn (F:Fun K "partners_in" "partners_in" jM f fd) (T:Txt K mg cc cw) (Y:DefOk P w K mg base CX0 8 "are_pairs" ["web","thing"] (spAp cw)):FnOk P w K mg base CX0 9 f fd ["web","pairs"] (spPn cw):=by
 refine F.ok k7 fun _ _ _ _ H vs Q E S h=>?_
 .obtain ⟨x,l,ss,ns,us,tps,qs,rfl,hW,Z,⟨hl,n⟩,g,q⟩:=h;have p:=j9 S;have few:=g.few;have u:=n.len;refine ⟨_,(qc (qN (jr (jh (qu Y (hmR S) qE (qa (pv 0) (qa (pv 1) qd))))) (qf jA) qt)
 (qc (qq (i:=2) k7.nd rfl (yR rfl) zH)
 (qc (jp yU rfl (qK (K:=K) rfl (pv 1)) (qr (i:=3) k7.nd rfl (yR rfl))
 (qc (jV (qv (qw (K:=K) rfl p) (pv 3) qi (fun _ _=>rfl)) (j6 (pv 2) (qv (qw (K:=K) rfl p) (pv 3) qi (fun _ _=>rfl)) (j8 p)))
 (qf (jV (qv (qw (K:=K) rfl p) (pv 3) qi (fun _ _=>rfl)) (j6 (pv 2) (qv (qw (K:=K) rfl p) (pv 3) qi (fun _ _=>rfl)) (j8 p))))))
 (qf (qo (pv 2)))))),?_⟩
  ext;refine ⟨x,l,ss,ns,us,tps,qs,rfl,hW,Z,⟨hl,n⟩,g,fun H1 W=>?_⟩;ext;refine yq ?_;ext;intro d R;have c:=W.free R;have L:=qD W (o:=.dK []) R;have O:upd H1 d (.dK []) d=some (.dK (prK [])):=qb;generalize upd H1 d (.dK [])=H2 at L O;ext;refine .inl ⟨⟨_,.of (L _ _ hl)⟩,qX (xs:=us.map V.ref) (fun i B J=>L2.Same H J/\∃ M,B=[some (.ref x),some (.ref l),some (.ref d),M]/\J d=some (.dK (prK (qs.take i)))) ⟨L,_,rfl,O⟩ (fun i B J _ t=>.of (t.1 _ _ hl)) (fun i y B J U t=>?_) fun B J t=>?_⟩
  .obtain ⟨A,M,rfl,a⟩:=t;rw [yd] at U;obtain ⟨b,s,rfl⟩:=yn.mp U;have hi:i<us.length:=(yc.mp s).1;obtain ⟨ab,r⟩:∃ ab,qs[i]?=some ab:=⟨_,yb (by rw [<- u];exact hi)⟩;have C:=n.at_ i b ab s r;obtain ⟨I,G,n1,n2⟩:=g.new r;have D:b≠d:=fun z=>by rw [z,c] at C;cases C
   have m:=A _ _ C;have aa:(prK (qs.take i)).length<=2000:=by rw [prK_len,yJ];omega
   ext;refine .inl (qa8 m (v:=.str ab.2) (qL (j:=1) rfl) ?_);ext;refine .inl (qa8 m (v:=.str ab.1) (qL (j:=0) rfl) ?_);ext;refine .inr ⟨d,_,rfl,DPut.k (k:=Sum.inr ab.1) a (by rw [Yy];omega),?_⟩;have X:=qak A (o:=.dK (zf (prK (qs.take i)) (Sum.inr ab.1) (.str ab.2))) c;have N:upd J d (.dK (zf (prK (qs.take i)) (Sum.inr ab.1) (.str ab.2))) d=some (.dK (zf (prK (qs.take i)) (Sum.inr ab.1) (.str ab.2))):=qb;have e:upd J d (.dK (zf (prK (qs.take i)) (Sum.inr ab.1) (.str ab.2))) b=some (.tup [.str ab.1,.str ab.2]):=by rw [qe D];exact m
   generalize upd J d (.dK (zf (prK (qs.take i)) (Sum.inr ab.1) (.str ab.2)))=J3 at X N e;ext;refine .inl (qa8 e (v:=.str ab.1) (qL (j:=0) rfl) ?_);ext;refine .inl (qa8 e (v:=.str ab.2) (qL (j:=1) rfl) ?_);ext;refine .inr ⟨d,_,rfl,DPut.k (k:=Sum.inr ab.2) N ?_,?_⟩
   .have:=jy (prK (qs.take i)) (Sum.inr ab.1:Key) (.str ab.2);rw [Yy];omega
   .exact ⟨qak X c,_,rfl,by rw [qb,prK_put G,I]⟩
  .obtain ⟨A,M,rfl,a⟩:=t;rw [ya,u,yN] at a;ext;exact q d J A c a
structure Gr (A:Str->Str->Prop) (f:Str->Option Str):Prop where
 as:∀ {a b},A a b->A b a
 ir:∀ {a b},A a b->a≠b
 fs:∀ {a b},f a=some b->f b=some a
 fa:∀ {a b},f a=some b->A a b
structure FS where
 rows:Str->Option (List Str)
 par:Str->Option Str
 bas:Str->Str
def Turns (A:Str->Str->Prop) (f:Str->Option Str) (r:List Str):Prop:=∀ (j:Nat) a b,r[j]?=some a->r[j+1]?=some b->A a b/\(f a=some b↔j % 2=1)
structure Alt (A:Str->Str->Prop) (f:Str->Option Str) (r:List Str) (v:Str):Prop where
 nd:r.Nodup
 odd:r.length % 2=1
 hd:∀ s,r[0]?=some s->f s=none
 tl:∃ r0,r=r0++[v]
 st:Turns A f r
structure FI (A:Str->Str->Prop) (f:Str->Option Str) (S:FS):Prop where
 alt:∀ v r,S.rows v=some r->Alt A f r v
 bse:∀ v r,S.rows v=some r->∃ rb t,S.rows (S.bas v)=some rb/\r=rb++t/\∀ u∈t,S.bas u=S.bas v
 idm:∀ v r,S.rows v=some r->S.bas (S.bas v)=S.bas v
 dwn:∀ b r q,S.rows b=some r->S.bas b=b->f b=some q->S.rows q=none/\∃ z rz,S.par q=some z/\S.rows z=some rz/\r=rz++[q,b]
 mat:∀ v,S.bas v≠v->(∃ r,S.rows v=some r)/\∃ u,f v=some u/\S.bas u=S.bas v
 odd:∀ x z,S.par x=some z->A z x/\(∃ r,S.rows z=some r)/\∃ y r,f x=some y/\S.rows y=some r
section
variable {A:Str->Str->Prop} {f:Str->Option Str} {S:FS}
theorem FI.own (I:FI A f S) (h:S.rows v=none):S.bas v=v:=Ym fun z=>by
 obtain ⟨⟨r,e⟩,_⟩:=I.mat v z;rw [h] at e;cases e
theorem FI.evb (I:FI A f S) (h:S.rows v=some r):∃ a,S.rows (S.bas v)=some a:=(I.bse v r h).elim fun a z=>⟨a,z.elim fun _ y=>y.1⟩
theorem FI.pair (I:FI A f S) {w:Str} {s:List Str} (hv:S.rows v=some r) (hw:S.rows w=some s) (h:f v=some w):S.bas v=S.bas w:=by
 by_cases z:S.bas v=v
 .have:=(I.dwn v r w hv z h).1;rw [hw] at this;cases this
 .obtain ⟨_,u,a,e⟩:=I.mat v z;rw [h] at a;cases a;exact e.symm
inductive Ch (f:Str->Option Str) (S:FS):Str->List Str->Prop
 | root {b:Str}:f b=none->Ch f S b [b]
 | step {b q z:Str} {l:List Str}:f b=some q->S.par q=some z->Ch f S (S.bas z) l->Ch f S b (b::l)
theorem Ch.one {l:List Str} (h:Ch f S b l):∀ {m},Ch f S b m->m=l:=by
 induction h with
 | root e=>intro m g;cases g with
  | root _=>rfl
  | step e' _ _=>rw [e] at e';cases e'
 | step e p _ ih=>intro m g;cases g with
  | root e'=>rw [e] at e';cases e'
  | step e' p' g'=>rw [e] at e';cases e';rw [p] at p';cases p';rw [ih g']
theorem Ch.ne {l:List Str} (h:Ch f S b l):∃ t,l=b::t:=by cases h<;>exact ⟨_,rfl⟩
theorem FI.chain (I:FI A f S):∀ (n:Nat) {b:Str} {r:List Str},r.length<=n->S.rows b=some r->S.bas b=b->∃ l,Ch f S b l
 | n,b,r,hn,hb,hbb=>by
  cases e:f b with
  | none=>exact ⟨_,.root e⟩
  | some q =>
   obtain ⟨_,z,rz,p,hz,c⟩:=I.dwn b r q hb hbb e;obtain ⟨a,t,h1,d,_⟩:=I.bse z rz hz;have hl:a.length<n:=by rw [c,d] at hn;simp at hn;omega
   match n,hl with
   | n+1,hl =>
    obtain ⟨l,g⟩:=I.chain n (b:=S.bas z) (r:=a) (by omega) h1 (I.idm z rz hz);exact ⟨_,.step e p g⟩
theorem FI.chainOf (I:FI A f S) (h:S.rows v=some r):∃ l,Ch f S (S.bas v) l:=by
 obtain ⟨a,e⟩:=I.evb h;exact I.chain _ (yh _) e (I.idm v r h)
def Cov (f:Str->Option Str) (S:FS) (l:List Str) (u:Str):Prop:=∃ d∈l,S.bas u=d\/f d=some u
theorem Cov.mono {l m:List Str} (h:Cov f S l u) (a:∀ d∈l,d∈m):Cov f S m u:=h.elim fun d z=>⟨d,a d z.1,z.2⟩
theorem Ch.up (I:FI A f S) {l:List Str} (h:Ch f S b l):∀ {v:Str} {r:List Str},S.rows v=some r->S.bas v=b->∀ {l1 l2:List Str} {c:Str},l=l1++c::l2->∃ w t,S.rows c=some w/\S.bas c=c/\Ch f S c (c::l2)/\r=w++t/\∀ u∈t,S.bas u=c\/Cov f S l1 u:=by
 induction h with
 | root e =>
  intro v r hv n l1 l2 c m
  cases l1 with
  | cons x y=>exact absurd (congrArg List.length m) (by simp)
  | nil =>
   cases m;obtain ⟨s,t,h1,o,i⟩:=I.bse v r hv;rw [n] at h1 i;exact ⟨s,t,h1,by rw [<- n];exact I.idm v r hv,.root e,o,fun u hu=>.inl (i u hu)⟩
 | @step b q z l e p g ih =>
  intro v r hv n l1 l2 c m;obtain ⟨s,t,h1,o,i⟩:=I.bse v r hv;rw [n] at h1 i;have a:S.bas b=b:=by rw [<- n];exact I.idm v r hv
  cases l1 with
  | nil =>
   cases m;exact ⟨s,t,h1,a,.step e p g,o,fun u hu=>.inl (i u hu)⟩
  | cons x y =>
   cases m;obtain ⟨K,L,rz,B,hz,C⟩:=I.dwn b s q h1 a e;rw [p] at B;cases B;obtain ⟨w,t',E,F,G,H,J⟩:=ih hz rfl rfl;refine ⟨w,t'++[q,b]++t,E,F,G,by rw [o,C,H];simp,fun u hu=>?_⟩;rcases yx.mp hu with hu | hu
   .rcases yx.mp hu with hu | hu
    .exact (J u hu).imp id fun z=>z.mono fun d D=>yC _ D
    .simp only [yy,yX,YO] at hu;rcases hu with rfl | rfl
     .exact .inr ⟨b,yO,.inr e⟩
     .exact .inr ⟨_,yO,.inl a⟩
   .exact .inr ⟨b,yO,.inl (i u hu)⟩
theorem Ch.bs0 (I:FI A f S) {l:List Str} (hv:S.rows v=some r) (h:Ch f S (S.bas v) l) (hc:c∈l):∃ a,S.rows c=some a/\S.bas c=c:=by
 obtain ⟨l1,l2,e⟩:=Yg hc;obtain ⟨a,_,h1,b,_⟩:=h.up I hv rfl e;exact ⟨a,h1,b⟩
theorem Ch.cov (G:Gr A f) (I:FI A f S) {l:List Str} (hv:S.rows v=some r) (h:Ch f S (S.bas v) l) (hu:u∈r):Cov f S l u:=by
 have hl:l≠[]:=by obtain ⟨t,e⟩:=h.ne;rw [e];exact kj _ _
 obtain ⟨p,t,h1,w,x,y,B⟩:=h.up I hv rfl (Y8 hl).symm;have b:l.getLast hl∈l:=List.getLast_mem hl;rw [y] at hu;rcases yx.mp hu with hu | hu
 .have E:f (l.getLast hl)=none:=by
   cases x with
   | root e=>exact e
   | step _ _ g=>obtain ⟨_,e⟩:=g.ne;cases e
  have c:=I.alt _ _ h1;obtain ⟨s,i⟩:=c.tl
  have o:s=[]:=by
   cases m:s.length with
   | zero=>exact List.eq_nil_of_length_eq_zero m
   | succ n =>
    exfalso;have q:p.length=n+2:=by rw [i];simp [m]
    obtain ⟨a,C⟩:∃ a,p[n]?=some a:=⟨_,yb (by omega)⟩;have D:p[n+1]?=some (l.getLast hl):=by rw [i,yz (by omega),m];simp
    have:=G.fs ((c.st n a _ C D).2.mpr (by have:=c.odd;omega));rw [E] at this;cases this
  rw [i,o] at hu;have e:u=l.getLast hl:=by simpa using hu
  exact ⟨_,b,.inl (by rw [e];exact w)⟩
 .rcases B u hu with z | ⟨d,hd,z⟩
  .exact ⟨_,b,.inl z⟩
  .exact ⟨d,List.dropLast_subset l hd,z⟩
theorem Cov.apart (G:Gr A f) (I:FI A f S) {l m:List Str} (hl:∀ d∈l,∃ r,S.rows d=some r/\S.bas d=d) (o:∀ d∈m,∃ r,S.rows d=some r/\S.bas d=d) (v:∀ d∈l,d∉m) (h1:Cov f S l u) (q:Cov f S m u):False:=by
 have i:∀ {d e:Str},(∃ r,S.rows d=some r/\S.bas d=d)->(∃ r,S.rows e=some r/\S.bas e=e)->S.bas u=d->f e=some u->False:=fun ⟨r,b,t⟩ ⟨s,g,n⟩ h h'=>by
  have p:=(I.dwn _ _ _ g n h').1;have:=I.own p;rw [h] at this;rw [this,p] at b;cases b
 obtain ⟨d,b,z⟩:=h1;obtain ⟨e,g,y⟩:=q;have c:d≠e:=fun w=>v d b (by rw [w];exact g);rcases z with z | z<;>rcases y with y | y
 .exact c (z.symm.trans y)
 .exact i (hl d b) (o e g) z y
 .exact i (o e g) (hl d b) y z
 .have a:=G.fs z;rw [G.fs y] at a;exact c (ym a).symm
theorem Turns.app {s:List Str} (h:Turns A f r) (g:∀ (j:Nat) a b,s[j]?=some a->s[j+1]?=some b->A a b/\(f a=some b↔(r.length+j) % 2=1)) (w:∀ a b,r[r.length-1]?=some a->s[0]?=some b->0<r.length->A a b/\(f a=some b↔(r.length-1) % 2=1)):Turns A f (r++s):=fun j a b c d=>by
 by_cases h1:j+1<r.length
 .rw [yT (by omega)] at c;rw [yT h1] at d;exact h j a b c d
 .by_cases e:j+1=r.length
  .rw [yT (by omega),show j=r.length-1 by omega] at c;rw [yz (by omega),show j+1-r.length=0 by omega] at d;rw [show j=r.length-1 by omega];exact w a b c d (by omega)
  .rw [yz (by omega)] at c;rw [yz (by omega),show j+1-r.length=j-r.length+1 by omega] at d;have:=g _ a b c d
   rwa [show r.length+(j-r.length)=j by omega] at this
theorem Alt.back (G:Gr A f) {s t:List Str} {w q:Str} (hw:Alt A f s w) (hv:Alt A f r v) (i:r=rz++q::c::t) (hz:rz.length % 2=1) (E:A w v) (F:f w≠some v) (p:∀ u∈s,u∉q::c::t):Alt A f (s++(q::c::t).reverse) q:=by
 obtain ⟨K,es⟩:=hw.tl;obtain ⟨J,l⟩:=hv.tl;have o:0<s.length:=by rw [es];simp
 have H:=hv.odd;have n:r.length=rz.length+(t.length+2):=by rw [i];simp
 have at_:∀ {j:Nat} {a:Str},(q::c::t).reverse[j]?=some a->j<t.length+2/\r[r.length-1-j]?=some a:=fun {j a} h=>by
  have hl:=(yc.mp h).1;rw [Yu] at hl;simp only [yA] at hl;rw [List.getElem?_reverse (by simp only [yA];omega)] at h;simp only [yA] at h;refine ⟨by omega,?_⟩;rw [n]
  conv=>lhs;rw [i]
  rw [yz (by omega),show rz.length+(t.length+2)-1-j-rz.length=t.length+1+1-1-j by omega];exact h
 refine ⟨yZ.mpr ⟨hw.nd,?_,fun x I y g e=>p x I (by rw [e];exact kl.mp g)⟩,?_,fun y g=>?_,⟨s++(c::t).reverse,by simp⟩,hw.st.app (fun j a b h1 m=>?_) fun a b h1 m _=>?_⟩
 .exact (List.reverse_perm _).nodup_iff.mpr ((yZ.mp (i ▸ hv.nd)).2.1)
 .rw [yt,Yu];simp only [yA];have:=hw.odd;omega
 .rw [yT o] at g;exact hw.hd y g
 .obtain ⟨l1,B⟩:=at_ h1;obtain ⟨l2,d⟩:=at_ m;have:=hv.st (r.length-1-(j+1)) b a d (by rw [show r.length-1-(j+1)+1=r.length-1-j by omega];exact B);refine ⟨G.as this.1,⟨fun z=>?_,fun z=>?_⟩⟩
  .have:=this.2.mp (G.fs z);have:=hw.odd;omega
  .exact G.fs (this.2.mpr (by have:=hw.odd;omega))
 .have C:a=w:=by
   rw [es,yt,yz (by simp)] at h1;simpa using h1.symm
  have D:b=v:=by
   obtain ⟨_,d⟩:=at_ m;rw [kC,l,yt,yz (by simp)] at d;simpa using d.symm
  subst C;subst D;exact ⟨E,⟨fun z=>absurd z F,fun z=>by have:=hw.odd;omega⟩⟩
end
section
variable {A:Str->Str->Prop} {f:Str->Option Str} {S S':FS}
theorem Ch.nd (I:FI A f S) {l:List Str} (h:Ch f S b l):∀ {v:Str} {r:List Str},S.rows v=some r->S.bas v=b->l.Nodup:=by
 induction h with
 | root e=>intro _ _ _ _;simp
 | @step b q z l e p g ih =>
  intro v r hv d;have a:S.bas b=b:=by rw [<- d];exact I.idm v r hv
  obtain ⟨o,h1⟩:=I.evb hv;rw [d] at h1;obtain ⟨_,s,rz,i,hz,_⟩:=I.dwn b o q h1 a e;rw [p] at i;cases i;refine yo.mpr ⟨fun m=>?_,ih hz rfl⟩;obtain ⟨x,y,c⟩:=Yg m;obtain ⟨_,_,_,_,n,_⟩:=g.up I hz rfl c;have:=n.one (.step e p g);rw [c] at this;have:=congrArg List.length this;simp at this;omega
theorem Ch.suf (I:FI A f S) {l:List Str} (hv:S.rows v=some r) (h:Ch f S (S.bas v) l) {q:Str} (e:l=l1++c::l2) (b:f c=some q):∃ rz t,r=rz++q::c::t/\rz.length % 2=1/\S.rows q=none/\∀ u∈q::c::t,Cov f S (l1++[c]) u:=by
 obtain ⟨s,t,h1,a,_,g,i⟩:=h.up I hv rfl e;obtain ⟨n,z,rz,_,o,p⟩:=I.dwn c s q h1 a b;refine ⟨rz,t,by rw [g,p];simp,(I.alt z rz o).odd,n,fun u hu=>?_⟩;rcases yy.mp hu with rfl | hu
 .exact ⟨c,by simp,.inr b⟩
 .rcases yy.mp hu with rfl | hu
  .exact ⟨u,by simp,.inl a⟩
  .rcases i u hu with z | z
   .exact ⟨c,by simp,.inl z⟩
   .exact z.mono fun d m=>yE _ m
theorem Ch.meet (I:FI A f S) {w:Str} {s l:List Str} (hv:S.rows v=some r) (hw:S.rows w=some s) (h:Ch f S (S.bas v) l) (h':Ch f S (S.bas w) l') {n:List Str} (o:l=l1++m::l2) (i:l'=m1++m::n) (K:∀ d∈l1,d∉l'):n=l2/\∀ d∈m1,d∉l:=by
 obtain ⟨_,_,_,_,k,_⟩:=h.up I hv rfl o;obtain ⟨_,_,_,_,k',_⟩:=h'.up I hw rfl i;have F:n=l2:=(xk (k.one k')).2;refine ⟨F,fun d L hl=>?_⟩;obtain ⟨a,b,D⟩:=Yg L;obtain ⟨x,y,ex⟩:=Yg hl;obtain ⟨_,_,_,_,g,_⟩:=h.up I hv rfl ex;obtain ⟨_,_,_,_,g',_⟩:=h'.up I hw rfl (l1:=a) (c:=d) (l2:=b++m::n) (by rw [i,D];simp);have B:y=b++m::n:=(xk (g'.one g)).2;have e:=h.nd I hv rfl;have p:d∈l':=by rw [i,D];simp
 have t:d∉l1:=fun z=>K d z p;have q:d∈m::l2:=by rw [o] at hl;exact (yx.mp hl).resolve_left t
 rcases yy.mp q with z | z
 .rw [z] at ex;rw [ex,B] at e;have:=(yZ.mp e).2.1;exact (yo.mp this).1 (by simp)
 .have u:m∈x:=by
   obtain ⟨M,E,G⟩:=Yg z;have C:l=(l1++m::M)++d::E:=by rw [o,G];simp
   obtain ⟨_,_,_,_,J,_⟩:=h.up I hv rfl C;have H:E=y:=(xk (g.one J)).2;rw [C,H] at ex;rw [<- List.append_cancel_right ex];simp
  rw [ex,B] at e;exact (yZ.mp e).2.2 m u m (by simp) rfl
def NewRow (S:FS) (v w u:Str) (r:List Str):Prop:=∃ rv rw rz t,S.rows v=some rv/\S.rows w=some rw/\rv=rz++u::t/\r=rw++(u::t).reverse
def InR (f:Str->Option Str) (m:Str) (a:List Str) (u:Str):Prop:=u=m\/∃ c∈a,u=c\/f c=some u
structure Mg (f:Str->Option Str) (S S':FS) (v w m:Str) (l1 m1:List Str):Prop where
 par:S'.par=S.par
 old:∀ u r,S.rows u=some r->S'.rows u=some r
 new:∀ u r,S'.rows u=some r->S.rows u=some r\/(∃ c∈l1,f c=some u/\NewRow S v w u r)\/(∃ c∈m1,f c=some u/\NewRow S w v u r)
 all:∀ c∈l1++m1,∀ q,f c=some q->∃ r,S'.rows q=some r
 inn:∀ u,InR f m (l1++m1) (S.bas u)->S'.bas u=m
 out:∀ u,¬ InR f m (l1++m1) (S.bas u)->S'.bas u=S.bas u
theorem cut_one {a b c d:List Str} {x:Str} (h:(a++x::b).Nodup) (e:a++x::b=c++x::d):a=c/\b=d:=by
 induction a generalizing c with
 | nil =>
  cases c with
  | nil=>exact ⟨rfl,(xk e).2⟩
  | cons y c =>
   obtain ⟨f,g⟩:=xk e;exact absurd (show x∈b by rw [g];simp) (yo.mp h).1
 | cons y a ih =>
  cases c with
  | nil =>
   obtain ⟨f,g⟩:=xk e;exact absurd (show y∈a++x::b by rw [f];simp) (yo.mp h).1
  | cons z c =>
   obtain ⟨f,g⟩:=xk e;obtain ⟨h1,i⟩:=ih (yo.mp h).2 g;exact ⟨by rw [f,h1],i⟩
theorem NewRow.ok (G:Gr A f) (I:FI A f S) {w:Str} {l:List Str} (hv:S.rows v=some rv) (hw:S.rows w=some rw) (h:Ch f S (S.bas v) l) (h':Ch f S (S.bas w) l') (p:l=l1++l2) (K:∀ d∈l1,d∉l') (H:A w v) (J:S.bas w≠S.bas v) (hc:c∈l1) (M:f c=some u) (L:NewRow S v w u r) :
  Alt A f r u/\S.rows u=none/\∃ t,r=rw++t/\∀ x∈t,Cov f S l1 x:=by
 obtain ⟨N,O,rz,t,q,s,y,B⟩:=L;rw [hv] at q;cases q;rw [hw] at s;cases s;obtain ⟨a,b,o⟩:=Yg hc;obtain ⟨P,t',m,C,D,n⟩:=h.suf I hv (l1:=a) (c:=c) (l2:=b++l2) (by rw [p,o];simp) M;have e:=(I.alt v rv hv).nd;obtain ⟨E,F⟩:=cut_one (by rw [<- y];exact e) (y.symm.trans m);subst E;subst F;have sub:∀ d∈a++[c],d∈l1:=fun d z=>by rw [o];rcases yx.mp z with z | z;exact yE _ z;rw [yB.mp z];simp
 have inl:∀ d∈l1,d∈l:=fun d z=>by rw [p];exact yE _ z
 refine ⟨?_,D,_,B,fun x g=>(n x (kl.mp g)).mono sub⟩;rw [B];refine Alt.back G (I.alt w rw hw) (I.alt v rv hv) m C H (fun z=>J (I.pair hw hv z)) fun x g i=>?_;exact Cov.apart G I (fun d z=>h.bs0 I hv (inl d (sub d z))) (fun d z=>h'.bs0 I hw z) (fun d z=>K d (sub d z)) (n x i) (h'.cov G I hw g)
theorem FI.merge (G:Gr A f) (I:FI A f S) {w:Str} (hv:S.rows v=some rv) (hw:S.rows w=some rw) (h:Ch f S (S.bas v) (l1++m::l2)) (h':Ch f S (S.bas w) (m1++m::l2)) (hd:∀ d∈l1,d∉m1++m::l2) (W:∀ d∈m1,d∉l1++m::l2) (ha:A v w) (hb:S.bas v≠S.bas w) (M:Mg f S S' v w m l1 m1):FI A f S':=by
 have hm:∃ r,S.rows m=some r/\S.bas m=m:=h.bs0 I hv (by simp);obtain ⟨R,J,X⟩:=hm
 have C:∀ c∈l1++m1,(∃ r,S.rows c=some r/\S.bas c=c)/\c≠m/\∃ q,f c=some q/\S.rows q=none:=fun c hc=>by
  rcases yx.mp hc with z | z
  .refine ⟨h.bs0 I hv (yE _ z),fun e=>hd c z (by rw [e];simp),?_⟩;obtain ⟨a,b,F⟩:=Yg z;obtain ⟨rc,_,E,p,B,_⟩:=h.up I hv rfl (l1:=a) (c:=c) (l2:=b++m::l2) (by rw [F];simp);generalize n:b++m::l2=x at B
   cases B with
   | root _=>exact absurd (congrArg List.length n) (by simp)
   | step e _ _=>exact ⟨_,e,(I.dwn _ _ _ E p e).1⟩
  .refine ⟨h'.bs0 I hw (yE _ z),fun e=>W c z (by rw [e];simp),?_⟩;obtain ⟨a,b,F⟩:=Yg z;obtain ⟨rc,_,E,p,B,_⟩:=h'.up I hw rfl (l1:=a) (c:=c) (l2:=b++m::l2) (by rw [F];simp);generalize n:b++m::l2=x at B
   cases B with
   | root _=>exact absurd (congrArg List.length n) (by simp)
   | step e _ _=>exact ⟨_,e,(I.dwn _ _ _ E p e).1⟩
 have cov:∀ u,Cov f S (l1++m1) u->S'.bas u=m:=fun u ⟨d,hd,z⟩=>by
  refine M.inn u ?_;rcases z with z | z
  .exact .inr ⟨d,hd,.inl z⟩
  .have hn:=(C d hd).2.2;obtain ⟨q,e,H⟩:=hn;rw [z] at e;cases e;rw [I.own H];exact .inr ⟨d,hd,.inr z⟩
 have L:∀ u,Cov f S l1 u->S'.bas u=m:=fun u z=>cov u (z.mono fun d y=>yE _ y);have N:∀ u,Cov f S m1 u->S'.bas u=m:=fun u z=>cov u (z.mono fun d y=>yH _ y);have bm:∀ u,S.bas u=m->S'.bas u=m:=fun u z=>M.inn u (.inl z);have m0:S'.bas m=m:=bm m X;have aa:=M.old m R J
 have K:∀ {x:Str} {rx a b:List Str},S.rows x=some rx->Ch f S (S.bas x) (a++m::b)->(∀ d∈a,d∈l1++m1)->∃ t,rx=R++t/\∀ u∈t,S'.bas u=m:=fun {x rx a b} n hc hs=>by
  obtain ⟨rc,t,E,_,_,T,g5⟩:=hc.up I n rfl rfl;rw [J] at E;cases E;exact ⟨t,T,fun u l=>(g5 u l).elim (bm u) fun z=>cov u (z.mono hs)⟩
 have nw:∀ u r,(∃ c∈l1,f c=some u/\NewRow S v w u r)\/(∃ c∈m1,f c=some u/\NewRow S w v u r)->Alt A f r u/\S.rows u=none/\S'.bas u=m/\∃ t,r=R++t/\∀ x∈t,S'.bas x=m:=fun u r z=>by
  rcases z with ⟨c,hc,l,D⟩ | ⟨c,hc,l,D⟩
  .obtain ⟨E,p,t,B,T⟩:=NewRow.ok G I hv hw h h' rfl hd (G.as ha) (Yb hb) hc l D;obtain ⟨t0,p1,p2⟩:=K hw h' fun d y=>yH _ y;exact ⟨E,p,L u ⟨c,hc,.inr l⟩,t0++t,by rw [B,p1];simp,fun x n=>(yx.mp n).elim (p2 x) fun y=>L x (T x y)⟩
  .obtain ⟨E,p,t,B,T⟩:=NewRow.ok G I hw hv h' h rfl W ha hb hc l D;obtain ⟨t0,p1,p2⟩:=K hv h fun d y=>yE _ y;exact ⟨E,p,N u ⟨c,hc,.inr l⟩,t0++t,by rw [B,p1];simp,fun x n=>(yx.mp n).elim (p2 x) fun y=>N x (T x y)⟩
 have ag:∀ u r,S.rows u=some r->InR f m (l1++m1) (S.bas u)->S.bas u=m\/S.bas u∈l1++m1:=fun u r l z=>by
  rcases z with z | ⟨c,hc,z | z⟩
  .exact .inl z
  .exact .inr (by rw [z];exact hc)
  .obtain ⟨q,e,H⟩:=(C c hc).2.2;rw [z] at e;cases e;obtain ⟨rb,o⟩:=I.evb l;rw [H] at o;cases o
 refine ⟨fun u r l=>?_,fun u r l=>?_,fun u r l=>?_,fun b r q ac P H=>?_,fun u l=>?_,fun x z n=>?_⟩
 .rcases M.new u r l with z | z
  .exact I.alt u r z
  .exact (nw u r z).1
 .rcases M.new u r l with z | z
  .by_cases i:InR f m (l1++m1) (S.bas u)
   .rw [M.inn u i];refine ⟨R,?_⟩
    have:∃ t,r=R++t/\∀ x∈t,S'.bas x=m:=by
     rcases ag u r z i with y | y
     .obtain ⟨rb,t,O,o,e3⟩:=I.bse u r z;rw [y,J] at O;cases O;exact ⟨t,o,fun x n=>bm x ((e3 x n).trans y)⟩
     .rcases yx.mp y with y | y
      .obtain ⟨a,b,F⟩:=Yg y;obtain ⟨_,_,_,_,g,_⟩:=h.up I hv rfl (l1:=a) (c:=S.bas u) (l2:=b++m::l2) (by rw [F];simp);exact K z (a:=S.bas u::b) (by simpa using g) fun d hd=>by rw [F];rcases yy.mp hd with rfl | hd<;>simp [*]
      .obtain ⟨a,b,F⟩:=Yg y;obtain ⟨_,_,_,_,g,_⟩:=h'.up I hw rfl (l1:=a) (c:=S.bas u) (l2:=b++m::l2) (by rw [F];simp);exact K z (a:=S.bas u::b) (by simpa using g) fun d hd=>by rw [F];rcases yy.mp hd with rfl | hd<;>simp [*]
    obtain ⟨t,O,o⟩:=this;exact ⟨t,aa,O,o⟩
   .rw [M.out u i];obtain ⟨rb,t,O,o,e3⟩:=I.bse u r z;exact ⟨rb,t,M.old _ _ O,o,fun x n=>by rw [M.out x (by rw [e3 x n];exact i)];exact e3 x n⟩
  .obtain ⟨_,_,e,t,O,o⟩:=nw u r z;rw [e];exact ⟨R,t,aa,O,o⟩
 .by_cases i:InR f m (l1++m1) (S.bas u)
  .rw [M.inn u i];exact m0
  .rw [M.out u i];rcases M.new u r l with z | z
   .have e:=I.idm u r z;rw [M.out _ (by rw [e];exact i)];exact e
   .obtain ⟨_,p,_⟩:=nw u r z;have e:=I.own p;rw [e,M.out u (by rw [e] at i ⊢;exact i)];exact e
 .have ad:S.bas b=b/\(b=m\/¬ InR f m (l1++m1) (S.bas b)):=by
   by_cases i:InR f m (l1++m1) (S.bas b)
   .have:=M.inn b i;rw [P] at this;rw [this];exact ⟨X,.inl rfl⟩
   .have:=M.out b i;rw [P] at this;exact ⟨this.symm,.inr i⟩
  obtain ⟨U,ae⟩:=ad
  have D:S.rows b=some r:=by
   rcases M.new b r ac with z | z
   .exact z
   .exfalso;obtain ⟨_,p,B,_⟩:=nw b r z;rw [P] at B;rw [B,J] at p;cases p
  obtain ⟨k1,z,rz,k2,k3,k4⟩:=I.dwn b r q D U H;refine ⟨?_,z,rz,by rw [M.par];exact k2,M.old _ _ k3,k4⟩
  cases e:S'.rows q with
  | none=>rfl
  | some s =>
   exfalso
   have Z:∀ c∈l1++m1,f c=some q->False:=fun c hc af=>by
    have:=G.fs af;rw [G.fs H] at this;have o:=ym this;subst o;rcases ae with y | y
    .exact (C b hc).2.1 y
    .exact y (.inr ⟨b,hc,.inl U⟩)
   rcases M.new q s e with y | ⟨c,hc,y,_⟩ | ⟨c,hc,y,_⟩
   .rw [k1] at y;cases y
   .exact Z c (yE _ hc) y
   .exact Z c (yH _ hc) y
 .by_cases i:InR f m (l1++m1) (S.bas u)
  .rw [M.inn u i] at l ⊢;by_cases Y:S.bas u=u
   .rw [Y] at i;rcases i with z | ⟨c,hc,z | z⟩
    .exact absurd z.symm l
    .subst z;obtain ⟨⟨r,D,_⟩,_,q,H,_⟩:=C u hc;exact ⟨⟨r,M.old _ _ D⟩,q,H,cov q ⟨u,hc,.inr H⟩⟩
    .exact ⟨M.all c hc u z,c,G.fs z,cov c ⟨c,hc,.inl (C c hc).1.choose_spec.2⟩⟩
   .obtain ⟨⟨r,D⟩,y,hy,e⟩:=I.mat u Y;exact ⟨⟨r,M.old _ _ D⟩,y,hy,M.inn y (by rw [e];exact i)⟩
  .rw [M.out u i] at l ⊢;obtain ⟨⟨r,D⟩,y,hy,e⟩:=I.mat u l;exact ⟨⟨r,M.old _ _ D⟩,y,hy,by rw [M.out y (by rw [e];exact i)];exact e⟩
 .rw [M.par] at n;obtain ⟨k1,⟨r,k2⟩,y,s,k3,k4⟩:=I.odd x z n;exact ⟨k1,⟨r,M.old _ _ k2⟩,y,s,k3,M.old _ _ k4⟩
end
structure Aug (A:Str->Str->Prop) (f:Str->Option Str) (r:List Str):Prop where
 nd:r.Nodup
 two:2<=r.length
 ev:r.length % 2=0
 st:Turns A f r
 hd:∀ s,r[0]?=some s->f s=none
 tl:∀ s,r[r.length-1]?=some s->f s=none
section
variable {A:Str->Str->Prop} {f:Str->Option Str} {S S':FS}
theorem FI.aug (G:Gr A f) (I:FI A f S) {w:Str} {l:List Str} (hv:S.rows v=some rv) (hw:S.rows w=some rw) (h:Ch f S (S.bas v) l) (h':Ch f S (S.bas w) l') (hl:l.getLast?≠l'.getLast?) (E:A v w):Aug A f (rv++rw.reverse):=by
 have n:∀ d∈l,d∉l':=fun d F p=>by
  obtain ⟨a,b,e⟩:=Yg F;obtain ⟨x,y,q⟩:=Yg p;obtain ⟨_,_,_,_,k,_⟩:=h.up I hv rfl e;obtain ⟨_,_,_,_,k',_⟩:=h'.up I hw rfl q;have:=k.one k';exact hl (by rw [e,q,this,List.getLast?_append,List.getLast?_append];rfl)
 have c:=I.alt v rv hv;have g:=I.alt w rw hw;obtain ⟨O,r⟩:=c.tl;obtain ⟨P,t⟩:=g.tl;have K:0<rv.length:=by rw [r];simp
 have L:0<rw.length:=by rw [t];simp
 have M:=c.odd;have N:=g.odd
 have H:f v≠some w:=fun z=>by
  have e:=I.pair hv hw z;have:=h.one (e ▸ h');rw [this] at hl;exact hl rfl
 have at_:∀ {j:Nat} {a:Str},rw.reverse[j]?=some a->j<rw.length/\rw[rw.length-1-j]?=some a:=fun {j a} e=>by
  have hl:=(yc.mp e).1;rw [Yu] at hl;rw [List.getElem?_reverse hl] at e;exact ⟨hl,e⟩
 refine ⟨yZ.mpr ⟨c.nd,(List.reverse_perm _).nodup_iff.mpr g.nd,fun x J y u e=>?_⟩,by rw [yt,Yu];omega,by rw [yt,Yu];omega,c.st.app (fun j a b h1 o=>?_) fun a b h1 o _=>?_,fun s i=>?_,fun s i=>?_⟩
 .rw [<- e] at u;exact Cov.apart G I (fun d z=>h.bs0 I hv z) (fun d z=>h'.bs0 I hw z) n (h.cov G I hv J) (h'.cov G I hw (kl.mp u))
 .obtain ⟨l1,B⟩:=at_ h1;obtain ⟨l2,m⟩:=at_ o;have:=g.st (rw.length-1-(j+1)) b a m (by rw [show rw.length-1-(j+1)+1=rw.length-1-j by omega];exact B);refine ⟨G.as this.1,⟨fun z=>?_,fun z=>?_⟩⟩
  .have:=this.2.mp (G.fs z);omega
  .exact G.fs (this.2.mpr (by omega))
 .have C:a=v:=by
   rw [r,yt,yz (by simp)] at h1;simpa using h1.symm
  have D:b=w:=by
   obtain ⟨_,m⟩:=at_ o;rw [kC,t,yt,yz (by simp)] at m;simpa using m.symm
  subst C;subst D;exact ⟨E,⟨fun z=>absurd z H,fun z=>by omega⟩⟩
 .rw [yT K] at i;exact c.hd s i
 .rw [yt,Yu,yz (by omega),show rv.length+rw.length-1-rv.length=rw.length-1 by omega] at i;obtain ⟨_,e⟩:=at_ i;rw [Xr] at e;exact g.hd s e
structure Gw (S S':FS) (p u y:Str) (r:List Str):Prop where
 ry:S'.rows y=some (r++[u,y])
 ro:∀ s,s≠y->S'.rows s=S.rows s
 pu:S'.par u=some p
 po:∀ s,s≠u->S'.par s=S.par s
 ba:S'.bas=S.bas
theorem FI.fresh (G:Gr A f) (I:FI A f S) (a:S.rows u=none) (g:S.par u=none) (c:f u=some y):S.rows y=none:=by
 cases e:S.rows y with
 | none=>rfl
 | some s =>
  exfalso;by_cases z:S.bas y=y
  .obtain ⟨_,_,_,k,_⟩:=I.dwn y s u e z (G.fs c);rw [g] at k;cases k
  .obtain ⟨_,x,b,k⟩:=I.mat y z;rw [G.fs c] at b;cases b;rw [I.own a] at k;obtain ⟨h,d⟩:=I.evb e;rw [<- k,a] at d;cases d
theorem FI.grow (G:Gr A f) (I:FI A f S) {p:Str} (o:S.rows p=some r) (O:A p u) (w:S.rows u=none) (K:S.par u=none) (n:f u=some y) (W:Gw S S' p u y r):FI A f S':=by
 have c:=I.fresh G w K n;have T:u≠y:=G.ir (G.fa n);have py:p≠y:=fun z=>by rw [z,c] at o;cases o
 have g:∀ s t,S.rows s=some t->S'.rows s=some t:=fun s t e=>by rw [W.ro s (fun z=>by rw [z,c] at e;cases e)];exact e
 have new:∀ s t,S'.rows s=some t->(s=y/\t=r++[u,y])\/(s≠y/\S.rows s=some t):=fun s t e=>by
  by_cases z:s=y
  .subst z;rw [W.ry] at e;exact .inl ⟨rfl,(ym e).symm⟩
  .rw [W.ro s z] at e;exact .inr ⟨z,e⟩
 obtain ⟨l,hl⟩:=I.chainOf o
 have C:∀ x∈r,x≠u/\x≠y:=fun x D=>by
  obtain ⟨d,X,z⟩:=hl.cov G I o D;obtain ⟨rd,i,m⟩:=hl.bs0 I o X;refine ⟨fun e=>?_,fun e=>?_⟩
  .rw [e] at z;rcases z with z | z
   .rw [I.own w] at z;rw [z,i] at w;cases w
   .obtain ⟨_,_,_,k,_⟩:=I.dwn d rd u i m z;rw [K] at k;cases k
  .rw [e] at z;rcases z with z | z
   .rw [I.own c] at z;rw [z,i] at c;cases c
   .have:=G.fs z;rw [G.fs n] at this;rw [ym this,i] at w;cases w
 have B:=I.alt p r o;obtain ⟨r0,N⟩:=B.tl;have L:0<r.length:=by rw [N];simp
 refine ⟨fun v t e=>?_,fun v t e=>?_,fun v t e=>?_,fun b t q e P F=>?_,fun v e=>?_,fun x z e=>?_⟩
 .rcases new v t e with ⟨rfl,rfl⟩ | ⟨_,e⟩
  .refine ⟨yZ.mpr ⟨B.nd,by simp [T],fun x D z hz E=>?_⟩,by rw [yt];have:=B.odd;simp only [yA,Y6];omega,fun s R=>?_,⟨r++[u],by simp⟩,B.st.app (fun j a b h1 J=>?_) fun a b h1 J _=>?_⟩
   .obtain ⟨Z,n2⟩:=C x D;simp only [yy,yX,YO] at hz;rcases hz with rfl | rfl
    .exact Z E
    .exact n2 E
   .rw [yT L] at R;exact B.hd s R
   .have Y:j=0:=by have:=(yc.mp J).1;simp at this;omega
    subst Y;cases h1;cases J;exact ⟨G.fa n,⟨fun _=>by have:=B.odd;omega,fun _=>n⟩⟩
   .cases J
    have U:a=p:=by
     rw [N,yt,yz (by simp)] at h1;simpa using h1.symm
    subst U;refine ⟨O,⟨fun z=>?_,fun z=>by have:=B.odd;omega⟩⟩;have:=G.fs z;rw [n] at this;exact absurd (ym this).symm py
  .exact I.alt v t e
 .rw [W.ba];rcases new v t e with ⟨rfl,rfl⟩ | ⟨_,e⟩
  .rw [I.own c];exact ⟨_,[],W.ry,by simp,(fun x h=>by cases h)⟩
  .obtain ⟨rb,s,i,m,H⟩:=I.bse v t e;exact ⟨rb,s,g _ _ i,m,H⟩
 .rw [W.ba];rcases new v t e with ⟨rfl,rfl⟩ | ⟨_,e⟩
  .rw [I.own c,I.own c]
  .exact I.idm v t e
 .rw [W.ba] at P;rcases new b t e with ⟨rfl,rfl⟩ | ⟨_,e⟩
  .rw [G.fs n] at F;cases F;exact ⟨by rw [W.ro u T];exact w,p,r,W.pu,g _ _ o,rfl⟩
  .obtain ⟨i,z,rz,m,H,M⟩:=I.dwn b t q e P F;refine ⟨?_,z,rz,?_,g _ _ H,M⟩
   .rw [W.ro q fun z=>?_]
    .exact i
    .rw [z] at F;have:=G.fs F;rw [G.fs n] at this;rw [<- ym this,w] at e;cases e
   .rw [W.po q fun z=>?_]
    .exact m
    .rw [z,K] at m;cases m
 .rw [W.ba] at e ⊢;obtain ⟨⟨t,i⟩,m⟩:=I.mat v e;exact ⟨⟨t,g _ _ i⟩,m⟩
 .by_cases D:x=u
  .subst D;rw [W.pu] at e;cases e;exact ⟨O,⟨r,g _ _ o⟩,y,_,n,W.ry⟩
  .rw [W.po x D] at e;obtain ⟨i,⟨t,m⟩,y',s,H,M⟩:=I.odd x z e;exact ⟨i,⟨t,g _ _ m⟩,y',s,H,g _ _ M⟩
theorem FI.start (h1:∀ v r,S.rows v=some r->f v=none/\r=[v]) (d:∀ x,S.par x=none) (c:∀ v,S.bas v=v):FI A f S:=by
 refine ⟨fun v r e=>?_,fun v r e=>?_,fun v r e=>by rw [c,c],fun b r q e _ g=>?_,fun v e=>absurd (c v) e,fun x z e=>by rw [d] at e;cases e⟩
 .obtain ⟨k,rfl⟩:=h1 v r e;refine ⟨by simp,rfl,fun s i=>by cases i;exact k,⟨[],rfl⟩,fun j a b h1 d=>?_⟩;simp at d
 .exact ⟨r,[],by rw [c];exact e,by simp,(fun x h=>by cases h)⟩
 .rw [(h1 b r e).1] at g;cases g
end
structure CI (A:Str->Str->Prop) (S:FS) (Pd:Str->Prop):Prop where
 cl:∀ v u,Pd v->A v u->S.bas u=S.bas v\/(S.par u≠none/\¬ Pd u)
 pe:∀ v,Pd v->S.rows v≠none
theorem CI.mono (h:CI A S Pd) (b:∀ u v,S.bas u=S.bas v->S'.bas u=S'.bas v) (c:∀ u,S.par u≠none->S'.par u≠none) (d:∀ u,S.rows u≠none->S'.rows u≠none):CI A S' Pd:=
 ⟨fun v u k a=>(h.cl v u k a).imp (b u v) fun z=>⟨c u z.1,z.2⟩,fun v k=>d v (h.pe v k)⟩
theorem qdn:∀ {l m:List Str},l.Nodup->(∀ x∈l,x∈m)->l.length<=m.length
 | [],_,_,_=>YW _
 | x::r,m,hn,hs=>by
  obtain ⟨h1,c⟩:=yo.mp hn;have a:=hs x yO;have:=qdn (l:=r) (m:=m.erase x) c fun y b=>(List.mem_erase_of_ne (fun e=>h1 (by rw [<- e];exact b))).mpr (hs y (yC _ b));rw [xz a] at this;have:0<m.length:=xO a;simp only [yA];omega
theorem qdB {g:Str->Option Str}:∀ (n:Nat) {X:List Str},X.length<=n->X.Nodup->(∀ x∈X,∃ y∈X,g x=some y/\y≠x/\g y=some x)->X.length % 2=0
 | _,[],_,_,_=>rfl
 | 0,x::r,h,_,_=>by simp at h
 | n+1,x::r,h,hn,hp=>by
  obtain ⟨h1,d⟩:=yo.mp hn;obtain ⟨y,q,l,i,m⟩:=hp x yO;have c:y∈r:=(yy.mp q).resolve_left i;have hl:=xz c;have v:0<r.length:=xO c
  have:=qdB n (X:=r.erase y) (by simp at h;omega) (d.erase y) fun z hz=>by
   have a:=(d.mem_erase_iff.mp hz);obtain ⟨u,p,o,f,b⟩:=hp z (yC _ a.2);have s:u≠x:=fun e=>by rw [e,l] at b;exact a.1 (ym b).symm
   have t:u≠y:=fun e=>by rw [e,m] at b;exact h1 (by rw [ym b];exact a.2)
   exact ⟨u,d.mem_erase_iff.mpr ⟨t,(yy.mp p).resolve_left s⟩,o,f,b⟩
  simp only [yA];omega
structure Fn (A:Str->Str->Prop) (f:Str->Option Str) (S:FS) (ss:List Str):Prop where
 fi:FI A f S
 gr:Gr A f
 inn:∀ a b,A a b->a∈ss
 nd:ss.Nodup
 cl:∀ v u,S.rows v≠none->A v u->S.bas u=S.bas v\/(S.par u≠none/\S.rows u=none)
 sng:∀ z∈ss,f z=none->S.rows z≠none
 es:∀ v,S.rows v≠none->v∈ss
noncomputable def qci (S:FS) (ss:List Str) (b:Str):List Str:=ss.filter fun u=>(S.rows u).isSome&&decide (S.bas u=b)
noncomputable def qa1 (S:FS) (ss:List Str):List Str:=ss.filter fun u=>(S.rows u).isSome&&decide (S.bas u=u)
noncomputable def qcW (S:FS) (ss:List Str):List Str:=ss.filter fun u=>(S.par u).isSome&&!(S.rows u).isSome
noncomputable def snL (g:Str->Option Str) (ss:List Str):List Str:=ss.filter fun u=>!(g u).isSome
section
variable {A:Str->Str->Prop} {f g:Str->Option Str} {S:FS} {ss:List Str}
theorem isS {o:Option α}:o.isSome=true↔o≠none:=by cases o<;>simp
theorem mem_cls:u∈qci S ss b↔u∈ss/\S.rows u≠none/\S.bas u=b:=by
 unfold qci;rw [yp,yW,isS,Ye]
theorem mem_bas:u∈qa1 S ss↔u∈ss/\S.rows u≠none/\S.bas u=u:=by
 unfold qa1;rw [yp,yW,isS,Ye]
theorem mem_bar:u∈qcW S ss↔u∈ss/\S.par u≠none/\S.rows u=none:=by
 unfold qcW;rw [yp,yW,isS];cases S.rows u<;>simp
theorem mem_sn:u∈snL g ss↔u∈ss/\g u=none:=by
 unfold snL;rw [yp];cases g u<;>simp
theorem some_of {o:Option α} (h:o≠none):∃ r,o=some r:=by cases o with | none=>exact absurd rfl h | some r=>exact ⟨r,rfl⟩
theorem FI.evE (I:FI A f S) (hv:S.rows v≠none) (e:S.bas u=S.bas v):S.rows u≠none:=fun b=>by
 obtain ⟨r,c⟩:=some_of hv;obtain ⟨d,a⟩:=I.evb c;rw [I.own b] at e;rw [<- e,b] at a;cases a
theorem Fn.cls_odd (F:Fn A f S ss) (q:b∈qa1 S ss):(qci S ss b).length % 2=1:=by
 obtain ⟨p,l,m⟩:=mem_bas.mp q;have c:b∈qci S ss b:=mem_cls.mpr ⟨p,l,m⟩;have a:(qci S ss b).Nodup:=F.nd.filter _
 have:=qdB (g:=f) _ (X:=(qci S ss b).erase b) (yh _) (a.erase b) fun z hz=>by
  obtain ⟨t,hz⟩:=a.mem_erase_iff.mp hz;obtain ⟨v,n,o⟩:=mem_cls.mp hz;obtain ⟨_,u,d,h⟩:=F.fi.mat z (fun e=>t (e.symm.trans o));have i:=F.fi.evE n h;refine ⟨u,a.mem_erase_iff.mpr ⟨fun e=>?_,mem_cls.mpr ⟨F.es u i,i,h.trans o⟩⟩,d,Yb (F.gr.ir (F.gr.fa d)),F.gr.fs d⟩;obtain ⟨r,s⟩:=some_of l;rw [e] at d;exact n (F.fi.dwn b r z s m (F.gr.fs d)).1
 rw [xz c] at this;have:=xO c;omega
theorem Fn.count (F:Fn A f S ss):(qa1 S ss).length=(snL f ss).length+(qcW S ss).length:=by
 have w:(qa1 S ss).Nodup:=F.nd.filter _
 have e:(qa1 S ss).length=((qa1 S ss).filter fun b=>!(f b).isSome).length+((qa1 S ss).filter fun b=>(f b).isSome).length:=by
  generalize qa1 S ss=l
  induction l with
  | nil=>rfl
  | cons x r ih =>
   rw [yV,yV,yA,ih];cases (f x).isSome
   .rw [yK (show (!false)=true from rfl),yD Yd,yA];omega
   .rw [yD (show ¬ (!true)=true by decide),yK (show true=true from rfl),yA];omega
 rw [e];have E:((qa1 S ss).filter fun b=>!(f b).isSome).length=(snL f ss).length:=XM
  (qdn (w.filter _) fun x c=>by
   obtain ⟨h1,d⟩:=yp.mp c;refine mem_sn.mpr ⟨(mem_bas.mp h1).1,?_⟩
   cases e:f x with
   | none=>rfl
   | some y=>rw [e] at d;cases d)
  (qdn (F.nd.filter _) fun x c=>by
   obtain ⟨h1,d⟩:=mem_sn.mp c;refine yp.mpr ⟨mem_bas.mpr ⟨h1,F.sng x h1 d,Ym fun z=>?_⟩,by rw [d];rfl⟩;obtain ⟨_,u,i,_⟩:=F.fi.mat x z;rw [d] at i;cases i)
 have G:((qa1 S ss).filter fun b=>(f b).isSome).length=(qcW S ss).length:=by
  have inj:(((qa1 S ss).filter fun b=>(f b).isSome).map fun b=>(f b).getD "").Nodup:=by
   refine X6.mpr (Xd (fun {a b} H g p e=>?_) (w.filter _));obtain ⟨x,c⟩:=Y0.mp (yp.mp H).2;obtain ⟨y,B⟩:=Y0.mp (yp.mp g).2;rw [c,B] at e;have o:x=y:=e;have k:=F.gr.fs c;rw [o,F.gr.fs B] at k;exact p (ym k).symm
  refine XM ?_ ?_
  .have:=qdn inj (m:=qcW S ss) fun q s=>?_
   rwa [ya] at this
   obtain ⟨b,g,rfl⟩:=Y1.mp s;obtain ⟨h1,d⟩:=yp.mp g;obtain ⟨x,c⟩:=Y0.mp d;obtain ⟨M,C,D⟩:=mem_bas.mp h1;obtain ⟨r,I⟩:=some_of C;obtain ⟨n,z,rz,v,_⟩:=F.fi.dwn b r x I D c;rw [c];have J:S.par x≠none:=by rw [v];exact fun e=>by cases e
   show x∈qcW S ss;exact mem_bar.mpr ⟨F.inn _ _ (F.gr.as (F.gr.fa c)),J,n⟩
  .have:(qcW S ss).length<=(((qa1 S ss).filter fun b=>(f b).isSome).map fun b=>(f b).getD "").length:=qdn (F.nd.filter _) fun q s=>?_
   rwa [ya] at this
   obtain ⟨N,K,L⟩:=mem_bar.mp s;obtain ⟨z,hz⟩:=some_of K;obtain ⟨_,_,y,r,n,v⟩:=F.fi.odd q z hz;have h:S.rows y≠none:=by rw [v];exact fun e=>by cases e
   refine Y1.mpr ⟨y,yp.mpr ⟨mem_bas.mpr ⟨F.es y h,h,Ym fun e=>?_⟩,by rw [F.gr.fs n];rfl⟩,by rw [F.gr.fs n];rfl⟩;obtain ⟨_,u,i,t⟩:=F.fi.mat y e;rw [F.gr.fs n] at i;cases i;exact F.fi.evE h t L
 rw [E,G]
theorem Fn.most (F:Fn A f S ss) (n:Gr A g):(snL f ss).length<=(ss.filter fun u=>!(g u).isSome&&(S.rows u).isSome).length:=by
 have o:∀ b∈qa1 S ss,∃ v∈qci S ss b,g v=none\/∃ w,g v=some w/\w∈qcW S ss:=fun b m=>Ym fun s=>by
  have E:=F.cls_odd m
  have:=qdB (g:=g) _ (X:=qci S ss b) (yh _) (F.nd.filter _) fun v hv=>by
   obtain ⟨G,B,H⟩:=mem_cls.mp hv
   cases e:g v with
   | none=>exact absurd ⟨v,hv,.inl e⟩ s
   | some w =>
    have hw:=n.as (n.fa e);rcases F.cl v w B (n.fa e) with z | ⟨z1,z2⟩
    .have t:=F.fi.evE B z;exact ⟨w,mem_cls.mpr ⟨F.es w t,t,z.trans H⟩,rfl,Yb (n.ir (n.fa e)),n.fs e⟩
    .exact absurd ⟨v,hv,.inr ⟨w,e,mem_bar.mpr ⟨F.inn _ _ hw,z1,z2⟩⟩⟩ s
  omega
 obtain ⟨l,i⟩:∃ l:Str->Str,∀ b∈qa1 S ss,l b∈qci S ss b/\(g (l b)=none\/∃ w,g (l b)=some w/\w∈qcW S ss):=
  ⟨fun b=>@dite _ (b∈qa1 S ss) (Classical.propDecidable _) (fun h=>(o b h).choose) fun _=>b,fun b m=>by
   dsimp only;rw [dif_pos m];exact ⟨(o b m).choose_spec.1,(o b m).choose_spec.2⟩⟩
 have inj:∀ a∈qa1 S ss,∀ b∈qa1 S ss,l a=l b->a=b:=fun a p b m e=>by
  have h1:=(mem_cls.mp (i a p).1).2.2;have I:=(mem_cls.mp (i b m).1).2.2;rw [<- h1,<- I,e]
 have m:(qa1 S ss).Nodup:=F.nd.filter _
 have C:(qa1 S ss).length<=((ss.filter fun u=>!(g u).isSome&&(S.rows u).isSome)++qcW S ss).length:=by
  rw [<- ya (f:=fun b=>(g (l b)).getD (l b))];refine qdn (X6.mpr (Xd (fun {a b} p d r e=>?_) m)) fun x J=>?_
  .have D:∀ c∈qa1 S ss,S.rows (l c)≠none:=fun c hc=>(mem_cls.mp (i c hc).1).2.1;rcases (i a p).2 with z | ⟨w,z,hw⟩<;>rcases (i b d).2 with y | ⟨u,y,hu⟩
   .rw [z,y] at e;exact r (inj a p b d e)
   .rw [z,y] at e;have q:l a=u:=e;exact D a p (by rw [q];exact (mem_bar.mp hu).2.2)
   .rw [z,y] at e;have q:w=l b:=e;exact D b d (by rw [<- q];exact (mem_bar.mp hw).2.2)
   .rw [z,y] at e;have q:w=u:=e;have k:=n.fs z;rw [q,n.fs y] at k;exact r (inj a p b d (ym k).symm)
  .obtain ⟨b,d,rfl⟩:=Y1.mp J;obtain ⟨G,B,H⟩:=mem_cls.mp (i b d).1;rcases (i b d).2 with z | ⟨w,z,hw⟩
   .rw [z];exact yE _ (yp.mpr ⟨G,by show (!(g (l b)).isSome&&(S.rows (l b)).isSome)=true;rw [z,isS.mpr B];rfl⟩)
   .rw [z];exact yH _ hw
 rw [F.count,yt] at C;omega
end
theorem qcK:∀ {qs:List (Str×Str)},pt qs s=some t->(s,t)∈qs\/(t,s)∈qs
 | [],h=>by cases h
 | q::r,h=>by
  unfold pt at h;split at h
  .rename_i e;cases h;exact .inl (by rw [<- e];simp)
  .split at h
   .rename_i e;cases h;exact .inr (by rw [<- e];simp)
   .rcases qcK h with z | z
    .exact .inl (yC _ z)
    .exact .inr (yC _ z)
theorem qdC:∀ {qs:List (Str×Str)},(qj qs).Nodup->∀ {a b:Str},(a,b)∈qs\/(b,a)∈qs->pt qs a=some b
 | [],_,a,b,m=>by rcases m with z | z<;>cases z
 | q::r,h,a,b,m=>by
  have f:(q.1::q.2::qj r).Nodup:=h;obtain ⟨i,o⟩:=yo.mp f;obtain ⟨p,s⟩:=yo.mp o;have inr:∀ {x y:Str},(x,y)∈r->x∈qj r/\y∈qj r:=fun d=>⟨xL.mpr ⟨_,d,by simp⟩,xL.mpr ⟨_,d,by simp⟩⟩;unfold pt
  have c:(a,b)∈r\/(b,a)∈r->(if q.1=a then some q.2 else if q.2=a then some q.1 else pt r a)=some b:=fun n=>by
   have l:a∈qj r:=n.elim (fun z=>(inr z).1) fun z=>(inr z).2;rw [yD (fun z=>i (by rw [z];exact yC _ l)),yD (fun z=>p (by rw [z];exact l))];exact qdC s n
  rcases m with z | z
  .rcases yy.mp z with z | z
   .subst z;rw [yK rfl]
   .exact c (.inl z)
  .rcases yy.mp z with z | z
   .subst z;have g:b≠a:=fun e=>i (by show b∈a::_;rw [e];exact yO);rw [yD g,yK rfl]
   .exact c (.inr z)
theorem qb0 (h:(qj qs).Nodup) {a:Str}:pt qs a=some b↔(a,b)∈qs\/(b,a)∈qs:=⟨qcK,qdC h⟩
theorem qai (h:(qj qs).Nodup) {a:Str}:pt qs a=some b↔pt qs b=some a:=by
 rw [qb0 h,qb0 h,Or.comm]
theorem opt_ext {x y:Option Str} (h:∀ b,x=some b↔y=some b):x=y:=by
 cases x with
 | none=>cases y with
  | none=>rfl
  | some b=>exact absurd ((h b).mpr rfl) (fun z=>by cases z)
 | some a=>exact ((h a).mp rfl).symm
theorem KC:FnScope ["self","place","row"] ["self","place","row"] (qh jB):=fS
structure Fo where
 x:Addr
 b:Addr
 dp:Addr
 dr:Addr
 da:Addr
 ds:Addr
 dg:Addr
 dw:Addr
 ex:List Addr
noncomputable def Fo.six (a:Fo):List Addr:=[a.x,a.dr,a.da,a.ds,a.dg,a.dw]
noncomputable def Fo.all (a:Fo):List Addr:=a.six++a.ex
noncomputable def Fo.tab (a:Fo) (lo:V):List (Str×V):=[("board",.ref a.b),("partners",.ref a.dp),("rows",.ref a.dr),("parents",.ref a.da),("bases",.ref a.ds),("rings",.ref a.dg),("waiting",.ref a.dw),("longer",lo)]
def Bx (l:List Addr) (H H':Hp):Prop:=∀ c o,c∉l->H c=some o->H' c=some o
def RowV (H:Hp) (l:List Addr) (o:Option V):Option (List Str)->Prop
 | none=>o=none
 | some r=>∃ t,o=some (.ref t)/\H t=some (.lst (r.map V.str))/\t∉l
def FoO (cf:Addr) (H:Hp) (a:Fo) (lo:V):Prop:=∃ dx fs,H a.x=some (.ins cf dx fs)/\fs.length<=9/\(lo=.non->fs.length<=8)/\(∀ f v,(f,v)∈a.tab lo->fs.lookup f=some v)/\∀ f,f∉fAtt->fs.lookup f=none
structure FoA (cf cw:Addr) (H0 H:Hp) (a:Fo) (ss:List Str) (ns:List Nat) (qs:List (Str×Str)) (S:FS) (bs dn wt:List Str) (lo:V):Prop where
 sm:L2.Same H0 H
 web:WebAt cw H0 a.b ss ns
 prt:H0 a.dp=some (.dK (prK qs))
 fr:∀ c∈a.six,H0 c=none
 nd:[a.dr,a.da,a.ds,a.dg,a.dw].Nodup
 exf:∀ c∈a.ex,H0 c=none/\c∉a.six/\∃ o,H c=some o
 obj:FoO cf H a lo
 row:∃ kvs,H a.dr=some (.dK kvs)/\kvs.length<=(dn++wt).length/\∀ s,RowV H a.all (jT kvs (.inr s:Key)) (S.rows s)
 par:∃ kvs,H a.da=some (.dK kvs)/\(∃ po:List Str,kvs.length<=po.length/\po.Nodup/\∀ u∈po,u∈ss/\S.par u≠none)/\∀ s,jT kvs (.inr s:Key)=(S.par s).map V.str
 bas:∃ kvs,H a.ds=some (.dK kvs)/\kvs.length<=bs.length/\∀ s∈bs,jT kvs (.inr s:Key)=some (.str (S.bas s))
 rng:∃ xs,H a.dg=some (.lst xs)/\xs.length<=(dn++wt).length
 wai:H a.dw=some (.lst (wt.map V.str))
 evn:(dn++wt).Nodup
 evi:∀ v,v∈dn++wt↔S.rows v≠none
 evs:∀ v∈dn++wt,v∈ss
theorem RowV.mono {l:List Addr} {o:Option V} {r:Option (List Str)} (h:RowV H l o r) {m:List Addr} (k:Bx m H H') (d:∀ c∈m,c∈l):RowV H' l o r:=by
 cases r with
 | none=>exact h
 | some r=>obtain ⟨t,h1,b,a⟩:=h;exact ⟨t,h1,k _ _ (fun z=>a (d _ z)) b,a⟩
theorem Fo.sub:∀ c∈a.six,c∈a.all:=fun c h=>yE _ h
theorem Bx.of {l:List Addr} (s:L2.Same H H'):Bx l H H':=fun c o _ e=>s c o e
theorem Bx.trans {l:List Addr} {d:Hp} (a:Bx l H H') (b:Bx l H' d):Bx l H d:=fun c o n e=>b c o n (a c o n e)
section
variable {cf cw:Addr} {H0 H H':Hp} {a:Fo} {ss:List Str} {ns:List Nat} {qs:List (Str×Str)} {S S':FS} {bs dn wt:List Str} {lo:V}
theorem FoA.same (h:FoA cf cw H0 H a ss ns qs S bs dn wt lo) (s:L2.Same H H'):FoA cf cw H0 H' a ss ns qs S bs dn wt lo:=by
 obtain ⟨dx,fs,h1,i⟩:=h.obj;obtain ⟨m,t,u,v⟩:=h.row;obtain ⟨n,q,r⟩:=h.par;obtain ⟨p,b,d⟩:=h.bas;obtain ⟨xs,f,g⟩:=h.rng;exact ⟨h.sm.trans s,h.web,h.prt,h.fr,h.nd,fun c hc=>⟨(h.exf c hc).1,(h.exf c hc).2.1,(h.exf c hc).2.2.elim fun o e=>⟨o,s _ _ e⟩⟩,⟨dx,fs,s _ _ h1,i⟩,⟨m,s _ _ t,u,fun z=>(v z).mono (Bx.of (l:=[]) s) (fun c h=>by cases h)⟩,⟨n,s _ _ q,r⟩,⟨p,s _ _ b,d⟩,⟨xs,s _ _ f,g⟩,s _ _ h.wai,h.evn,h.evi,h.evs⟩
theorem FoA.six (h:FoA cf cw H0 H a ss ns qs S bs dn wt lo):∀ c∈a.six,∃ o,H c=some o:=fun c hc=>by
 obtain ⟨dx,fs,h1,_⟩:=h.obj;obtain ⟨g,f,_⟩:=h.row;obtain ⟨i,e,_⟩:=h.par;obtain ⟨l,b,_⟩:=h.bas;obtain ⟨xs,d,_⟩:=h.rng;simp only [Fo.six,yy,yX,YO] at hc;rcases hc with rfl | rfl | rfl | rfl | rfl | rfl
 .exact ⟨_,h1⟩
 .exact ⟨_,f⟩
 .exact ⟨_,e⟩
 .exact ⟨_,b⟩
 .exact ⟨_,d⟩
 .exact ⟨_,h.wai⟩
theorem FoA.new (h:FoA cf cw H0 H a ss ns qs S bs dn wt lo) {c:Addr} (e:H c=none):c∉a.six:=fun z=>by
 obtain ⟨o,k⟩:=h.six c z;rw [e] at k;cases k
theorem FoA.sep (h:FoA cf cw H0 H a ss ns qs S bs dn wt lo):a.six.Nodup:=by
 obtain ⟨dx,fs,h1,_⟩:=h.obj;obtain ⟨f,e,_⟩:=h.row;obtain ⟨g,d,_⟩:=h.par;obtain ⟨i,b,_⟩:=h.bas;obtain ⟨xs,c,_⟩:=h.rng;refine yo.mpr ⟨fun z=>?_,h.nd⟩;simp only [yy,yX,YO] at z;rcases z with z | z | z | z | z
 .rw [z,e] at h1;cases h1
 .rw [z,d] at h1;cases h1
 .rw [z,b] at h1;cases h1
 .rw [z,c] at h1;cases h1
 .rw [z,h.wai] at h1;cases h1
theorem FoO.eq (h:FoO cf H a lo) (e:H' a.x=H a.x):FoO cf H' a lo:=by
 obtain ⟨dx,fs,h1,b⟩:=h;exact ⟨dx,fs,e.trans h1,b⟩
theorem Bx.upd {l:List Addr} {c:Addr} (k:Bx l H H') (hc:c∈l):Bx l H (upd H' c o):=fun d u n e=>by
 rw [qe (fun z=>n (by rw [z];exact hc))];exact k d u n e
noncomputable def Fo.add (a:Fo) (c:Addr):Fo:={ a with ex:=c::a.ex }
theorem FoA.add (h:FoA cf cw H0 H a ss ns qs S bs dn wt lo) {c:Addr} (e:H c=none):FoA cf cw H0 (upd H c o) (a.add c) ss ns qs S bs dn wt lo:=by
 have g:=h.same (qD (Sr H) (o:=o) e);obtain ⟨f,s,x,A⟩:=g.row;obtain ⟨p,w,_,B⟩:=h.row
 have u:p=f:=by
  have:=qD (Sr H) (o:=o) e _ _ w;rw [s] at this;exact (HO.dK.inj (ym this)).symm
 subst u;refine ⟨g.sm,g.web,g.prt,g.fr,g.nd,fun d hd=>?_,g.obj,⟨p,s,x,fun z=>?_⟩,g.par,g.bas,g.rng,g.wai,g.evn,g.evi,g.evs⟩
 .rcases yy.mp hd with rfl | hd
  .exact ⟨h.sm.free e,h.new e,_,qb⟩
  .exact g.exf d hd
 .have b:=A z;have l:=B z
  cases i:S.rows z with
  | none=>rw [i] at b;exact b
  | some r =>
   rw [i] at b l;obtain ⟨t,f,v,q⟩:=b;obtain ⟨t',m,n,_⟩:=l;rw [f] at m;cases m;refine ⟨t,f,v,fun y=>?_⟩;rcases yx.mp y with y | y
   .exact q (yE _ y)
   .rcases yy.mp y with y | y
    .rw [y,e] at n;cases n
    .exact q (yH _ y)
theorem FoA.updE (h:FoA cf cw H0 H a ss ns qs S bs dn wt lo) {c:Addr} (hc:c∈a.ex):FoA cf cw H0 (upd H c o) a ss ns qs S bs dn wt lo:=by
 obtain ⟨p,q,_⟩:=h.exf c hc;have ne:∀ {d:Addr},d∈a.six->upd H c o d=H d:=fun b=>qe fun z=>q (by rw [<- z];exact b);obtain ⟨r,x,A,B⟩:=h.row;obtain ⟨s,v,w⟩:=h.par;obtain ⟨t,f,g⟩:=h.bas;obtain ⟨xs,i,l⟩:=h.rng;refine ⟨qak h.sm p,h.web,h.prt,h.fr,h.nd,fun d b=>⟨(h.exf d b).1,(h.exf d b).2.1,by by_cases z:d=c;exact ⟨_,by rw [z,qb]⟩;rw [qe z];exact (h.exf d b).2.2⟩,h.obj.eq (ne (by simp [Fo.six])),⟨r,(ne (by simp [Fo.six])).trans x,A,fun z=>(B z).mono (m:=[c]) (fun d u n e=>by rw [qe (fun y=>n (by rw [y];simp))];exact e) fun d b=>by rw [yB.mp b];exact yH _ hc⟩,⟨s,(ne (by simp [Fo.six])).trans v,w⟩,⟨t,(ne (by simp [Fo.six])).trans f,g⟩,⟨xs,(ne (by simp [Fo.six])).trans i,l⟩,(ne (by simp [Fo.six])).trans h.wai,h.evn,h.evi,h.evs⟩
theorem FoA.drop (h:FoA cf cw H0 H a ss ns qs S bs dn wt lo) {l:List Addr} (f:∀ c∈l,c∈a.ex):FoA cf cw H0 H { a with ex:=l } ss ns qs S bs dn wt lo:=by
 obtain ⟨d,m,n,o⟩:=h.row;refine ⟨h.sm,h.web,h.prt,h.fr,h.nd,fun c hc=>h.exf c (f c hc),h.obj,⟨d,m,n,fun z=>?_⟩,h.par,h.bas,h.rng,h.wai,h.evn,h.evi,h.evs⟩;have b:=o z
 cases e:S.rows z with
 | none=>rw [e] at b;exact b
 | some r =>
  rw [e] at b;obtain ⟨t,d,g,i⟩:=b;exact ⟨t,d,g,fun y=>i ((yx.mp y).elim (fun z=>yE _ z) fun z=>yH _ (f _ z))⟩
theorem FoA.newA (h:FoA cf cw H0 H a ss ns qs S bs dn wt lo) {c:Addr} (e:H c=none):c∉a.all:=fun z=>by
 rcases yx.mp z with z | z
 .exact h.new e z
 .obtain ⟨o,k⟩:=(h.exf c z).2.2;rw [e] at k;cases k
theorem FoA.few (h:FoA cf cw H0 H a ss ns qs S bs dn wt lo):(dn++wt).length<=ss.length:=je h.evn h.evs
end
noncomputable def FS.setRow (S:FS) (p:Str) (r:List Str):FS:=⟨fun s=>if s=p then some r else S.rows s,S.par,S.bas⟩
inductive spRe (cc:Nat->Addr) (cw:Addr) (vs:List V) (H:Hp) (Q:VK) (E:XK):Prop|mk (H0:Hp) (a:Fo) (ss:List Str) (ns:List Nat) (qs:List (Str×Str)) (S:FS) (bs dn wt:List Str) (lo:V) (p:Str) (t:Addr) (r:List Str) (_:vs=[.ref a.x,.str p,.ref t]) (_:FoA (cc 9) cw H0 H a ss ns qs S bs dn wt lo) (_:ss.length<=14) (_:H t=some (.lst (r.map V.str))) (_:t∉a.all) (_:p∈ss) (_:S.rows p=none) (_:∀ H',FoA (cc 9) cw H0 H' a ss ns qs (S.setRow p r) bs dn (wt++[p]) lo->Bx a.six H H'->(∀ o,H a.dg=some o->H' a.dg=some o)->Q .non H')
inductive spBd (cc:Nat->Addr) (cw:Addr) (vs:List V) (H:Hp) (Q:VK) (E:XK):Prop|mk (H0:Hp) (a:Fo) (ss:List Str) (ns:List Nat) (qs:List (Str×Str)) (S:FS) (dn wt:List Str) (lo:V) (p:Str) (r l:List Str) (A:Str->Str->Prop) (_:vs=[.ref a.x,.str p]) (_:FoA (cc 9) cw H0 H a ss ns qs S ss dn wt lo) (_:ss.length<=14) (_:FI A (pt qs) S) (_:S.rows p=some r) (_:Ch (pt qs) S (S.bas p) l) (_:l.length<=14) (_:∀ (t:Addr) (H':Hp),L2.Same H H'->H t=none->H' t=some (.lst (l.map V.str))->Q (.ref t) H')
section
variable {P:Program} {w:World} {K:W.Frag} {mg:Str->Option Value} {base:Heap} {cc:Nat->Addr} {cw:Addr} {H0 H:Hp} {a:Fo} {ss:List Str} {ns:List Nat} {qs:List (Str×Str)} {S:FS} {bs dn wt:List Str} {lo:V}
theorem FoO.rd {Q:VK} {f:Str} {v:V} (h:FoO (cc 9) H a lo) (T:Txt K mg cc cw) (i:Nat) (e:(a.tab lo)[i]?=some (f,v)) (q:Q v H):FldR K f (.ref a.x) H Q:=by
 obtain ⟨dx,fs,h1,_,_,b,_⟩:=h;refine ⟨a.x,cc 9,dx,fs,v,rfl,h1,T.fcl,T.fa f ?_,b f v (ye e),q⟩;have:((a.tab lo).map Prod.fst)[i]?=some f:=by rw [yd,e];rfl
 exact ye (l:=fAtt) (i:=i) this
theorem FoO.me {k:Prop} (h:FoO (cc 9) H a lo) (c:m∉fAtt) (q:k):MeR (cc 9) m (.ref a.x) H k:=by
 obtain ⟨dx,fs,h1,_,_,_,b⟩:=h;exact ⟨a.x,dx,fs,rfl,h1,b m c,q⟩
theorem ok_re (F:Fun K "reach" "Forest.reach" jB f fd) (T:Txt K mg cc cw):FnOk P w K mg base CX0 1 f fd ["self","place","row"] (spRe cc cw):=by
 refine F.ok KC fun _ _ _ _ H vs Q E W h=>?_
 .obtain ⟨H0,a,ss,ns,qs,S,bs,dn,wt,lo,p,t,r,rfl,h,U,X,d,u,s,q⟩:=h;have Y:=j9 W;have b:=h.few;have m:p∉dn++wt:=fun z=>(h.evi p).mp z s;refine ⟨_,(qc (jV (pv 2) (j6 (qz (K:=K) rfl (pv 0) rfl) (pv 1) (j8 Y)))
 (qf (qV (qbu (K:=K) rfl yP Yi Yj jc (qz (K:=K) rfl (pv 0) rfl) (qa (pv 1) qd))))),?_⟩
  ext;obtain ⟨⟨n1,n2,n3,n4,n5⟩,⟨n6,n7,D,G⟩,⟨aa,ac,B⟩,⟨ad,C⟩,g⟩:=(by simpa [Fo.six] using h.sep:(¬a.x=a.dr/\¬a.x=a.da/\¬a.x=a.ds/\¬a.x=a.dg/\¬a.x=a.dw)/\(¬a.dr=a.da/\¬a.dr=a.ds/\¬a.dr=a.dg/\¬a.dr=a.dw)/\(¬a.da=a.ds/\¬a.da=a.dg/\¬a.da=a.dw)/\(¬a.ds=a.dg/\¬a.ds=a.dw)/\¬a.dg=a.dw);obtain ⟨l,r1,r2,r3⟩:=h.row;obtain ⟨ka,p1,p2,p3⟩:=h.par;obtain ⟨ks,L,M,N⟩:=h.bas;obtain ⟨xs,O,R⟩:=h.rng;refine .inl (h.obj.rd T 2 rfl ?_);ext;refine .inr ⟨a.dr,_,rfl,DPut.k (k:=Sum.inr p) r1 (by rw [Yy];omega),?_⟩;have I:FoO (cc 9) (upd H a.dr (.dK (zf l (Sum.inr p) (.ref t)))) a lo:=h.obj.eq (qe n1);have J:upd H a.dr (.dK (zf l (Sum.inr p) (.ref t))) a.dw=some (.lst (wt.map V.str)):=by rw [qe (Yb G)];exact h.wai
  ext;refine .inl (I.rd T 6 rfl ?_);refine ⟨.inl ⟨rfl,_,.of J⟩,?_⟩;ext;refine ⟨a.dw,_,_,rfl,rfl,J,by rw [ya];exact qg (by rw [yt] at b;omega),?_⟩;have A:∀ {c:Addr} {o o':HO},c∉a.six->upd (upd H a.dr o) a.dw o' c=H c:=fun hc=>by rw [qe (fun z=>hc (by rw [z];simp [Fo.six])),qe (fun z=>hc (by rw [z];simp [Fo.six]))]
  have i:Bx a.six H (upd (upd H a.dr (.dK (zf l (Sum.inr p) (.ref t)))) a.dw (.lst (wt.map V.str++[.str p]))):=fun c o n e=>by rw [A n];exact e
  refine q _ ⟨qak (qak h.sm (h.fr _ (by simp [Fo.six]))) (h.fr _ (by simp [Fo.six])),h.web,h.prt,h.fr,h.nd,fun c hc=>⟨(h.exf c hc).1,(h.exf c hc).2.1,(h.exf c hc).2.2.elim fun o e=>⟨o,i _ _ (h.exf c hc).2.1 e⟩⟩,I.eq (qe n5),⟨_,by rw [qe G,qb],?_,fun z=>?_⟩,⟨ka,by rw [qe B,qe (Yb n6)];exact p1,p2,p3⟩,⟨ks,by rw [qe C,qe (Yb n7)];exact L,M,N⟩,⟨xs,by rw [qe g,qe (Yb D)];exact O,?_⟩,by rw [qb,yF];rfl,?_,fun v=>?_,fun v hv=>?_⟩ i fun o e=>by (rw [qe g,qe (Yb D)];exact e)
  .have:=jy l (Sum.inr p:Key) (.ref t);rw [<- yY,yt (bs:=[p])];show _<=_+1;omega
  .unfold FS.setRow;dsimp only;rw [qaC];by_cases e:z=p
   .subst e;rw [yK rfl,yK rfl];exact ⟨t,rfl,i _ _ (fun y=>d (Fo.sub _ y)) X,d⟩
   .rw [yD (fun y=>e (xv y)),yD e];exact (r3 z).mono i Fo.sub
  .rw [<- yY,yt (bs:=[p])];exact Xp R
  .rw [<- yY];exact yZ.mpr ⟨h.evn,Xk _ _,fun x A y Z e=>m (by rw [<- yB.mp Z,<- e];exact A)⟩
  .rw [<- yY,yx,yB,h.evi];unfold FS.setRow;dsimp only;by_cases e:v=p
   .subst e;rw [yK rfl];exact ⟨(fun _ z=>by cases z),fun _=>.inr rfl⟩
   .rw [yD e];exact ⟨fun z=>z.resolve_right e,.inl⟩
  .rw [<- yY] at hv;rcases yx.mp hv with z | z
   .exact h.evs v z
   .rw [yB.mp z];exact u
end
theorem kJ:FnScope ["self","place","bases","below"] ["self","place"] (qh qJ):=fS
theorem atI_last {xs:List Str}:atI ((xs++[c]).map V.str) (-1)=some (.str c):=by
 have e:ixN ((xs++[c]).map V.str).length (-1)=some xs.length:=by
  unfold ixN;rw [yD (by omega),yK (by rw [ya,yt];simp;omega)]
  congr 1
  rw [ya,yt];simp only [yA,Y6];omega
 unfold atI;rw [e];show ((xs++[c]).map V.str)[xs.length]?=_;rw [yd,yz (yh _),Xr];rfl
theorem Ch.cases' {f:Str->Option Str} {t:List Str} (h:Ch f S b (b::t)):(f b=none/\t=[])\/∃ q z,f b=some q/\S.par q=some z/\Ch f S (S.bas z) t:=by
 generalize e:b::t=l at h
 cases h with
 | root h=>cases e;exact .inl ⟨h,rfl⟩
 | step h1 h2 h3=>cases e;exact .inr ⟨_,_,h1,h2,h3⟩
theorem in_prK {d:Addr} {Q:VK} (a:H d=some (.dK (prK qs))) (q:Q (.bl (pt qs s).isSome) H):qdO K false (.str s) (.ref d) H Q:=by
 refine .inr (.inl ⟨d,_,rfl,DGet.k (k:=Sum.inr s) a,?_⟩);rw [zC,yD (by decide),xT];exact q
theorem qdu {d:Addr} {v:V} {Q:VK} (a:H d=some (.dK kvs)) (e:jT kvs (.inr s:Key)=some v) (q:Q v H):qez K (.ref d) (.str s) H Q:=.inr ⟨d,v,rfl,by rw [<- e];exact DGet.k (k:=Sum.inr s) a,q⟩
theorem ok_bd (F:Fun K "bases_down_from" "Forest.bases_down_from" qJ f fd) (T:Txt K mg cc cw):FnOk P w K mg base CX0 1 f fd ["self","place"] (spBd cc cw):=by
 refine F.ok kJ fun _ _ _ _ H vs Q E hr h=>?_
 .obtain ⟨H0,a,ss,ns,qs,S,dn,wt,lo,p,r,l,B,rfl,h,ae,I,hp,A,ac,q⟩:=h;have s:=j9 hr;refine ⟨_,(qc (qq (i:=2) kJ.nd rfl (yR rfl) (qO (qa (qv (qw (K:=K) rfl s) (qz (K:=K) rfl (pv 0) rfl) (pv 1) (fun _ _=>rfl)) qd)))
 (qc (qaB yU (qk (qar (K:=K) rfl s) (qv (qw (K:=K) rfl s) (pv 2) (qbh zY qi) (fun _ _=>rfl)) (qz (K:=K) rfl (pv 0) rfl) (by with_unfolding_all rfl))
 (qc (qq (i:=3) kJ.nd rfl (yR rfl) (qv (qw (K:=K) rfl s) (qz (K:=K) rfl (pv 0) rfl) (qv (qw (K:=K) rfl s) (qz (K:=K) rfl (pv 0) rfl) (qv (qw (K:=K) rfl s) (pv 2) (qbh zY qi) (fun _ _=>rfl)) (fun _ _=>rfl)) (fun _ _=>rfl)))
 (qf (qV (qbu (K:=K) rfl yP Yi Yj jc (pv 2) (qa (qv (qw (K:=K) rfl s) (qz (K:=K) rfl (pv 0) rfl) (pv 3) (fun _ _=>rfl)) qd))))))
 (qf (qo (pv 2))))),?_⟩
  have y:∀ {v:Str} {r:List Str},S.rows v=some r->v∈ss:=fun e=>h.evs _ ((h.evi _).mpr (by rw [e];exact fun z=>by cases z));obtain ⟨ks,b1,b2,b3⟩:=h.bas;ext;refine .inl (h.obj.rd T 4 rfl ?_);ext;refine qdu b1 (b3 p (y hp)) ?_;ext;refine ⟨by show 1<=sizeLine;decide,fun bl n=>?_⟩;have s1:=qD (Sr H) (o:=.lst [.str (S.bas p)]) n;have e1:upd H bl (.lst [.str (S.bas p)]) bl=some (.lst (([]++[S.bas p]).map V.str)):=qb;generalize upd H bl (.lst [.str (S.bas p)])=H1 at s1 e1;ext;obtain ⟨W,g⟩:∃ W:Nat->L2.St->Hp->Prop,W=fun m σ J=>∃ (l1 l2:List Str) (c:Str) (y3:Option V),l=l1++c::l2/\σ=[some (.ref a.x),some (.str p),some (.ref bl),y3]/\L2.Same H J/\J bl=some (.lst ((l1++[c]).map V.str))/\m=l2.length:=⟨_,rfl⟩;obtain ⟨t0,U⟩:=A.ne;refine ⟨W,⟨t0.length,by rw [g];exact ⟨[],t0,_,_,U,rfl,s1,e1,rfl⟩⟩,fun m σ J hW=>?_⟩;rw [g] at hW;obtain ⟨l1,l2,c,y3,N,rfl,sJ,t,hm⟩:=hW;obtain ⟨rc,_,Z,X,C,_⟩:=A.up I hp rfl N;have d:=h.same sJ;have G:=d.sm _ _ h.prt;ext;refine ⟨1,rfl,?_⟩;refine .inl (qao t (v:=.str c) atI_last ?_);ext;refine .inl (d.obj.rd T 1 rfl ?_);refine in_prK G ?_;rcases C.cases' with ⟨D,rfl⟩ | ⟨q',z,D,L,Y⟩
  .rw [D];refine ⟨_,rfl,qG (fun h=>by cases h) fun _=>?_⟩;ext;exact q bl J sJ n (by rw [N];exact t)
  .rw [D];refine ⟨_,rfl,zg ⟨fun M H'=>∃ m',m'<m/\W m' M H',fun M H' z=>z,?_⟩⟩;obtain ⟨_,z',rz,b,aa,_⟩:=I.dwn c rc q' Z X D;rw [L] at b;cases b;obtain ⟨ka,p1,p2,p3⟩:=d.par;obtain ⟨af,O,ad,R⟩:=d.bas;ext;refine .inl (d.obj.rd T 3 rfl ?_);ext;refine .inl (d.obj.rd T 1 rfl ?_);ext;refine ⟨1,rfl,?_⟩;refine .inl (qao t (v:=.str c) atI_last ?_);refine qdu G (by rw [zC,D];rfl) ?_;refine qdu p1 (by rw [p3,L];rfl) ?_;ext;refine ⟨.inl ⟨rfl,_,.of t⟩,?_⟩;ext;refine .inl (d.obj.rd T 4 rfl ?_);ext;refine qdu O (R z (y aa)) ?_;ext;refine ⟨bl,_,_,rfl,rfl,t,by rw [ya];exact qg (by have:=congrArg List.length N;rw [yt,yA] at this;rw [yt];simp only [yA,Y6];omega),?_⟩;obtain ⟨t1,u⟩:=Y.ne;rw [g];refine ⟨t1.length,by rw [hm,u];simp,l1++[c],t1,S.bas z,_,by rw [N,u];simp,rfl,qak sJ n,by rw [qb,yF (l₁:=l1++[c])];rfl,rfl⟩
theorem kG:FnScope ["self","one","other","bases","side","base","place","row"] ["self","one","other","bases"] (qh qT):=fS
structure RR (f:Str->Option Str) (S S':FS) (v w:Str) (cs:List Str):Prop where
 par:S'.par=S.par
 bas:S'.bas=S.bas
 old:∀ u r,S.rows u=some r->S'.rows u=some r
 new:∀ u r,S'.rows u=some r->S.rows u=some r\/∃ c∈cs,f c=some u/\NewRow S v w u r
 all:∀ c∈cs,∀ q,f c=some q->∃ r,S'.rows q=some r
inductive spRr (cc:Nat->Addr) (cw:Addr) (vs:List V) (H:Hp) (Q:VK) (E:XK):Prop|mk (H0:Hp) (a:Fo) (ss:List Str) (ns:List Nat) (qs:List (Str×Str)) (S:FS) (dn wt:List Str) (lo:V) (v w:Str) (lb:Addr) (cs rv rw:List Str) (_:vs=[.ref a.x,.str v,.str w,.ref lb]) (_:FoA (cc 9) cw H0 H a ss ns qs S ss dn wt lo) (_:ss.length<=14) (_:H lb=some (.lst (cs.map V.str))) (_:lb∉a.six) (_:S.rows v=some rv) (_:S.rows w=some rw) (_:rv.length<=14) (_:rw.length<=14) (_:rv.Nodup) (_:cs.Nodup) (_:cs.length<=14) (_:(qj qs).Nodup) (_:(∀ c∈cs,∃ q rz t,pt qs c=some q/\S.rows q=none/\q∈ss/\rv=rz++q::t)) (_:∀ (t:Addr) (sd more:List Str) (H':Hp) (S':FS),FoA (cc 9) cw H0 H' (a.add t) ss ns qs S' ss dn (wt++more) lo->Bx a.six H H'->H t=none->H' t=some (.lst (sd.map V.str))->(∀ u,u∈sd↔∃ c∈cs,u=c\/pt qs c=some u)->sd.length=2*cs.length->more.length=cs.length->RR (pt qs) S S' v w cs->(∀ o,H a.dg=some o->H' a.dg=some o)->Q (.ref t) H')
theorem qcj {t:List Str} {q:Str} (a:(rz++q::t).Nodup):(rz++q::t).idxOf q=rz.length:=by
 exact qdU a (by rw [yz (yh _),Xr];rfl)
theorem qdD {a b:Addr} {Q:VK} (c:G a=some (.lst xs)) (d:G b=some (.lst ys)) (hl:xs.length+ys.length<=1000) (q:∀ p,G p=none->Q (.ref p) (upd G p (.lst (xs++ys)))):qdc K (.ref a) (.ref b) G Q:=.inl ⟨a,b,_,_,rfl,rfl,c,d,yi hl (by decide),q⟩
theorem ok_rr (F:Fun K "reach_round" "Forest.reach_round" qT f fd) (T:Txt K mg cc cw) (kK:MethOk P w K mg base CX0 1 (cc 9) "reach" ["self","place","row"] (spRe cc cw)):FnOk P w K mg base CX0 2 f fd ["self","one","other","bases"] (spRr cc cw):=by
 refine F.ok kG fun _ _ _ _ H vs Q E hr h=>?_
 .obtain ⟨H0,a,ss,ns,qs,S,dn,wt,lo,v,w,lb,R,rv,b,rfl,h,ap,G,az,hv,hw,bc,bj,ak,aw,bg,aj,ax,q⟩:=h;have hu:=j9 hr;refine ⟨_,(qc (qq (i:=4) kG.nd rfl (yR rfl) (qO qd))
 (qc (jp yU rfl (qK (K:=K) rfl (pv 3)) (qr (i:=5) kG.nd rfl (yR rfl))
 (qc (qq (i:=6) kG.nd rfl (yR rfl) (qv (qw (K:=K) rfl hu) (qz (K:=K) rfl (pv 0) rfl) (pv 5) (fun _ _=>rfl)))
 (qc (qq (i:=7) kG.nd rfl (yR rfl) (qv (qw (K:=K) rfl hu) (qz (K:=K) rfl (pv 0) rfl) (pv 1) (fun _ _=>rfl)))
 (qc (qV (qI kK (hmR hr) (pv 0) (qa (pv 6) (qa (qA (jI (K:=K) rfl) (qv (qw (K:=K) rfl hu) (qz (K:=K) rfl (pv 0) rfl) (pv 2) (fun _ _=>rfl)) (qdR (K:=K) rfl (ze (qd9 (K:=K) rfl) (pv 7) (jQ (qbu (K:=K) rfl yP xK Xl (qcb (K:=K) rfl) (pv 7) (qa (pv 6) qd))) zT) (jQ (qbh zY qi)))) qd))))
 (qf (qV (qbu (K:=K) rfl yP PySem.F.slot_list_extend PySem.F.type_list_extend qbb (pv 4) (qa (qO (qa (pv 5) (qa (pv 6) qd))) qd))))))))
 (qf (qo (pv 4))))),?_⟩
  ext;refine ⟨by show 0<=sizeLine;decide,fun g p=>?_⟩;have s1:=qD (Sr H) (o:=.lst []) p;have h1:=h.add (o:=.lst []) p;have Y:upd H g (.lst []) g=some (.lst (([]:List Str).map V.str)):=qb;have bm:lb≠g:=fun z=>by rw [z,p] at G;cases G
  generalize upd H g (.lst [])=H1 at s1 h1 Y;ext;obtain ⟨LI,A⟩:∃ LI:Nat->L2.St->Hp->Prop,LI=fun i σ J=>∃ (S':FS) (more D:List Str) (y5 y6 y7:Option V),σ=[some (.ref a.x),some (.str v),some (.str w),some (.ref lb),some (.ref g),y5,y6,y7]/\FoA (cc 9) cw H0 J (a.add g) ss ns qs S' ss dn (wt++more) lo/\Bx a.six H J/\J g=some (.lst (D.map V.str))/\(∀ u,u∈D↔∃ c∈R.take i,u=c\/pt qs c=some u)/\D.length=2*i/\more.length=i/\RR (pt qs) S S' v w (R.take i)/\∀ o,H a.dg=some o->J a.dg=some o:=⟨_,rfl⟩;refine .inl ⟨⟨_,.of (s1 _ _ G)⟩,qX (xs:=R.map V.str) LI (by rw [A];exact ⟨S,[],[],_,_,_,rfl,by rw [Yl];exact h1,Bx.of s1,Y,fun u=>by simp,rfl,rfl,⟨rfl,rfl,fun _ _ e=>e,fun _ _ e=>.inl e,fun c hc=>by simp at hc⟩,fun o e=>s1 _ _ e⟩) (fun i σ J _ O=>?_) (fun i y σ J hy O=>?_) fun σ J O=>?_⟩
  .rw [A] at O;obtain ⟨S',more,D,y5,y6,y7,rfl,s,W,_⟩:=O;exact .of (W _ _ az G)
  .rw [A] at O;obtain ⟨S',more,D,y5,y6,y7,rfl,s,W,eJ,L,l,I,C,U⟩:=O;rw [yd] at hy;obtain ⟨c,hc,rfl⟩:=yn.mp hy;have av:=ye hc;obtain ⟨z,rz,t,hz,al,bf,m⟩:=ax c av;have bh:i<R.length:=(yc.mp hc).1;have M:R.take (i+1)=R.take i++[c]:=by rw [yG,hc];rfl
   have ba:=s.sm _ _ h.prt;obtain ⟨kr,r1,r2,r3⟩:=s.row
   have rowOf:∀ {u:Str} {r:List Str},S.rows u=some r->∃ t,jT kr (.inr u:Key)=some (.ref t)/\J t=some (.lst (r.map V.str)):=fun {u r} e=>by
    have:=r3 u;rw [C.old u r e] at this;obtain ⟨t,k1,k2,_⟩:=this;exact ⟨t,k1,k2⟩
   obtain ⟨tv,kv,ev⟩:=rowOf hv;obtain ⟨tw,kw,ew⟩:=rowOf hw;ext;refine .inl (s.obj.rd T 1 rfl ?_);ext;refine qdu ba (by rw [zC,hz];rfl) ?_;ext;refine .inl (s.obj.rd T 2 rfl ?_);ext;refine qdu r1 kv ?_;ext;obtain ⟨dx,fs,bd,_,_,_,be⟩:=id s.obj;refine ⟨a.x,dx,fs,rfl,bd,be _ (by decide +kernel),?_⟩;ext;refine .inl (s.obj.rd T 2 rfl ?_);ext;refine qdu r1 kw ?_;ext;refine qfe ?_;ext;refine ⟨.inl ⟨rfl,_,.of ev⟩,?_⟩;ext;refine ⟨tv,rv,z,rfl,rfl,.of ev,by rw [m];simp,_,rfl,?_⟩;rw [m] at ak;have ao:rv.idxOf z=rz.length:=by rw [m];exact qcj ak
   rw [ao];ext;refine .inl ⟨tv,_,rfl,.of ev,fun c1 ar=>?_⟩;have af:qcQ (rv.map V.str) (some ((rz.length:Nat):Int)) none=(z::t).map V.str:=by rw [cutV_drop,m,yF,List.drop_left' (by simp)]
   rw [af];have t1:=qD (Sr J) (o:=.lst ((z::t).map V.str)) ar;have aa:upd J c1 (.lst ((z::t).map V.str)) c1=some (.lst ((z::t).map V.str)):=qb;generalize upd J c1 (.lst ((z::t).map V.str))=J1 at t1 aa;ext;refine ⟨1,rfl,?_⟩;refine ⟨_,rfl,rfl,c1,_,rfl,.of aa,fun c2 as=>?_⟩;have t2:=qD t1 (o:=.lst ((z::t).map V.str).reverse) as;have ac:upd J1 c2 (.lst ((z::t).map V.str).reverse) c2=some (.lst ((z::t).reverse.map V.str)):=by rw [qb,List.map_reverse]
   generalize upd J1 c2 (.lst ((z::t).map V.str).reverse)=J2 at t2 ac;have bi:(z::t).length<=14:=by rw [m,yt] at bc;omega
   refine qdD (t2 _ _ ew) ac (by rw [ya,ya,Yu];omega) fun c3 ag=>?_;have aq:=s.same t2;have n3:=aq.newA ag;have t3:=qD t2 (o:=.lst (b.map V.str++(z::t).reverse.map V.str)) ag;have ad:upd J2 c3 (.lst (b.map V.str++(z::t).reverse.map V.str)) c3=some (.lst ((b++(z::t).reverse).map V.str)):=by rw [qb,yF]
   generalize upd J2 c3 (.lst (b.map V.str++(z::t).reverse.map V.str))=J3 at t3 ad
   have ah:c∉R.take i:=fun y=>by
    obtain ⟨j,hj⟩:=yf y;have ay:=(yc.mp hj).1;rw [yJ] at ay;rw [List.getElem?_take,yK (by omega)] at hj;have:=qM aw hj hc;omega
   have am:S'.rows z=none:=by
    cases e:S'.rows z with
    | none=>rfl
    | some r =>
     exfalso;rcases C.new z r e with y | ⟨N,B,y,_⟩
     .rw [al] at y;cases y
     .have Y:=(qai aj).mp y;rw [(qai aj).mp hz] at Y;rw [<- ym Y] at B;exact ah B
   ext;refine ⟨H0,a.add g,ss,ns,qs,S',ss,dn,wt++more,lo,z,c3,b++(z::t).reverse,rfl,s.same t3,ap,ad,n3,bf,am,fun J4 h4 X ai=>?_⟩;have an:g∉a.six:=h.new p;have Z:J4 g=some (.lst (D.map V.str)):=X _ _ an (t3 _ _ eJ);ext;refine ⟨.inl ⟨rfl,_,.of Z⟩,?_⟩;ext;refine ⟨by show 2<=sizeLine;decide,fun c5 au=>?_⟩;have t5:=qD (Sr J4) (o:=.lst [.str c,.str z]) au;have ae:upd J4 c5 (.lst [.str c,.str z]) c5=some (.lst [.str c,.str z]):=qb;generalize upd J4 c5 (.lst [.str c,.str z])=J5 at t5 ae;have h5:=h4.same t5;ext;refine ⟨g,c5,_,_,rfl,rfl,t5 _ _ Z,ae,by rw [ya,Yy];show _+2<=_;omega,?_⟩;have h6:=h5.updE (c:=g) (o:=.lst (D.map V.str++[.str c,.str z])) yO;rw [A];refine ⟨S'.setRow z (b++(z::t).reverse),more++[z],D++[c,z],_,_,_,rfl,by rw [<- yY wt];exact h6,?_,by rw [qb,yF];rfl,fun u=>?_,by rw [yt,l];show _+2=_;omega,by rw [yt,I];rfl,⟨C.par,C.bas,fun u r e=>?_,fun u r e=>?_,fun N B q' e=>?_⟩,fun o e=>?_⟩
   .exact fun d o n e=>by
     have ne:d≠g:=fun y=>by rw [y,p] at e;cases e
     rw [qe ne];exact t5 _ _ (X _ _ n (t3 _ _ (W _ _ n e)))
   .rw [M,yx,L];simp only [yx,yy,yX,YO];constructor
    .rintro (⟨N,h1,h2⟩ | rfl | rfl)
     .exact ⟨N,.inl h1,h2⟩
     .exact ⟨u,.inr rfl,.inl rfl⟩
     .exact ⟨c,.inr rfl,.inr hz⟩
    .rintro ⟨N,h1 | rfl,h2⟩
     .exact .inl ⟨N,h1,h2⟩
     .rcases h2 with h2 | h2
      .exact .inr (.inl h2)
      .rw [hz] at h2;exact .inr (.inr (ym h2).symm)
   .show (if u=z then _ else S'.rows u)=_;rw [yD (fun y=>by rw [y,al] at e;cases e)];exact C.old u r e
   .have e':(if u=z then some (b++(z::t).reverse) else S'.rows u)=some r:=e;by_cases y:u=z
    .subst y;rw [yK rfl] at e';exact .inr ⟨c,by rw [M];simp,hz,rv,b,rz,t,hv,hw,m,(ym e').symm⟩
    .rw [yD y] at e';rcases C.new u r e' with x | ⟨N,h1,h2⟩
     .exact .inl x
     .exact .inr ⟨N,by rw [M];exact yE _ h1,h2⟩
   .show ∃ r,(if q'=z then some (b++(z::t).reverse) else S'.rows q')=some r;by_cases y:q'=z
    .rw [yK y];exact ⟨_,rfl⟩
    .rw [yD y];rw [M] at B;rcases yx.mp B with x | x
     .exact C.all N x q' e
     .rw [yB.mp x,hz] at e;exact absurd (ym e).symm y
   .have ne:a.dg≠g:=fun y=>an (by rw [<- y];simp [Fo.six]);rw [qe ne];exact t5 _ _ (ai o (t3 _ _ (U o e)))
  .rw [A] at O;obtain ⟨S',more,D,y5,y6,y7,rfl,s,W,eJ,L,l,I,C,U⟩:=O;rw [ya] at l I;rw [ya,yN] at L C;ext;exact q g D more J S' s W p eJ L l I C U
theorem k8:FnScope ["self","ring","meeting","within","place"] ["self","ring","meeting"] (qh jw):=fS
noncomputable def FS.setBas (S:FS) (l:List Str) (m:Str):FS:=⟨S.rows,S.par,fun u=>if u∈l then m else S.bas u⟩
noncomputable def wnL (S:FS) (ss a:List Str) (m:Str):List Str:=ss.filter fun u=>decide (S.bas u∈a++[m])
inductive spFd (cc:Nat->Addr) (cw:Addr) (vs:List V) (H:Hp) (Q:VK) (E:XK):Prop|mk (H0:Hp) (a:Fo) (ss:List Str) (ns:List Nat) (qs:List (Str×Str)) (S:FS) (dn wt:List Str) (lo:V) (lr:Addr) (rg:List Str) (m:Str) (xs:List V) (_:vs=[.ref a.x,.ref lr,.str m]) (_:FoA (cc 9) cw H0 H a ss ns qs S ss dn wt lo) (_:ss.length<=14) (_:H lr=some (.lst (rg.map V.str))) (_:lr∉a.six) (_:rg.length<=100) (_:H a.dg=some (.lst xs)) (_:xs.length<(dn++wt).length) (_:∀ H',FoA (cc 9) cw H0 H' a ss ns qs (S.setBas (wnL S ss rg m) m) ss dn wt lo->Bx a.six H H'->Q .non H')
theorem put_len {k:Key} {v u:V} (h:jT kvs k=some u):(zf kvs k v).length=kvs.length:=by
 unfold zf;rw [zG,h];exact ya _
theorem qdo {n:Addr} {Q:VK} (a:H n=some (.lst (ss.map V.str))) (q:Q (.bl (decide (z∈ss))) H):qdO K false (.str z) (.ref n) H Q:=
 .inl ⟨n,_,rfl,.inl (.of a),rfl,YC.mpr fun x b=>by (obtain ⟨s,_,rfl⟩:=Y1.mp b;rfl),by rw [yD (by decide),zq];exact q⟩
theorem FoA.setB {wt:List Str} {ks:List (Key×V)} {l:List Str} (h:FoA (cc 9) cw H0 H a ss ns qs (S.setBas l m) ss dn wt lo) (v:H a.ds=some (.dK ks)) (hz:z∈ss):FoA (cc 9) cw H0 (upd H a.ds (.dK (zf ks (Sum.inr z) (.str m)))) a ss ns qs (S.setBas (l++[z]) m) ss dn wt lo/\ks.length<=ss.length:=by
 obtain ⟨B,L,M,N⟩:=h.row;obtain ⟨A,I,J,K⟩:=h.par;obtain ⟨k,g,i,p⟩:=h.bas;obtain ⟨xs,s,t⟩:=h.rng;rw [v] at g;cases g;obtain ⟨⟨O,P,F,R,T⟩,⟨U,G,W,X⟩,⟨b,C,D⟩,⟨d,f⟩,E⟩:=(by simpa [Fo.six] using h.sep:(¬a.x=a.dr/\¬a.x=a.da/\¬a.x=a.ds/\¬a.x=a.dg/\¬a.x=a.dw)/\(¬a.dr=a.da/\¬a.dr=a.ds/\¬a.dr=a.dg/\¬a.dr=a.dw)/\(¬a.da=a.ds/\¬a.da=a.dg/\¬a.da=a.dw)/\(¬a.ds=a.dg/\¬a.ds=a.dw)/\¬a.dg=a.dw);have q:Bx a.six H (upd H a.ds (.dK (zf ks (Sum.inr z) (.str m)))):=fun c o n e=>by rw [qe (fun y=>n (by rw [y];simp [Fo.six]))];exact e
 refine ⟨⟨qak h.sm (h.fr _ (by simp [Fo.six])),h.web,h.prt,h.fr,h.nd,fun c hc=>⟨(h.exf c hc).1,(h.exf c hc).2.1,(h.exf c hc).2.2.elim fun o e=>⟨o,q _ _ (h.exf c hc).2.1 e⟩⟩,h.obj.eq (qe F),⟨B,by rw [qe G];exact L,M,fun y=>(N y).mono q Fo.sub⟩,⟨A,by rw [qe b];exact I,J,K⟩,⟨_,qb,by rw [put_len (p z hz)];exact i,fun u w=>?_⟩,⟨xs,by rw [qe (Yb d)];exact s,t⟩,by rw [qe (Yb f)];exact h.wai,h.evn,h.evi,h.evs⟩,i⟩;rw [qaC,p u w];show (if _ then _ else _)=some (V.str (if u∈l++[z] then m else S.bas u));have r:(S.setBas l m).bas u=if u∈l then m else S.bas u:=rfl;rw [r];by_cases e:u=z
 .subst e;rw [yK rfl,yK (by simp)]
 .rw [yD (fun x=>e (xv x))];by_cases y:u∈l
  .rw [yK y,yK (yE _ y)]
  .rw [yD y,yD (fun x=>(yx.mp x).elim y fun x=>e (yB.mp x))]
theorem FoA.updG {bs wt:List Str} (h:FoA (cc 9) cw H0 H a ss ns qs S bs dn wt lo) (n:xs.length<=(dn++wt).length):FoA (cc 9) cw H0 (upd H a.dg (.lst xs)) a ss ns qs S bs dn wt lo:=by
 obtain ⟨q,B,C,D⟩:=h.row;obtain ⟨p,w,z,A⟩:=h.par;obtain ⟨k,i,l,m⟩:=h.bas;obtain ⟨⟨E,F,G,u,I⟩,⟨J,K,v,L⟩,⟨r,b,s⟩,⟨d,t⟩,f⟩:=(by simpa [Fo.six] using h.sep:(¬a.x=a.dr/\¬a.x=a.da/\¬a.x=a.ds/\¬a.x=a.dg/\¬a.x=a.dw)/\(¬a.dr=a.da/\¬a.dr=a.ds/\¬a.dr=a.dg/\¬a.dr=a.dw)/\(¬a.da=a.ds/\¬a.da=a.dg/\¬a.da=a.dw)/\(¬a.ds=a.dg/\¬a.ds=a.dw)/\¬a.dg=a.dw);have g:Bx a.six H (upd H a.dg (.lst xs)):=(Bx.of (Sr H)).upd (by simp [Fo.six]);exact ⟨qak h.sm (h.fr _ (by simp [Fo.six])),h.web,h.prt,h.fr,h.nd,fun c hc=>⟨(h.exf c hc).1,(h.exf c hc).2.1,(h.exf c hc).2.2.elim fun o e=>⟨o,g _ _ (h.exf c hc).2.1 e⟩⟩,h.obj.eq (qe u),⟨q,by rw [qe v];exact B,C,fun y=>(D y).mono g Fo.sub⟩,⟨p,by rw [qe b];exact w,z,A⟩,⟨k,by rw [qe d];exact i,l,m⟩,⟨xs,qb,n⟩,by rw [qe (Yb f)];exact h.wai,h.evn,h.evi,h.evs⟩
theorem ok_fdF (F:Fun K "fold" "Forest.fold" jw f fd) (T:Txt K mg cc cw) (kP:MethOk P w K mg base CX0 1 cw "places" ["self"] (spPls cw)):FnOk P w K mg base CX0 2 f fd ["self","ring","meeting"] (spFd cc cw):=by
 refine F.ok k8 fun _ _ _ _ H vs Q E hr h=>?_
 .obtain ⟨H0,a,ss,ns,qs,S,dn,wt,lo,lr,d,m,xs,rfl,h,an,af,aq,ar,ad,as,q⟩:=h;have C:=j9 hr;refine ⟨_,(qc (zV (sc:=qh jw) (XN:=["self","ring","meeting","within","place"]) ["place","ring","self","meeting"] 1 [1,0,2] rfl rfl rfl (by decide +kernel) rfl (by decide +kernel) (i:=3) k8.nd rfl rfl
  (qK (K:=K) rfl (qZ kP (hmR hr) (qz (K:=K) rfl (pv 0) rfl))) (fun _ _ _ _=>(qr (i:=0) (show (["place","ring","self","meeting"]:List Str).Nodup by decide +kernel) rfl (yR rfl))) qP
  (fun _ _ _ _=>(qY (qk (qar (K:=K) rfl C) (qv (qw (K:=K) rfl C) (qz (K:=K) rfl (pv 2) rfl) (pv 0) (fun _ _=>rfl)) (qA (jI (K:=K) rfl) (pv 1) (qO (qa (pv 3) qd))) (by with_unfolding_all rfl))))
  (fun _ _ _ _=>(pv 0)))
 (qc (jp yU rfl (qK (K:=K) rfl (pv 3)) (qr (i:=4) k8.nd rfl (yR rfl))
 (qf (jV (pv 2) (j6 (qz (K:=K) rfl (pv 0) rfl) (pv 4) (j8 C)))))
 (qf (qV (qbu (K:=K) rfl yP Yi Yj jc (qz (K:=K) rfl (pv 0) rfl) (qa (pv 3) qd)))))),?_⟩
  have al:=h.few;have B:=h.web.same h.sm;obtain ⟨wx,dd,ol,nn,hb,_⟩:=id B;ext;refine .inl (h.obj.rd T 0 rfl ?_);refine ⟨a.b,wx,_,rfl,hb,qav (by decide +kernel),?_⟩;ext;refine ⟨a.b,ss,ns,rfl,B,fun pl ag=>?_⟩;have s1:=qD (Sr H) (o:=.lst (ss.map V.str)) ag;have Z:upd H pl (.lst (ss.map V.str)) pl=some (.lst (ss.map V.str)):=qb;generalize upd H pl (.lst (ss.map V.str))=H1 at s1 Z;refine .inl ⟨⟨_,.of Z⟩,qF (xs:=ss.map V.str) (fun i ys J=>L2.Same H1 J/\ys=((ss.take i).filter fun u=>decide (S.bas u∈d++[m])).map V.str) ⟨L2.Same.refl H1,rfl⟩ (fun i ys J _ g=>.of (g.1 _ _ Z)) (fun i y ys J I g=>?_) fun ys J g=>?_⟩
  .obtain ⟨L,rfl⟩:=g;rw [yd] at I;obtain ⟨z,hz,rfl⟩:=yn.mp I;have l:=s1.trans L;have p:=h.same l;obtain ⟨ks,O,b2,b3⟩:=p.bas;have ao:=(yc.mp hz).1
   have s:(ss.take (i+1)).filter (fun u=>decide (S.bas u∈d++[m]))=(ss.take i).filter (fun u=>decide (S.bas u∈d++[m]))++(if S.bas z∈d++[m] then [z] else []):=by
    rw [yG,hz,y9];show _++[z].filter _=_;rw [yV];simp only [decide_eq_true_eq,Yq]
   ext;refine .inl (p.obj.rd T 4 rfl ?_);ext;refine qdu O (b3 z (ye hz)) ?_;ext;refine ⟨by show 1<=sizeLine;decide,fun X aa=>?_⟩;have t1:=qD (Sr J) (o:=.lst [.str m]) aa;have t:upd J X (.lst [.str m]) X=some (.lst [.str m]):=qb;generalize upd J X (.lst [.str m])=J1 at t1 t;refine qdD ((l.trans t1) _ _ af) t (by rw [ya];show _+1<=_;omega) fun Y ac=>?_;have t2:=qD t1 (o:=.lst (d.map V.str++[.str m])) ac;have v:upd J1 Y (.lst (d.map V.str++[.str m])) Y=some (.lst ((d++[m]).map V.str)):=by rw [qb,yF];rfl
   generalize upd J1 Y (.lst (d.map V.str++[.str m]))=J2 at t2 v;refine qdo v ⟨_,rfl,?_⟩;rw [s];by_cases r:S.bas z∈d++[m]
   .rw [yQ r,yK r];refine zg ?_;ext;have ae:=yI (fun u=>decide (S.bas u∈d++[m])) (ss.take i);rw [yJ] at ae;refine ⟨by rw [ya];exact qg (by omega),L.trans t2,by rw [yF];rfl⟩
   .rw [yl r,yD r,Yl];refine yq ?_;exact ⟨L.trans t2,rfl⟩
  .obtain ⟨L,rfl⟩:=g;rw [show (ss.map V.str).length=ss.length from ya _,yN];have l:=s1.trans L;have ai:(ss.filter fun u=>decide (S.bas u∈d++[m])).length<=ss.length:=yI _ _;refine ⟨by rw [ya];exact yS (qg (by omega)),fun N D=>?_⟩;have R:=qD l (o:=.lst ((wnL S ss d m).map V.str)) D;have ew:upd J N (.lst ((wnL S ss d m).map V.str)) N=some (.lst ((wnL S ss d m).map V.str)):=qb;have am:(wnL S ss d m).length<=ss.length:=ai;have aj:∀ u∈wnL S ss d m,u∈ss:=fun u C=>(yp.mp C).1;show qeK _ _ _ _ (upd J N (.lst ((wnL S ss d m).map V.str)));generalize wnL S ss d m=M at *;have G:=(h.same l).new D;generalize upd J N (.lst (M.map V.str))=H2 at R ew;have h2:=h.same R;ext;refine .inl ⟨⟨_,.of ew⟩,qX (xs:=M.map V.str) (fun i U J=>Bx a.six H2 J/\(∀ o,H2 a.dg=some o->J a.dg=some o)/\FoA (cc 9) cw H0 J a ss ns qs (S.setBas (M.take i) m) ss dn wt lo/\∃ y4,U=[some (.ref a.x),some (.ref lr),some (.str m),some (.ref N),y4]) ⟨fun c o _ e=>e,fun _ e=>e,?_,_,rfl⟩ (fun i U J _ g=>.of (g.1 _ _ G ew)) (fun i y U J I g=>?_) fun U J g=>?_⟩
   .have:S.setBas ([]:List Str) m=S:=by unfold FS.setBas;simp
    rw [Yw,this];exact h2
   .obtain ⟨W,hg,p,y4,rfl⟩:=g;rw [yd] at I;obtain ⟨z,hz,rfl⟩:=yn.mp I;obtain ⟨ks,O,b2,b3⟩:=p.bas;have ah:M.take (i+1)=M.take i++[z]:=by rw [yG,hz];rfl
    obtain ⟨h3,ap⟩:=p.setB O (aj z (ye hz));ext;refine .inl (p.obj.rd T 4 rfl ?_);ext;refine .inr ⟨a.ds,_,rfl,DPut.k (k:=Sum.inr z) O (by rw [Yy];omega),?_⟩;have ak:a.dg≠a.ds:=fun e=>by have:=h.nd;rw [e] at this;simp at this
    exact ⟨fun c o n e=>by rw [qe (fun y=>n (by rw [y];simp [Fo.six]))];exact W c o n e,fun o e=>by rw [qe ak];exact hg o e,by rw [ah];exact h3,_,rfl⟩
   .obtain ⟨W,hg,p,y4,rfl⟩:=g;rw [ya,yN] at p;have A:=hg _ (R _ _ ad);ext;refine .inl (p.obj.rd T 5 rfl ?_);refine ⟨.inl ⟨rfl,_,.of A⟩,?_⟩;ext;refine ⟨a.dg,_,_,rfl,rfl,A,qg (by omega),?_⟩;exact q _ (p.updG (by rw [yt];simp only [yA,Y6];omega)) ((Bx.of R).trans W |>.upd (by simp [Fo.six]))
theorem kE:FnScope ["self","one","other","ones","others","meeting","ring"] ["self","one","other"] (qh qC):=fS
structure Mono (S S':FS):Prop where
 ba:∀ u v,S.bas u=S.bas v->S'.bas u=S'.bas v
 pa:∀ u,S.par u≠none->S'.par u≠none
 ro:∀ u r,S.rows u=some r->S'.rows u=some r
theorem Mono.refl (S:FS):Mono S S:=⟨fun _ _ e=>e,fun _ e=>e,fun _ _ e=>e⟩
theorem Mono.trans {c:FS} (a:Mono S S') (b:Mono S' c):Mono S c:=⟨fun u v e=>b.ba u v (a.ba u v e),fun u e=>b.pa u (a.pa u e),fun u r e=>b.ro u r (a.ro u r e)⟩
structure Wb (A:Str->Str->Prop) (ss:List Str) (qs:List (Str×Str)):Prop where
 gr:Gr A (pt qs)
 inn:∀ a b,A a b->a∈ss
 qn:(qj qs).Nodup
 few:ss.length<=14
 nd:ss.Nodup
theorem Alt.inn (W:Wb A ss qs) (h:Alt A (pt qs) r v) (hv:v∈ss):r.length<=14/\∀ u∈r,u∈ss:=by
 have a:∀ u∈r,u∈ss:=fun u g=>by
  obtain ⟨j,d⟩:=yf g;obtain ⟨i,e⟩:=h.tl;by_cases hl:j+1<r.length
  .obtain ⟨b,f⟩:∃ b,r[j+1]?=some b:=⟨_,yb hl⟩;exact W.inn _ _ (h.st j u b d f).1
  .have c:=(yc.mp d).1;have:j=i.length:=by rw [e,yt] at c hl;simp at c hl;omega
   rw [e,this,yz (yh _),Xr] at d;rw [<- ym d];exact hv
 exact ⟨yi (je h.nd a) W.few,a⟩
theorem qcL (l':List Str):∀ {l:List Str},(∃ d∈l,d∈l')->∃ l1 m l2,l=l1++m::l2/\m∈l'/\(∀ d∈l1,d∉l')/\∃ t,l.filter (fun d=>decide (d∈l'))=m::t
 | [],⟨_,h,_⟩=>by cases h
 | x::r,h=>by
  by_cases b:x∈l'
  .exact ⟨[],x,r,rfl,b,(fun _ h=>by cases h),_,by rw [yV,yK (yQ b)]⟩
  .obtain ⟨d,i,a⟩:=h;obtain ⟨l1,m,l2,c,e,f,t,g⟩:=qcL l' (l:=r) ⟨d,(yy.mp i).resolve_left (fun z=>b (by rw [<- z];exact a)),a⟩;refine ⟨x::l1,m,l2,by rw [c];rfl,e,fun y hy=>?_,t,by rw [yV,yD (by simpa using b)];exact g⟩;rcases yy.mp hy with rfl | hy
   .exact b
   .exact f y hy
inductive spBt (cc:Nat->Addr) (cw:Addr) (vs:List V) (H:Hp) (Q:VK) (E:XK):Prop|mk (H0:Hp) (a:Fo) (ss:List Str) (ns:List Nat) (qs:List (Str×Str)) (S:FS) (dn wt:List Str) (v w:Str) (rv rw:List Str) (A:Str->Str->Prop) (_:vs=[.ref a.x,.str v,.str w]) (_:FoA (cc 9) cw H0 H a ss ns qs S ss dn wt .non) (_:Wb A ss qs) (_:FI A (pt qs) S) (_:S.rows v=some rv) (_:S.rows w=some rw) (_:A v w) (_:(∀ (H':Hp) (S':FS) (more:List Str),FoA (cc 9) cw H0 H' a ss ns qs S' ss dn (wt++more) .non->Bx a.six H H'->FI A (pt qs) S'->S'.bas v=S'.bas w->Mono S S'->Q .non H')) (_:∀ (H':Hp) (t:Addr) (r:List Str),FoA (cc 9) cw H0 H' a ss ns qs S ss dn wt (.ref t)->Bx a.six H H'->H' t=some (.lst (r.map V.str))->t∉a.all->Aug A (pt qs) r->r.length<=28->Q .non H')
theorem qdW {d:Str} {Q:VK} (q:Q (.bl (!decide (c=d))) H):qea K true (.str c) (.str d) H Q:=by
 refine .inl ⟨rfl,rfl,?_⟩;rw [yK rfl]
 have e:eqV (.str c) (.str d)=decide (c=d):=by
  by_cases h:c=d
  .subst h;simp [eqV]
  .simp [eqV,h]
 rw [e];exact q
theorem FoA.setL {bs wt:List Str} {fs:List (Str×V)} {v:V} (h:FoA (cc 9) cw H0 H a ss ns qs S bs dn wt .non) (t:H a.x=some (.ins (cc 9) dx fs)) (hv:v≠.non):fs.length<1000/\FoA (cc 9) cw H0 (upd H a.x (.ins (cc 9) dx (qB "longer" v fs))) a ss ns qs S bs dn wt v:=by
 obtain ⟨n,p,g,L,I,J,K⟩:=h.obj;rw [t] at g;cases g;have hl:=I rfl;obtain ⟨A,E,F,G⟩:=h.row;obtain ⟨w,B,C,D⟩:=h.par;obtain ⟨k,i,l,m⟩:=h.bas;obtain ⟨xs,q,r⟩:=h.rng;have s:=h.sep;have nx:∀ {c:Addr},c∈[a.dr,a.da,a.ds,a.dg,a.dw]->c≠a.x:=fun hc e=>(yo.mp s).1 (by rw [<- e];exact hc);have d:Bx a.six H (upd H a.x (.ins (cc 9) dx (qB "longer" v fs))):=(Bx.of (Sr H)).upd (by simp [Fo.six]);refine ⟨by omega,qak h.sm (h.fr _ (by simp [Fo.six])),h.web,h.prt,h.fr,h.nd,fun c hc=>⟨(h.exf c hc).1,(h.exf c hc).2.1,(h.exf c hc).2.2.elim fun o e=>⟨o,d _ _ (h.exf c hc).2.1 e⟩⟩,⟨dx,_,qb,yi (jm _ _ _) (by omega),fun e=>absurd e hv,fun f u b=>?_,fun f b=>?_⟩,⟨A,by rw [qe (nx (by simp))];exact E,F,fun y=>(G y).mono d Fo.sub⟩,⟨w,by rw [qe (nx (by simp))];exact B,C,D⟩,⟨k,by rw [qe (nx (by simp))];exact i,l,m⟩,⟨xs,by rw [qe (nx (by simp))];exact q,r⟩,by rw [qe (nx (by simp))];exact h.wai,h.evn,h.evi,h.evs⟩
 .rw [qy];by_cases e:f="longer"
  .rw [yK e];subst e;have:(Str.ofString "longer",u)∈a.tab v:=b;simp only [Fo.tab,yy,Xc,yX,YO] at this;rcases this with ⟨z,_⟩ | ⟨z,_⟩ | ⟨z,_⟩ | ⟨z,_⟩ | ⟨z,_⟩ | ⟨z,_⟩ | ⟨z,_⟩ | ⟨_,z⟩<;>first | exact absurd z (by decide +kernel) | exact congrArg some z.symm
  .rw [yD e];refine J f u ?_;have:(f,u)∈a.tab v:=b;simp only [Fo.tab,yy,Xc,yX,YO] at this ⊢;rcases this with z | z | z | z | z | z | z | ⟨z,_⟩
   all_goals first | exact absurd z e | simp [z]
 .rw [qy,yD (fun e=>b (by rw [e];decide +kernel))];exact K f b
theorem FoA.rowAt {bs wt:List Str} (h:FoA (cc 9) cw H0 H a ss ns qs S bs dn wt lo) (e:S.rows u=some r) {Q:VK} (q:∀ t,H t=some (.lst (r.map V.str))->Q (.ref t) H):qez K (.ref a.dr) (.str u) H Q:=by
 obtain ⟨g,d,_,f⟩:=h.row;have:=f u;rw [e] at this;obtain ⟨t,b,c,_⟩:=this;exact qdu d b (q t c)
theorem ok_bt (F:Fun K "bring_together" "Forest.bring_together" qC f fd) (T:Txt K mg cc cw) (kQ:MethOk P w K mg base CX0 1 (cc 9) "bases_down_from" ["self","place"] (spBd cc cw)) (kZ:MethOk P w K mg base CX0 2 (cc 9) "reach_round" ["self","one","other","bases"] (spRr cc cw)) (KO:MethOk P w K mg base CX0 2 (cc 9) "fold" ["self","ring","meeting"] (spFd cc cw)):FnOk P w K mg base CX0 3 f fd ["self","one","other"] (spBt cc cw):=by
 refine F.ok kE fun _ _ _ _ H vs Q E hr h=>?_
 .obtain ⟨H0,a,ss,ns,qs,S,dn,wt,v,w,rv,g,B,rfl,h,b,I,hv,hw,ch,q1,q2⟩:=h;have M:=j9 hr;have Y:∀ {v:Str} {r:List Str},S.rows v=some r->v∈ss:=fun e=>h.evs _ ((h.evi _).mpr (by rw [e];exact fun z=>by cases z));obtain ⟨l,hl⟩:=I.chainOf hv;obtain ⟨l',D⟩:=I.chainOf hw;have ai:=hl.nd I hv rfl;have C:=D.nd I hw rfl;have Z:l.length<=14:=yi (je ai fun c hc=>(hl.bs0 I hv hc).elim fun r z=>Y z.1) b.few;have L:l'.length<=14:=yi (je C fun c hc=>(D.bs0 I hw hc).elim fun r z=>Y z.1) b.few;obtain ⟨au,dw⟩:=(I.alt v rv hv).inn b (Y hv);obtain ⟨al,dy⟩:=(I.alt w g hw).inn b (Y hw);obtain ⟨lx,c,ax⟩:∃ lx c,l=lx++[c]:=by obtain ⟨t,e⟩:=hl.ne;exact ⟨_,_,(Y8 (by rw [e];exact kj _ _)).symm⟩
  obtain ⟨ly,d,ay⟩:∃ ly d,l'=ly++[d]:=by obtain ⟨t,e⟩:=D.ne;exact ⟨_,_,(Y8 (by rw [e];exact kj _ _)).symm⟩
  refine ⟨_,(qc (qq (i:=3) kE.nd rfl (yR rfl) (qI kQ (hmR hr) (pv 0) (qa (pv 1) qd)))
 (qc (qq (i:=4) kE.nd rfl (XG rfl) (qI kQ (hmR hr) (pv 0) (qa (pv 2) qd)))
 (qf (qN (qk (qaq (K:=K) rfl M) (qv (qw (K:=K) rfl M) (pv 3) (qbh zY qi) (fun _ _=>rfl)) (qv (qw (K:=K) rfl M) (pv 4) (qbh zY qi) (fun _ _=>rfl)) (qx _)) (qf (jJ (K:=K) rfl (pv 0) (qA (jI (K:=K) rfl) (qv (qw (K:=K) rfl M) (qz (K:=K) rfl (pv 0) rfl) (pv 1) (fun _ _=>rfl)) (qdR (K:=K) rfl (qv (qw (K:=K) rfl M) (qz (K:=K) rfl (pv 0) rfl) (pv 2) (fun _ _=>rfl)) (jQ (qbh zY qi)))) rfl)) (qf (qN (qk (qaq (K:=K) rfl M) (qv (qw (K:=K) rfl M) (pv 3) qi (fun _ _=>rfl)) (qv (qw (K:=K) rfl M) (pv 4) qi (fun _ _=>rfl)) (qx _)) (qc (qq (i:=5) kE.nd rfl (yR rfl) (qv (qw (K:=K) rfl M) (jo (sc:=qh qC) (XN:=["self","one","other","ones","others","meeting","ring"]) ["base","others"] 1 [4] rfl rfl rfl (by decide +kernel) rfl (by decide +kernel)
  (qK (K:=K) rfl (pv 3)) (fun _ _ _ _=>(qr (i:=0) (show (["base","others"]:List Str).Nodup by decide +kernel) rfl (yR rfl))) qP
  (fun _ _ _ _=>(qY (qk (qar (K:=K) rfl M) (pv 0) (pv 1) (by with_unfolding_all rfl))))
  (fun _ _ _ _=>(pv 0))) qi (fun _ _=>rfl)))
 (qc (qq (i:=6) kE.nd rfl (yR rfl) (qI kZ (hmR hr) (pv 0) (qa (pv 1) (qa (pv 2) (qa (ze (qd9 (K:=K) rfl) (pv 3) zT (jQ (qbu (K:=K) rfl yP xK Xl (qcb (K:=K) rfl) (pv 3) (qa (pv 5) qd)))) qd)))))
 (qc (qV (qbu (K:=K) rfl yP PySem.F.slot_list_extend PySem.F.type_list_extend qbb (pv 6) (qa (qI kZ (hmR hr) (pv 0) (qa (pv 2) (qa (pv 1) (qa (ze (qd9 (K:=K) rfl) (pv 4) zT (jQ (qbu (K:=K) rfl yP xK Xl (qcb (K:=K) rfl) (pv 4) (qa (pv 5) qd)))) qd)))) qd)))
 (qf (qV (qI KO (hmR hr) (pv 0) (qa (pv 6) (qa (pv 5) qd)))))))) qt)))))),?_⟩
  ext;obtain ⟨dx,fs,ak,_,_,_,ba⟩:=id h.obj;refine ⟨a.x,dx,fs,rfl,ak,ba _ (by decide +kernel),?_⟩;ext;refine ⟨H0,a,ss,ns,qs,S,dn,wt,.non,v,rv,l,B,rfl,h,b.few,I,hv,hl,Z,fun o1 H1 s1 dm cx=>?_⟩;ext;refine ⟨a.x,dx,fs,rfl,s1 _ _ ak,ba _ (by decide +kernel),?_⟩;ext;refine ⟨H0,a,ss,ns,qs,S,dn,wt,.non,w,g,l',B,rfl,h.same s1,b.few,I,hw,D,L,fun o2 H2 s2 dp am=>?_⟩;have aq:=s1.trans s2;have h2:=h.same aq;have R:=s2 _ _ cx;have du:=h.newA dm;have dv:=(h.same s1).newA dp;ext;refine ⟨1,rfl,?_⟩;refine .inl (qao R (v:=.str c) (by rw [ax];exact atI_last) ?_);ext;refine ⟨1,rfl,?_⟩;refine .inl (qao am (v:=.str d) (by rw [ay];exact atI_last) ?_);refine qdW ⟨_,rfl,?_⟩;by_cases an:c=d
  .rw [yQ an];refine yq ?_;obtain ⟨t0,X⟩:=hl.ne;obtain ⟨eh,A⟩:=D.ne;ext;refine .inl (qao R (v:=.str (S.bas v)) (qL (j:=0) (by rw [X];rfl)) ?_);ext;refine .inl (qao am (v:=.str (S.bas w)) (qL (j:=0) (by rw [A];rfl)) ?_);refine qdW ⟨_,rfl,?_⟩;by_cases ag:S.bas v=S.bas w
   .rw [yQ ag];refine yq ?_;exact q1 H2 S [] (by rw [Yl];exact h2) (Bx.of aq) I ag (Mono.refl S)
   .rw [yl ag];refine zg ?_;obtain ⟨l1,m,l2,U,aj,ao,tf,br⟩:=qcL l' (l:=l) ⟨c,by rw [ax];simp,by rw [ay,an];simp⟩;obtain ⟨m1,m2,O⟩:=Yg aj;obtain ⟨cv,dh⟩:=hl.meet I hv hw D U O ao;rw [cv] at O;have eb:m∉m1:=fun z=>by rw [O] at C;exact (yZ.mp C).2.2 m z m (by simp) rfl
    have dz:m∉l1:=fun z=>ao m z aj;ext;refine .inl ⟨⟨_,.of R⟩,qF (xs:=l.map V.str) (fun i ys J=>J=H2/\ys=((l.take i).filter fun d=>decide (d∈l')).map V.str) ⟨rfl,rfl⟩ (fun i ys J _ hp=>by rw [hp.1];exact .of R) (fun i y ys J hy hp=>?_) fun ys J hp=>?_⟩
    .obtain ⟨rfl,rfl⟩:=hp;rw [yd] at hy;obtain ⟨z,hz,rfl⟩:=yn.mp hy
     have az:(l.take (i+1)).filter (fun d=>decide (d∈l'))=(l.take i).filter (fun d=>decide (d∈l'))++(if z∈l' then [z] else []):=by
      rw [yG,hz,y9];show _++[z].filter _=_;rw [yV];simp only [decide_eq_true_eq,Yq]
     have ee:=(yc.mp hz).1;have dj:=yI (fun d=>decide (d∈l')) (l.take i);rw [yJ] at dj;ext;refine qdo am ⟨_,rfl,?_⟩;rw [az];by_cases G:z∈l'
     .rw [yQ G,yK G];refine zg ?_;ext;exact ⟨by rw [ya];exact qg (by omega),rfl,by rw [yF];rfl⟩
     .rw [yl G,yD G,Yl];refine yq ?_;exact ⟨rfl,rfl⟩
    .obtain ⟨rfl,rfl⟩:=hp;rw [show (l.map V.str).length=l.length from ya _,yN,br];have dr:=yI (fun d=>decide (d∈l')) l;rw [br] at dr;refine ⟨by rw [ya];exact yS (qg (by omega)),fun cl bu=>?_⟩;have s3:=qD aq (o:=.lst ((m::tf).map V.str)) bu;have bd:=qD (Sr J) (o:=.lst ((m::tf).map V.str)) bu;have bi:upd J cl (.lst ((m::tf).map V.str)) cl=some (.lst ((m::tf).map V.str)):=qb;generalize upd J cl (.lst ((m::tf).map V.str))=H3 at s3 bd bi;ext;refine .inl (qao bi (v:=.str m) (qL (j:=0) rfl) ?_);have h3:=h.same s3;have ae:=bd _ _ R;have bn:=bd _ _ am;ext;refine ⟨a.x,dx,fs,rfl,s3 _ _ ak,ba _ (by decide +kernel),?_⟩;ext;refine ⟨.inl ⟨rfl,_,.of ae⟩,?_⟩;ext;refine ⟨o1,l,m,rfl,rfl,.of ae,by rw [U];simp,_,rfl,?_⟩;rw [show l.idxOf m=l1.length by rw [U] at ai ⊢;exact qcj ai];ext;refine .inl ⟨o1,_,rfl,.of ae,fun c1 aa=>?_⟩;have bj:qcQ (l.map V.str) none (some ((l1.length:Nat):Int))=l1.map V.str:=by rw [qaU,U,yF,List.take_left' (by simp)]
     rw [bj];have s4:=qD s3 (o:=.lst (l1.map V.str)) aa;have cq:=qD (Sr H3) (o:=.lst (l1.map V.str)) aa;have ac:upd H3 c1 (.lst (l1.map V.str)) c1=some (.lst (l1.map V.str)):=qb;have n1:=h3.new aa;generalize upd H3 c1 (.lst (l1.map V.str))=H4 at s4 cq ac;have h4:=h.same s4
     have av:∀ {x y:Str} {rx k W:List Str},S.rows x=some rx->(∀ u∈rx,u∈ss)->Ch (pt qs) S (S.bas x) k->k=W++m::l2->∀ c∈W,∃ q rz t,pt qs c=some q/\S.rows q=none/\q∈ss/\rx=rz++q::t:=fun {x y rx k W} hx hs hk ek c hc=>by
      obtain ⟨a',b',ea⟩:=Yg hc;have bm:k=a'++c::(b'++m::l2):=by rw [ek,ea];simp
      obtain ⟨_,_,_,_,g3,_⟩:=hk.up I hx rfl bm;rcases g3.cases' with ⟨_,z⟩ | ⟨q,_,hq,_⟩
      .simp at z
      .obtain ⟨rz,t,W,_,k3,_⟩:=hk.suf I hx bm hq;exact ⟨q,rz,_,hq,k3,hs q (by rw [W];simp),W⟩
     ext;refine ⟨H0,a,ss,ns,qs,S,dn,wt,.non,v,w,c1,l1,rv,g,rfl,h4,b.few,ac,n1,hv,hw,au,al,(I.alt v rv hv).nd,?_,?_,b.qn,av (y:=v) hv dw hl U,fun N p ap H5 S1 h5 bf cg bo ca cd bx R1 dk=>?_⟩
     .rw [U] at ai;exact (yZ.mp ai).1
     .rw [U,yt] at Z;omega
     have ed:o1∉a.six:=fun z=>du (Fo.sub _ z);have cp:o2∉a.six:=fun z=>dv (Fo.sub _ z);have af:=bf _ _ cp (cq _ _ bn);ext;refine ⟨.inl ⟨rfl,_,.of bo⟩,?_⟩;ext;obtain ⟨ct,db,cj,_,_,_,cm⟩:=id h5.obj;refine ⟨a.x,ct,db,rfl,cj,cm _ (by decide +kernel),?_⟩;ext;refine ⟨.inl ⟨rfl,_,.of af⟩,?_⟩;ext;refine ⟨o2,l',m,rfl,rfl,.of af,aj,_,rfl,?_⟩;rw [show l'.idxOf m=m1.length by rw [O] at C ⊢;exact qcj C];ext;refine .inl ⟨o2,_,rfl,.of af,fun c2 ah=>?_⟩;have aw:qcQ (l'.map V.str) none (some ((m1.length:Nat):Int))=m1.map V.str:=by rw [qaU,O,yF,List.take_left' (by simp)]
     rw [aw];have s6:=qD (Sr H5) (o:=.lst (m1.map V.str)) ah;have ad:upd H5 c2 (.lst (m1.map V.str)) c2=some (.lst (m1.map V.str)):=qb;have n2:=h5.new ah;generalize upd H5 c2 (.lst (m1.map V.str))=H6 at s6 ad;have h6:=h5.same s6
     have co:∀ c∈m1,∀ q,pt qs c=some q->S.rows q=none->S1.rows q=none:=fun c hc q hq hn=>by
      cases e:S1.rows q with
      | none=>rfl
      | some r =>
       exfalso;rcases R1.new q r e with z | ⟨c',hc',z,_⟩
       .rw [hn] at z;cases z
       .have e1:=b.gr.fs z;rw [b.gr.fs hq] at e1;rw [<- ym e1] at hc';exact ao c hc' (by rw [O];exact yE _ hc)
     ext;refine ⟨H0,a.add N,ss,ns,qs,S1,dn,wt++ap,.non,w,v,c2,m1,g,rv,rfl,h6,b.few,ad,n2,R1.old _ _ hw,R1.old _ _ hv,al,au,(I.alt w g hw).nd,?_,?_,b.qn,fun c hc=>?_,fun t2 s bc H7 S2 h7 bg ef cy cb ce bz R2 dl=>?_⟩
     .rw [O] at C;exact (yZ.mp C).1
     .rw [O,yt] at L;omega
     .obtain ⟨q,rz,t,W,k2,k3,k4⟩:=av (y:=v) hw dy D O c hc;exact ⟨q,rz,t,W,co c hc q W k2,k3,k4⟩
     have be:N∉a.six:=h4.new cg;have bp:H7 N=some (.lst (p.map V.str)):=bg _ _ be (s6 _ _ bo);ext;refine ⟨N,t2,_,_,rfl,rfl,bp,cy,by rw [ya,ya,Yy];rw [U,yt] at Z;rw [O,yt] at L;omega,?_⟩;have h8:=h7.updE (c:=N) (o:=.lst (p.map V.str++s.map V.str)) (by simp [Fo.add]);obtain ⟨xs,di,eg⟩:=h.rng;have bv:=dl _ (s6 _ _ (dk _ (s4 _ _ di)));have dt:a.dg≠N:=fun z=>be (by rw [<- z];simp [Fo.six]);have bq:upd H7 N (.lst (p.map V.str++s.map V.str)) N=some (.lst ((p++s).map V.str)):=by rw [qb,yF]
     have ar:upd H7 N (.lst (p.map V.str++s.map V.str)) a.dg=some (.lst xs):=by rw [qe dt];exact bv
     have bh:Bx a.six H (upd H7 N (.lst (p.map V.str++s.map V.str))):=fun e o n k=>by
      have ne:e≠N:=fun z=>by rw [z,s4.free cg] at k;cases k
      rw [qe ne];exact bg _ _ n (s6 _ _ (bf _ _ n (s4 _ _ k)))
     generalize upd H7 N (.lst (p.map V.str++s.map V.str))=H8 at h8 bq ar bh
     have ec:0<ap.length+bc.length:=by
      rw [bx,bz];rcases l1 with _ | ⟨x,r⟩
      .rcases m1 with _ | ⟨x,r⟩
       .rw [U] at X;rw [O] at A;exact absurd ((xk X).1.symm.trans (xk A).1) ag
       .simp
      .simp;omega
     ext;obtain ⟨cu,dc,ck,_,_,_,cn⟩:=id h8.obj;refine ⟨a.x,cu,dc,rfl,ck,cn _ (by decide +kernel),?_⟩;ext;refine ⟨H0,(a.add N).add t2,ss,ns,qs,S2,dn,wt++ap++bc,.non,N,p++s,m,xs,rfl,h8,b.few,bq,be,?_,ar,?_,fun H9 h9 cs=>?_⟩
     .rw [yt,cd,ce];rw [U,yt] at Z;rw [O,yt] at L;omega
     .rw [<- yY,<- yY,yt,yt (as:=dn++wt)];omega
     have dq:∀ u,u∈p++s++[m]↔InR (pt qs) m (l1++m1) u:=fun u=>by
      rw [yx,yx,ca,cb,yB];unfold InR;constructor
      .rintro ((⟨c,hc,z⟩ | ⟨c,hc,z⟩) | z)
       .exact .inr ⟨c,yE _ hc,z⟩
       .exact .inr ⟨c,yH _ hc,z⟩
       .exact .inl z
      .rintro (z | ⟨c,hc,z⟩)
       .exact .inr z
       .rcases yx.mp hc with y | y
        .exact .inl (.inl ⟨c,y,z⟩)
        .exact .inl (.inr ⟨c,y,z⟩)
     have bt:S2.bas=S.bas:=by rw [R2.bas,R1.bas]
     have bw:∀ u,InR (pt qs) m (l1++m1) (S.bas u)->u∈ss:=fun u M=>by
      cases e:S.rows u with
      | some r=>exact Y e
      | none =>
       rw [I.own e] at M;rcases M with z | ⟨c,hc,z⟩
       .obtain ⟨r,k,_⟩:=hl.bs0 I hv (c:=m) (by rw [U];simp);rw [z];exact Y k
       .have df:∃ r,S.rows c=some r:=by
         rcases yx.mp hc with y | y
         .exact (hl.bs0 I hv (by rw [U];exact yE _ y)).elim fun r k=>⟨r,k.1⟩
         .exact (D.bs0 I hw (by rw [O];exact yE _ y)).elim fun r k=>⟨r,k.1⟩
        obtain ⟨r,k⟩:=df;rcases z with z | z
        .rw [z];exact Y k
        .exact b.inn _ _ (b.gr.as (b.gr.fa z))
     have hM:Mg (pt qs) S (S2.setBas (wnL S2 ss (p++s) m) m) v w m l1 m1:=by
      have ci:∀ u,u∈wnL S2 ss (p++s) m↔u∈ss/\InR (pt qs) m (l1++m1) (S.bas u):=fun u=>by
       unfold wnL;rw [yp,Ye,dq,bt]
      have nr:∀ {u:Str} {r:List Str},NewRow S1 w v u r->NewRow S w v u r:=fun ⟨a1,a2,a3,a4,W,k2,k3⟩=>by
       rw [R1.old _ _ hw] at W;rw [R1.old _ _ hv] at k2;cases W;cases k2;exact ⟨_,_,a3,a4,hw,hv,k3⟩
      refine ⟨by show S2.par=S.par;rw [R2.par,R1.par],fun u r e=>R2.old _ _ (R1.old _ _ e),fun u r e=>?_,fun c hc q hq=>?_,fun u M=>?_,fun u M=>?_⟩
      .rcases R2.new u r e with z | ⟨c,hc,W,k2⟩
       .rcases R1.new u r z with z | z
        .exact .inl z
        .exact .inr (.inl z)
       .exact .inr (.inr ⟨c,hc,W,nr k2⟩)
      .rcases yx.mp hc with y | y
       .obtain ⟨r,k⟩:=R1.all c y q hq;exact ⟨r,R2.old _ _ k⟩
       .exact R2.all c y q hq
      .show (if u∈wnL S2 ss (p++s) m then m else S2.bas u)=m;rw [yK ((ci u).mpr ⟨bw u M,M⟩)]
      .show (if u∈wnL S2 ss (p++s) m then m else S2.bas u)=S.bas u;rw [yD (fun z=>M ((ci u).mp z).2),bt]
     have hI:=I.merge b.gr hv hw (U ▸ hl) (O ▸ D) (O ▸ ao) (U ▸ dh) ch ag hM
     have dd:InR (pt qs) m (l1++m1) (S.bas v):=by
      rcases l1 with _ | ⟨x,r⟩
      .rw [U] at X;cases X;exact .inl rfl
      .rw [U] at X;cases X;exact .inr ⟨_,by simp,.inl rfl⟩
     have de:InR (pt qs) m (l1++m1) (S.bas w):=by
      rcases m1 with _ | ⟨x,r⟩
      .rw [O] at A;cases A;exact .inl rfl
      .rw [O] at A;cases A;exact .inr ⟨_,by simp,.inl rfl⟩
     refine q1 H9 _ (ap++bc) ?_ (bh.trans cs) hI ((hM.inn v dd).trans (hM.inn w de).symm) ⟨fun u z e=>?_,fun u e=>by rw [hM.par];exact e,hM.old⟩
     .rw [<- yY];exact h9.drop (l:=a.ex) fun c hc=>by simp [Fo.add,hc]
     .by_cases G:InR (pt qs) m (l1++m1) (S.bas u)
      .rw [hM.inn u G,hM.inn z (by rw [<- e];exact G)]
      .rw [hM.out u G,hM.out z (by rw [<- e];exact G),e]
  .rw [yl an];refine zg ?_;ext;refine .inl (h2.obj.rd T 2 rfl ?_);ext;refine h2.rowAt hv fun tv cz=>?_;ext;refine qfe ?_;ext;refine .inl (h2.obj.rd T 2 rfl ?_);ext;refine h2.rowAt hw fun tw da=>?_;ext;refine ⟨1,rfl,?_⟩;refine ⟨_,rfl,rfl,tw,_,rfl,.of da,fun c1 aa=>?_⟩;have N:=qD aq (o:=.lst (g.map V.str).reverse) aa;have cr:=qD (Sr H2) (o:=.lst (g.map V.str).reverse) aa;have ac:upd H2 c1 (.lst (g.map V.str).reverse) c1=some (.lst (g.reverse.map V.str)):=by rw [qb,List.map_reverse]
   generalize upd H2 c1 (.lst (g.map V.str).reverse)=H3 at N cr ac;refine qdD (cr _ _ cz) ac (by rw [ya,ya,Yu];omega) fun c2 ah=>?_;have n2:=(h.same N).newA ah;have t2:=qD N (o:=.lst (rv.map V.str++g.reverse.map V.str)) ah;have ad:upd H3 c2 (.lst (rv.map V.str++g.reverse.map V.str)) c2=some (.lst ((rv++g.reverse).map V.str)):=by rw [qb,yF]
   generalize upd H3 c2 (.lst (rv.map V.str++g.reverse.map V.str))=H4 at t2 ad;obtain ⟨W,k2⟩:=(h.same t2).setL (v:=.ref c2) (t2 _ _ ak) (fun e=>by cases e);ext;refine .inl ⟨a.x,cc 9,dx,fs,rfl,t2 _ _ ak,T.fcl,T.fa _ (by decide +kernel),W,?_⟩;have ds:c2≠a.x:=fun z=>n2 (Fo.sub _ (by rw [z];simp [Fo.six]));exact q2 _ c2 _ k2 ((Bx.of t2).upd (by simp [Fo.six])) (by rw [qe ds];exact ad) n2 (I.aug b.gr hv hw hl D (by rw [ax,ay];simpa using an) ch) (by rw [yt,Yu];omega)
theorem kL:FnScope ["self","place","other","partner"] ["self","place"] (qh qU):=fS
noncomputable def FS.setPar (S:FS) (u p:Str):FS:=⟨S.rows,fun s=>if s=u then some p else S.par s,S.bas⟩
inductive spLa (cc:Nat->Addr) (cw:Addr) (vs:List V) (H:Hp) (Q:VK) (E:XK):Prop|mk (H0:Hp) (a:Fo) (ss:List Str) (ns:List Nat) (qs:List (Str×Str)) (S:FS) (dn wt:List Str) (v:Str) (A:Str->Str->Prop) (_:vs=[.ref a.x,.str v]) (_:FoA (cc 9) cw H0 H a ss ns qs S ss (dn++[v]) wt .non) (_:Wb A ss qs) (_:(∀ s∈ss,zn s=true)) (_:(∀ (j:Nat) z u,ss[j]?=some z->(u∈inB ss 0 (ns.getD j 0)↔A z u))) (_:(∀ z∈ss,pt qs z=none->S.rows z≠none)) (_:FI A (pt qs) S) (_:CI A S (fun u=>u∈dn)) (_:(∀ (H':Hp) (S':FS) (more:List Str),FoA (cc 9) cw H0 H' a ss ns qs S' ss (dn++[v]) (wt++more) .non->Bx a.six H H'->FI A (pt qs) S'->CI A S' (fun u=>u∈dn++[v])->Mono S S'->Q .non H')) (_:∀ (H':Hp) (S':FS) (more:List Str) (t:Addr) (r:List Str),FoA (cc 9) cw H0 H' a ss ns qs S' ss (dn++[v]) (wt++more) (.ref t)->Bx a.six H H'->H' t=some (.lst (r.map V.str))->t∉a.all->Aug A (pt qs) r->r.length<=28->Q .non H')
theorem CI.on (h:CI A S Pd) (m:Mono S S'):CI A S' Pd:=h.mono m.ba m.pa fun u a=>by
 cases e:S.rows u with
 | none=>exact absurd e a
 | some r=>rw [m.ro u r e];exact fun z=>by cases z
theorem FoA.setP {bs wt:List Str} {d:List (Key×V)} {p:Str} (h:FoA (cc 9) cw H0 H a ss ns qs S bs dn wt lo) (D:H a.da=some (.dK d)) (g:u∈ss) (f:S.par u=none):FoA (cc 9) cw H0 (upd H a.da (.dK (zf d (Sum.inr u) (.str p)))) a ss ns qs (S.setPar u p) bs dn wt lo/\d.length<=ss.length:=by
 obtain ⟨F,R,T,U⟩:=h.row;obtain ⟨k',t,N,O⟩:=h.par;obtain ⟨k,v,w,A⟩:=h.bas;obtain ⟨xs,B,C⟩:=h.rng;rw [D] at t;cases t;obtain ⟨⟨W,K,X,Y,Z⟩,⟨L,n7,n8,n9⟩,⟨i,l,m⟩,⟨G,I⟩,J⟩:=(by simpa [Fo.six] using h.sep:(¬a.x=a.dr/\¬a.x=a.da/\¬a.x=a.ds/\¬a.x=a.dg/\¬a.x=a.dw)/\(¬a.dr=a.da/\¬a.dr=a.ds/\¬a.dr=a.dg/\¬a.dr=a.dw)/\(¬a.da=a.ds/\¬a.da=a.dg/\¬a.da=a.dw)/\(¬a.ds=a.dg/\¬a.ds=a.dw)/\¬a.dg=a.dw);have q:Bx a.six H (upd H a.da (.dK (zf d (Sum.inr u) (.str p)))):=(Bx.of (Sr H)).upd (by simp [Fo.six]);obtain ⟨P,M,r,n⟩:=N;refine ⟨⟨qak h.sm (h.fr _ (by simp [Fo.six])),h.web,h.prt,h.fr,h.nd,fun c hc=>⟨(h.exf c hc).1,(h.exf c hc).2.1,(h.exf c hc).2.2.elim fun o e=>⟨o,q _ _ (h.exf c hc).2.1 e⟩⟩,h.obj.eq (qe K),⟨F,by rw [qe L];exact R,T,fun y=>(U y).mono q Fo.sub⟩,⟨_,qb,⟨P++[u],by have:=jy d (Sum.inr u:Key) (.str p);rw [yt];show _<=_+1;omega,yZ.mpr ⟨r,Xk _ _,fun x b y E e=>(n u (by rw [<- yB.mp E,<- e];exact b)).2 f⟩,fun x b=>?_⟩,fun s=>?_⟩,⟨k,by rw [qe (Yb i)];exact v,w,A⟩,⟨xs,by rw [qe (Yb l)];exact B,C⟩,by rw [qe (Yb m)];exact h.wai,h.evn,h.evi,h.evs⟩,yi M (je r fun x b=>(n x b).1)⟩
 .show x∈ss/\(if x=u then some p else S.par x)≠none;by_cases e:x=u
  .rw [yK e,e];exact ⟨g,fun z=>by cases z⟩
  .rw [yD e];exact n x ((yx.mp b).resolve_right fun z=>e (yB.mp z))
 .rw [qaC,O];show _=(if s=u then some p else S.par s).map V.str;by_cases e:s=u
  .subst e;rw [yK rfl,yK rfl];rfl
  .rw [yD (fun x=>e (xv x)),yD e]
theorem ok_la (F:Fun K "look_around" "Forest.look_around" qU f fd) (T:Txt K mg cc cw) (Ki:MethOk P w K mg base CX0 6 cw "beside" ["self","place"] (spBs cw)) (Km:MethOk P w K mg base CX0 3 (cc 9) "bring_together" ["self","one","other"] (spBt cc cw)) (kK:MethOk P w K mg base CX0 1 (cc 9) "reach" ["self","place","row"] (spRe cc cw)):FnOk P w K mg base CX0 7 f fd ["self","place"] (spLa cc cw):=by
 refine F.ok kL fun _ _ _ s H vs Q E hr h=>?_
 .obtain ⟨H0,a,ss,ns,qs,S,dn,wt,v,B,rfl,h,c,bh,av,bc,I,hC,q1,q2⟩:=h;have O:=j9 hr;refine ⟨_,(qf (jp yU rfl (qK (K:=K) rfl (qI Ki (hmR hr) (qz (K:=K) rfl (pv 0) rfl) (qa (pv 1) qd))) (qr (i:=2) kL.nd rfl (yR rfl))
 (qc (qN (qk (qar (K:=K) rfl O) (pv 2) (qz (K:=K) rfl (pv 0) rfl) (by with_unfolding_all rfl)) (qf (qV (qI Km (hmR hr) (pv 0) (qa (pv 1) (qa (pv 2) qd))))) (qf (qN (qk (jt (K:=K) rfl O) (pv 2) (qz (K:=K) rfl (pv 0) rfl) (by with_unfolding_all rfl)) (qc (qq (i:=3) kL.nd rfl (yR rfl) (qv (qw (K:=K) rfl O) (qz (K:=K) rfl (pv 0) rfl) (pv 2) (fun _ _=>rfl)))
 (qc (jV (pv 1) (j6 (qz (K:=K) rfl (pv 0) rfl) (pv 2) (j8 O)))
 (qf (qV (qI kK (hmR hr) (pv 0) (qa (pv 3) (qa (qA (jI (K:=K) rfl) (qv (qw (K:=K) rfl O) (qz (K:=K) rfl (pv 0) rfl) (pv 1) (fun _ _=>rfl)) (qO (qa (pv 2) (qa (pv 3) qd)))) qd))))))) qt)))
 (qf (qN (qk qbi (qz (K:=K) rfl (pv 0) rfl) jU (qx _)) (qf ps_retN) qt))))),?_⟩
  have am:v∈ss:=h.evs v (by simp)
  obtain ⟨rv,az⟩:∃ r,S.rows v=some r:=by
   cases e:S.rows v with
   | none=>exact absurd e ((h.evi v).mp (by simp))
   | some r=>exact ⟨r,rfl⟩
  obtain ⟨j,hj⟩:=yf am;have ae:=h.web.same h.sm;obtain ⟨wx,dd,ol,nn,hb,_⟩:=id ae;ext;refine .inl (h.obj.rd T 0 rfl ?_);refine ⟨a.b,wx,_,rfl,hb,qav (by decide +kernel),?_⟩;ext;refine ⟨a.b,ss,ns,v,j,rfl,ae,hj,fun H1 s1 bl af=>?_⟩;have g:=fun u=>av j v u hj;have M:(inB ss 0 (ns.getD j 0)).length<=14:=yi (qaY _ _ _) c.few;generalize inB ss 0 (ns.getD j 0)=bes at g M ⊢;have bf:=(h.same s1).new af;have s2:=qD s1 (o:=.lst (bes.map V.str)) af;have eb:upd H1 bl (.lst (bes.map V.str)) bl=some (.lst (bes.map V.str)):=qb;generalize upd H1 bl (.lst (bes.map V.str))=H2 at s2 eb;have h2:=h.same s2;refine .inl ⟨⟨_,.of eb⟩,qX (xs:=bes.map V.str) (fun i σ J=>∃ (S':FS) (more:List Str) (Z y3:Option V),σ=[some (.ref a.x),some (.str v),Z,y3]/\FoA (cc 9) cw H0 J a ss ns qs S' ss (dn++[v]) (wt++more) .non/\Bx a.six H2 J/\FI B (pt qs) S'/\Mono S S'/\∀ u∈bes.take i,S'.bas u=S'.bas v\/(S'.par u≠none/\u∉dn++[v])) ⟨S,[],_,_,rfl,by rw [Yl];exact h2,fun _ _ _ e=>e,I,Mono.refl S,(fun u O=>by simp at O)⟩ (fun i σ J _ hp=>?_) (fun i y σ J hy hp=>?_) fun σ J hp=>?_⟩
  .obtain ⟨S',more,Z,y3,rfl,_,t,_⟩:=hp;exact .of (t _ _ bf eb)
  .obtain ⟨S',more,Z,y3,rfl,d,t,D,C,L⟩:=hp;rw [yd] at hy;obtain ⟨u,ai,rfl⟩:=yn.mp hy;have R:B v u:=(g u).mp (ye ai);have ak:u∈ss:=c.inn _ _ (c.gr.as R);have l:=C.ro v rv az;have N:bes.take (i+1)=bes.take i++[u]:=by rw [yG,ai];rfl
   obtain ⟨kr,r1,r2,r3⟩:=d.row;have n:=r3 u;ext;refine .inl (d.obj.rd T 2 rfl ?_);refine .inr (.inl ⟨a.dr,_,rfl,DGet.k (k:=Sum.inr u) r1,?_⟩)
   cases A:S'.rows u with
   | some ru =>
    rw [A] at n;obtain ⟨tu,k1,k2,_⟩:=n;rw [k1];refine ⟨_,rfl,zg ?_⟩;ext;obtain ⟨dx,fs,U,_,_,_,X⟩:=id d.obj;refine ⟨a.x,dx,fs,rfl,U,X _ (by decide +kernel),?_⟩;ext;refine ⟨H0,a,ss,ns,qs,S',dn++[v],wt++more,v,u,rv,ru,B,rfl,d,c,D,l,A,R,fun H5 S5 be h5 G I5 au m5=>?_,fun H5 t5 r5 h5 G e5 n5 aq ax=>?_⟩
    .ext;refine .inl (h5.obj.rd T 7 rfl ?_);ext;refine ⟨rfl,_,rfl,qG (fun h=>by simp at h) fun _=>?_⟩;refine ⟨S5,more++be,_,_,rfl,by rw [<- yY wt];exact h5,t.trans G,I5,C.trans m5,fun z hz=>?_⟩;rw [N] at hz;rcases yx.mp hz with hz | hz
     .exact (L z hz).imp (m5.ba z v) fun y=>⟨m5.pa z y.1,y.2⟩
     .rw [yB.mp hz];exact .inl au.symm
    .ext;refine .inl (h5.obj.rd T 7 rfl ?_);ext;refine ⟨rfl,_,rfl,zg ?_⟩;exact q2 H5 S' more t5 r5 h5 (((Bx.of s2).trans t).trans G) e5 n5 aq ax
   | none =>
    rw [A] at n;have ah:jT kr (.inr u:Key)=none:=n;rw [ah];have aj:u∉dn++[v]:=fun z=>(d.evi u).mp (yE _ z) A;refine ⟨_,rfl,qG (fun h=>by cases h) fun _=>?_⟩;obtain ⟨ka,p1,p2,p3⟩:=d.par;ext;refine .inl (d.obj.rd T 3 rfl ?_);refine .inr (.inl ⟨a.da,_,rfl,DGet.k (k:=Sum.inr u) p1,?_⟩);rw [p3]
    cases ep:S'.par u with
    | some z =>
     refine ⟨_,rfl,qG (fun h=>by cases h) fun _=>?_⟩;ext;refine .inl (d.obj.rd T 7 rfl ?_);ext;refine ⟨rfl,_,rfl,qG (fun h=>by simp at h) fun _=>?_⟩;refine ⟨S',more,_,_,rfl,d,t,D,C,fun z hz=>?_⟩;rw [N] at hz;rcases yx.mp hz with hz | hz
     .exact L z hz
     .rw [yB.mp hz];exact .inr ⟨by rw [ep];exact (fun y=>by cases y),aj⟩
    | none =>
     refine ⟨_,rfl,zg ?_⟩
     obtain ⟨y,q⟩:∃ y,pt qs u=some y:=by
      cases e:pt qs u with
      | some y=>exact ⟨y,rfl⟩
      | none =>
       exfalso;have k:=bc u ak e
       cases e2:S.rows u with
       | none=>exact k e2
       | some r=>rw [C.ro u r e2] at A;cases A
     have bd:y∈ss:=c.inn _ _ (c.gr.as (c.gr.fa q));have an:=D.fresh c.gr A ep q;have ay:=d.sm _ _ h.prt;obtain ⟨Y,bg⟩:=d.setP (p:=v) p1 ak ep;have bj:=c.few;ext;refine .inl (d.obj.rd T 1 rfl ?_);ext;refine qdu ay (by rw [zC,q];rfl) ?_;ext;refine .inl (d.obj.rd T 3 rfl ?_);ext;refine .inr ⟨a.da,_,rfl,DPut.k (k:=Sum.inr u) p1 (by rw [Yy];omega),?_⟩;have aa:Bx a.six H2 (upd J a.da (.dK (zf ka (Sum.inr u) (.str v)))):=t.upd (by simp [Fo.six]);generalize upd J a.da (.dK (zf ka (Sum.inr u) (.str v)))=J3 at Y aa;ext;obtain ⟨dx,fs,U,_,_,_,X⟩:=id Y.obj;refine ⟨a.x,dx,fs,rfl,U,X _ (by decide +kernel),?_⟩;ext;refine .inl (Y.obj.rd T 2 rfl ?_);ext;refine Y.rowAt (S:=S'.setPar u v) l fun tv ap=>?_;ext;refine ⟨by show 2<=sizeLine;decide,fun c1 aw=>?_⟩;have t1:=qD (Sr J3) (o:=.lst [.str u,.str y]) aw;have ac:upd J3 c1 (.lst [.str u,.str y]) c1=some (.lst [.str u,.str y]):=qb;generalize upd J3 c1 (.lst [.str u,.str y])=J4 at t1 ac;have bi:=((D.alt v rv l).inn c am).1;refine qdD (t1 _ _ ap) ac (by rw [ya];show _+2<=_;omega) fun c2 ag=>?_;have n2:=(Y.same t1).newA ag;have t2:=qD t1 (o:=.lst (rv.map V.str++[.str u,.str y])) ag;have ad:upd J4 c2 (.lst (rv.map V.str++[.str u,.str y])) c2=some (.lst ((rv++[u,y]).map V.str)):=by rw [qb,yF];rfl
     generalize upd J4 c2 (.lst (rv.map V.str++[.str u,.str y]))=J5 at t2 ad;ext;refine ⟨H0,a,ss,ns,qs,S'.setPar u v,ss,dn++[v],wt++more,.non,y,c2,rv++[u,y],rfl,Y.same t2,c.few,ad,n2,bd,an,fun H6 h6 ao _=>?_⟩;have W:Gw S' ((S'.setPar u v).setRow y (rv++[u,y])) v u y rv:=⟨yK rfl,fun s hs=>yD hs,yK rfl,fun s hs=>yD hs,rfl⟩;have I6:=D.grow c.gr l R A ep q W
     have m6:Mono S' ((S'.setPar u v).setRow y (rv++[u,y])):=⟨fun _ _ e=>e,fun z hz=>by
      show (if z=u then some v else S'.par z)≠none;split
      .exact fun x=>by cases x
      .exact hz,fun z r e=>by rw [W.ro z (fun x=>by rw [x,an] at e;cases e)];exact e⟩
     ext;refine .inl (h6.obj.rd T 7 rfl ?_);ext;refine ⟨rfl,_,rfl,qG (fun h=>by simp at h) fun _=>?_⟩;refine ⟨_,more++[y],_,_,rfl,by rw [<- yY wt];exact h6,(aa.trans (Bx.of t2)).trans ao,I6,C.trans m6,fun z hz=>?_⟩;rw [N] at hz;rcases yx.mp hz with hz | hz
     .exact (L z hz).imp (m6.ba z v) fun y=>⟨m6.pa z y.1,y.2⟩
     .rw [yB.mp hz];exact .inr ⟨by rw [W.pu];exact (fun x=>by cases x),aj⟩
  .obtain ⟨S',more,Z,y3,rfl,d,t,D,C,L⟩:=hp;rw [ya,yN] at L;refine q1 J S' more d ((Bx.of s2).trans t) D ?_ C;have ar:=hC.on C;refine ⟨fun z u hz m=>?_,fun z hz=>?_⟩
   .rcases yx.mp hz with hz1 | hz1
    .by_cases al:u=v
     .rw [al] at m ⊢;rcases L z ((g z).mpr (c.gr.as m)) with y | y
      .exact .inl y.symm
      .exact absurd (yE _ hz1) y.2
     .rcases ar.cl z u hz1 m with y | ⟨y1,Z⟩
      .exact .inl y
      .exact .inr ⟨y1,fun x=>(yx.mp x).elim Z fun x=>al (yB.mp x)⟩
    .rw [yB.mp hz1] at m ⊢;exact L u ((g u).mpr m)
   .exact (d.evi z).mp (yE _ hz)
theorem Kr:FnScope ["self","place"] ["self"] (qh jN):=fS
structure FoD (cf cw:Addr) (H0 H:Hp) (a:Fo) (ss:List Str) (ns:List Nat) (qs:List (Str×Str)) (S:FS) (dn wt:List Str) (lo:V) (A:Str->Str->Prop):Prop where
 fo:FoA cf cw H0 H a ss ns qs S ss dn wt lo
 en:(lo=.non/\wt=[]/\FI A (pt qs) S/\CI A S (fun u=>u∈dn)/\∀ z∈ss,pt qs z=none->S.rows z≠none)\/∃ t r,lo=.ref t/\H t=some (.lst (r.map V.str))/\t∉a.all/\Aug A (pt qs) r/\r.length<=28
noncomputable def S0:FS:=⟨fun _=>none,fun _=>none,fun s=>s⟩
noncomputable def SI (qs:List (Str×Str)) (l:List Str):FS:=⟨fun s=>if s∈l/\pt qs s=none then some [s] else none,fun _=>none,fun s=>s⟩
theorem SI_nil (qs:List (Str×Str)):SI qs []=S0:=by unfold SI S0;simp
theorem SI_on {l:List Str} (h:pt qs z=none):SI qs (l++[z])=(SI qs l).setRow z [z]:=by
 unfold SI FS.setRow
 congr 1
 funext s;dsimp only;by_cases e:s=z
 .subst e;rw [yK ⟨by simp,h⟩,yK rfl]
 .rw [yD e];have:s∈l++[z]↔s∈l:=by simp [e]
  simp only [this]
theorem SI_off {l:List Str} (h:pt qs z≠none):SI qs (l++[z])=SI qs l:=by
 unfold SI
 congr 1
 funext s;by_cases e:s=z
 .subst e;rw [yD (fun k=>h k.2),yD (fun k=>h k.2)]
 .have:s∈l++[z]↔s∈l:=by simp [e]
  simp only [this]
inductive spGw (cc:Nat->Addr) (cw:Addr) (vs:List V) (H:Hp) (Q:VK) (E:XK):Prop|mk (H0:Hp) (a:Fo) (ss:List Str) (ns:List Nat) (qs:List (Str×Str)) (A:Str->Str->Prop) (_:vs=[.ref a.x]) (_:FoA (cc 9) cw H0 H a ss ns qs S0 [] [] [] .non) (_:Wb A ss qs) (_:(∀ s∈ss,zn s=true)) (_:(∀ (j:Nat) z u,ss[j]?=some z->(u∈inB ss 0 (ns.getD j 0)↔A z u))) (_:∀ (H':Hp) (S:FS) (dn wt:List Str) (lo:V),FoD (cc 9) cw H0 H' a ss ns qs S dn wt lo A->Bx a.six H H'->Q .non H')
theorem ix_natF {k:Nat} (h:k<n):seqIndex? (k:Int) n=some k:=by
 unfold seqIndex?;simp;omega
theorem nin_prF {d:Addr} {Q:VK} (a:H d=some (.dK (prK qs))) (q:Q (.bl (!(pt qs s).isSome)) H):qdO K true (.str s) (.ref d) H Q:=by
 refine .inr (.inl ⟨d,_,rfl,DGet.k (k:=Sum.inr s) a,?_⟩);rw [zC,yK rfl,xT];exact q
theorem FoA.ne {bs wt:List Str} (h:FoA (cc 9) cw H0 H a ss ns qs S bs dn wt lo):(¬a.x=a.dr/\¬a.x=a.da/\¬a.x=a.ds/\¬a.x=a.dg/\¬a.x=a.dw)/\(¬a.dr=a.da/\¬a.dr=a.ds/\¬a.dr=a.dg/\¬a.dr=a.dw)/\(¬a.da=a.ds/\¬a.da=a.dg/\¬a.da=a.dw)/\(¬a.ds=a.dg/\¬a.ds=a.dw)/\¬a.dg=a.dw:=by simpa [Fo.six] using h.sep
theorem FoA.setN {bs wt:List Str} {ks:List (Key×V)} (h:FoA (cc 9) cw H0 H a ss ns qs S bs dn wt lo) (q:H a.ds=some (.dK ks)) (hz:S.bas z=z):FoA (cc 9) cw H0 (upd H a.ds (.dK (zf ks (Sum.inr z) (.str z)))) a ss ns qs S (bs++[z]) dn wt lo/\ks.length<=bs.length:=by
 obtain ⟨t,G,I,J⟩:=h.row;obtain ⟨s,D,E,F⟩:=h.par;obtain ⟨k,g,l,m⟩:=h.bas;obtain ⟨xs,n,p⟩:=h.rng;rw [q] at g;cases g;obtain ⟨⟨K,L,B,M,N⟩,⟨O,C,P,R⟩,⟨b,v,w⟩,⟨d,f⟩,A⟩:=h.ne;have i:Bx a.six H (upd H a.ds (.dK (zf ks (Sum.inr z) (.str z)))):=(Bx.of (Sr H)).upd (by simp [Fo.six]);refine ⟨⟨qak h.sm (h.fr _ (by simp [Fo.six])),h.web,h.prt,h.fr,h.nd,fun c hc=>⟨(h.exf c hc).1,(h.exf c hc).2.1,(h.exf c hc).2.2.elim fun o e=>⟨o,i _ _ (h.exf c hc).2.1 e⟩⟩,h.obj.eq (qe B),⟨t,by rw [qe C];exact G,I,fun y=>(J y).mono i Fo.sub⟩,⟨s,by rw [qe b];exact D,E,F⟩,⟨_,qb,by have:=jy ks (Sum.inr z:Key) (.str z);rw [yt];show _<=_+1;omega,fun u r=>?_⟩,⟨xs,by rw [qe (Yb d)];exact n,p⟩,by rw [qe (Yb f)];exact h.wai,h.evn,h.evi,h.evs⟩,l⟩;rw [qaC];by_cases e:u=z
 .subst e;rw [yK rfl,hz]
 .rw [yD (fun x=>e (xv x))];exact m u ((yx.mp r).resolve_right fun y=>e (yB.mp y))
theorem FoA.pop {bs wt:List Str} (h:FoA (cc 9) cw H0 H a ss ns qs S bs dn (v::wt) lo):FoA (cc 9) cw H0 (upd H a.dw (.lst (wt.map V.str))) a ss ns qs S bs (dn++[v]) wt lo:=by
 obtain ⟨s,D,E,F⟩:=h.row;obtain ⟨r,A,B,C⟩:=h.par;obtain ⟨k,l,m,n⟩:=h.bas;obtain ⟨xs,p,q⟩:=h.rng;obtain ⟨⟨G,I,J,K,x⟩,⟨L,M,N,z⟩,⟨t,u,d⟩,⟨w,f⟩,g⟩:=h.ne;have b:dn++[v]++wt=dn++v::wt:=by simp
 have i:Bx a.six H (upd H a.dw (.lst (wt.map V.str))):=(Bx.of (Sr H)).upd (by simp [Fo.six]);exact ⟨qak h.sm (h.fr _ (by simp [Fo.six])),h.web,h.prt,h.fr,h.nd,fun c hc=>⟨(h.exf c hc).1,(h.exf c hc).2.1,(h.exf c hc).2.2.elim fun o e=>⟨o,i _ _ (h.exf c hc).2.1 e⟩⟩,h.obj.eq (qe x),⟨s,by rw [qe z];exact D,by rw [b];exact E,fun y=>(F y).mono i Fo.sub⟩,⟨r,by rw [qe d];exact A,B,C⟩,⟨k,by rw [qe f];exact l,m,n⟩,⟨xs,by rw [qe g];exact p,by rw [b];exact q⟩,qb,by rw [b];exact h.evn,by rw [b];exact h.evi,by rw [b];exact h.evs⟩
theorem ok_gw (F:Fun K "grow" "Forest.grow" jN f fd) (T:Txt K mg cc cw) (kP:MethOk P w K mg base CX0 1 cw "places" ["self"] (spPls cw)) (kK:MethOk P w K mg base CX0 1 (cc 9) "reach" ["self","place","row"] (spRe cc cw)) (Ks:MethOk P w K mg base CX0 7 (cc 9) "look_around" ["self","place"] (spLa cc cw)):FnOk P w K mg base CX0 8 f fd ["self"] (spGw cc cw):=by
 refine F.ok Kr fun _ _ _ _ H vs Q E hr h=>?_
 .obtain ⟨H0,a,ss,ns,qs,B,rfl,h,G,an,aj,q⟩:=h;have hu:=j9 hr;have ap:=G.few;refine ⟨_,(qc (jp yU rfl (qK (K:=K) rfl (qZ kP (hmR hr) (qz (K:=K) rfl (pv 0) rfl))) (qr (i:=1) Kr.nd rfl (yR rfl))
 (qc (jV (pv 1) (j6 (qz (K:=K) rfl (pv 0) rfl) (pv 1) (j8 hu)))
 (qf (qN (qk (jt (K:=K) rfl hu) (pv 1) (qz (K:=K) rfl (pv 0) rfl) (by with_unfolding_all rfl)) (qf (qV (qI kK (hmR hr) (pv 0) (qa (pv 1) (qa (qO (qa (pv 1) qd)) qd))))) qt))))
 (qf (qaB yU (PW.pt (qaw (qk qb6 (qp (jK (K:=K) rfl) rfl T.b_len Yz (qa (qz (K:=K) rfl (pv 0) rfl) qd)) qi (qx _)) (zx (qk qeh (qz (K:=K) rfl (pv 0) rfl) jU (qx _)))))
 (qf (qV (qI Ks (hmR hr) (pv 0) (qa (qbu (K:=K) rfl yP Xs Xu qbP (qz (K:=K) rfl (pv 0) rfl) (qa qi qd)) qd))))))),?_⟩
  have ac:=h.web.same h.sm;obtain ⟨wx,dd,ol,nn,hb,_⟩:=id ac;ext;refine .inl (h.obj.rd T 0 rfl ?_);refine ⟨a.b,wx,_,rfl,hb,qav (by decide +kernel),?_⟩;ext;refine ⟨a.b,ss,ns,rfl,ac,fun pl ae=>?_⟩;have as:=h.new ae;have s1:=qD (Sr H) (o:=.lst (ss.map V.str)) ae;have e1:upd H pl (.lst (ss.map V.str)) pl=some (.lst (ss.map V.str)):=qb;generalize upd H pl (.lst (ss.map V.str))=H1 at s1 e1;refine .inl ⟨⟨_,.of e1⟩,qX (xs:=ss.map V.str) (fun i R J=>∃ (p:List Str) (Y:Option V),R=[some (.ref a.x),Y]/\FoA (cc 9) cw H0 J a ss ns qs (SI qs (ss.take i)) (ss.take i) [] p .non/\Bx a.six H1 J) ⟨[],_,rfl,by rw [Yw,SI_nil];exact h.same s1,fun _ _ _ e=>e⟩ (fun i R J _ n=>?_) (fun i y R J hy n=>?_) fun R J n=>?_⟩
  .obtain ⟨p,Y,rfl,_,Z⟩:=n;exact .of (Z _ _ as e1)
  .obtain ⟨p,Y,rfl,X,Z⟩:=n;rw [yd] at hy;obtain ⟨z,hz,rfl⟩:=yn.mp hy;have aw:=(yc.mp hz).1;have ar:=ye hz;have af:ss.take (i+1)=ss.take i++[z]:=by rw [yG,hz];rfl
   obtain ⟨ks,b1,b2,b3⟩:=X.bas;rw [yJ] at b2;obtain ⟨D,_⟩:=X.setN (z:=z) b1 rfl;ext;refine .inl (X.obj.rd T 4 rfl ?_);ext;refine .inr ⟨a.ds,_,rfl,DPut.k (k:=Sum.inr z) b1 (by rw [Yy];omega),?_⟩;have s:Bx a.six H1 (upd J a.ds (.dK (zf ks (Sum.inr z) (.str z)))):=Z.upd (by simp [Fo.six]);generalize upd J a.ds (.dK (zf ks (Sum.inr z) (.str z)))=J2 at D s;have ao:=D.sm _ _ h.prt;ext;refine .inl (D.obj.rd T 1 rfl ?_);refine nin_prF ao ⟨_,rfl,?_⟩
   cases ez:pt qs z with
   | some y =>
    refine yq ?_;exact ⟨p,_,rfl,by rw [af,SI_off (by rw [ez];exact fun k=>nomatch k)];exact D,s⟩
   | none =>
    refine zg ?_;ext;obtain ⟨dx,fs,N,_,_,_,O⟩:=id D.obj;refine ⟨a.x,dx,fs,rfl,N,O _ (by decide +kernel),?_⟩;ext;refine ⟨by show 1<=sizeLine;decide,fun c1 ad=>?_⟩;have n1:=D.newA ad;have t1:=qD (Sr J2) (o:=.lst [.str z]) ad;have aa:upd J2 c1 (.lst [.str z]) c1=some (.lst ([z].map V.str)):=qb;generalize upd J2 c1 (.lst [.str z])=J3 at t1 aa
    have aq:z∉ss.take i:=fun y=>by
     obtain ⟨j,hj⟩:=yf y;have ak:=(yc.mp hj).1;rw [yJ] at ak;rw [List.getElem?_take,yK (by omega)] at hj;have:=qM G.nd hj hz;omega
    ext;refine ⟨H0,a,ss,ns,qs,SI qs (ss.take i),ss.take i++[z],[],p,.non,z,c1,[z],rfl,D.same t1,ap,aa,n1,ar,yD (fun k=>aq k.1),fun H6 h6 ah _=>?_⟩;exact ⟨p++[z],_,rfl,by rw [af,SI_on ez];exact h6,(s.trans (Bx.of t1)).trans ah⟩
  .obtain ⟨p,Y,rfl,X,Z⟩:=n;rw [ya,yN] at X;have ag:Bx a.six H J:=(Bx.of s1).trans Z
   have IJ:FI B (pt qs) (SI qs ss):=FI.start (fun v r e=>by
    have e':(if v∈ss/\pt qs v=none then some [v] else none)=some r:=e;split at e'
    .rename_i k;exact ⟨k.2,(ym e').symm⟩
    .cases e') (fun _=>rfl) fun _=>rfl
   ext;obtain ⟨W,g⟩:∃ W:Nat->L2.St->Hp->Prop,W=fun m R J=>∃ (S:FS) (dn wt:List Str) (lo:V) (Y:Option V),R=[some (.ref a.x),Y]/\Bx a.six H J/\((lo=.non/\m=15-dn.length/\FoA (cc 9) cw H0 J a ss ns qs S ss dn wt .non/\FI B (pt qs) S/\CI B S (fun u=>u∈dn)/\∀ z∈ss,pt qs z=none->S.rows z≠none)\/(lo≠.non/\m=0/\FoD (cc 9) cw H0 J a ss ns qs S dn wt lo B)):=⟨_,rfl⟩;refine ⟨W,⟨15,by rw [g];exact ⟨SI qs ss,[],p,.non,_,rfl,ag,.inl ⟨rfl,rfl,X,IJ,⟨(fun v u k=>by cases k),(fun v k=>by cases k)⟩,fun z hz e=>by show (if _ then _ else _)≠none;rw [yK ⟨hz,e⟩];exact fun k=>by cases k⟩⟩⟩,fun m R J hW=>?_⟩;rw [g] at hW;obtain ⟨S,dn,wt,lo,ax,rfl,d,L⟩:=hW;rcases L with ⟨rfl,hm,l,I,hC,M⟩ | ⟨am,hm,U⟩
   .have c:=l.wai;ext;refine .inl (l.obj.rd T 6 rfl ?_);ext;refine zk c ?_;rw [ya];ext
    cases wt with
    | nil =>
     refine qG (fun h=>by simp at h) fun _=>qG (fun h=>by cases h) fun _=>?_;exact q J S dn [] .non ⟨l,.inl ⟨rfl,rfl,I,hC,M⟩⟩ d
    | cons v wt =>
     refine qG (fun _=>?_) fun h=>absurd (yQ (by simp)) h;ext;refine .inl (l.obj.rd T 7 rfl ?_);ext;refine ⟨_,rfl,zg ⟨fun au H'=>∃ m',m'<m/\W m' au H',fun _ _ z=>z,?_⟩⟩;have av:dn.length+1<=14:=by have:=l.few;rw [yt,yA] at this;omega
     ext;obtain ⟨dx,fs,N,_,_,_,O⟩:=id l.obj;refine ⟨a.x,dx,fs,rfl,N,O _ (by decide +kernel),?_⟩;ext;refine .inl (l.obj.rd T 6 rfl ?_);refine ⟨.inl ⟨rfl,_,.of c⟩,?_⟩;ext;refine ⟨a.dw,_,0,0,.str v,rfl,rfl,c,by decide,by decide,by rw [ya];exact ix_natF (by simp),rfl,?_⟩;have n:=l.pop;have C:Bx a.six H (upd J a.dw (.lst (wt.map V.str))):=d.upd (by simp [Fo.six]);ext;show spLa cc cw _ (upd J a.dw (.lst (wt.map V.str))) _ _;generalize upd J a.dw (.lst (wt.map V.str))=J2 at n C;refine ⟨H0,a,ss,ns,qs,S,dn,wt,v,B,rfl,n,G,an,aj,M,I,hC,fun H5 S5 mo h5 A I5 C5 m5=>?_,fun H5 S5 mo t5 r5 h5 A e5 n5 ai al=>?_⟩
     .refine ⟨15-(dn++[v]).length,by rw [hm,yt];show _-(_+1)<_;omega,?_⟩;rw [g]
      exact ⟨S5,dn++[v],wt++mo,.non,_,rfl,C.trans A,.inl ⟨rfl,rfl,h5,I5,C5,fun z hz e=>(by
       have k:=M z hz e
       cases e2:S.rows z with
       | none=>exact absurd e2 k
       | some r=>rw [m5.ro z r e2];exact fun x=>by cases x)⟩⟩
     .refine ⟨0,by omega,?_⟩;rw [g];exact ⟨S5,dn++[v],wt++mo,.ref t5,_,rfl,C.trans A,.inr ⟨(fun e=>by cases e),rfl,⟨h5,.inr ⟨t5,r5,rfl,e5,n5,ai,al⟩⟩⟩⟩
   .have c:=U.fo.wai;rcases U.en with k | ⟨t,r,rfl,_⟩
    .exact absurd k.1 am
    ext;refine .inl (U.fo.obj.rd T 6 rfl ?_);ext;refine zk c ?_;ext;refine qG (fun _=>?_) (fun _=>qG (fun h=>by cases h) fun _=>q J S dn wt _ U d);ext;refine .inl (U.fo.obj.rd T 7 rfl ?_);ext;refine ⟨_,rfl,qG (fun h=>by cases h) fun _=>?_⟩;exact q J S dn wt _ U d
theorem KG:FnScope ["self","web","pairs"] ["self","web","pairs"] (qh jO):=fS
theorem KP:FnScope ["self"] ["self"] (qh j3):=fS
theorem Kv:FnScope ["self"] ["self"] (qh q8):=fS
noncomputable def qdp (p:Addr) (H:Hp):Hp:=fun b=>if b=p then none else H b
theorem jx {b:Addr} (h:b≠p):qdp p H b=H b:=yD h
theorem lkn {f g:Str} {v:V} {fs:List (Str×V)} (h:f≠g) (k:fs.lookup f=none):(qB g v fs).lookup f=none:=by rw [qy,yD h];exact k
inductive spFi (cc:Nat->Addr) (cw:Addr) (vs:List V) (H:Hp) (Q:VK) (E:XK):Prop|mk (x dx b r:Addr) (ss:List Str) (ns:List Nat) (us:List Addr) (tps qs:List (Str×Str)) (A:Str->Str->Prop) (_:vs=[.ref x,.ref b,.ref r]) (_:H x=some (.ins (cc 9) dx [])) (_:WebAt cw H b ss ns) (_:Adj ss ns tps) (_:Wb A ss qs) (_:(∀ s∈ss,zn s=true)) (_:(∀ (j:Nat) z u,ss[j]?=some z->(u∈inB ss 0 (ns.getD j 0)↔A z u))) (_:PL H r us qs) (_:qs.length<=30) (_:(∀ q∈qs,(q∈tps\/(q.2,q.1)∈tps)/\q.1∈ss/\q.2∈ss/\q.1≠q.2)) (_:∀ (H0 H':Hp) (a:Fo) (S:FS) (dn wt:List Str) (lo:V),a.x=x->a.ex=[]->FoD (cc 9) cw H0 H' a ss ns qs S dn wt lo A->L2.Same (qdp x H) H0->Q .non H')
theorem WebAt.out {b:Addr} {fs:List (Str×V)} (h:WebAt cw H b ss ns) (a:H x=some (.ins (cc 9) dx fs)) (i:b≠x):WebAt cw (qdp x H) b ss ns:=by
 obtain ⟨l,d,ol,n,h1,c,e,f,g⟩:=h;refine ⟨l,d,ol,n,(jx i).trans h1,(jx ?_).trans c,(jx ?_).trans e,(jx ?_).trans f,g⟩
 .exact zw c a (fun z=>by cases z)
 .exact zw e a (fun z=>by cases z)
 .exact zw f a (fun z=>by cases z)
theorem ok_fi (F:Fun K "__init__" "Forest.__init__" jO f fd) (T:Txt K mg cc cw) (KQ:DefOk P w K mg base CX0 9 "partners_in" ["web","pairs"] (spPn cw)) (KR:MethOk P w K mg base CX0 8 (cc 9) "grow" ["self"] (spGw cc cw)):FnOk P w K mg base CX0 10 f fd ["self","web","pairs"] (spFi cc cw):=by
 refine F.ok KG fun _ _ _ s H vs Q E hr h=>?_
 .obtain ⟨x,dx,b,r,ss,ns,us,tps,qs,B,rfl,hx,hW,hA,bv,cj,ch,hP,ck,cl,q⟩:=h;have hu:=j9 hr;refine ⟨_,(qc (jJ (K:=K) rfl (pv 0) (pv 1) rfl)
 (qc (jJ (K:=K) rfl (pv 0) (qu KQ (hmR hr) qE (qa (pv 1) (qa (pv 2) qd))) rfl)
 (qc (jJ (K:=K) rfl (pv 0) zH rfl)
 (qc (jJ (K:=K) rfl (pv 0) zH rfl)
 (qc (jJ (K:=K) rfl (pv 0) zH rfl)
 (qc (jJ (K:=K) rfl (pv 0) (qO qd) rfl)
 (qc (jJ (K:=K) rfl (pv 0) (qO qd) rfl)
 (qc (jJ (K:=K) rfl (pv 0) jU rfl)
 (qf (qV (qZ KR (hmR hr) (pv 0)))))))))))),?_⟩
  have cb:b≠x:=fun e=>by
   obtain ⟨wx,d,ol,n,hb,_⟩:=id hW;subst e;rw [hx] at hb;injection hb with hb;injection hb with _ _ hb;cases hb
  have cs:r≠x:=zw hP.1 hx (fun z=>by cases z)
  have ct:∀ u∈us,u≠x:=fun u hu=>by
   obtain ⟨q,_,eu⟩:=hP.2.mem hu;exact zw eu hx (fun z=>by cases z)
  have fa:∀ i,(h:i<8)->NoAttr K (cc 9) (fAtt.getD i ""):=fun i h=>T.fa _ (by have:i<fAtt.length:=h;rw [YA,yb this];exact Xw this);ext;refine .inl ⟨x,cc 9,dx,[],rfl,hx,T.fcl,fa 0 (by decide),by decide,?_⟩;have b1:=(But.refl x H).put (o:=.ins (cc 9) dx (qB "board" (.ref b) []));have br:upd H x (.ins (cc 9) dx (qB "board" (.ref b) [])) x=some (.ins (cc 9) dx (qB "board" (.ref b) [])):=qb;generalize upd H x (.ins (cc 9) dx (qB "board" (.ref b) []))=H1 at b1 br ⊢
  have keepW:∀ {J:Hp},But x H J->WebAt cw J b ss ns:=fun k=>by
   obtain ⟨wx,d,ol,n,h1,h2,h3,h4,h5⟩:=hW;exact ⟨wx,d,ol,n,k _ _ cb h1,k _ _ (zw h2 hx (fun z=>by cases z)) h2,k _ _ (zw h3 hx (fun z=>by cases z)) h3,k _ _ (zw h4 hx (fun z=>by cases z)) h4,h5⟩
  have ce:PL H1 r us qs:=⟨b1 _ _ cs hP.1,hP.2.len,fun k t ab ht cg=>b1 _ _ (ct t (ye ht)) (hP.2.at_ k t ab ht cg)⟩;ext;refine ⟨b,r,ss,ns,us,tps,qs,rfl,keepW b1,hA,ce,⟨cl,bv.qn,ck⟩,fun dp H2 s2 bi ci=>?_⟩;have bx:=s2 _ _ br;have b2:=b1.same s2;have cr:dp≠x:=fun e=>by rw [e,br] at bi;cases bi
  have hl:∀ {f:Str} {v:V} {fs:List (Str×V)} {n:Nat},fs.length<=n->(qB f v fs).length<=n+1:=fun h=>yi (jm _ _ _) (by omega);ext;refine .inl ⟨x,cc 9,dx,_,rfl,bx,T.fcl,fa 1 (by decide),Yr (hl (n:=0) (yh _)) (by decide),?_⟩
  have c3:L2.Same (qdp x H2) (upd H2 x (.ins (cc 9) dx (qB "partners" (.ref dp) (qB "board" (.ref b) [])))):=fun c o e=>by
   have hc:c≠x:=fun z=>by rw [z] at e;unfold qdp at e;rw [yK rfl] at e;cases e
   rw [jx hc] at e;rw [qe hc];exact e
  have aq:upd H2 x (.ins (cc 9) dx (qB "partners" (.ref dp) (qB "board" (.ref b) []))) x=some (.ins (cc 9) dx (qB "partners" (.ref dp) (qB "board" (.ref b) []))):=qb;obtain ⟨H0,ad⟩:∃ H0,H0=qdp x H2:=⟨_,rfl⟩;rw [<- ad] at c3;have G:H0 x=none:=by rw [ad];exact yK rfl
  have l3:(qB "partners" (.ref dp) (qB "board" (.ref b) [])).length<=2:=hl (hl (n:=0) (yh _));generalize upd H2 x (.ins (cc 9) dx (qB "partners" (.ref dp) (qB "board" (.ref b) [])))=H3 at c3 aq ⊢;obtain ⟨f3,bj⟩:∃ f3,f3=qB "partners" (.ref dp) (qB "board" (.ref b) []):=⟨_,rfl⟩;rw [<- bj] at aq l3;ext;intro p ap;have D:p≠x:=fun e=>by rw [e,aq] at ap;cases ap
  have cy:H0 p=none:=c3.free ap;have cm:upd H3 p (.dK []) x=some (.ins (cc 9) dx f3):=by rw [qe D.symm];exact aq
  ext;refine .inl ⟨x,cc 9,dx,_,rfl,cm,T.fcl,fa 2 (by decide),Yr l3 (by decide),?_⟩;have c4:L2.Same H0 (upd (upd H3 p (.dK [])) x (.ins (cc 9) dx (qB "rows" (.ref p) f3))):=qak (qD c3 ap) G;have ar:(upd (upd H3 p (.dK [])) x (.ins (cc 9) dx (qB "rows" (.ref p) f3))) x=some (.ins (cc 9) dx (qB "rows" (.ref p) f3)):=qb;have l4:(qB "rows" (.ref p) f3).length<=3:=hl l3;have W:(upd (upd H3 p (.dK [])) x (.ins (cc 9) dx (qB "rows" (.ref p) f3))) p=some (.dK []):=by rw [qe D,qb]
  generalize upd (upd H3 p (.dK [])) x (.ins (cc 9) dx (qB "rows" (.ref p) f3))=H4 at c4 ar W ⊢;obtain ⟨f4,bm⟩:∃ f,f=qB "rows" (.ref p) f3:=⟨_,rfl⟩;rw [<- bm] at ar l4;ext;intro m I;have L:m≠x:=fun e=>by rw [e,ar] at I;cases I
  have cv:H0 m=none:=c4.free I;have ae:m≠p:=fun e=>by rw [e,W] at I;cases I
  have cn:upd H4 m (.dK []) x=some (.ins (cc 9) dx f4):=by rw [qe L.symm];exact ar
  ext;refine .inl ⟨x,cc 9,dx,_,rfl,cn,T.fcl,fa 3 (by decide),Yr l4 (by decide),?_⟩;have c5:L2.Same H0 (upd (upd H4 m (.dK [])) x (.ins (cc 9) dx (qB "parents" (.ref m) f4))):=qak (qD c4 I) G;have as:(upd (upd H4 m (.dK [])) x (.ins (cc 9) dx (qB "parents" (.ref m) f4))) x=some (.ins (cc 9) dx (qB "parents" (.ref m) f4)):=qb;have l5:(qB "parents" (.ref m) f4).length<=4:=hl l4;have N:(upd (upd H4 m (.dK [])) x (.ins (cc 9) dx (qB "parents" (.ref m) f4))) m=some (.dK []):=by rw [qe L,qb]
  have X:(upd (upd H4 m (.dK [])) x (.ins (cc 9) dx (qB "parents" (.ref m) f4))) p=some (.dK []):=by rw [qe D,qe (Yb ae)];exact W
  generalize upd (upd H4 m (.dK [])) x (.ins (cc 9) dx (qB "parents" (.ref m) f4))=H5 at c5 as X N ⊢;obtain ⟨f5,bn⟩:∃ f,f=qB "parents" (.ref m) f4:=⟨_,rfl⟩;rw [<- bn] at as l5;ext;intro l C;have ai:l≠x:=fun e=>by rw [e,as] at C;cases C
  have cz:H0 l=none:=c5.free C;have ak:l≠p:=fun e=>by rw [e,X] at C;cases C
  have aj:l≠m:=fun e=>by rw [e,N] at C;cases C
  have co:upd H5 l (.dK []) x=some (.ins (cc 9) dx f5):=by rw [qe ai.symm];exact as
  ext;refine .inl ⟨x,cc 9,dx,_,rfl,co,T.fcl,fa 4 (by decide),Yr l5 (by decide),?_⟩;have c6:L2.Same H0 (upd (upd H5 l (.dK [])) x (.ins (cc 9) dx (qB "bases" (.ref l) f5))):=qak (qD c5 C) G;have au:(upd (upd H5 l (.dK [])) x (.ins (cc 9) dx (qB "bases" (.ref l) f5))) x=some (.ins (cc 9) dx (qB "bases" (.ref l) f5)):=qb;have l6:(qB "bases" (.ref l) f5).length<=5:=hl l5;have aa:(upd (upd H5 l (.dK [])) x (.ins (cc 9) dx (qB "bases" (.ref l) f5))) l=some (.dK []):=by rw [qe ai,qb]
  have Y:(upd (upd H5 l (.dK [])) x (.ins (cc 9) dx (qB "bases" (.ref l) f5))) p=some (.dK []):=by rw [qe D,qe (Yb ak)];exact X
  have O:(upd (upd H5 l (.dK [])) x (.ins (cc 9) dx (qB "bases" (.ref l) f5))) m=some (.dK []):=by rw [qe L,qe (Yb aj)];exact N
  generalize upd (upd H5 l (.dK [])) x (.ins (cc 9) dx (qB "bases" (.ref l) f5))=H6 at c6 au Y O aa ⊢;obtain ⟨f6,bo⟩:∃ f,f=qB "bases" (.ref l) f5:=⟨_,rfl⟩;rw [<- bo] at au l6;ext;refine ⟨by show 0<=sizeLine;decide,fun g A=>?_⟩;have aw:g≠x:=fun e=>by rw [e,au] at A;cases A
  have cx:H0 g=none:=c6.free A;have ag:g≠p:=fun e=>by rw [e,Y] at A;cases A
  have af:g≠m:=fun e=>by rw [e,O] at A;cases A
  have ah:g≠l:=fun e=>by rw [e,aa] at A;cases A
  have cp:upd H6 g (.lst []) x=some (.ins (cc 9) dx f6):=by rw [qe aw.symm];exact au
  ext;refine .inl ⟨x,cc 9,dx,_,rfl,cp,T.fcl,fa 5 (by decide),Yr l6 (by decide),?_⟩;have c7:L2.Same H0 (upd (upd H6 g (.lst [])) x (.ins (cc 9) dx (qB "rings" (.ref g) f6))):=qak (qD c6 A) G;have av:(upd (upd H6 g (.lst [])) x (.ins (cc 9) dx (qB "rings" (.ref g) f6))) x=some (.ins (cc 9) dx (qB "rings" (.ref g) f6)):=qb;have l7:(qB "rings" (.ref g) f6).length<=6:=hl l6;have U:(upd (upd H6 g (.lst [])) x (.ins (cc 9) dx (qB "rings" (.ref g) f6))) g=some (.lst []):=by rw [qe aw,qb]
  have Z:(upd (upd H6 g (.lst [])) x (.ins (cc 9) dx (qB "rings" (.ref g) f6))) p=some (.dK []):=by rw [qe D,qe (Yb ag)];exact Y
  have R:(upd (upd H6 g (.lst [])) x (.ins (cc 9) dx (qB "rings" (.ref g) f6))) m=some (.dK []):=by rw [qe L,qe (Yb af)];exact O
  have ac:(upd (upd H6 g (.lst [])) x (.ins (cc 9) dx (qB "rings" (.ref g) f6))) l=some (.dK []):=by rw [qe ai,qe (Yb ah)];exact aa
  generalize upd (upd H6 g (.lst [])) x (.ins (cc 9) dx (qB "rings" (.ref g) f6))=H7 at c7 av Z R ac U ⊢;obtain ⟨M,bp⟩:∃ f,f=qB "rings" (.ref g) f6:=⟨_,rfl⟩;rw [<- bp] at av l7;ext;refine ⟨by show 0<=sizeLine;decide,fun a y=>?_⟩;have bu:a≠x:=fun e=>by rw [e,av] at y;cases y
  have db:H0 a=none:=c7.free y;have an:a≠p:=fun e=>by rw [e,Z] at y;cases y
  have al:a≠m:=fun e=>by rw [e,R] at y;cases y
  have ao:a≠l:=fun e=>by rw [e,ac] at y;cases y
  have am:a≠g:=fun e=>by rw [e,U] at y;cases y
  have cq:upd H7 a (.lst []) x=some (.ins (cc 9) dx M):=by rw [qe bu.symm];exact av
  ext;refine .inl ⟨x,cc 9,dx,_,rfl,cq,T.fcl,fa 6 (by decide),Yr l7 (by decide),?_⟩;have c8:L2.Same H0 (upd (upd H7 a (.lst [])) x (.ins (cc 9) dx (qB "waiting" (.ref a) M))):=qak (qD c7 y) G;have bt:(upd (upd H7 a (.lst [])) x (.ins (cc 9) dx (qB "waiting" (.ref a) M))) x=some (.ins (cc 9) dx (qB "waiting" (.ref a) M)):=qb;have l8:(qB "waiting" (.ref a) M).length<=7:=hl l7;have bg:(upd (upd H7 a (.lst [])) x (.ins (cc 9) dx (qB "waiting" (.ref a) M))) a=some (.lst []):=by rw [qe bu,qb]
  have bc:(upd (upd H7 a (.lst [])) x (.ins (cc 9) dx (qB "waiting" (.ref a) M))) p=some (.dK []):=by rw [qe D,qe (Yb an)];exact Z
  have ax:(upd (upd H7 a (.lst [])) x (.ins (cc 9) dx (qB "waiting" (.ref a) M))) m=some (.dK []):=by rw [qe L,qe (Yb al)];exact R
  have be:(upd (upd H7 a (.lst [])) x (.ins (cc 9) dx (qB "waiting" (.ref a) M))) l=some (.dK []):=by rw [qe ai,qe (Yb ao)];exact ac
  have az:(upd (upd H7 a (.lst [])) x (.ins (cc 9) dx (qB "waiting" (.ref a) M))) g=some (.lst []):=by rw [qe aw,qe (Yb am)];exact U
  generalize upd (upd H7 a (.lst [])) x (.ins (cc 9) dx (qB "waiting" (.ref a) M))=H8 at c8 bt bc ax be az bg ⊢;obtain ⟨f8,bq⟩:∃ f,f=qB "waiting" (.ref a) M:=⟨_,rfl⟩;rw [<- bq] at bt l8;ext;refine .inl ⟨x,cc 9,dx,_,rfl,bt,T.fcl,fa 7 (by decide),Yr l8 (by decide),?_⟩;have c9:L2.Same H0 (upd H8 x (.ins (cc 9) dx (qB "longer" .non f8))):=qak c8 G;have ca:(upd H8 x (.ins (cc 9) dx (qB "longer" .non f8))) x=some (.ins (cc 9) dx (qB "longer" .non f8)):=qb;have l9:(qB "longer" .non f8).length<=8:=hl l8;have bd:(upd H8 x (.ins (cc 9) dx (qB "longer" .non f8))) p=some (.dK []):=by rw [qe D];exact bc
  have ay:(upd H8 x (.ins (cc 9) dx (qB "longer" .non f8))) m=some (.dK []):=by rw [qe L];exact ax
  have bf:(upd H8 x (.ins (cc 9) dx (qB "longer" .non f8))) l=some (.dK []):=by rw [qe ai];exact be
  have ba:(upd H8 x (.ins (cc 9) dx (qB "longer" .non f8))) g=some (.lst []):=by rw [qe aw];exact az
  have bh:(upd H8 x (.ins (cc 9) dx (qB "longer" .non f8))) a=some (.lst []):=by rw [qe bu];exact bg
  generalize upd H8 x (.ins (cc 9) dx (qB "longer" .non f8))=H9 at c9 ca bd ay bf ba bh ⊢
  have hF:FoA (cc 9) cw H0 H9 ⟨x,b,dp,p,m,l,g,a,[]⟩ ss ns qs S0 [] [] [] .non:=by
   refine ⟨c9,?_,?_,fun c hc=>?_,?_,(fun c hc=>by cases hc),⟨dx,_,ca,Xp l9,fun _=>l9,fun f v hf=>?_,fun f hf=>?_⟩,⟨[],bd,yh _,fun _=>rfl⟩,⟨[],ay,⟨[],yh _,.nil,(fun u hu=>by cases hu)⟩,fun _=>rfl⟩,⟨[],bf,yh _,(fun s hs=>by cases hs)⟩,⟨[],ba,yh _⟩,bh,.nil,fun v=>⟨(fun k=>by cases k),fun k=>absurd rfl k⟩,(fun v hv=>by cases hv)⟩
   .rw [ad];exact (keepW b2).out bx cb
   .rw [ad];exact (jx cr).trans ci
   .simp only [Fo.six,yy,yX,YO] at hc;rcases hc with rfl | rfl | rfl | rfl | rfl | rfl<;>assumption
   .simp [ae.symm,ak.symm,ag.symm,an.symm,aj.symm,af.symm,al.symm,ah.symm,ao.symm,am.symm]
   .simp only [Fo.tab,yy,Xc,yX,YO] at hf;rw [bq,bp,bo,bn,bm,bj];rcases hf with ⟨rfl,rfl⟩ | ⟨rfl,rfl⟩ | ⟨rfl,rfl⟩ | ⟨rfl,rfl⟩ | ⟨rfl,rfl⟩ | ⟨rfl,rfl⟩ | ⟨rfl,rfl⟩ | ⟨rfl,rfl⟩<;>rfl
   .rw [bq,bp,bo,bn,bm,bj];have no:∀ i,i<8->f≠fAtt.getD i "":=fun i hi e=>hf (by rw [e,YA,yb (show i<fAtt.length from hi)];exact Xw _);exact lkn (no 7 (by decide)) (lkn (no 6 (by decide)) (lkn (no 5 (by decide)) (lkn (no 4 (by decide)) (lkn (no 3 (by decide)) (lkn (no 2 (by decide)) (lkn (no 1 (by decide)) (lkn (no 0 (by decide)) rfl)))))))
  ext;obtain ⟨cd,fs,bw,_,_,_,bz⟩:=id hF.obj;refine ⟨x,cd,fs,rfl,bw,bz _ (by decide +kernel),?_⟩;ext;refine ⟨H0,_,ss,ns,qs,B,rfl,hF,bv,cj,ch,fun HA S dn wt lo hD cu=>?_⟩;refine q H0 HA _ S dn wt lo rfl rfl hD fun c o e=>?_;have hc:c≠x:=fun z=>by rw [z] at e;unfold qdp at e;rw [yK rfl] at e;cases e
  rw [jx hc] at e;rw [ad,jx hc];exact b2 _ _ hc e
inductive spFr (cc:Nat->Addr) (cw:Addr) (vs:List V) (H:Hp) (Q:VK) (E:XK):Prop|mk (H0:Hp) (a:Fo) (ss:List Str) (ns:List Nat) (qs:List (Str×Str)) (S:FS) (dn wt:List Str) (lo:V) (A:Str->Str->Prop) (_:vs=[.ref a.x]) (_:FoD (cc 9) cw H0 H a ss ns qs S dn wt lo A) (_:(lo=.non->Q .non H)) (_:∀ (t:Addr) (r:List Str),lo=.ref t->H t=some (.lst (r.map V.str))->Aug A (pt qs) r->∀ l,H l=none->Q (.ref l) (upd H l (.lst (r.map V.str))))
inductive spFd2 (cc:Nat->Addr) (cw:Addr) (vs:List V) (H:Hp) (Q:VK) (E:XK):Prop|mk (H0:Hp) (a:Fo) (ss:List Str) (ns:List Nat) (qs:List (Str×Str)) (S:FS) (dn wt:List Str) (lo:V) (A:Str->Str->Prop) (_:vs=[.ref a.x]) (_:FoD (cc 9) cw H0 H a ss ns qs S dn wt lo A) (_:ss.length<=14) (_:(lo≠.non->Q .non H)) (_:(lo=.non->∀ (l:Addr) (H':Hp),L2.Same H H'->H l=none->H' l=some (.lst ((ss.filter fun s=>(S.rows s).isSome).map V.str))->Q (.ref l) H'))
theorem ok_fr (F:Fun K "row" "Forest.row" j3 f fd) (T:Txt K mg cc cw):FnOk P w K mg base CX0 1 f fd ["self"] (spFr cc cw):=by
 refine F.ok KP fun _ _ _ _ H vs Q E i h=>?_
 .obtain ⟨H0,a,ss,ns,qs,S,dn,wt,lo,B,rfl,b,e,g⟩:=h;refine ⟨_,(qf (qo (pe_ifExp (qk qeh (qz (K:=K) rfl (pv 0) rfl) jU (qx _)) jU (jE (qat (K:=K) rfl rfl) rfl T.b_list xP (qa (qz (K:=K) rfl (pv 0) rfl) qd))))),?_⟩;ext;refine .inl (b.fo.obj.rd T 7 rfl ?_);ext;rcases b.en with ⟨rfl,_⟩ | ⟨t,r,rfl,c,l,d,_⟩
  .refine ⟨_,rfl,zg ?_⟩;ext;exact e rfl
  .refine ⟨_,rfl,qG (fun h=>by cases h) fun _=>?_⟩;ext;refine .inl (b.fo.obj.rd T 7 rfl ?_);ext;exact .inl ⟨t,_,rfl,.inl (.of c),g t r rfl c d⟩
theorem ok_fd2 (F:Fun K "reached" "Forest.reached" q8 f fd) (T:Txt K mg cc cw) (N:MethOk P w K mg base CX0 1 cw "places" ["self"] (spPls cw)):FnOk P w K mg base CX0 2 f fd ["self"] (spFd2 cc cw):=by
 refine F.ok Kv fun _ _ _ s H vs Q E A h=>?_
 .obtain ⟨H0,a,ss,ns,qs,S,dn,wt,lo,B,rfl,x,G,O,R⟩:=h;have M:=j9 A;refine ⟨_,(qc (qN (qk qbi (qz (K:=K) rfl (pv 0) rfl) jU (qx _)) (qf (qo jU)) qt)
 (qf (qo (jo (sc:=qh q8) (XN:=["self"]) ["place","self"] 1 [0] rfl rfl rfl (by decide +kernel) rfl (by decide +kernel)
  (qK (K:=K) rfl (qZ N (hmR A) (qz (K:=K) rfl (pv 0) rfl))) (fun _ _ _ _=>(qr (i:=0) (show (["place","self"]:List Str).Nodup by decide +kernel) rfl (yR rfl))) qP
  (fun _ _ _ _=>(qY (qk (qar (K:=K) rfl M) (pv 0) (qz (K:=K) rfl (pv 1) rfl) (by with_unfolding_all rfl))))
  (fun _ _ _ _=>(pv 0)))))),?_⟩
  have h:=x.fo;ext;refine .inl (h.obj.rd T 7 rfl ?_);ext;rcases x.en with ⟨rfl,_⟩ | ⟨t,r,rfl,_⟩
  .refine ⟨rfl,_,rfl,qG (fun h=>by simp at h) fun _=>?_⟩;have g:=h.web.same h.sm;obtain ⟨X,Y,ol,Z,I,_⟩:=id g;ext;refine .inl (h.obj.rd T 0 rfl ?_);refine ⟨a.b,X,_,rfl,I,qav (by decide +kernel),?_⟩;ext;refine ⟨a.b,ss,ns,rfl,g,fun pl v=>?_⟩;have p:=qD (Sr H) (o:=.lst (ss.map V.str)) v;have q:upd H pl (.lst (ss.map V.str)) pl=some (.lst (ss.map V.str)):=qb;generalize upd H pl (.lst (ss.map V.str))=H1 at p q;have h1:=h.same p;obtain ⟨D,U,r2,W⟩:=h1.row;refine .inl ⟨⟨_,.of q⟩,qF (xs:=ss.map V.str) (fun i ys J=>J=H1/\ys=((ss.take i).filter fun s=>(S.rows s).isSome).map V.str) ⟨rfl,rfl⟩ (fun i ys J _ n=>by rw [n.1];exact .of q) (fun i y ys J C n=>?_) fun ys J n=>?_⟩
   .obtain ⟨rfl,rfl⟩:=n;rw [yd] at C;obtain ⟨z,hz,rfl⟩:=yn.mp C;have L:=(yc.mp hz).1;have m:=yI (fun s=>(S.rows s).isSome) (ss.take i);rw [yJ] at m
    have d:(ss.take (i+1)).filter (fun s=>(S.rows s).isSome)=(ss.take i).filter (fun s=>(S.rows s).isSome)++(if (S.rows z).isSome=true then [z] else []):=by
     rw [yG,hz,y9];show _++[z].filter _=_;rw [yV,Yq]
    ext;refine .inl (h1.obj.rd T 2 rfl ?_);refine .inr (.inl ⟨a.dr,_,rfl,DGet.k (k:=Sum.inr z) U,?_⟩);have c:=W z
    have u:(jT D (.inr z:Key)).isSome=(S.rows z).isSome:=by
     cases e:S.rows z with
     | none=>rw [e] at c;rw [show jT D (.inr z:Key)=none from c];rfl
     | some r=>rw [e] at c;obtain ⟨t,k,_⟩:=c;rw [k];rfl
    rw [yD (by decide),u,d];refine ⟨_,rfl,?_⟩
    cases (S.rows z).isSome with
    | true =>
     refine zg ?_;rw [yK rfl];ext;exact ⟨by rw [ya];exact qg (by omega),rfl,by rw [yF];rfl⟩
    | false =>
     refine yq ?_;rw [yD (by decide),Yl];exact ⟨rfl,rfl⟩
   .obtain ⟨rfl,rfl⟩:=n;rw [show (ss.map V.str).length=ss.length from ya _,yN];have m:=yI (fun s=>(S.rows s).isSome) ss;refine ⟨by rw [ya];exact yS (qg (by omega)),fun l hl=>?_⟩;exact R rfl l _ (qD p hl) (p.free hl) qb
  .refine ⟨rfl,_,rfl,zg ?_⟩;ext;exact O (fun e=>by cases e)
theorem Kk:FnScope ["_law_pairs","_law_name","_law_one","_law_other"] ["_law_pairs","_law_name"] (qh zu):=fS
theorem KW:FnScope ["_law_names_here","_law_pairs"] ["_law_names_here","_law_pairs"] (qh jS):=fS
theorem ue:FnScope ["_law_ties_here","_law_one","_law_other"] ["_law_ties_here","_law_one","_law_other"] (qh qaJ):=fS
theorem qck (a b:Str):eqV (.str a) (.str b)=decide (a=b):=by
 unfold eqV;by_cases h:a=b<;>simp [h]
theorem qeV {i j:Str} {Q:VK} (q:Q (.bl (decide (i=j))) H):qeH K (.str i) (.str j) H Q:=.inl (.inl (.inl ⟨rfl,rfl,by rw [yD (by decide),qck];exact q⟩))
noncomputable def tB (tps:List (Str×Str)) (a b:Str):Bool:=decide ((a,b)∈tps)||decide ((b,a)∈tps)
noncomputable def ptV (qs:List (Str×Str)) (s:Str):V:=((pt qs s).map V.str).getD .non
inductive spPa (vs:List V) (H:Hp) (Q:VK) (E:XK):Prop|mk (l:Addr) (us:List Addr) (qs:List (Str×Str)) (s:Str) (_:vs=[.ref l,.str s]) (_:PL H l us qs) (_:Q (ptV qs s) H)
noncomputable def sgl (ss:List Str) (qs:List (Str×Str)):List Str:=ss.filter fun s=>(pt qs s).isNone
inductive spSg (vs:List V) (H:Hp) (Q:VK) (E:XK):Prop|mk (n l:Addr) (ss:List Str) (us:List Addr) (qs:List (Str×Str)) (_:vs=[.ref n,.ref l]) (_:H n=some (.lst (ss.map V.str))) (_:ss.length<=14) (_:PL H l us qs) (_:∀ r,H r=none->Q (.ref r) (upd H r (.lst ((sgl ss qs).map V.str))))
inductive spTd (vs:List V) (H:Hp) (Q:VK) (E:XK):Prop|mk (l:Addr) (ts:List Addr) (tps:List (Str×Str)) (a b:Str) (_:vs=[.ref l,.str a,.str b]) (_:PL H l ts tps) (_:∀ H',L2.Same H H'->Q (.bl (tB tps a b)) H')
theorem ok_pa (F:Fun K "_law_partner" "_law_partner" zu f fd) (T:Txt K mg cc cw):FnOk P w K mg base CX0 1 f fd ["_law_pairs","_law_name"] spPa:=by
 refine F.ok Kk fun _ _ _ _ H vs Q E z h=>?_
 .obtain ⟨l,us,qs,x,rfl,a,q⟩:=h;have s:=j9 z;refine ⟨_,(qc (jp yU rfl (ki_lst (K:=K) rfl (pv 0)) (qdF rfl (qaA (qr (i:=2) Kk.nd rfl (yR rfl)) (qaA (qr (i:=3) Kk.nd rfl (yR rfl)) qcX)))
 (qc (qN (qk (zW (K:=K) rfl s) (pv 2) (pv 1) (qx _)) (qf (qo (pv 3))) qt)
 (qf (qN (qk (zW (K:=K) rfl s) (pv 3) (pv 1) (qx _)) (qf (qo (pv 2))) qt))))
 (qf (qo jU))),?_⟩
  ext;refine viLst ?_;ext;refine ⟨l,_,rfl,.of a.1,qX (xs:=us.map V.ref) (fun i g J=>J=H/\(∃ n o,g=[some (.ref l),some (.str x),n,o])/\pt qs x=pt (qs.drop i) x) ⟨rfl,⟨_,_,rfl⟩,rfl⟩ (fun i g J _ c=>by rw [c.1];exact .of a.1) (fun i y g J u c=>?_) fun g J c=>?_⟩
  .obtain ⟨rfl,⟨n,o,rfl⟩,e⟩:=c;rw [yd] at u;obtain ⟨t,r,rfl⟩:=yn.mp u;have p:i<qs.length:=by rw [<- a.2.len];exact (yc.mp r).1
   obtain ⟨ab,b⟩:∃ ab,qs[i]?=some ab:=⟨_,yb p⟩;have v:=a.2.at_ i t ab r b
   have m:qs.drop i=ab::qs.drop (i+1):=by
    rw [List.drop_eq_getElem_cons p,(yc.mp b).2]
   rw [m] at e;have e:pt qs x=if ab.1=x then some ab.2 else if ab.2=x then some ab.1 else pt (qs.drop (i+1)) x:=e;refine ⟨t,_,rfl,.of v,rfl,_,_,rfl,_,_,rfl,rfl,?_⟩;ext;refine qeV ?_;ext;by_cases h1:ab.1=x
   .rw [yK h1] at e;refine qG (fun _=>?_) fun h=>absurd (yQ h1) h;ext;unfold ptV at q
    rwa [e] at q
   .rw [yD h1] at e;refine qG (fun h=>absurd (yk h) h1) fun _=>?_;ext;refine qeV ?_;ext;by_cases d:ab.2=x
    .rw [yK d] at e;refine qG (fun _=>?_) fun h=>absurd (yQ d) h;ext;unfold ptV at q
     rwa [e] at q
    .rw [yD d] at e;refine qG (fun h=>absurd (yk h) d) fun _=>?_;exact ⟨rfl,⟨_,_,rfl⟩,e⟩
  .obtain ⟨rfl,⟨n,o,rfl⟩,e⟩:=c;rw [ya,a.2.len,List.drop_length] at e;ext;unfold ptV at q
   rwa [e] at q
theorem ok_sg (F:Fun K "_law_singles" "_law_singles" jS f fd) (T:Txt K mg cc cw) (s:DefOk P w K mg base CX0 1 "_law_partner" ["_law_pairs","_law_name"] spPa):FnOk P w K mg base CX0 2 f fd ["_law_names_here","_law_pairs"] spSg:=by
 refine F.ok KW fun _ _ _ _ H vs Q E m h=>?_
 .obtain ⟨n,l,ss,us,qs,rfl,g,t,u,q⟩:=h;have B:=j9 m;refine ⟨_,(qf (qo (jo (sc:=qh jS) (XN:=["_law_names_here","_law_pairs"]) ["_law_name","_law_pairs"] 1 [1] rfl rfl rfl (by decide +kernel) rfl (by decide +kernel)
  (qK (K:=K) rfl (pv 0)) (fun _ _ _ _=>(qr (i:=0) (show (["_law_name","_law_pairs"]:List Str).Nodup by decide +kernel) rfl (yR rfl))) qP
  (fun _ _ _ _=>(qY (qk qeh (qu s (hmR m) qE (qa (pv 1) (qa (pv 0) qd))) jU (qx _))))
  (fun _ _ _ _=>(pv 0))))),?_⟩
  ext;refine .inl ⟨⟨_,.of g⟩,qF (xs:=ss.map V.str) (fun i ys G=>G=H/\ys=(sgl (ss.take i) qs).map V.str) ⟨rfl,rfl⟩ (fun i ys G _ a=>by rw [a.1];exact .of g) (fun i y ys G p a=>?_) fun ys G a=>?_⟩
  .obtain ⟨rfl,rfl⟩:=a;rw [yd] at p;obtain ⟨x,o,rfl⟩:=yn.mp p;have v:=(yc.mp o).1;have A:(sgl (ss.take i) qs).length<=i:=yi (yI _ _) (by rw [yJ];omega)
   have d:sgl (ss.take (i+1)) qs=sgl (ss.take i) qs++(if (pt qs x).isNone=true then [x] else []):=by
    unfold sgl;rw [yG,o,y9];show _++[x].filter _=_;rw [yV,Yq]
   ext;refine ⟨l,us,qs,x,rfl,u,?_⟩;ext;rw [d];unfold ptV
   cases e:pt qs x with
   | none =>
    refine ⟨_,rfl,zg ?_⟩;ext;exact ⟨by rw [ya];exact qg (by omega),rfl,by rw [yK (show (none:Option Str).isNone=true from rfl),yF];rfl⟩
   | some b =>
    refine ⟨_,rfl,qG (fun h=>by simp at h) fun _=>?_⟩;exact ⟨rfl,by rw [yD (show ¬ (some b).isNone=true from fun z=>by cases z),Yl]⟩
  .obtain ⟨rfl,rfl⟩:=a;rw [show (ss.map V.str).length=ss.length from ya _,yN];exact ⟨by rw [ya];exact yS (qg (yi (yI _ _) (by omega))),fun r c=>q r c⟩
theorem ok_td (F:Fun K "_law_tied" "_law_tied" qaJ f fd) (T:Txt K mg cc cw):FnOk P w K mg base CX0 1 f fd ["_law_ties_here","_law_one","_law_other"] spTd:=by
 refine F.ok ue fun _ _ _ _ H vs Q E u h=>?_
 .obtain ⟨l,ts,tps,a,b,rfl,p,q⟩:=h;have s:=j9 u;refine ⟨_,(qf (qo (pe_or (jH (qar (K:=K) rfl s) (qax (qa (pv 1) (qa (pv 2) qd))) (pv 0) (by with_unfolding_all rfl)) (qaM (jH (qar (K:=K) rfl s) (qax (qa (pv 2) (qa (pv 1) qd))) (pv 0) (by with_unfolding_all rfl)))))),?_⟩;ext;refine ⟨by show 2<=sizeLine;decide,fun t v=>?_⟩;have c:=qD (Sr H) (o:=.tup [.str a,.str b]) v;have m:upd H t (.tup [.str a,.str b]) t=some (.tup [.str a,.str b]):=qb;generalize upd H t (.tup [.str a,.str b])=H1 at c m;ext;refine qec (p.same c) m ?_;have e:=q H1 c;unfold tB at q e;refine ⟨_,rfl,?_⟩
  cases r:decide ((a,b)∈tps) with
  | true =>
   refine zg ?_;rw [r] at e;exact e
  | false =>
   refine yq ?_;ext;refine ⟨by show 2<=sizeLine;decide,fun i d=>?_⟩;have g:=qD c (o:=.tup [.str b,.str a]) d;have n:upd H1 i (.tup [.str b,.str a]) i=some (.tup [.str b,.str a]):=qb;generalize upd H1 i (.tup [.str b,.str a])=H2 at g n;ext;refine qec (p.same g) n ?_;have:=q H2 g;rw [r] at this;exact this
theorem kO:FnScope ["_law_box_here","_law_ties_here","_law_found","_law_some","_law_tie"] ["_law_box_here","_law_ties_here"] (qh jC):=fS
theorem qbr {a b:Addr} (d:H a=some (.lst (ss.map V.str))) (f:H b=some (.lst (rs.map V.str))):EqT K H 1 a b (decide (ss=rs)):=by
 by_cases hl:ss.length=rs.length
 .have z:=EqT.lst (K:=K) (H:=H) (n:=0) (e:=fun j=>eqV (.str (ss.getD j "")) (.str (rs.getD j ""))) (SqL.of d) (SqL.of f) (by rw [ya,ya];exact hl) fun j x y h1 c=>by
   rw [yd] at h1 c;obtain ⟨u,g,rfl⟩:=yn.mp h1;obtain ⟨v,hv,rfl⟩:=yn.mp c;rw [YA,YA,g,hv];exact .flat rfl rfl
  have e:(List.range (ss.map V.str).length).all (fun j=>eqV (.str (ss.getD j "")) (.str (rs.getD j "")))=decide (ss=rs):=by
   rw [Y5,YC,Ye];constructor
   .intro h;refine List.ext_getElem hl fun i h1 c=>?_;have:=h i (XW.mpr (by rw [ya];exact h1));rw [qck,YA,YA,yb h1,yb c] at this;exact yk this
   .rintro rfl j _;rw [qck];exact yQ rfl
  rw [e] at z;exact z
 .rw [yl (fun e=>hl (by rw [e]))];exact .lstL (SqL.of d) (SqL.of f) (by rw [ya,ya];exact hl)
inductive spSo (vs:List V) (H:Hp) (Q:VK) (E:XK):Prop|mk (p l:Addr) (ss:List Str) (ts:List Addr) (tps:List (Str×Str)) (_:vs=[.ref p,.ref l]) (_:Box H p) (_:TL p H l ts tps) (_:tps.length<=30) (_:(∀ ab∈tps,ab.1∈ss/\ab.2∈ss/\ab.1≠ab.2)) (_:∀ (l':Addr) (us:List Addr) (qs:List (Str×Str)) (H':Hp),BB p H H'->H l'=none->TL p H' l' us qs->PGo ss tps qs->Q (.ref l') H')
theorem Shuf.mem (sh:Shuf tps ups) (h:ab∈ups):ab∈tps\/(ab.2,ab.1)∈tps:=by
 obtain ⟨f,d,a⟩:=sh;obtain ⟨k,b⟩:=yf (d.mem_iff.mp h);obtain ⟨c,hc⟩:∃ c,tps[k]?=some c:=⟨_,yb (by rw [a.len];exact (yc.mp b).1)⟩;rcases a.at_ k c ab hc b with e | e
 .rw [e];exact .inl (ye hc)
 .rw [e];exact .inr (ye hc)
theorem Shuf.len (sh:Shuf tps ups):ups.length=tps.length:=by
 obtain ⟨c,b,a⟩:=sh;rw [b.length_eq,a.len]
theorem ok_so (F:Fun K "_law_some_pairs" "_law_some_pairs" jC f fd) (T:Txt K mg cc cw) (kD:DefOk P w K mg base CX0 1 "_law_take" ["_law_box_here","_law_many"] spTake) (Kl:DefOk P w K mg base CX0 2 "_law_shuffled" ["_law_box_here","_law_ties_here"] spShuf) (kT:DefOk P w K mg base CX0 2 "_law_singles" ["_law_names_here","_law_pairs"] spSg):FnOk P w K mg base CX0 3 f fd ["_law_box_here","_law_ties_here"] spSo:=by
 refine F.ok kO fun _ _ _ _ H vs Q E hr h=>?_
 .obtain ⟨p,l,ss,ts,tps,rfl,hB,hT,aa,n,q⟩:=h;have hu:=j9 hr;refine ⟨_,(qc (qq (i:=2) kO.nd rfl (yR rfl) (qO qd))
 (qc (qq (i:=3) kO.nd rfl (yR rfl) (qu Kl (hmR hr) qE (qa (pv 0) (qa (pv 1) qd))))
 (qc (jp yU rfl (qK (K:=K) rfl (pv 3)) (qr (i:=4) kO.nd rfl (yR rfl))
 (qf (qN (PW.pt (qaw (qk qb6 (qu kD (hmR hr) qE (qa (pv 0) (qa qi qd))) qi (qx _)) (zx (qk (zW (K:=K) rfl hu) (qu kT (hmR hr) qE (qa (jE (qat (K:=K) rfl rfl) rfl T.b_list xP (qa (pv 4) qd)) (qa (pv 2) qd))) (jE (qat (K:=K) rfl rfl) rfl T.b_list xP (qa (pv 4) qd)) (qx _))))) (qf (qV (qbu (K:=K) rfl yP Yi Yj jc (pv 2) (qa (pv 4) qd)))) qt)))
 (qf (qo (pv 2)))))),?_⟩
  ext;refine ⟨by decide,fun d g=>?_⟩;have Z:=(BB.refl hB).new (o:=.lst []) g;have D:=hB.apart g;have e1:upd H d (.lst []) d=some (.lst []):=qb;have M:=hT.bb Z;generalize upd H d (.lst [])=H1 at Z e1 M;ext;refine ⟨p,l,ts,tps,rfl,Z.2,M,aa,fun sl Y ups H2 b2 s I sh=>?_⟩;have aj:=sh.len;have ag:d≠sl:=fun e=>by rw [<- e,e1] at s;cases s
  have e2:=b2.1 _ _ D e1;replace b2:=Z.trans b2;ext;refine .inl ⟨⟨_,.of I.1⟩,qX (xs:=Y.map V.ref) (fun i σ J=>BB p H J/\∃ (us:List Addr) (qs:List (Str×Str)) (y4:Option V),σ=[some (.ref p),some (.ref l),some (.ref d),some (.ref sl),y4]/\TL p J sl Y ups/\TL p J d us qs/\(∀ q∈qs,q∈ups)/\(qj qs).Nodup/\qs.length<=i) ⟨b2,[],[],_,rfl,I,⟨e2,D,.nil⟩,(fun q h=>by cases h),kA,yh _⟩ (fun i σ J _ O=>by obtain ⟨_,_,_,_,_,z,_⟩:=O;exact .of z.1) (fun i y σ J U O=>?_) fun σ J O=>?_⟩
  .obtain ⟨bJ,us,qs,y4,rfl,L,v,a,c,R⟩:=O;rw [yd] at U;obtain ⟨t,ht,rfl⟩:=yn.mp U;have ac:=(yc.mp ht).1;have ai:i<30:=by have:=I.2.2.len;omega
   obtain ⟨ab,C⟩:∃ ab,ups[i]?=some ab:=⟨_,yb (by rw [<- I.2.2.len];exact ac)⟩;have W:=ye C;ext;refine ⟨p,4,rfl,bJ.2,by decide,by decide,fun r J1 r0 r1 c1=>?_⟩;have A:=L.bb c1;have u:=v.bb c1;have d1:=bJ.trans c1;have tt:=A.2.2.at_ i t ab ht C;ext;refine qG (fun _=>?_) fun _=>qG (fun h=>by cases h) fun _=>⟨d1,us,qs,_,rfl,A,u,a,c,by omega⟩;ext;refine .inl ⟨t,_,rfl,.inr (.of tt.2),fun l3 ad=>?_⟩;have s3:=qD (Sr J1) (o:=.lst [.str ab.1,.str ab.2]) ad;have e3:upd J1 l3 (.lst [.str ab.1,.str ab.2]) l3=some (.lst ([ab.1,ab.2].map V.str)):=qb;generalize upd J1 l3 (.lst [.str ab.1,.str ab.2])=J3 at s3 e3;ext;refine ⟨l3,d,[ab.1,ab.2],us,qs,rfl,e3,by show 2<=14;decide,(u.same s3).pl,fun l4 ae=>?_⟩;have s4:=qD s3 (o:=.lst ((sgl [ab.1,ab.2] qs).map V.str)) ae;have e4:upd J3 l4 (.lst ((sgl [ab.1,ab.2] qs).map V.str)) l4=some (.lst ((sgl [ab.1,ab.2] qs).map V.str)):=qb;generalize upd J3 l4 (.lst ((sgl [ab.1,ab.2] qs).map V.str))=J4 at s4 e4;ext;refine .inl ⟨t,_,rfl,.inr (.of (s4 _ _ tt.2)),fun l5 N=>?_⟩;have s5:=qD s4 (o:=.lst [.str ab.1,.str ab.2]) N;have G:=qD (Sr J4) (o:=.lst [.str ab.1,.str ab.2]) N _ _ e4;have e5:upd J4 l5 (.lst [.str ab.1,.str ab.2]) l5=some (.lst ([ab.1,ab.2].map V.str)):=qb;generalize upd J4 l5 (.lst [.str ab.1,.str ab.2])=J5 at s5 e5 G;have d5:=d1.same s5;have B:=A.same s5;have b:=u.same s5;refine .inl (.inl (.inr (.inl ⟨l4,l5,_,1,rfl,rfl,by decide,qbr G e5,?_⟩)));rw [yD (by decide)];ext;refine qG (fun hd=>?_) fun _=>⟨d5,us,qs,_,rfl,B,b,a,c,by omega⟩;have hd:=yk hd
   have X:ab.1∉qj qs/\ab.2∉qj qs:=by
    have k:∀ x∈[ab.1,ab.2],x∉qj qs:=fun x S=>by
     rw [<- hd] at S;have:=(yp.mp S).2;exact pt_none.mp (xZ.mp this)
    exact ⟨k _ (by simp),k _ (by simp)⟩
   have af:ab.1≠ab.2:=by
    rcases sh.mem W with z | z
    .exact (n _ z).2.2
    .exact Yb (n _ z).2.2
   ext;refine ⟨.inl ⟨rfl,_,SqL.of b.1⟩,?_⟩;ext;refine ⟨d,_,_,rfl,rfl,b.1,by rw [ya,b.2.2.len];exact qg (by omega),?_⟩;have ah:=B.2.2.at_ i t ab ht C;refine ⟨d5.put g D,us++[t],qs++[ab],_,rfl,B.other (Yb ag) b.1,b.more ah,fun q hq=>?_,?_,by rw [yt];simp;omega⟩
   .rcases yx.mp hq with z | z
    .exact a q z
    .rw [yB.mp z];exact W
   .rw [j0];refine yZ.mpr ⟨c,by simp [af],fun x S y U e=>?_⟩;subst e;simp only [yy,yX,YO] at U;rcases U with rfl | rfl
    .exact X.1 S
    .exact X.2 S
  .obtain ⟨bJ,us,qs,y4,rfl,L,v,a,c,R⟩:=O;ext;refine q d us qs J bJ g v ⟨fun z hz=>?_,c,by rw [ya,I.2.2.len] at R;omega⟩;have m:=sh.mem (a z hz);refine ⟨m,?_⟩;rcases m with y | y
   .exact n _ y
   .obtain ⟨k1,k2,k3⟩:=n _ y;exact ⟨k2,k1,Yb k3⟩
theorem kF:FnScope ["_law_names_here","_law_ties_here","_law_found","_law_seen","_law_name","_law_piece","_law_line","_law_here","_law_fresh"] ["_law_names_here","_law_ties_here"] (qh zc):=fS
structure PcN (tps:List (Str×Str)) (ss p:List Str):Prop where
 nd:p.Nodup
 sub:∀ s∈p,s∈ss
 clo:∀ s∈p,∀ t∈ss,tB tps s t=true->t∈p
 con:∃ a∈p,∀ C:Str->Prop,C a->(∀ s t,s∈ss->t∈ss->C s->tB tps s t=true->C t)->∀ s∈p,C s
structure PcsN (tps:List (Str×Str)) (ss:List Str) (k:Nat) (pss:List (List Str)):Prop where
 pc:∀ p∈pss,PcN tps ss p
 nd:pss.flatten.Nodup
 all:∀ s∈ss.take k,s∈pss.flatten
structure WkN (tps:List (Str×Str)) (ss:List Str) (a:Str) (ps us:List Str):Prop where
 nd:ps.Nodup
 has:a∈ps
 sub:∀ s∈ps,s∈ss
 lin:∀ s∈us,s∈ps
 len:us.length<=ps.length
 con:∀ C:Str->Prop,C a->(∀ s t,s∈ss->t∈ss->C s->tB tps s t=true->C t)->∀ s∈ps,C s
 clo:∀ s∈ps,s∈us\/∀ t∈ss,tB tps s t=true->t∈ps
theorem qdq (tps:List (Str×Str)) (a b:Str):tB tps a b=tB tps b a:=by unfold tB;exact Bool.or_comm _ _
noncomputable def frN (tps:List (Str×Str)) (ss ps:List Str) (u:Str):List Str:=ss.filter fun o=>tB tps u o&&!decide (o∈ps)
theorem mem_frN {o:Str}:o∈frN tps ss ps u↔o∈ss/\tB tps u o=true/\o∉ps:=by
 unfold frN;rw [yp,yW,YU,YQ]
theorem WkN.next {m:List Str} {a:Str} (h:WkN tps ss a ps (m++[u])) (n:ss.Nodup):WkN tps ss a (ps++frN tps ss ps u) (m++frN tps ss ps u):=by
 have l:u∈ps:=h.lin u (by simp);have c:=h.len;rw [yt,YX] at c;refine ⟨?_,yE _ h.has,fun s b=>?_,fun s b=>?_,by rw [yt,yt];omega,fun C g d s b=>?_,fun s b=>?_⟩
 .refine yZ.mpr ⟨h.nd,n.sublist Xa,fun x o y p e=>?_⟩;subst e;exact (mem_frN.mp p).2.2 o
 .exact (yx.mp b).elim (h.sub s) fun z=>(mem_frN.mp z).1
 .exact (yx.mp b).elim (fun z=>yE _ (h.lin s (yE _ z))) fun z=>yH _ z
 .rcases yx.mp b with z | z
  .exact h.con C g d s z
  .exact d u s (h.sub u l) (mem_frN.mp z).1 (h.con C g d u l) (mem_frN.mp z).2.1
 .have put:∀ s∈ps,(∀ t∈ss,tB tps s t=true->t∈ps)->∀ t∈ss,tB tps s t=true->t∈ps++frN tps ss ps u:=fun s _ z t f e=>yE _ (z t f e);rcases yx.mp b with z | z
  .rcases h.clo s z with y | y
   .rcases yx.mp y with y | y
    .exact .inl (yE _ y)
    .rw [yB] at y;subst y;refine .inr fun t f e=>?_;by_cases i:t∈ps
     .exact yE _ i
     .exact yH _ (mem_frN.mpr ⟨f,e,i⟩)
   .exact .inr (put s z y)
  .exact .inl (yH _ z)
theorem WkN.done {a:Str} (h:WkN tps ss a ps []):PcN tps ss ps:=⟨h.nd,h.sub,fun s b=>(h.clo s b).resolve_left (by simp),a,h.has,h.con⟩
theorem WkN.few {us:List Str} {a:Str} (h:WkN tps ss a ps us):ps.length<=ss.length:=je h.nd h.sub
theorem PcsN.more {a:Str} {k:Nat} (h:PcsN tps ss k pss) (i:ss[k]?=some a) (m:a∉pss.flatten) (hw:WkN tps ss a ps []):PcsN tps ss (k+1) (pss++[ps]):=by
 have d:∀ s∈ps,s∉pss.flatten:=hw.con (fun s=>s∉pss.flatten) m fun s t c q hc e l=>by
  obtain ⟨p,b,f⟩:=xl.mp l;exact hc (xl.mpr ⟨p,b,(h.pc p b).clo t f s c (by rw [qdq];exact e)⟩)
 have g:(pss++[ps]).flatten=pss.flatten++ps:=by simp
 refine ⟨fun p b=>?_,?_,fun s c=>?_⟩
 .rcases yx.mp b with z | z
  .exact h.pc p z
  .rw [yB.mp z];exact hw.done
 .rw [g];exact yZ.mpr ⟨h.nd,hw.nd,fun x n y o e=>d y o (e ▸ n)⟩
 .rw [g];rw [yG,i] at c;rcases yx.mp c with z | z
  .exact yE _ (h.all s z)
  .cases z with
   | head=>exact yH _ hw.has
   | tail _ z=>cases z
theorem PcsN.skip {a:Str} {k:Nat} (h:PcsN tps ss k pss) (c:ss[k]?=some a) (d:a∈pss.flatten):PcsN tps ss (k+1) pss:=by
 refine ⟨h.pc,h.nd,fun s b=>?_⟩;rw [yG,c] at b;rcases yx.mp b with z | z
 .exact h.all s z
 .cases z with
  | head=>exact d
  | tail _ z=>cases z
theorem PcsN.start:PcsN tps ss 0 []:=⟨fun p a=>(by cases a),kA,fun s b=>(by cases b)⟩
theorem PcsN.few {k:Nat} (h:PcsN tps ss k pss):pss.flatten.length<=ss.length:=je h.nd fun s b=>by
 obtain ⟨p,a,z⟩:=xl.mp b;exact (h.pc p a).sub s z
def TlS (H':Hp) (r:Addr) (a:Addr) (p:List Str):Prop:=a≠r/\H' a=some (.lst (p.map V.str))
inductive spPi (vs:List V) (H:Hp) (Q:VK) (E:XK):Prop|mk (n l:Addr) (ss:List Str) (ts:List Addr) (tps:List (Str×Str)) (_:vs=[.ref n,.ref l]) (_:H n=some (.lst (ss.map V.str))) (_:ss.Nodup) (_:ss.length<=14) (_:PL H l ts tps) (_:∀ (r:Addr) (ls:List Addr) (pss:List (List Str)) (H':Hp),L2.Same H H'->H r=none->H' r=some (.lst (ls.map V.ref))->All2 (TlS H' r) ls pss->PcsN tps ss ss.length pss->Q (.ref r) H')
theorem ok_pi (F:Fun K "_law_pieces" "_law_pieces" zc f fd) (T:Txt K mg cc cw) (kW:DefOk P w K mg base CX0 1 "_law_tied" ["_law_ties_here","_law_one","_law_other"] spTd):FnOk P w K mg base CX0 2 f fd ["_law_names_here","_law_ties_here"] spPi:=by
 refine F.ok kF fun _ _ _ s H vs Q E hr h=>?_
 .obtain ⟨n,l,ss,ts,tps,rfl,hn,br,few,bu,q⟩:=h;have hu:=j9 hr;refine ⟨_,(qc (qq (i:=2) kF.nd rfl (yR rfl) (qO qd))
 (qc (qq (i:=3) kF.nd rfl (yR rfl) (qO qd))
 (qc (jp yU rfl (qK (K:=K) rfl (pv 0)) (qr (i:=4) kF.nd rfl (yR rfl))
 (qf (qN (qk (jt (K:=K) rfl hu) (pv 4) (pv 3) (by with_unfolding_all rfl)) (qc (qq (i:=5) kF.nd rfl (XG rfl) (qO (qa (pv 4) qd)))
 (qc (qq (i:=6) kF.nd rfl (yR rfl) (qO (qa (pv 4) qd)))
 (qc (qaB yU (qk (qaq (K:=K) rfl hu) (pv 6) (qO qd) (qx _))
 (qc (qq (i:=7) kF.nd rfl (XG rfl) (qev (K:=K) rfl yP Xs Xu mtR_pop (pv 6)))
 (qc (zV (sc:=qh zc) (XN:=["_law_names_here","_law_ties_here","_law_found","_law_seen","_law_name","_law_piece","_law_line","_law_here","_law_fresh"]) ["_law_other","_law_ties_here","_law_here","_law_piece"] 1 [1,7,5] rfl rfl rfl (by decide +kernel) rfl (by decide +kernel) (i:=8) kF.nd rfl rfl
  (qK (K:=K) rfl (pv 0)) (fun _ _ _ _=>(qr (i:=0) (show (["_law_other","_law_ties_here","_law_here","_law_piece"]:List Str).Nodup by decide +kernel) rfl (yR rfl))) qP
  (fun _ _ _ _=>(qY (PW.pt (qaw (jh (qu kW (hmR hr) qE (qa (pv 1) (qa (pv 2) (qa (pv 0) qd))))) (zx (qk (jt (K:=K) rfl hu) (pv 0) (pv 3) (by with_unfolding_all rfl)))))))
  (fun _ _ _ _=>(pv 0)))
 (qc (qq (i:=5) kF.nd rfl (XG rfl) (qA (jI (K:=K) rfl) (pv 5) (pv 8)))
 (qf (qq (i:=6) kF.nd rfl (yR rfl) (qA (jI (K:=K) rfl) (pv 6) (pv 8))))))))
 (qc (qq (i:=3) kF.nd rfl (yR rfl) (qA (jI (K:=K) rfl) (pv 3) (pv 5)))
 (qf (qV (qbu (K:=K) rfl yP Yi Yj jc (pv 2) (qa (pv 5) qd)))))))) qt)))
 (qf (qo (pv 2)))))),?_⟩
  ext;refine ⟨by decide,fun r am=>?_⟩;have s0:=qD (Sr H) (o:=.lst []) am;have er:upd H r (.lst []) r=some (.lst []):=qb;generalize upd H r (.lst [])=G0 at s0 er ⊢;ext;refine ⟨by decide,fun x G=>?_⟩;have s1:=qD s0 (o:=.lst []) G;have ao:upd G0 x (.lst []) r=some (.lst []):=by rw [qe (qm er G)];exact er
  have ap:upd G0 x (.lst []) x=some (.lst []):=qb;have aa:x≠r:=(qm er G).symm;generalize upd G0 x (.lst [])=G1 at s1 ao ap ⊢;ext;refine .inl ⟨⟨_,SqL.of (s1 _ _ hn)⟩,qX (K:=K) (fun k σ H'=>∃ (sn:Addr) (pss:List (List Str)) (Z:List Addr) (x4 x5 x6 N O:Option V),σ=[some (.ref n),some (.ref l),some (.ref r),some (.ref sn),x4,x5,x6,N,O]/\L2.Same H H'/\H' r=some (.lst (Z.map V.ref))/\Z.length<=k/\All2 (TlS H' r) Z pss/\sn≠r/\H' sn=some (.lst (pss.flatten.map V.str))/\PcsN tps ss k pss)
   ⟨x,[],[],none,none,none,none,none,rfl,s1,ao,yh _,All2.nil,aa,ap,PcsN.start⟩ (fun k σ H' _ D=>by obtain ⟨_,_,_,_,_,_,_,_,_,z,_⟩:=D;exact SqL.of (z _ _ hn)) (fun k y σ H1 hy D=>?_) fun σ H1 D=>?_⟩
  .obtain ⟨sn,pss,Z,x4,x5,x6,N,O,rfl,s2,v,av,d,aa,g,t⟩:=D;obtain ⟨name,gk,rfl⟩:=jf hy;have bz:k<ss.length:=(yc.mp gk).1;have ai:name∈ss:=ye gk;have ca:=t.few;ext;refine .inl ⟨sn,_,rfl,.inl (SqL.of g),rfl,jF pss.flatten,?_⟩;rw [zq];ext;refine qG (fun ag=>?_) fun ag=>?_
   .have ay:name∉pss.flatten:=by simpa using ag
    ext;refine ⟨by show 1<=sizeLine;decide,fun b al=>?_⟩;have s3:=qD (Sr H1) (o:=.lst [.str name]) al;have U:upd H1 b (.lst [.str name]) b=some (.lst ([name].map V.str)):=qb;generalize upd H1 b (.lst [.str name])=G2 at s3 U ⊢;ext;refine ⟨by show 1<=sizeLine;decide,fun a B=>?_⟩;have s4:=qD s3 (o:=.lst [.str name]) B;have I:a≠b:=fun e=>by rw [e,U] at B;cases B
    have af:upd G2 a (.lst [.str name]) a=some (.lst ([name].map V.str)):=qb;have A:upd G2 a (.lst [.str name]) b=some (.lst ([name].map V.str)):=by rw [qe I.symm];exact U
    generalize upd G2 a (.lst [.str name])=G3 at s4 A af ⊢;ext;refine ⟨fun m σ H'=>∃ (b a:Addr) (ps us:List Str) (N O:Option V),m=2*(14-ps.length)+us.length/\σ=[some (.ref n),some (.ref l),some (.ref r),some (.ref sn),some (.str name),some (.ref b),some (.ref a),N,O]/\L2.Same H1 H'/\H1 b=none/\H1 a=none/\a≠b/\H' b=some (.lst (ps.map V.str))/\H' a=some (.lst (us.map V.str))/\WkN tps ss name ps us,
     ⟨_,b,a,[name],[name],_,_,rfl,rfl,s4,al,s3.free B,I,A,af,⟨by simp,by simp,fun s hs=>by rw [yB.mp hs];exact ai,fun s hs=>hs,yh _,fun C c0 _ s hs=>by rw [yB.mp hs];exact c0,fun s hs=>.inl hs⟩⟩,fun m σ H4 hW=>?_⟩
    clear s3 s4 U I af A B al;obtain ⟨b,a,ps,us,N,O,rfl,rfl,s5,ae,au,I,ba,ah,W⟩:=hW;have cd:=W.few;ext;refine ⟨by decide,fun z hz=>?_⟩;have sz:=qD (Sr H4) (o:=.lst []) hz;have ez:upd H4 z (.lst []) z=some (.lst []):=qb;generalize upd H4 z (.lst [])=H5 at sz ez ⊢;refine qcH (sz _ _ ah) ez ?_;ext
    cases bg:us.isEmpty with
    | true =>
     have bh:us=[]:=List.isEmpty_iff.mp bg;subst bh;refine yq ?_;have M:=s5.trans sz;have p:=sz _ _ ba;ext;refine .inl ⟨sn,b,_,_,rfl,rfl,M _ _ g,p,by rw [ya,ya];exact yS (qg (by omega)),fun sq Y=>?_⟩;have s7:=qD M (o:=.lst (pss.flatten.map V.str++ps.map V.str)) Y;have bm:=qD (Sr H5) (o:=.lst (pss.flatten.map V.str++ps.map V.str)) Y;have aq:upd H5 sq (.lst (pss.flatten.map V.str++ps.map V.str)) sq=some (.lst ((pss++[ps]).flatten.map V.str)):=by rw [qb];simp
     have bj:sq≠r:=fun e=>by rw [e,M _ _ v] at Y;cases Y
     generalize upd H5 sq (.lst (pss.flatten.map V.str++ps.map V.str))=H6 at s7 bm aq ⊢;have bc:=s7 _ _ v;have bt:=bm _ _ p;have bi:b≠r:=fun e=>by rw [e,v] at ae;cases ae
     ext;refine ⟨.inl ⟨rfl,_,SqL.of bc⟩,?_⟩;ext;refine ⟨r,_,_,rfl,rfl,bc,by rw [ya];exact qg (by omega),?_⟩;refine ⟨sq,pss++[ps],Z++[b],_,_,_,_,_,rfl,qak (s2.trans s7) am,by rw [qb,yF];rfl,by rw [yt];show Z.length+1<=k+1;omega,?_,bj,by rw [qe bj];exact aq,t.more gk ay W⟩;refine All2.snoc (d.mono fun a' p' aj=>⟨aj.1,?_⟩) ⟨bi,?_⟩
     .rw [qe aj.1];exact s7 _ _ aj.2
     .rw [qe bi];exact bt
    | false =>
     have ax:us≠[]:=fun e=>by subst e;cases bg
     obtain ⟨c,u,rfl⟩:∃ c u,us=c++[u]:=⟨us.dropLast,us.getLast ax,(Y8 ax).symm⟩;have be:(c++[u]).length=c.length+1:=by simp
     have an:(!((c++[u]).map V.str).isEmpty)=true:=by cases c<;>rfl
     refine qG (fun _=>?_) (fun h=>absurd an h);refine ⟨fun bn H'=>∃ (b a:Addr) (J L:List Str) (N O:Option V),2*(14-J.length)+L.length<2*(14-ps.length)+(c++[u]).length/\bn=[some (.ref n),some (.ref l),some (.ref r),some (.ref sn),some (.str name),some (.ref b),some (.ref a),N,O]/\L2.Same H1 H'/\H1 b=none/\H1 a=none/\a≠b/\H' b=some (.lst (J.map V.str))/\H' a=some (.lst (L.map V.str))/\WkN tps ss name J L,
      fun bn H' ⟨b,a,J,L,N,O,hm,qbt⟩=>⟨_,hm,b,a,J,L,N,O,rfl,qbt⟩,?_⟩
     ext;refine ⟨.inl ⟨rfl,_,SqL.of (sz _ _ ah)⟩,?_⟩;refine ⟨a,_,.str u,rfl,rfl,sz _ _ ah,by simp,?_⟩;have bo:((c++[u]).map V.str).dropLast=c.map V.str:=by simp
     rw [bo];have M:L2.Same H1 (upd H5 a (.lst (c.map V.str))):=qak (s5.trans sz) au;have p:upd H5 a (.lst (c.map V.str)) b=some (.lst (ps.map V.str)):=by rw [qe I.symm];exact sz _ _ ba
     have as:upd H5 a (.lst (c.map V.str)) a=some (.lst (c.map V.str)):=qb;generalize upd H5 a (.lst (c.map V.str))=H6 at M p as ⊢;have aw:=M _ _ (s2 _ _ hn);ext;refine .inl ⟨⟨_,SqL.of aw⟩,qF (K:=K) (fun j ys H'=>L2.Same H6 H'/\ys=(frN tps (ss.take j) ps u).map V.str) ⟨L2.Same.refl _,by rw [Yw];rfl⟩ (fun j ys H' _ D=>SqL.of (D.1 _ _ aw)) (fun j y ys H7 hy D=>?_) fun ys H7 D=>?_⟩
     .obtain ⟨s7,rfl⟩:=D;obtain ⟨o,gj,rfl⟩:=jf hy;have bx:j<ss.length:=(yc.mp gj).1;have cb:(frN tps (ss.take j) ps u).length<=j:=yi (yI _ _) (by rw [yJ];omega)
      have bd:frN tps (ss.take (j+1)) ps u=frN tps (ss.take j) ps u++if (tB tps u o&&!decide (o∈ps))=true then [o] else []:=by
       unfold frN;rw [yG,gj,y9];show _++[o].filter _=_;rw [yV,Yq]
      ext;refine ⟨l,ts,tps,u,o,rfl,(bu.same s2).same (M.trans s7),fun H8 s8=>⟨_,rfl,?_⟩⟩;have ac:=s7.trans s8;rw [bd]
      cases ht:tB tps u o with
      | true =>
       refine zg ?_;ext;refine .inl ⟨b,_,rfl,.inl (SqL.of (ac _ _ p)),rfl,jF ps,?_⟩;rw [zq];ext
       cases hd:decide (o∈ps) with
       | true=>exact qG (fun h=>by cases h) fun _=>⟨ac,by simp⟩
       | false =>
        refine zg ?_;ext;exact ⟨by rw [ya];exact qg (by omega),ac,by simp⟩
      | false=>exact qG (fun h=>by cases h) fun _=>qG (fun h=>by cases h) fun _=>⟨ac,by simp⟩
     .obtain ⟨s7,rfl⟩:=D;have hw:=W.next br;have bv:=hw.few;rw [yt] at bv;rw [show (ss.map V.str).length=ss.length from ya _,yN];refine ⟨by rw [ya];exact yS (qg (by omega)),fun fr bq=>?_⟩;have s8:=qD s7 (o:=.lst ((frN tps ss ps u).map V.str)) bq;have R:upd H7 fr (.lst ((frN tps ss ps u).map V.str)) fr=some (.lst ((frN tps ss ps u).map V.str)):=qb;generalize upd H7 fr (.lst ((frN tps ss ps u).map V.str))=H8 at s8 R ⊢;have bf:=W.len;rw [be] at bf;ext;refine .inl ⟨b,fr,_,_,rfl,rfl,s8 _ _ p,R,by rw [ya,ya];exact yS (qg (by omega)),fun p2 ak=>?_⟩;have s9:=qD s8 (o:=.lst (ps.map V.str++(frN tps ss ps u).map V.str)) ak;have ad:upd H8 p2 (.lst (ps.map V.str++(frN tps ss ps u).map V.str)) fr=_:=(qe (qm R ak)).trans R;have S:upd H8 p2 (.lst (ps.map V.str++(frN tps ss ps u).map V.str)) p2=some (.lst ((ps++frN tps ss ps u).map V.str)):=by rw [qb,yF]
      have az:=(M.trans s8).free ak;generalize upd H8 p2 (.lst (ps.map V.str++(frN tps ss ps u).map V.str))=H9 at s9 ad S ⊢;ext;refine .inl ⟨a,fr,_,_,rfl,rfl,s9 _ _ as,ad,by rw [ya,ya];exact yS (qg (by omega)),fun l2 X=>?_⟩;have bw:=qD s9 (o:=.lst (c.map V.str++(frN tps ss ps u).map V.str)) X;have bp:=(qe (o:=.lst (c.map V.str++(frN tps ss ps u).map V.str)) (qm S X)).trans S;exact ⟨p2,l2,_,_,_,_,by rw [yt,yt,be];omega,rfl,M.trans bw,az,(M.trans s9).free X,(qm S X).symm,bp,by rw [qb,yF],hw⟩
   .have ar:name∈pss.flatten:=by simpa using ag
    ext;exact ⟨sn,pss,Z,_,_,_,_,_,rfl,s2,v,Xp av,d,aa,g,t.skip gk ar⟩
  .obtain ⟨sn,pss,Z,x4,x5,x6,N,O,rfl,s2,v,av,d,aa,g,t⟩:=D;ext;rw [ya] at t;exact q r Z pss H1 s2 am v d t
theorem KI:FnScope ["_law_names_here","_law_ties_here","_law_bar","_law_left"] ["_law_names_here","_law_ties_here","_law_bar"] (qh zN):=fS
theorem qcM (a b:Int):(if false=true then !eqV (V.int a) (V.int b) else eqV (V.int a) (V.int b))=decide (a=b):=by
 rw [yD (by decide)];unfold eqV;by_cases h:a=b<;>simp [h]
theorem qdr {i j:Int} {Q:VK} (q:Q (.bl (decide (i=j))) H):qeH K (.int i) (.int j) H Q:=.inl (.inl (.inl ⟨rfl,rfl,by rw [qcM];exact q⟩))
noncomputable def zv (ss bs:List Str):List Str:=ss.filter fun s=>!decide (s∈bs)
noncomputable def zX (pss:List (List Str)):List (List Str):=pss.filter fun p=>decide (p.length % 2=1)
theorem qcN {bs:List Str}:s∈zv ss bs↔s∈ss/\s∉bs:=by
 unfold zv;rw [yp,YU,YQ]
inductive spOd (vs:List V) (H:Hp) (Q:VK) (E:XK):Prop|mk (n l b:Addr) (ss bs:List Str) (ts:List Addr) (tps:List (Str×Str)) (_:vs=[.ref n,.ref l,.ref b]) (_:H n=some (.lst (ss.map V.str))) (_:ss.Nodup) (_:ss.length<=14) (_:PL H l ts tps) (_:H b=some (.lst (bs.map V.str))) (_:∀ (r:Addr) (ls:List Addr) (pss:List (List Str)) (H':Hp),L2.Same H H'->H r=none->H' r=some (.lst (ls.map V.ref))->All2 (TlS H' r) ls (zX pss)->PcsN tps (zv ss bs) (zv ss bs).length pss->Q (.ref r) H')
theorem ok_od (F:Fun K "_law_odds" "_law_odds" zN f fd) (T:Txt K mg cc cw) (K8:DefOk P w K mg base CX0 2 "_law_pieces" ["_law_names_here","_law_ties_here"] spPi):FnOk P w K mg base CX0 3 f fd ["_law_names_here","_law_ties_here","_law_bar"] spOd:=by
 refine F.ok KI fun _ _ _ _ H vs Q E hr h=>?_
 .obtain ⟨n,l,b,ss,bs,ts,tps,rfl,hn,S,few,X,hb,q⟩:=h;have hu:=j9 hr;refine ⟨_,(qc (zV (sc:=qh zN) (XN:=["_law_names_here","_law_ties_here","_law_bar","_law_left"]) ["_law_name","_law_bar"] 1 [2] rfl rfl rfl (by decide +kernel) rfl (by decide +kernel) (i:=3) KI.nd rfl rfl
  (qK (K:=K) rfl (pv 0)) (fun _ _ _ _=>(qr (i:=0) (show (["_law_name","_law_bar"]:List Str).Nodup by decide +kernel) rfl (yR rfl))) qP
  (fun _ _ _ _=>(qY (qk (jt (K:=K) rfl hu) (pv 0) (pv 1) (by with_unfolding_all rfl))))
  (fun _ _ _ _=>(pv 0)))
 (qf (qo (jo (sc:=qh zN) (XN:=["_law_names_here","_law_ties_here","_law_bar","_law_left"]) ["_law_piece"] 1 [] rfl rfl rfl (by decide +kernel) rfl (by decide +kernel)
  (qK (K:=K) rfl (qu K8 (hmR hr) qE (qa (pv 3) (qa (pv 1) qd)))) (fun _ _ _ _=>(qr (i:=0) (show (["_law_piece"]:List Str).Nodup by decide +kernel) rfl (yR rfl))) qP
  (fun _ _ _ _=>(qY (qk (zW (K:=K) rfl hu) (qA j7 (qp (jK (K:=K) rfl) rfl T.b_len Yz (qa (pv 0) qd)) qi) qi (qx _))))
  (fun _ _ _ _=>(pv 0)))))),?_⟩
  ext;refine .inl ⟨⟨_,SqL.of hn⟩,qF (K:=K) (fun j ys H'=>H'=H/\ys=(zv (ss.take j) bs).map V.str) ⟨rfl,by rw [Yw];rfl⟩ (fun j ys H' _ m=>by rw [m.1];exact SqL.of hn) (fun j y ys A M m=>?_) fun ys A m=>?_⟩
  .obtain ⟨rfl,rfl⟩:=m;obtain ⟨o,gj,rfl⟩:=jf M;have aa:j<ss.length:=(yc.mp gj).1;have G:(zv (ss.take j) bs).length<=j:=yi (yI _ _) (by rw [yJ];omega)
   have s:zv (ss.take (j+1)) bs=zv (ss.take j) bs++if (!decide (o∈bs))=true then [o] else []:=by
    unfold zv;rw [yG,gj,y9];show _++[o].filter _=_;rw [yV,Yq]
   rw [s];ext;refine .inl ⟨b,_,rfl,.inl (SqL.of hb),rfl,jF bs,?_⟩;rw [zq];ext
   cases hd:decide (o∈bs) with
   | true=>exact qG (fun h=>by cases h) fun _=>⟨rfl,by simp⟩
   | false =>
    refine zg ?_;ext;exact ⟨by rw [ya];exact qg (by omega),rfl,by simp⟩
  .obtain ⟨rfl,rfl⟩:=m;rw [show (ss.map V.str).length=ss.length from ya _,yN];have W:(zv ss bs).length<=14:=yi (yI _ _) few;refine ⟨by rw [ya];exact yS (qg (by omega)),fun N R=>?_⟩;have O:=qD (Sr A) (o:=.lst ((zv ss bs).map V.str)) R;have B:upd A N (.lst ((zv ss bs).map V.str)) N=some (.lst ((zv ss bs).map V.str)):=qb;generalize upd A N (.lst ((zv ss bs).map V.str))=H8 at O B ⊢;ext;refine ⟨N,l,zv ss bs,ts,tps,rfl,B,S.sublist Xa,W,X.same O,fun r ls pss Y s9 ac J t v=>?_⟩;have I:=t.len
   have x:pss.length<=14:=by
    have h1:=v.few
    have:∀ l:List (List Str),(∀ p∈l,p≠[])->l.length<=l.flatten.length:=fun l=>by
     induction l with
     | nil=>intro _;exact yh _
     | cons p l ih =>
      intro hl;have m:=List.length_pos_iff.mpr (hl p (by simp));have:=ih fun q hq=>hl q (by simp [hq]);rw [xx,yt,yA];omega
    have:=this pss fun p m e=>by obtain ⟨a,ha,_⟩:=(v.pc p m).con;rw [e] at ha;cases ha
    omega
   refine .inl ⟨⟨_,SqL.of J⟩,qF (K:=K) (fun j ys H'=>H'=Y/\∃ d,ys=d.map V.ref/\All2 (TlS Y r) d (zX (pss.take j))) ⟨rfl,[],rfl,by rw [Yw];exact All2.nil⟩ (fun j ys H' _ m=>by rw [m.1];exact SqL.of J) (fun j y ys A M m=>?_) fun ys A m=>?_⟩
   .obtain ⟨rfl,d,rfl,c⟩:=m;rw [yd] at M;obtain ⟨a,C,rfl⟩:=yn.mp M;have hj:j<pss.length:=by rw [<- I];exact (yc.mp C).1
    have D:pss[j]?=some pss[j]:=yb hj;have Z:=t.at_ j a pss[j] C D;have u:=c.len;have G:(zX (pss.take j)).length<=j:=yi (yI _ _) (by rw [yJ];omega)
    have s:zX (pss.take (j+1))=zX (pss.take j)++if decide (pss[j].length % 2=1)=true then [pss[j]] else []:=by
     unfold zX;rw [yG,D,y9];show _++[pss[j]].filter _=_;rw [yV,Yq]
    rw [s];ext;refine zk Z.2 ?_;rw [ya];ext;refine vI (by decide) ?_;ext;refine qdr ?_;have eo:decide ((pss[j].length:Int) % 2=1)=decide (pss[j].length % 2=1):=YR.mpr (by omega);rw [eo];ext;refine qG (fun U=>?_) fun U=>?_
    .ext;rw [yK U];exact ⟨by rw [ya,u];exact qg (by omega),rfl,d++[a],by rw [yF];rfl,All2.snoc c Z⟩
    .rw [yD U,Yl];exact ⟨rfl,d,rfl,c⟩
   .obtain ⟨rfl,d,rfl,c⟩:=m;rw [show (ls.map V.ref).length=pss.length by rw [ya,I],yN] at c;have u:=c.len;have G:(zX pss).length<=14:=yi (yI _ _) x;refine ⟨by rw [ya,u];exact yS (qg (by omega)),fun g L=>?_⟩;exact q g d pss _ ((O.trans s9).trans (qD (Sr _) L)) ((O.trans s9).free L) qb (c.mono fun a p z=>⟨(qm z.2 L),by rw [qe (qm z.2 L)];exact z.2⟩) v
theorem Kx:FnScope ["_law_ties_here","_law_pairs","_law_row","_law_k"] ["_law_ties_here","_law_pairs","_law_row"] (qh zO):=fS
theorem qbs {Q:VK} {k:Nat} {x:Str} (a:H p=some (.lst (ss.map V.str))) (h:ss[k]?=some x) (q:Q (.str x) H):qez K (.ref p) (.int k) H Q:=
 .inl (qao a (qL (by rw [yd,h];rfl)) q)
theorem qdX {n:Addr} {Q:VK} (a:H n=some (.lst (ss.map V.str))) (q:Q (.bl (decide (z∈ss))) H):qdO K false (.str z) (.ref n) H Q:=
 .inl ⟨n,_,rfl,.inl (.of a),rfl,jF ss,by rw [yD (by decide),zq];exact q⟩
theorem vEqP {Q:VK} (q:Q (.bl (decide (pt qs z=some y))) H):qeH K (ptV qs z) (.str y) H Q:=by
 unfold ptV
 cases e:pt qs z with
 | none =>
  rw [e,yl (by simp)] at q;exact .inl (.inl (.inl ⟨rfl,rfl,q⟩))
 | some b =>
  rw [e] at q;refine qeV ?_
  rwa [show decide (b=y)=decide (some b=some y) from YR.mpr (by simp)]
structure RwN (tps qs:List (Str×Str)) (r:List Str):Prop where
 nd:r.Nodup
 two:2<=r.length
 few:r.length<=14
 tie:∀ (j:Nat) a b,r[j]?=some a->r[j+1]?=some b->tB tps a b=true
 trn:∀ (j:Nat) a b,r[j]?=some a->r[j+1]?=some b->(pt qs b=some a↔(j+1) % 2=0)
inductive spIr (vs:List V) (H:Hp) (Q:VK) (E:XK):Prop|mk (l u x:Addr) (ts us:List Addr) (tps qs:List (Str×Str)) (r:List Str) (_:vs=[.ref l,.ref u,.ref x]) (_:PL H l ts tps) (_:PL H u us qs) (_:H x=some (.lst (r.map V.str))) (_:RwN tps qs r) (_:∀ H',L2.Same H H'->Q (.bl true) H')
theorem ok_ir (F:Fun K "_law_is_row" "_law_is_row" zO f fd) (T:Txt K mg cc cw) (kW:DefOk P w K mg base CX0 1 "_law_tied" ["_law_ties_here","_law_one","_law_other"] spTd) (M:DefOk P w K mg base CX0 1 "_law_partner" ["_law_pairs","_law_name"] spPa):FnOk P w K mg base CX0 2 f fd ["_law_ties_here","_law_pairs","_law_row"] spIr:=by
 refine F.ok Kx fun _ _ _ _ H vs Q E I h=>?_
 .obtain ⟨l,u,x,ts,us,tps,qs,r,rfl,hl,Z,d,g,q⟩:=h;have a:=j9 I;refine ⟨_,(qc (qN (PW.pt (qaL (jr (jh (qp (qa9 (K:=K) rfl) rfl T.b_isinstance Y7 (qa (pv 2) (qa (j5 (v:=.ty "list") rfl T.b_list xP rfl) qd))))) (zR (qk qdw (qp (jK (K:=K) rfl) rfl T.b_len Yz (qa (pv 2) qd)) qi (qx _))))) (qf (qo j4)) qt)
 (qc (jp yU rfl (jD rfl T.b_range (qa (qp (jK (K:=K) rfl) rfl T.b_len Yz (qa (pv 2) qd)) qd)) (qr (i:=3) Kx.nd rfl (yR rfl))
 (qc (qN (PW.pt (qaL (jr (jh (qp (qa9 (K:=K) rfl) rfl T.b_isinstance Y7 (qa (qv (qw (K:=K) rfl a) (pv 2) (pv 3) (fun _ _=>rfl)) (qa (j5 (v:=.ty "str") rfl T.b_str boot_str rfl) qd))))) (zR (qk (qar (K:=K) rfl a) (qv (qw (K:=K) rfl a) (pv 2) (pv 3) (fun _ _=>rfl)) (ze (qd9 (K:=K) rfl) (pv 2) zT (jQ (pv 3))) (by with_unfolding_all rfl))))) (qf (qo j4)) qt)
 (qc (qN (PW.pt (qaw (qk qb6 (pv 3) qi (qx _)) (zx (jr (jh (qu kW (hmR I) qE (qa (pv 0) (qa (qv (qw (K:=K) rfl a) (pv 2) (qA qa3 (pv 3) qi) (fun _ _=>rfl)) (qa (qv (qw (K:=K) rfl a) (pv 2) (pv 3) (fun _ _=>rfl)) qd))))))))) (qf (qo j4)) qt)
 (qf (qN (PW.pt (qaw (qk qb6 (pv 3) qi (qx _)) (zx (qk (qaq (K:=K) rfl a) (jH (zW (K:=K) rfl a) (qu M (hmR I) qE (qa (pv 1) (qa (qv (qw (K:=K) rfl a) (pv 2) (pv 3) (fun _ _=>rfl)) qd))) (qv (qw (K:=K) rfl a) (pv 2) (qA qa3 (pv 3) qi) (fun _ _=>rfl)) (qx _)) (jH (zW (K:=K) rfl a) (qA j7 (pv 3) qi) qi (qx _)) (qx _))))) (qf (qo j4)) qt)))))
 (qf (qo j4)))),?_⟩
  ext;refine qcT (.inl (.lst d)) rfl (qap K "list" (by simp) "list" (by simp)) ?_;ext;refine yq ?_;ext;refine zk d ?_;rw [ya];ext;have h2:=g.two;have U:=g.few;refine qG (fun h=>absurd (yk h) (by omega)) fun _=>?_;ext;refine zk d ?_;rw [ya];ext;refine ⟨_,rfl,by omega,by omega,zy (fun i L H'=>L2.Same H H'/\∃ J,L=[some (.ref l),some (.ref u),some (.ref x),J]) ⟨L2.Same.refl H,_,rfl⟩ (fun i L H1 W n=>?_) fun L H1 n=>?_⟩
  .obtain ⟨C,J,rfl⟩:=n;have m:i<r.length:=by simpa using W
   obtain ⟨z,hz⟩:∃ z,r[i]?=some z:=⟨_,yb m⟩;have e:=C _ _ d;rw [XV];ext;refine qbs e hz ?_;ext;refine qcT (.inl (.str z)) rfl (qap K "str" (by simp) "str" (by simp)) ?_;ext;refine yq ?_;ext;refine qbs e hz ?_;ext;refine .inl ⟨x,_,rfl,SqL.of e,fun p n=>?_⟩;rw [qaU,<- List.map_take];have t:=qD C (o:=.lst ((r.take i).map V.str)) n;have ep:upd H1 p (.lst ((r.take i).map V.str)) p=some (.lst ((r.take i).map V.str)):=qb;generalize upd H1 p (.lst ((r.take i).map V.str))=H2 at t ep ⊢;have s:=t _ _ d;ext;refine qdX ep ?_
   have G:z∉r.take i:=fun Y=>by
    obtain ⟨j,X,A⟩:=List.mem_take_iff_getElem.mp Y;have D:j<i:=yj X (Nat.min_le_left _ _);have R:=(yc.mp hz).2;exact (Yp.mp g.nd) j i (by omega) m D (A.trans R.symm)
   rw [yl G];ext;refine yq ?_;ext;by_cases S:i=0
   .subst S;refine qG (fun h=>absurd (yk h) (by omega)) fun _=>?_;refine yq ?_;ext;refine qG (fun h=>absurd (yk h) (by omega)) fun _=>?_;refine yq ?_;ext;exact ⟨t,_,rfl⟩
   .obtain ⟨j,rfl⟩:∃ j,i=j+1:=⟨i-1,by omega⟩;obtain ⟨y,B⟩:∃ y,r[j]?=some y:=⟨_,yb (by omega)⟩;refine qG (fun _=>?_) fun h=>absurd (yQ (by omega)) h;ext;have A:((j+1:Nat):Int)-1=(j:Int):=by omega
    rw [A];refine qbs s B ?_;ext;refine qbs s hz ?_;ext;refine ⟨l,ts,tps,y,z,rfl,hl.same t,fun H3 s3=>?_⟩;rw [g.tie j y z B hz];have c:=t.trans s3;refine ⟨_,rfl,qG (fun h=>by cases h) fun _=>?_⟩;ext;refine qG (fun _=>?_) fun h=>absurd (yQ (by omega)) h;ext;refine qbs (c _ _ d) hz ?_;ext;refine ⟨u,us,qs,z,rfl,Z.same c,?_⟩;ext;rw [A];refine qbs (c _ _ d) B ?_;ext;refine vEqP ?_;ext;refine vI (by decide) ?_;ext;refine qdr ?_;have N:decide (pt qs z=some y)=decide (((j+1:Nat):Int) % 2=0):=YR.mpr ((g.trn j y z B hz).trans (by omega));rw [N];refine .inl ⟨rfl,rfl,_,rfl,?_⟩;have O:∀ b:Bool,(if true=true then !eqV (V.bl b) (V.bl b) else eqV (V.bl b) (V.bl b))=false:=fun b=>by cases b<;>rfl
    rw [O];refine yq ?_;ext;exact ⟨c,_,rfl⟩
  .obtain ⟨C,J,rfl⟩:=n;ext;exact q H1 C
theorem Kq:FnScope ["_law_names_here","_law_pairs","_law_row","_law_steps","_law_kept"] ["_law_names_here","_law_pairs","_law_row"] (qh jz):=fS
theorem qdY {a:Addr} {Q:VK} (h:PL H l ts tps) (x:H a=some (.tup [.str s,.str t])) (q:Q (.bl (!decide ((s,t)∈tps))) H):qdO K true (.ref a) (.ref l) H Q:=by
 have z:=qec (K:=K) (Q:=fun v H'=>v=.bl (decide ((s,t)∈tps))/\H'=H) h x ⟨rfl,rfl⟩;rcases z with ⟨p,xs,d,_,c,_⟩ | ⟨p,o,e,g,c,_⟩ | ⟨p,xs,e,n,d,c,f,i,m,_⟩
 .cases c
 .cases e;rcases g with ⟨kvs,k,e | ⟨y,e⟩,_⟩ | ⟨kvs,k,b,e | ⟨y,e⟩,_⟩<;>(rw [h.1] at e;cases e)
 .refine .inr (.inr ⟨p,xs,e,n,d,c,f,i,?_⟩)
  have r:xs.any e=decide ((s,t)∈tps):=by
   have:=m;rw [yD (by decide)] at this;cases u:xs.any e<;>cases w:decide ((s,t)∈tps)<;>rw [u,w] at this<;>first | rfl | (cases this)
  rw [yK rfl,r];exact q
theorem All2.app9 {R:α->β->Prop} {l1 l2:List α} {m1 f:List β} (a:All2 R l1 m1) (b:All2 R l2 f):All2 R (l1++l2) (m1++f):=by
 refine ⟨by rw [yt,yt,a.len,b.len],fun k x y c d=>?_⟩;by_cases e:k<l1.length
 .rw [yT e] at c;rw [yT (by rw [<- a.len];exact e)] at d;exact a.at_ k x y c d
 .rw [yz (by omega)] at c;rw [yz (by rw [<- a.len];omega),<- a.len] at d;exact b.at_ _ x y c d
noncomputable def stp (r:List Str):List (Str×Str):=r.zip r.tail
noncomputable def kpN (qs st:List (Str×Str)):List (Str×Str):=qs.filter fun q=>!decide (q∈st)&&!decide ((q.2,q.1)∈st)
noncomputable def nwN (qs st:List (Str×Str)):List (Str×Str):=st.filter fun q=>!tB qs q.1 q.2
inductive spTu (vs:List V) (H:Hp) (Q:VK) (E:XK):Prop|mk (n u x:Addr) (us:List Addr) (qs:List (Str×Str)) (r:List Str) (_:vs=[.ref n,.ref u,.ref x]) (_:PL H u us qs) (_:qs.length<=30) (_:H x=some (.lst (r.map V.str))) (_:1<=r.length) (_:r.length<=14) (_:∀ (l:Addr) (vs:List Addr) (H':Hp),L2.Same H H'->H l=none->PL H' l vs (kpN qs (stp r)++nwN qs (stp r))->Q (.ref l) H')
theorem ok_tu (F:Fun K "_law_turned" "_law_turned" jz f fd) (T:Txt K mg cc cw) (kW:DefOk P w K mg base CX0 1 "_law_tied" ["_law_ties_here","_law_one","_law_other"] spTd):FnOk P w K mg base CX0 2 f fd ["_law_names_here","_law_pairs","_law_row"] spTu:=by
 refine F.ok Kq fun _ _ _ _ H vs Q E hr h=>?_
 .obtain ⟨n,u,x,us,qs,r,rfl,hq,ae,hx,h1,ak,q⟩:=h;have hu:=j9 hr;refine ⟨_,(qc (qq (i:=3) Kq.nd rfl (XG rfl) (jo (sc:=qh jz) (XN:=["_law_names_here","_law_pairs","_law_row","_law_steps","_law_kept"]) ["_law_k","_law_row"] 1 [2] rfl rfl rfl (by decide +kernel) rfl (by decide +kernel)
  (jD rfl T.b_range (qa (qA qa3 (qp (jK (K:=K) rfl) rfl T.b_len Yz (qa (pv 2) qd)) qi) qd)) (fun _ _ _ _=>(qr (i:=0) (show (["_law_k","_law_row"]:List Str).Nodup by decide +kernel) rfl (yR rfl))) qP
  (fun _ _ _ _=>zj)
  (fun _ _ _ _=>(qax (qa (qv (qw (K:=K) rfl hu) (pv 1) (pv 0) (fun _ _=>rfl)) (qa (qv (qw (K:=K) rfl hu) (pv 1) (qA (jI (K:=K) rfl) (pv 0) qi) (fun _ _=>rfl)) qd))))))
 (qc (zV (sc:=qh jz) (XN:=["_law_names_here","_law_pairs","_law_row","_law_steps","_law_kept"]) ["_law_tie","_law_steps"] 1 [3] rfl rfl rfl (by decide +kernel) rfl (by decide +kernel) (i:=4) Kq.nd rfl rfl
  (qK (K:=K) rfl (pv 1)) (fun _ _ _ _=>(qr (i:=0) (show (["_law_tie","_law_steps"]:List Str).Nodup by decide +kernel) rfl (yR rfl))) qP
  (fun _ _ _ _=>(qY (PW.pt (qaw (qk (jt (K:=K) rfl hu) (pv 0) (pv 1) (by with_unfolding_all rfl)) (zx (qk (jt (K:=K) rfl hu) (qdQ (K:=K) rfl (pv 0) (jQ (qbh zY qi))) (pv 1) (by with_unfolding_all rfl)))))))
  (fun _ _ _ _=>(pv 0)))
 (qf (qo (qA (jI (K:=K) rfl) (pv 4) (jo (sc:=qh jz) (XN:=["_law_names_here","_law_pairs","_law_row","_law_steps","_law_kept"]) ["_law_step","_law_pairs"] 1 [1] rfl rfl rfl (by decide +kernel) rfl (by decide +kernel)
  (qK (K:=K) rfl (pv 3)) (fun _ _ _ _=>(qr (i:=0) (show (["_law_step","_law_pairs"]:List Str).Nodup by decide +kernel) rfl (yR rfl))) qP
  (fun _ _ _ _=>(qY (jr (jh (qu kW (hmR hr) qE (qa (pv 1) (qa (qv (qw (K:=K) rfl hu) (pv 0) qi (fun _ _=>rfl)) (qa (qv (qw (K:=K) rfl hu) (pv 0) qi (fun _ _=>rfl)) qd))))))))
  (fun _ _ _ _=>(pv 0)))))))),?_⟩
  ext;refine zk hx ?_;rw [ya];ext;have af:(stp r).length=r.length-1:=by unfold stp;rw [List.length_zip,List.length_tail];omega
  have stp_at:∀ (j:Nat) a b,r[j]?=some a->r[j+1]?=some b->(stp r)[j]?=some (a,b):=fun j a b J hb=>by
   unfold stp;rw [xq];exact ⟨J,by rw [Xi];exact hb⟩
  refine ⟨_,rfl,by omega,by omega,qan (fun j ys H'=>L2.Same H H'/\∃ C:List Addr,ys=C.map V.ref/\All2 (fun t ab=>H' t=some (.tup [.str ab.1,.str ab.2])) C ((stp r).take j)) ⟨L2.Same.refl H,[],rfl,by rw [Yw];exact All2.nil⟩ (fun j ys H1 hj c=>?_) fun ys H1 c=>?_⟩
  .obtain ⟨s1,C,rfl,J⟩:=c;have ai:j+1<r.length:=by omega
   have e1:r[j]?=some r[j]:=yb (by omega);have e2:r[j+1]?=some r[j+1]:=yb ai;have ag:=s1 _ _ hx;have A:=J.len;rw [yJ] at A;rw [XV];ext;refine zg ?_;ext;refine qbs ag e1 ?_;ext;have ej:(j:Int)+1=((j+1:Nat):Int):=by omega
   rw [ej];refine qbs ag e2 ?_;ext;refine ⟨(by decide:2<=sizeLine),fun t O=>?_⟩;have s2:=qD s1 (o:=.tup [.str r[j],.str r[j+1]]) O;have Z:=qD (Sr H1) (o:=.tup [.str r[j],.str r[j+1]]) O;refine ⟨by rw [ya];exact qg (by omega),s2,C++[t],by rw [yF];rfl,?_⟩;rw [yG,stp_at j _ _ e1 e2];exact All2.snoc (J.mono fun _ _ z=>Z _ _ z) qb
  .obtain ⟨s1,C,rfl,J⟩:=c;rw [show ((r.length:Int)-1).toNat=(stp r).length by rw [af];omega,yN] at J;have A:=J.len;refine ⟨by rw [ya,A,af];exact yS (qg (by omega)),fun g hg=>?_⟩;have s2:=qD s1 (o:=.lst (C.map V.ref)) hg;have Z:=qD (Sr H1) (o:=.lst (C.map V.ref)) hg;have hS:PL (upd H1 g (.lst (C.map V.ref))) g C (stp r):=⟨qb,J.mono fun _ _ z=>Z _ _ z⟩;generalize upd H1 g (.lst (C.map V.ref))=H2 at s2 hS ⊢;have D:=hq.same s2;have N:=hq.2.len;ext;refine .inl ⟨⟨_,SqL.of D.1⟩,qF (K:=K) (fun j ys H'=>L2.Same H2 H'/\∃ l:List Addr,ys=l.map V.ref/\All2 (fun t ab=>H' t=some (.tup [.str ab.1,.str ab.2])) l (kpN (qs.take j) (stp r))) ⟨L2.Same.refl H2,[],rfl,by rw [Yw];exact All2.nil⟩ (fun j ys H' _ c=>SqL.of (c.1 _ _ D.1)) (fun j y ys R hy c=>?_) fun ys R c=>?_⟩
   .obtain ⟨s3,l,rfl,e⟩:=c;rw [yd] at hy;obtain ⟨t,O,rfl⟩:=yn.mp hy;have hj:j<qs.length:=by rw [<- N];exact (yc.mp O).1
    have d:qs[j]?=some qs[j]:=yb hj;generalize qs[j]=ab at d;have S:=s3 _ _ (D.2.at_ j t ab O d);have W:=e.len;have ac:(kpN (qs.take j) (stp r)).length<=j:=yi (yI _ _) (by rw [yJ];omega)
    have Y:kpN (qs.take (j+1)) (stp r)=kpN (qs.take j) (stp r)++if (!decide (ab∈stp r)&&!decide ((ab.2,ab.1)∈stp r))=true then [ab] else []:=by
     unfold kpN;rw [yG,d,y9];show _++[ab].filter _=_;rw [yV,Yq]
    rw [Y];ext;refine qdY (hS.same s3) S ?_;refine ⟨_,rfl,?_⟩;rw [show decide ((ab.1,ab.2)∈stp r)=decide (ab∈stp r) from rfl]
    cases al:decide (ab∈stp r) with
    | true=>exact qG (fun h=>by cases h) fun _=>qG (fun h=>by cases h) fun _=>⟨s3,l,rfl,by simpa using e⟩
    | false =>
     refine zg ?_;ext;refine ⟨1,rfl,_,rfl,rfl,t,_,_,rfl,SqT.of S,fun p c=>?_⟩;have G:=qD s3 (o:=.tup [.str ab.2,.str ab.1]) c;have B:=qD (Sr R) (o:=.tup [.str ab.2,.str ab.1]) c;have ep:upd R p (.tup [.str ab.2,.str ab.1]) p=some (.tup [.str ab.2,.str ab.1]):=qb;generalize upd R p (.tup [.str ab.2,.str ab.1])=H4 at G B ep ⊢;have L:=e.mono fun _ _ z=>B _ _ z;ext;refine qdY (hS.same G) ep ?_;refine ⟨_,rfl,?_⟩
     cases am:decide ((ab.2,ab.1)∈stp r) with
     | true=>exact qG (fun h=>by cases h) fun _=>⟨G,l,rfl,by simpa using L⟩
     | false =>
      refine zg ?_;ext;exact ⟨by rw [ya,W];exact qg (by omega),G,l++[t],by rw [yF];rfl,All2.snoc L (B _ _ S)⟩
   .obtain ⟨s3,l,rfl,e⟩:=c;rw [show (us.map V.ref).length=qs.length by rw [ya,N],yN] at e;have W:=e.len;have ac:(kpN qs (stp r)).length<=30:=yi (yI _ _) ae;refine ⟨by rw [ya,W];exact yS (qg (by omega)),fun k hk=>?_⟩;have G:=qD s3 (o:=.lst (l.map V.ref)) hk;have B:=qD (Sr R) (o:=.lst (l.map V.ref)) hk;have hK:PL (upd R k (.lst (l.map V.ref))) k l (kpN qs (stp r)):=⟨qb,e.mono fun _ _ z=>B _ _ z⟩;generalize upd R k (.lst (l.map V.ref))=H4 at G hK ⊢;have U:=hS.same G;have aj:=D.same G;ext;refine .inl ⟨⟨_,SqL.of U.1⟩,qF (K:=K) (fun j ys H'=>L2.Same H4 H'/\∃ v:List Addr,ys=v.map V.ref/\All2 (fun t ab=>H' t=some (.tup [.str ab.1,.str ab.2])) v (nwN qs ((stp r).take j))) ⟨L2.Same.refl H4,[],rfl,by rw [Yw];exact All2.nil⟩ (fun j ys H' _ c=>SqL.of (c.1 _ _ U.1)) (fun j y ys H5 hy c=>?_) fun ys H5 c=>?_⟩
    .obtain ⟨s5,v,rfl,s⟩:=c;rw [yd] at hy;obtain ⟨t,O,rfl⟩:=yn.mp hy;have hj:j<(stp r).length:=by rw [<- A];exact (yc.mp O).1
     have d:(stp r)[j]?=some (stp r)[j]:=yb hj;generalize (stp r)[j]=ab at d;have S:=s5 _ _ (U.2.at_ j t ab O d);have X:=s.len;have ad:(nwN qs ((stp r).take j)).length<=j:=yi (yI _ _) (by rw [yJ];omega)
     have Y:nwN qs ((stp r).take (j+1))=nwN qs ((stp r).take j)++if (!tB qs ab.1 ab.2)=true then [ab] else []:=by
      unfold nwN;rw [yG,d,y9];show _++[ab].filter _=_;rw [yV,Yq]
     rw [Y];ext;refine .inl (qa8 S (i:=0) rfl ?_);ext;refine .inl (qa8 S (i:=1) rfl ?_);ext;refine ⟨u,us,qs,_,_,rfl,aj.same s5,fun H6 s6=>?_⟩;have I:=s5.trans s6;have M:=s.mono fun _ _ z=>s6 _ _ z;refine ⟨_,rfl,?_⟩
     cases an:tB qs ab.1 ab.2 with
     | true=>exact qG (fun h=>by cases h) fun _=>⟨I,v,rfl,by simpa using M⟩
     | false =>
      refine zg ?_;ext;exact ⟨by rw [ya,X];exact qg (by omega),I,v++[t],by rw [yF];rfl,All2.snoc M (s6 _ _ S)⟩
    .obtain ⟨s5,v,rfl,s⟩:=c;rw [show (C.map V.ref).length=(stp r).length by rw [ya,A],yN] at s;have X:=s.len;have ad:(nwN qs (stp r)).length<=14:=yi (yI _ _) (by omega);refine ⟨by rw [ya,X];exact yS (qg (by omega)),fun m hm=>?_⟩;have s6:=qD s5 (o:=.lst (v.map V.ref)) hm;have I:=qD (Sr H5) (o:=.lst (v.map V.ref)) hm;have hN:PL (upd H5 m (.lst (v.map V.ref))) m v (nwN qs (stp r)):=⟨qb,s.mono fun _ _ z=>I _ _ z⟩;generalize upd H5 m (.lst (v.map V.ref))=H6 at s6 hN ⊢;have aa:=hK.same s6;ext;refine .inl ⟨k,m,_,_,rfl,rfl,aa.1,hN.1,by rw [ya,ya];exact yS (qg (by omega)),fun z hz=>?_⟩;have s7:=qD (Sr H6) (o:=.lst (l.map V.ref++v.map V.ref)) hz;have ah:=(s2.trans G).trans s6;refine q z (l++v) _ (ah.trans s7) (ah.free hz) ⟨by rw [qb,yF],?_⟩;exact All2.app9 (aa.2.mono fun _ _ z=>s7 _ _ z) (hN.2.mono fun _ _ z=>s7 _ _ z)
theorem Ko:FnScope ["_law_names_here","_law_ties_here","_law_pairs","_law_row","_law_alone","_law_behind","_law_ends"] ["_law_names_here","_law_ties_here","_law_pairs","_law_row"] (qh zP):=fS
theorem atI_lastV {c:V} (h:xs≠[]) (e:xs[xs.length-1]?=some c):atI xs (-1)=some c:=by
 have:0<xs.length:=List.length_pos_iff.mpr h;unfold atI
 have a:ixN xs.length (-1)=some (xs.length-1):=by
  unfold ixN;rw [yD (by decide),yK (by omega)]
  congr 1
  omega
 rw [a];exact e
structure MrN (ss:List Str) (tps qs:List (Str×Str)) (r:List Str):Prop where
 row:RwN tps qs r
 ev:r.length % 2=0
 hd:∀ s,r[0]?=some s->s∈sgl ss qs
 tl:∀ s,r[r.length-1]?=some s->s∈sgl ss qs
 len:(kpN qs (stp r)++nwN qs (stp r)).length=qs.length+1
 nd:((kpN qs (stp r)++nwN qs (stp r)).map (·.1)++(kpN qs (stp r)++nwN qs (stp r)).map (·.2)).Nodup
inductive spMr (vs:List V) (H:Hp) (Q:VK) (E:XK):Prop|mk (n l u x:Addr) (ss:List Str) (ts us:List Addr) (tps qs:List (Str×Str)) (r:List Str) (_:vs=[.ref n,.ref l,.ref u,.ref x]) (_:H n=some (.lst (ss.map V.str))) (_:ss.length<=14) (_:PL H l ts tps) (_:PL H u us qs) (_:qs.length<=30) (_:H x=some (.lst (r.map V.str))) (_:MrN ss tps qs r) (_:∀ H',L2.Same H H'->Q (.bl true) H')
theorem ok_mr (F:Fun K "_law_more" "_law_more" zP f fd) (T:Txt K mg cc cw) (K9:DefOk P w K mg base CX0 2 "_law_is_row" ["_law_ties_here","_law_pairs","_law_row"] spIr) (kT:DefOk P w K mg base CX0 2 "_law_singles" ["_law_names_here","_law_pairs"] spSg) (ua:DefOk P w K mg base CX0 2 "_law_turned" ["_law_names_here","_law_pairs","_law_row"] spTu):FnOk P w K mg base CX0 3 f fd ["_law_names_here","_law_ties_here","_law_pairs","_law_row"] spMr:=by
 refine F.ok Ko fun _ _ _ _ H vs Q E hr h=>?_
 .obtain ⟨n,l,u,x,ss,ts,us,tps,qs,r,rfl,hn,few,hl,N,O,hx,z,q⟩:=h;have s:=j9 hr;have h2:=z.row.two;have aa:=z.row.few;refine ⟨_,(qc (qN (PW.pt (qaL (jr (jh (qu K9 (hmR hr) qE (qa (pv 1) (qa (pv 2) (qa (pv 3) qd)))))) (zR (qk (zW (K:=K) rfl s) (qA j7 (qp (jK (K:=K) rfl) rfl T.b_len Yz (qa (pv 3) qd)) qi) qi (qx _))))) (qf (qo j4)) qt)
 (qc (qq (i:=4) Ko.nd rfl (yR rfl) (qu kT (hmR hr) qE (qa (pv 0) (qa (pv 2) qd))))
 (qc (qN (PW.pt (qaL (qk (jt (K:=K) rfl s) (qv (qw (K:=K) rfl s) (pv 3) qi (fun _ _=>rfl)) (pv 4) (by with_unfolding_all rfl)) (zR (qk (jt (K:=K) rfl s) (qv (qw (K:=K) rfl s) (pv 3) (qbh zY qi) (fun _ _=>rfl)) (pv 4) (by with_unfolding_all rfl))))) (qf (qo j4)) qt)
 (qc (qq (i:=5) Ko.nd rfl (yR rfl) (qu ua (hmR hr) qE (qa (pv 0) (qa (pv 2) (qa (pv 3) qd)))))
 (qc (qq (i:=6) Ko.nd rfl (yR rfl) (qA (jI (K:=K) rfl) (jo (sc:=qh zP) (XN:=["_law_names_here","_law_ties_here","_law_pairs","_law_row","_law_alone","_law_behind","_law_ends"]) ["_law_tie"] 1 [] rfl rfl rfl (by decide +kernel) rfl (by decide +kernel)
  (qK (K:=K) rfl (pv 5)) (fun _ _ _ _=>(qr (i:=0) (show (["_law_tie"]:List Str).Nodup by decide +kernel) rfl (yR rfl))) qP
  (fun _ _ _ _=>zj)
  (fun _ _ _ _=>(qv (qw (K:=K) rfl s) (pv 0) qi (fun _ _=>rfl)))) (jo (sc:=qh zP) (XN:=["_law_names_here","_law_ties_here","_law_pairs","_law_row","_law_alone","_law_behind","_law_ends"]) ["_law_tie"] 1 [] rfl rfl rfl (by decide +kernel) rfl (by decide +kernel)
  (qK (K:=K) rfl (pv 5)) (fun _ _ _ _=>(qr (i:=0) (show (["_law_tie"]:List Str).Nodup by decide +kernel) rfl (yR rfl))) qP
  (fun _ _ _ _=>zj)
  (fun _ _ _ _=>(qv (qw (K:=K) rfl s) (pv 0) qi (fun _ _=>rfl))))))
 (qf (qo (qa2 (jH (zW (K:=K) rfl s) (qp (jK (K:=K) rfl) rfl T.b_len Yz (qa (pv 5) qd)) (qA (jI (K:=K) rfl) (qp (jK (K:=K) rfl) rfl T.b_len Yz (qa (pv 2) qd)) qi) (qx _)) (qaM (jH (zW (K:=K) rfl s) (qp (jK (K:=K) rfl) rfl T.b_len Yz (qa (pv 6) qd)) (qp (jK (K:=K) rfl) rfl T.b_len Yz (qa (qp (k_sortS rfl) rfl T.b_sorted boot_sorted (qa (jE (k_setS (K:=K) rfl rfl) rfl T.b_set boot_set (qa (pv 6) qd)) qd)) qd)) (qx _))))))))))),?_⟩
  ext;refine ⟨l,u,x,ts,us,tps,qs,r,rfl,hl,N,hx,z.row,fun H1 s1=>?_⟩;refine ⟨_,rfl,qG (fun h=>by cases h) fun _=>?_⟩;ext;refine zk (s1 _ _ hx) ?_;rw [ya];ext;refine vI (by decide) ?_;ext;refine qdr ?_;have ao:=z.ev;rw [yl (by omega)];ext;refine yq ?_;ext;refine ⟨n,u,ss,us,qs,rfl,s1 _ _ hn,few,N.same s1,fun G ad=>?_⟩;have s2:=qD s1 (o:=.lst ((sgl ss qs).map V.str)) ad;have A:upd H1 G (.lst ((sgl ss qs).map V.str)) G=some (.lst ((sgl ss qs).map V.str)):=qb;generalize upd H1 G (.lst ((sgl ss qs).map V.str))=H2 at s2 A ⊢;have D:=s2 _ _ hx;obtain ⟨a,ea⟩:∃ a,r[0]?=some a:=⟨_,yb (by omega)⟩;obtain ⟨b,eb⟩:∃ b,r[r.length-1]?=some b:=⟨_,yb (by omega)⟩;ext;refine qbs (k:=0) D ea ?_;ext;refine .inl ⟨G,_,rfl,.inl (SqL.of A),rfl,jF (sgl ss qs),?_⟩;rw [zq,yQ (z.hd a ea)];refine ⟨_,rfl,qG (fun h=>by cases h) fun _=>?_⟩;ext;refine ⟨1,rfl,?_⟩;have ah:atI (r.map V.str) (-1)=some (.str b):=atI_lastV (fun e=>by have:=congrArg List.length e;rw [ya,Y6] at this;omega) (by rw [ya,yd,eb];rfl);refine .inl (qao D ah ?_);ext;refine .inl ⟨G,_,rfl,.inl (SqL.of A),rfl,jF (sgl ss qs),?_⟩;rw [zq,yQ (z.tl b eb)];refine ⟨_,rfl,qG (fun h=>by cases h) fun _=>?_⟩;ext;refine ⟨n,u,x,us,qs,r,rfl,N.same s2,O,D,by omega,aa,fun be bs H3 s3 am v=>?_⟩;have M:=z.len;have C:=z.nd;generalize kpN qs (stp r)++nwN qs (stp r)=TL at v M C;have d:=v.2.len;have W:=s2.trans s3;have an:∀ {g:(Str×Str)->Str} (J:Hp),L2.Same H3 J->PL J be bs TL:=fun J sJ=>v.same sJ;ext;refine .inl ⟨⟨_,SqL.of v.1⟩,qF (K:=K) (fun j ys H'=>H'=H3/\ys=((TL.take j).map (·.1)).map V.str) ⟨rfl,rfl⟩ (fun j ys H' _ m=>by rw [m.1];exact SqL.of v.1) (fun j y ys J U m=>?_) fun ys J m=>?_⟩
  .obtain ⟨rfl,rfl⟩:=m;rw [yd] at U;obtain ⟨t,S,rfl⟩:=yn.mp U;have hj:j<TL.length:=by rw [<- d];exact (yc.mp S).1
   have c:TL[j]?=some TL[j]:=yb hj;generalize TL[j]=ab at c;have et:=v.2.at_ j t ab S c;ext;refine zg ?_;ext;refine .inl (qa8 et (i:=0) rfl ?_);refine ⟨by rw [ya,ya,yJ];exact qg (by omega),rfl,?_⟩;rw [yG,c,yF,yF];rfl
  .obtain ⟨rfl,rfl⟩:=m;rw [show (bs.map V.ref).length=TL.length by rw [ya,d],yN];refine ⟨by rw [ya,ya];exact yS (qg (by omega)),fun Z af=>?_⟩;have s4:=qD (Sr J) (o:=.lst ((TL.map (·.1)).map V.str)) af;have I:upd J Z (.lst ((TL.map (·.1)).map V.str)) Z=some (.lst ((TL.map (·.1)).map V.str)):=qb;generalize upd J Z (.lst ((TL.map (·.1)).map V.str))=H4 at s4 I ⊢;have B:=v.same s4;ext;refine .inl ⟨⟨_,SqL.of B.1⟩,qF (K:=K) (fun j ys H'=>H'=H4/\ys=((TL.take j).map (·.2)).map V.str) ⟨rfl,rfl⟩ (fun j ys H' _ m=>by rw [m.1];exact SqL.of B.1) (fun j y ys Y U m=>?_) fun ys Y m=>?_⟩
   .obtain ⟨rfl,rfl⟩:=m;rw [yd] at U;obtain ⟨t,S,rfl⟩:=yn.mp U;have hj:j<TL.length:=by rw [<- d];exact (yc.mp S).1
    have c:TL[j]?=some TL[j]:=yb hj;generalize TL[j]=ab at c;have et:=B.2.at_ j t ab S c;ext;refine zg ?_;ext;refine .inl (qa8 et (i:=1) rfl ?_);refine ⟨by rw [ya,ya,yJ];exact qg (by omega),rfl,?_⟩;rw [yG,c,yF,yF];rfl
   .obtain ⟨rfl,rfl⟩:=m;rw [show (bs.map V.ref).length=TL.length by rw [ya,d],yN];refine ⟨by rw [ya,ya];exact yS (qg (by omega)),fun sa R=>?_⟩;have s5:=qD s4 (o:=.lst ((TL.map (·.2)).map V.str)) R;have X:=qD (Sr Y) (o:=.lst ((TL.map (·.2)).map V.str)) R;have L:upd Y sa (.lst ((TL.map (·.2)).map V.str)) sa=some (.lst ((TL.map (·.2)).map V.str)):=qb;generalize upd Y sa (.lst ((TL.map (·.2)).map V.str))=H5 at s5 X L ⊢;ext;refine .inl ⟨Z,sa,_,_,rfl,rfl,X _ _ I,L,by rw [ya,ya,ya,ya];exact yS (qg (by omega)),fun en ae=>?_⟩;have s6:=qD s5 (o:=.lst ((TL.map (·.1)).map V.str++(TL.map (·.2)).map V.str)) ae;have p:upd H5 en (.lst ((TL.map (·.1)).map V.str++(TL.map (·.2)).map V.str)) en=some (.lst ((TL.map (·.1)++TL.map (·.2)).map V.str)):=by rw [qb,yF]
    generalize upd H5 en (.lst ((TL.map (·.1)).map V.str++(TL.map (·.2)).map V.str))=H6 at s6 p ⊢;have ac:(TL.map (·.1)++TL.map (·.2)).length=2*(qs.length+1):=by rw [yt,ya,ya];omega
    generalize TL.map (·.1)++TL.map (·.2)=EN at ac C p;ext;refine zk (s6 _ _ v.1) ?_;rw [ya,d];ext;refine zk ((W.trans s6) _ _ N.1) ?_;rw [ya,N.2.len];ext;refine qdr ?_;rw [yQ (by omega)];ext;refine zg ?_;ext;refine zk p ?_;rw [ya];ext;refine ⟨en,EN,rfl,SqL.of p,C,by omega,fun st aj=>?_⟩;have s7:=qD s6 (o:=qeI st EN) aj;ext;refine ⟨st,EN,rfl,qb,by omega,by omega,fun so ak ai ag=>?_⟩;have s8:=qD s7 (o:=.lst (ak.map V.str)) ai;ext;refine zk qb ?_;rw [ya,ag];ext;refine qdr ?_;rw [yQ rfl];exact q _ (W.trans s8)
theorem kH:FnScope ["_law_names_here","_law_ties_here","_law_pairs","_law_reached","_law_alone","_law_bar","_law_odds_here","_law_inside","_law_piece"] ["_law_names_here","_law_ties_here","_law_pairs","_law_reached"] (qh qQ):=fS
theorem neI9 {i j:Int} {Q:VK} (q:Q (.bl (!decide (i=j))) H):qea K true (.int i) (.int j) H Q:=.inl ⟨rfl,rfl,by
 have:=qcM i j;rw [yD (by decide)] at this;rw [yK rfl,this];exact q⟩
noncomputable def brN (ss:List Str) (tps:List (Str×Str)) (rs:List Str):List Str:=(zv ss rs).filter fun s=>!(rs.filter fun o=>tB tps s o).isEmpty
structure NnN (ss:List Str) (tps qs:List (Str×Str)) (rs:List Str):Prop where
 fil:ss.filter (fun s=>decide (s∈rs))=rs
 al:∀ s∈sgl ss qs,s∈rs
 odd:∀ pss,PcsN tps (zv ss (brN ss tps rs)) (zv ss (brN ss tps rs)).length pss->(zX pss).length=(brN ss tps rs).length+(sgl ss qs).length/\(zX pss).flatten.Perm rs
inductive spNn (vs:List V) (H:Hp) (Q:VK) (E:XK):Prop|mk (n l u x:Addr) (ss:List Str) (ts us:List Addr) (tps qs:List (Str×Str)) (rs:List Str) (_:vs=[.ref n,.ref l,.ref u,.ref x]) (_:H n=some (.lst (ss.map V.str))) (_:ss.Nodup) (_:ss.length<=14) (_:PL H l ts tps) (_:PL H u us qs) (_:H x=some (.lst (rs.map V.str))) (_:NnN ss tps qs rs) (_:∀ H',L2.Same H H'->Q (.bl true) H')
theorem ok_nn (F:Fun K "_law_none_more" "_law_none_more" qQ f fd) (T:Txt K mg cc cw) (kT:DefOk P w K mg base CX0 2 "_law_singles" ["_law_names_here","_law_pairs"] spSg) (kW:DefOk P w K mg base CX0 1 "_law_tied" ["_law_ties_here","_law_one","_law_other"] spTd) (uk:DefOk P w K mg base CX0 3 "_law_odds" ["_law_names_here","_law_ties_here","_law_bar"] spOd):FnOk P w K mg base CX0 4 f fd ["_law_names_here","_law_ties_here","_law_pairs","_law_reached"] spNn:=by
 refine F.ok kH fun _ _ _ s H vs Q E hr h=>?_
 .obtain ⟨n,l,u,x,ss,ts,us,tps,qs,rs,rfl,hn,bd,few,hl,hq,hx,hN,q⟩:=h;have N:=j9 hr;have bg:rs.length<=14:=by rw [<- hN.fil];exact yi (yI _ _) few
  refine ⟨_,(qc (qq (i:=4) kH.nd rfl (yR rfl) (qu kT (hmR hr) qE (qa (pv 0) (qa (pv 2) qd))))
 (qc (qN (PW.pt (qaL (jr (jh (qp (qa9 (K:=K) rfl) rfl T.b_isinstance Y7 (qa (pv 3) (qa (j5 (v:=.ty "list") rfl T.b_list xP rfl) qd))))) (zR (qk (qaq (K:=K) rfl N) (pv 3) (jo (sc:=qh qQ) (XN:=["_law_names_here","_law_ties_here","_law_pairs","_law_reached","_law_alone","_law_bar","_law_odds_here","_law_inside","_law_piece"]) ["_law_name","_law_reached"] 1 [3] rfl rfl rfl (by decide +kernel) rfl (by decide +kernel)
  (qK (K:=K) rfl (pv 0)) (fun _ _ _ _=>(qr (i:=0) (show (["_law_name","_law_reached"]:List Str).Nodup by decide +kernel) rfl (yR rfl))) qP
  (fun _ _ _ _=>(qY (qk (qar (K:=K) rfl N) (pv 0) (pv 1) (by with_unfolding_all rfl))))
  (fun _ _ _ _=>(pv 0))) (qx _))))) (qf (qo j4)) qt)
 (qc (zV (sc:=qh qQ) (XN:=["_law_names_here","_law_ties_here","_law_pairs","_law_reached","_law_alone","_law_bar","_law_odds_here","_law_inside","_law_piece"]) ["_law_name","_law_reached"] 1 [3] rfl rfl rfl (by decide +kernel) rfl (by decide +kernel) (i:=5) kH.nd rfl rfl
  (qK (K:=K) rfl (pv 0)) (fun _ _ _ _=>(qr (i:=0) (show (["_law_name","_law_reached"]:List Str).Nodup by decide +kernel) rfl (yR rfl))) qP
  (fun _ _ _ _=>(qY (qk (jt (K:=K) rfl N) (pv 0) (pv 1) (by with_unfolding_all rfl))))
  (fun _ _ _ _=>(pv 0)))
 (qc (zV (sc:=qh qQ) (XN:=["_law_names_here","_law_ties_here","_law_pairs","_law_reached","_law_alone","_law_bar","_law_odds_here","_law_inside","_law_piece"]) ["_law_name","_law_reached","_law_ties_here"] 1 [3,1] rfl rfl rfl (by decide +kernel) rfl (by decide +kernel) (i:=5) kH.nd rfl rfl
  (qK (K:=K) rfl (pv 5)) (fun _ _ _ _=>(qr (i:=0) (show (["_law_name","_law_reached","_law_ties_here"]:List Str).Nodup by decide +kernel) rfl (XG rfl))) qP
  (fun _ _ _ _=>(qY (qk (qaq (K:=K) rfl N) (pe_compIn ["_law_other","_law_ties_here","_law_name"] 1 [2,0] rfl (by decide +kernel) rfl (by decide +kernel)
  (qK (K:=K) rfl (pv 1)) (fun _ _ _ _=>(qr (i:=0) (show (["_law_other","_law_ties_here","_law_name"]:List Str).Nodup by decide +kernel) rfl (yR rfl))) qP
  (fun _ _ _ _=>(qY (jh (qu kW (hmR hr) qE (qa (pv 1) (qa (pv 2) (qa (pv 0) qd)))))))
  (fun _ _ _ _=>(pv 0))) (qO qd) (qx _))))
  (fun _ _ _ _=>(pv 0)))
 (qc (qq (i:=6) kH.nd rfl (yR rfl) (qu uk (hmR hr) qE (qa (pv 0) (qa (pv 1) (qa (pv 5) qd)))))
 (qc (qN (PW.pt (qaL (qk (qaq (K:=K) rfl N) (qA qa3 (qp (jK (K:=K) rfl) rfl T.b_len Yz (qa (pv 6) qd)) (qp (jK (K:=K) rfl) rfl T.b_len Yz (qa (pv 5) qd))) (qp (jK (K:=K) rfl) rfl T.b_len Yz (qa (pv 4) qd)) (qx _)) (zR (qk (qaq (K:=K) rfl N) (jo (sc:=qh qQ) (XN:=["_law_names_here","_law_ties_here","_law_pairs","_law_reached","_law_alone","_law_bar","_law_odds_here","_law_inside","_law_piece"]) ["_law_name","_law_reached"] 1 [3] rfl rfl rfl (by decide +kernel) rfl (by decide +kernel)
  (qK (K:=K) rfl (pv 4)) (fun _ _ _ _=>(qr (i:=0) (show (["_law_name","_law_reached"]:List Str).Nodup by decide +kernel) rfl (yR rfl))) qP
  (fun _ _ _ _=>(qY (qk (jt (K:=K) rfl N) (pv 0) (pv 1) (by with_unfolding_all rfl))))
  (fun _ _ _ _=>(pv 0))) (qO qd) (qx _))))) (qf (qo j4)) qt)
 (qc (qq (i:=7) kH.nd rfl (yR rfl) (qO qd))
 (qc (jp yU rfl (qK (K:=K) rfl (pv 6)) (qr (i:=8) kH.nd rfl (yR rfl))
 (qf (qq (i:=7) kH.nd rfl (yR rfl) (qA (jI (K:=K) rfl) (pv 7) (pv 8)))))
 (qf (qo (jH (zW (K:=K) rfl N) (qp (qdj (K:=K) rfl) rfl T.b_sorted boot_sorted (qa (pv 7) qd)) (qp (qdj (K:=K) rfl) rfl T.b_sorted boot_sorted (qa (pv 3) qd)) (qx _)))))))))))),?_⟩
  ext;refine ⟨n,u,ss,us,qs,rfl,hn,few,hq,fun al ax=>?_⟩;have s1:=qD (Sr H) (o:=.lst ((sgl ss qs).map V.str)) ax;have ad:upd H al (.lst ((sgl ss qs).map V.str)) al=some (.lst ((sgl ss qs).map V.str)):=qb;generalize upd H al (.lst ((sgl ss qs).map V.str))=H1 at s1 ad ⊢;ext;refine qcT (.inl (.lst (s1 _ _ hx))) rfl (qap K "list" (by simp) "list" (by simp)) ?_;ext;refine yq ?_;ext;refine .inl ⟨⟨_,SqL.of (s1 _ _ hn)⟩,qF (K:=K) (fun j ys H'=>H'=H1/\ys=((ss.take j).filter fun s=>decide (s∈rs)).map V.str) ⟨rfl,by rw [Yw];rfl⟩ (fun j ys H' _ a=>by rw [a.1];exact SqL.of (s1 _ _ hn)) (fun j y ys J C a=>?_) fun ys J a=>?_⟩
  .obtain ⟨rfl,rfl⟩:=a;obtain ⟨o,B,rfl⟩:=jf C;have ak:((ss.take j).filter fun s=>decide (s∈rs)).length<=j:=yi (yI _ _) (by rw [yJ];omega);have M:j<ss.length:=(yc.mp B).1;rw [yG,B,y9];ext;refine qdX (s1 _ _ hx) ?_;ext;refine qG (fun Z=>?_) fun Z=>?_
   .ext;refine ⟨by rw [ya];exact qg (by omega),rfl,?_⟩;rw [show (some o).toList=[o] from rfl,yV,yK Z,yF];rfl
   .refine ⟨rfl,?_⟩;rw [show (some o).toList=[o] from rfl,yV,yD Z,Yq,Yl]
  .obtain ⟨rfl,rfl⟩:=a;rw [show (ss.map V.str).length=ss.length from ya _,yN,hN.fil];refine ⟨by rw [ya];exact yS (qg (by omega)),fun r2 D=>?_⟩;have s2:=qD s1 (o:=.lst (rs.map V.str)) D;have as:=qD (Sr J) (o:=.lst (rs.map V.str)) D;have aj:upd J r2 (.lst (rs.map V.str)) r2=some (.lst (rs.map V.str)):=qb;generalize upd J r2 (.lst (rs.map V.str))=H2 at s2 as aj ⊢;have bv:x≠r2:=fun e=>by rw [<- e,s1 _ _ hx] at D;cases D
   ext;have aq:=s2 _ _ hx;have an:=s2 _ _ hn;have ae:=as _ _ ad;refine .inr (.inl ⟨x,r2,true,1,rfl,rfl,by decide,by have:=qbr (K:=K) aq aj;rwa [yQ rfl] at this,?_⟩);refine ⟨_,rfl,qG (fun h=>by cases h) fun _=>?_⟩;ext;refine .inl ⟨⟨_,SqL.of an⟩,qF (K:=K) (fun j ys H'=>H'=H2/\ys=(zv (ss.take j) rs).map V.str) ⟨rfl,by rw [Yw];rfl⟩ (fun j ys H' _ a=>by rw [a.1];exact SqL.of an) (fun j y ys H7 C a=>?_) fun ys H7 a=>?_⟩
   .obtain ⟨rfl,rfl⟩:=a;obtain ⟨o,B,rfl⟩:=jf C;have M:j<ss.length:=(yc.mp B).1;have ak:(zv (ss.take j) rs).length<=j:=yi (yI _ _) (by rw [yJ];omega)
    have r:zv (ss.take (j+1)) rs=zv (ss.take j) rs++if (!decide (o∈rs))=true then [o] else []:=by
     unfold zv;rw [yG,B,y9];show _++[o].filter _=_;rw [yV,Yq]
    rw [r];ext;refine .inl ⟨x,_,rfl,.inl (SqL.of aq),rfl,jF rs,?_⟩;rw [zq];ext
    cases hd:decide (o∈rs) with
    | true=>exact qG (fun h=>by cases h) fun _=>⟨rfl,by simp⟩
    | false =>
     refine zg ?_;ext;exact ⟨by rw [ya];exact qg (by omega),rfl,by simp⟩
   .obtain ⟨rfl,rfl⟩:=a;rw [show (ss.map V.str).length=ss.length from ya _,yN];have be:(zv ss rs).length<=14:=yi (yI _ _) few;refine ⟨by rw [ya];exact yS (qg (by omega)),fun b1 X=>?_⟩;have s3:=qD s2 (o:=.lst ((zv ss rs).map V.str)) X;have au:=qD (Sr H7) (o:=.lst ((zv ss rs).map V.str)) X;have U:upd H7 b1 (.lst ((zv ss rs).map V.str)) b1=some (.lst ((zv ss rs).map V.str)):=qb;generalize upd H7 b1 (.lst ((zv ss rs).map V.str))=H3 at s3 au U ⊢;ext;refine .inl ⟨⟨_,SqL.of U⟩,qF (K:=K) (fun j ys H'=>L2.Same H3 H'/\ys=(((zv ss rs).take j).filter fun s=>!(rs.filter fun o=>tB tps s o).isEmpty).map V.str) ⟨L2.Same.refl H3,by rw [Yw];rfl⟩ (fun j ys H' _ a=>SqL.of (a.1 _ _ U)) (fun j y ys H8 C a=>?_) fun ys H8 a=>?_⟩
    .obtain ⟨s8,rfl⟩:=a;obtain ⟨o,B,rfl⟩:=jf C;have M:j<(zv ss rs).length:=(yc.mp B).1;have ar:=(s3.trans s8) _ _ hx;have ak:(((zv ss rs).take j).filter fun s=>!(rs.filter fun o=>tB tps s o).isEmpty).length<=j:=yi (yI _ _) (by rw [yJ];omega)
     have r:(((zv ss rs).take (j+1)).filter fun s=>!(rs.filter fun o=>tB tps s o).isEmpty)=(((zv ss rs).take j).filter fun s=>!(rs.filter fun o=>tB tps s o).isEmpty)++if (!(rs.filter fun z=>tB tps o z).isEmpty)=true then [o] else []:=by
      rw [yG,B,y9];show _++[o].filter _=_;rw [yV,Yq]
     rw [r];ext;refine .inl ⟨⟨_,SqL.of ar⟩,qF (K:=K) (fun i zs H'=>L2.Same H8 H'/\zs=((rs.take i).filter fun z=>tB tps o z).map V.str) ⟨L2.Same.refl H8,by rw [Yw];rfl⟩ (fun i zs H' _ a=>SqL.of (a.1 _ _ ar)) (fun i z zs J hz a=>?_) fun zs J a=>?_⟩
     .obtain ⟨sJ,rfl⟩:=a;obtain ⟨c,gc,rfl⟩:=jf hz;have bp:i<rs.length:=(yc.mp gc).1;have am:((rs.take i).filter fun z=>tB tps o z).length<=i:=yi (yI _ _) (by rw [yJ];omega);rw [yG,gc,y9];ext;refine ⟨l,ts,tps,o,c,rfl,(hl.same (s3.trans s8)).same sJ,fun J2 aw=>⟨_,rfl,qG (fun Z=>?_) fun Z=>?_⟩⟩
      .ext;refine ⟨by rw [ya];exact qg (by omega),sJ.trans aw,?_⟩;rw [show (some c).toList=[c] from rfl,yV,yK Z,yF];rfl
      .refine ⟨sJ.trans aw,?_⟩;rw [show (some c).toList=[c] from rfl,yV,yD Z,Yq,Yl]
     .obtain ⟨sJ,rfl⟩:=a;rw [show (rs.map V.str).length=rs.length from ya _,yN];have am:(rs.filter fun z=>tB tps o z).length<=14:=yi (yI _ _) bg;refine ⟨by rw [ya];exact yS (qg (by omega)),fun p a=>?_⟩;have sp:=qD (s8.trans sJ) (o:=.lst ((rs.filter fun z=>tB tps o z).map V.str)) a;have ep:upd J p (.lst ((rs.filter fun z=>tB tps o z).map V.str)) p=some (.lst ((rs.filter fun z=>tB tps o z).map V.str)):=qb;generalize upd J p (.lst ((rs.filter fun z=>tB tps o z).map V.str))=S at sp ep ⊢;ext;refine ⟨by decide,fun z hz=>?_⟩;have sz:=qD sp (o:=.lst []) hz;have A:=qD (Sr S) (o:=.lst []) hz;have ez:upd S z (.lst []) z=some (.lst []):=qb;generalize upd S z (.lst [])=J2 at sz A ez ⊢;refine qcH (A _ _ ep) ez ?_;refine ⟨_,rfl,?_⟩;rw [List.isEmpty_map]
      cases he:(rs.filter fun z=>tB tps o z).isEmpty with
      | true=>exact qG (fun h=>by cases h) fun _=>⟨sz,by simp⟩
      | false =>
       refine zg ?_;ext;exact ⟨by rw [ya];exact qg (by omega),sz,by simp⟩
    .obtain ⟨s8,rfl⟩:=a;rw [show ((zv ss rs).map V.str).length=(zv ss rs).length from ya _,yN];have br:(brN ss tps rs).length<=14:=yi (yI _ _) be;refine ⟨by rw [ya];exact yS (qg (show (brN ss tps rs).length<=1000 by omega)),fun b2 m=>?_⟩
     change _
     have bo:=s3.trans s8;have s9:=qD bo (o:=.lst ((brN ss tps rs).map V.str)) m;have av:=qD (Sr H8) (o:=.lst ((brN ss tps rs).map V.str)) m;have W:upd H8 b2 (.lst ((brN ss tps rs).map V.str)) b2=some (.lst ((brN ss tps rs).map V.str)):=qb;have g:=av _ _ (s8 _ _ (au _ _ ae));have ao:=hN.odd;have eB:((zv ss rs).filter fun s=>!(rs.filter fun o=>tB tps s o).isEmpty)=brN ss tps rs:=rfl;rw [eB];generalize upd H8 b2 (.lst ((brN ss tps rs).map V.str))=H9 at s9 av W g ⊢;ext;refine ⟨n,l,b2,ss,brN ss tps rs,ts,tps,rfl,s9 _ _ hn,bd,few,hl.same s9,W,fun od ls pss G I bq ac L bf=>?_⟩;obtain ⟨bu,aa⟩:=ao pss bf;have b:=L.len;have R:=s9.trans I;ext;refine zk ac ?_;rw [ya,b];ext;refine zk (I _ _ W) ?_;rw [ya];ext;refine zk (I _ _ g) ?_;rw [ya];ext;refine neI9 ?_;rw [yQ (by omega)];ext;refine yq ?_;ext;have d:=I _ _ g;have O:=R _ _ hx;refine .inl ⟨⟨_,SqL.of d⟩,qF (K:=K) (fun j ys H'=>H'=G/\ys=[]) ⟨rfl,rfl⟩ (fun j ys H' _ a=>by rw [a.1];exact SqL.of d) (fun j y ys J C a=>?_) fun ys J a=>?_⟩
     .obtain ⟨rfl,rfl⟩:=a;obtain ⟨o,B,rfl⟩:=jf C;ext;refine .inl ⟨x,_,rfl,.inl (SqL.of O),rfl,jF rs,?_⟩;rw [zq,yQ (hN.al o (ye B))];ext;exact qG (fun h=>by cases h) fun _=>⟨rfl,rfl⟩
     .obtain ⟨rfl,rfl⟩:=a;refine ⟨YW _,fun p a=>?_⟩;have sp:=qD (Sr J) (o:=.lst []) a;have ep:upd J p (.lst []) p=some (.lst []):=qb;generalize upd J p (.lst [])=S at sp ep ⊢;ext;refine ⟨by decide,fun z hz=>?_⟩;have sz:=qD sp (o:=.lst []) hz;have A:=qD (Sr S) (o:=.lst []) hz;have ez:upd S z (.lst []) z=some (.lst []):=qb;generalize upd S z (.lst [])=J2 at sz A ez ⊢;refine qcH (A _ _ ep) ez ?_;refine ⟨_,rfl,qG (fun h=>by cases h) fun _=>?_⟩;ext;refine ⟨by decide,fun i0 ba=>?_⟩;have si:=qD sz (o:=.lst []) ba;have ei:upd J2 i0 (.lst []) i0=some (.lst (([]:List Str).map V.str)):=qb;generalize upd J2 i0 (.lst [])=J3 at si ei ⊢
      have ap:∀ j,((zX pss).take j).flatten.length<=14:=fun j=>by
       have h1:((zX pss).take j).flatten.length+((zX pss).drop j).flatten.length=(zX pss).flatten.length:=by rw [<- yt,<- XT,List.take_append_drop]
       have h2:=aa.length_eq;omega
      ext;refine .inl ⟨⟨_,SqL.of (si _ _ ac)⟩,qX (K:=K) (fun j σ J'=>L2.Same J J'/\∃ (i1:Addr) (y8:Option V),σ=[some (.ref n),some (.ref l),some (.ref u),some (.ref x),some (.ref al),some (.ref b2),some (.ref od),some (.ref i1),y8]/\J' i1=some (.lst (((zX pss).take j).flatten.map V.str))) ⟨si,i0,_,rfl,by rw [Yw];exact ei⟩ (fun j σ J' _ a=>SqL.of (a.1 _ _ ac)) (fun j y σ J4 C a=>?_) fun σ J4 a=>?_⟩
      .obtain ⟨s4,i1,y8,rfl,e1⟩:=a;rw [yd] at C;obtain ⟨t,ht,rfl⟩:=yn.mp C;have hj:j<(zX pss).length:=by rw [<- b];exact (yc.mp ht).1
       have Y:(zX pss)[j]?=some (zX pss)[j]:=yb hj;have et:=s4 _ _ (L.at_ j t _ ht Y).2;have X:=ap j;have m:=ap (j+1);rw [yG,Y,XT,yt] at m;have ai:((some (zX pss)[j]).toList).flatten=(zX pss)[j]:=by simp
       rw [ai] at m;ext;refine .inl ⟨i1,t,_,_,rfl,rfl,e1,et,by rw [ya,ya];exact yS (qg (by omega)),fun i2 bc=>?_⟩;refine ⟨s4.trans (qD (Sr J4) bc),i2,_,rfl,?_⟩;rw [qb,yG,Y,XT,ai,yF]
      .obtain ⟨s4,i1,y8,rfl,e1⟩:=a;rw [show (ls.map V.ref).length=(zX pss).length by rw [ya,b],yN] at e1;have bt:=aa.length_eq;ext;refine ⟨i1,_,rfl,SqL.of e1,by omega,fun c1 v1 ay bj bh=>?_⟩;have s5:=qD (Sr J4) (o:=.lst (v1.map V.str)) ay;have af:upd J4 c1 (.lst (v1.map V.str)) c1=some (.lst (v1.map V.str)):=qb;generalize upd J4 c1 (.lst (v1.map V.str))=J5 at s5 af ⊢;have bn:=s5 _ _ (s4 _ _ O);ext;refine ⟨x,_,rfl,SqL.of bn,by omega,fun c2 v2 az bm bi=>?_⟩;have s6:=qD (Sr J5) (o:=.lst (v2.map V.str)) az;have ag:upd J5 c2 (.lst (v2.map V.str)) c2=some (.lst (v2.map V.str)):=qb;have ah:upd J5 c2 (.lst (v2.map V.str)) c1=some (.lst (v1.map V.str)):=s6 _ _ af;generalize upd J5 c2 (.lst (v2.map V.str))=J6 at s6 ag ah ⊢;have ev:v1=v2:=sorted_eq bh bi ((bj.trans aa).trans bm.symm);subst ev;refine .inl (.inl (.inr (.inl ⟨c1,c2,_,1,rfl,rfl,by decide,qbr ah ag,?_⟩)));rw [yQ rfl];exact q _ (((R.trans s4).trans s5).trans s6)
theorem KD:FnScope ["_law_forest","_law_names_here","_law_ties_here","_law_pairs","_law_row"] ["_law_forest","_law_names_here","_law_ties_here","_law_pairs"] (qh qaj):=fS
noncomputable def rdN (ss:List Str) (S:FS):List Str:=ss.filter fun s=>(S.rows s).isSome
theorem FoD.same {wt:List Str} (h:FoD cf cw H0 H a ss ns qs S dn wt lo A) (s:L2.Same H H'):FoD cf cw H0 H' a ss ns qs S dn wt lo A:=
 ⟨h.fo.same s,h.en.elim .inl fun ⟨t,r,e,b,z⟩=>.inr ⟨t,r,e,s _ _ b,z⟩⟩
inductive spRx (cc:Nat->Addr) (cw:Addr) (vs:List V) (H:Hp) (Q:VK) (E:XK):Prop|mk (n l u:Addr) (ts us:List Addr) (tps:List (Str×Str)) (H0:Hp) (a:Fo) (ss:List Str) (ns:List Nat) (qs:List (Str×Str)) (S:FS) (dn wt:List Str) (lo:V) (A:Str->Str->Prop) (_:vs=[.ref a.x,.ref n,.ref l,.ref u]) (_:FoD (cc 9) cw H0 H a ss ns qs S dn wt lo A) (_:H n=some (.lst (ss.map V.str))) (_:ss.Nodup) (_:ss.length<=14) (_:PL H l ts tps) (_:PL H u us qs) (_:qs.length<=30) (_:(lo=.non->NnN ss tps qs (rdN ss S))) (_:(∀ r,Aug A (pt qs) r->MrN ss tps qs r)) (_:∀ H',L2.Same H H'->Q (.bl true) H')
theorem ok_rx (F:Fun K "_law_right" "_law_right" qaj f fd) (T:Txt K mg cc cw) (N:MethOk P w K mg base CX0 1 (cc 9) "row" ["self"] (spFr cc cw)) (C:MethOk P w K mg base CX0 2 (cc 9) "reached" ["self"] (spFd2 cc cw)) (D:DefOk P w K mg base CX0 4 "_law_none_more" ["_law_names_here","_law_ties_here","_law_pairs","_law_reached"] spNn) (O:DefOk P w K mg base CX0 3 "_law_more" ["_law_names_here","_law_ties_here","_law_pairs","_law_row"] spMr):FnOk P w K mg base CX0 5 f fd ["_law_forest","_law_names_here","_law_ties_here","_law_pairs"] (spRx cc cw):=by
 refine F.ok KD fun _ _ _ _ H vs Q E d h=>?_
 .obtain ⟨n,l,u,ts,us,tps,H0,a,ss,ns,qs,S,dn,wt,lo,p,rfl,e,A,s,few,hl,B,m,h1,G,q⟩:=h;have R:=j9 d;refine ⟨_,(qc (qq (i:=4) KD.nd rfl (yR rfl) (qZ N (hmR d) (pv 0)))
 (qc (qN (qk qeh (pv 4) jU (qx _)) (qf (qo (qu D (hmR d) qE (qa (pv 1) (qa (pv 2) (qa (pv 3) (qa (qZ C (hmR d) (pv 0)) qd))))))) qt)
 (qf (qo (qa2 (jH qeh (qZ C (hmR d) (pv 0)) jU (qx _)) (qaM (qu O (hmR d) qE (qa (pv 1) (qa (pv 2) (qa (pv 3) (qa (pv 4) qd))))))))))),?_⟩
  ext;refine e.fo.obj.me (by decide) ?_;ext;refine ⟨H0,a,ss,ns,qs,S,dn,wt,lo,p,rfl,e,fun b=>?_,fun t r b L I x M=>?_⟩
  .ext;refine ⟨_,rfl,zg ?_⟩;ext;refine e.fo.obj.me (by decide) ?_;ext;refine ⟨H0,a,ss,ns,qs,S,dn,wt,lo,p,rfl,e,few,fun z=>absurd b z,fun _ r H1 c J v=>?_⟩;ext;exact ⟨n,l,u,r,ss,ts,us,tps,qs,rdN ss S,rfl,c _ _ A,s,few,hl.same c,B.same c,v,h1 b,fun H2 y=>q H2 (c.trans y)⟩
  .have c:=qD (Sr H) (o:=.lst (r.map V.str)) M;have ex:upd H x (.lst (r.map V.str)) x=some (.lst (r.map V.str)):=qb;generalize upd H x (.lst (r.map V.str))=H1 at c ex ⊢;have g:=e.same c;ext;refine ⟨_,rfl,qG (fun h=>by simp at h) fun _=>?_⟩;ext;refine g.fo.obj.me (by decide) ?_;ext;refine ⟨H0,a,ss,ns,qs,S,dn,wt,lo,p,rfl,g,few,fun _=>?_,fun z=>by rw [z] at b;cases b⟩;ext;refine ⟨_,rfl,zg ?_⟩;ext;exact ⟨n,l,u,x,ss,ts,us,tps,qs,r,rfl,c _ _ A,few,hl.same c,B.same c,m,ex,G r I,fun H2 y=>q H2 (c.trans y)⟩
theorem Aug.rwN (h:Aug A (pt qs) r) (i:∀ a b,A a b->tB tps a b=true) (g:∀ a b,pt qs a=some b->pt qs b=some a) (c:r.length<=14):RwN tps qs r:=by
 refine ⟨h.nd,?_,c,fun j a b d f=>i a b (h.st j a b d f).1,fun j a b d f=>?_⟩
 .have:=h.ev;have:=h.two;omega
 .have:=(h.st j a b d f).2;constructor
  .intro e;have:=this.mp (g _ _ e);omega
  .intro e;exact g _ _ (this.mpr (by omega))
theorem mem_stp:q∈stp r↔∃ j:Nat,r[j]?=some q.1/\r[j+1]?=some q.2:=by
 unfold stp;rw [xR];constructor
 .rintro ⟨j,h⟩;rw [xq,Xi] at h;exact ⟨j,h⟩
 .rintro ⟨j,h1,a⟩;refine ⟨j,?_⟩;rw [xq,Xi];exact ⟨h1,a⟩
theorem tB_pt (c:(qj qs).Nodup) {a:Str}:tB qs a b=true↔pt qs a=some b:=by
 unfold tB;rw [XH,Ye,Ye];exact (qb0 c).symm
theorem zD (h:Aug A (pt qs) r) (c:(qj qs).Nodup):q∈nwN qs (stp r)↔∃ j:Nat,j % 2=0/\r[j]?=some q.1/\r[j+1]?=some q.2:=by
 unfold nwN;rw [yp,mem_stp,YU,X4,Ne,tB_pt c];constructor
 .rintro ⟨⟨j,h1,a⟩,b⟩;refine ⟨j,?_,h1,a⟩;have:=(h.st j _ _ h1 a).2;rcases xn j with e | e
  .exact e
  .exact absurd (this.mpr e) b
 .rintro ⟨j,e,h1,a⟩;refine ⟨⟨j,h1,a⟩,fun z=>?_⟩;have:=(h.st j _ _ h1 a).2.mp z;omega
theorem qaK (h:Aug A (pt qs) r) (p:(qj qs).Nodup) {a:Str} (e:pt qs a=some b) (o:a∈r):(a,b)∈stp r\/(b,a)∈stp r:=by
 obtain ⟨i,n,g⟩:=YH o;have c:r[i]?=some a:=by rw [yb n,g]
 have q:=h.two;have m:=h.ev;by_cases l:i=0
 .subst l;have:=h.hd a c;rw [e] at this;cases this
 by_cases hl:i=r.length-1
 .subst hl;have:=h.tl a c;rw [e] at this;cases this
 rcases xn i with z | z
 .have d:r[i-1]?=some r[i-1]:=yb (by omega);have f:r[i-1+1]?=some a:=by rw [show i-1+1=i by omega];exact c
  have:=(h.st (i-1) _ _ d f).2.mpr (by omega);rw [qai p,e] at this;cases this;exact .inr (mem_stp.mpr ⟨i-1,d,f⟩)
 .have d:r[i+1]?=some r[i+1]:=yb (by omega);have:=(h.st i _ _ c d).2.mpr z;rw [e] at this;cases this;exact .inl (mem_stp.mpr ⟨i,c,d⟩)
theorem qaZ (h:Aug A (pt qs) r) (b:(qj qs).Nodup):q∈kpN qs (stp r)↔q∈qs/\q.1∉r/\q.2∉r:=by
 unfold kpN;rw [yp,yW,YU,YU,YQ,YQ];constructor
 .rintro ⟨c,h1,a⟩;have e:pt qs q.1=some q.2:=qdC b (.inl c);refine ⟨c,fun z=>?_,fun z=>?_⟩
  .exact (qaK h b e z).elim h1 a
  .exact (qaK h b ((qai b).mp e) z).elim a h1
 .rintro ⟨c,h1,a⟩;refine ⟨c,fun z=>?_,fun z=>?_⟩
  .obtain ⟨j,g,_⟩:=mem_stp.mp z;exact h1 (ye g)
  .obtain ⟨j,g,_⟩:=mem_stp.mp z;exact a (ye g)
theorem qbe:∀ {qs:List (Str×Str)},(∀ q∈qs,q.1≠q.2)->qs.Pairwise (fun q r=>q.1≠r.1/\q.1≠r.2/\q.2≠r.1/\q.2≠r.2)->(qj qs).Nodup
 | [],_,_=>kA
 | q::r,h,hp=>by
  obtain ⟨l,m⟩:=X1.mp hp;have i:=qbe (fun x f=>h x (yC _ f)) m;show (q.1::q.2::qj r).Nodup
  have out:∀ n∈qj r,q.1≠n/\q.2≠n:=fun n g=>by
   obtain ⟨x,f,e⟩:=xL.mp g;obtain ⟨a,b,c,d⟩:=l x f;simp only [yy,yX,YO] at e;rcases e with rfl | rfl
   .exact ⟨a,c⟩
   .exact ⟨b,d⟩
  refine yo.mpr ⟨fun z=>?_,yo.mpr ⟨fun z=>(out _ z).2 rfl,i⟩⟩;rcases yy.mp z with z | z
  .exact h q yO z
  .exact (out _ z).1 rfl
def ApN (q r:Str×Str):Prop:=q.1≠r.1/\q.1≠r.2/\q.2≠r.1/\q.2≠r.2
theorem qcO:∀ {qs:List (Str×Str)},(qj qs).Nodup->(∀ q∈qs,q.1≠q.2)/\qs.Pairwise ApN
 | [],_=>⟨fun q h=>(by cases h),.nil⟩
 | q::r,h=>by
  have h:(q.1::q.2::qj r).Nodup:=h;obtain ⟨h1,c⟩:=yo.mp h;obtain ⟨a,d⟩:=yo.mp c;obtain ⟨f,g⟩:=qcO d;refine ⟨fun x hx=>?_,X1.mpr ⟨fun x hx=>?_,g⟩⟩
  .rcases yy.mp hx with rfl | hx
   .exact fun e=>h1 (e ▸ yO)
   .exact f x hx
  .have m1:x.1∈qj r:=xL.mpr ⟨x,hx,by simp⟩;have b:x.2∈qj r:=xL.mpr ⟨x,hx,by simp⟩;exact ⟨fun e=>h1 (e ▸ yC _ m1),fun e=>h1 (e ▸ yC _ b),fun e=>a (e ▸ m1),fun e=>a (e ▸ b)⟩
theorem qed (h:Aug A (pt qs) r) (c:(qj qs).Nodup):(qj (kpN qs (stp r)++nwN qs (stp r))).Nodup:=by
 obtain ⟨M,N⟩:=qcO c
 have inj:∀ (i j:Nat) s,r[i]?=some s->r[j]?=some s->i=j:=fun i j s u v=>by
  obtain ⟨G,C⟩:=yc.mp u;obtain ⟨H,D⟩:=yc.mp v;rcases Nat.lt_trichotomy i j with z | z | z
  .exact absurd (C.trans D.symm) ((Yp.mp h.nd) i j G H z)
  .exact z
  .exact absurd (D.trans C.symm) ((Yp.mp h.nd) j i H G z)
 refine qbe (fun q f=>?_) (List.pairwise_append.mpr ⟨N.sublist Xa,?_,fun q f x w=>?_⟩)
 .rcases yx.mp f with z | z
  .exact M q ((qaZ h c).mp z).1
  .obtain ⟨j,_,l,n⟩:=(zD h c).mp z;intro e;rw [e] at l;have:=inj _ _ _ l n;omega
 .have y:(stp r).Pairwise fun q x=>(∃ j:Nat,j % 2=0/\r[j]?=some q.1/\r[j+1]?=some q.2)->(∃ j:Nat,j % 2=0/\r[j]?=some x.1/\r[j+1]?=some x.2)->ApN q x:=by
   rw [Yp];intro i j u v L;rintro ⟨a,O,d,g⟩ ⟨b,P,m,B⟩;have o:(stp r)[i]?=some (stp r)[i]:=yb u;have t:(stp r)[j]?=some (stp r)[j]:=yb v;unfold stp at o t;rw [xq,Xi] at o t;have J:=inj _ _ _ d o.1;have K:=inj _ _ _ m t.1;subst J K;refine ⟨fun e=>?_,fun e=>?_,fun e=>?_,fun e=>?_⟩
   .rw [e] at d;have:=inj _ _ _ d m;omega
   .rw [e] at d;have:=inj _ _ _ d B;omega
   .rw [e] at g;have:=inj _ _ _ g m;omega
   .rw [e] at g;have:=inj _ _ _ g B;omega
  have:=(y.sublist (Xa (p:=fun q=>!tB qs q.1 q.2)));refine this.imp_of_mem fun f w z=>z ((zD h c).mp f) ((zD h c).mp w)
 .obtain ⟨_,E,F⟩:=(qaZ h c).mp f;obtain ⟨j,_,l,n⟩:=(zD h c).mp w;have m1:=ye l;have I:=ye n;exact ⟨fun e=>E (e ▸ m1),fun e=>E (e ▸ I),fun e=>F (e ▸ m1),fun e=>F (e ▸ I)⟩
theorem mem_names:s∈qj qs↔∃ q∈qs,s=q.1\/s=q.2:=by
 unfold qj;rw [xL];simp
theorem row_nw (h:Aug A (pt qs) r) (b:(qj qs).Nodup) (f:s∈r):s∈qj (nwN qs (stp r)):=by
 obtain ⟨i,e,c⟩:=YH f;have g:r[i]?=some s:=by rw [yb e,c]
 have d:=h.ev;rcases xn i with z | z
 .have a:r[i+1]?=some r[i+1]:=yb (by omega);exact mem_names.mpr ⟨(s,r[i+1]),(zD h b).mpr ⟨i,z,g,a⟩,.inl rfl⟩
 .have a:r[i-1]?=some r[i-1]:=yb (by omega);exact mem_names.mpr ⟨(r[i-1],s),(zD h b).mpr ⟨i-1,by omega,a,by rw [show i-1+1=i by omega];exact g⟩,.inr rfl⟩
theorem qdZ (h:Aug A (pt qs) r) (c:(qj qs).Nodup):(kpN qs (stp r)++nwN qs (stp r)).length=qs.length+1:=by
 have K:=h.two;have G:=h.ev;obtain ⟨a,l⟩:∃ a,r[0]?=some a:=⟨_,yb (by omega)⟩;obtain ⟨b,n⟩:∃ b,r[r.length-1]?=some b:=⟨_,yb (by omega)⟩;have I:a∉qj qs:=pt_none.mp (h.hd a l);have J:b∉qj qs:=pt_none.mp (h.tl b n)
 have u:a≠b:=fun e=>by
  obtain ⟨l1,B⟩:=yc.mp l;obtain ⟨l2,C⟩:=yc.mp n;exact (Yp.mp h.nd) 0 (r.length-1) l1 l2 (by omega) (B.trans (e.trans C.symm))
 have w:(a::b::qj qs).Nodup:=yo.mpr ⟨fun z=>(yy.mp z).elim u I,yo.mpr ⟨J,c⟩⟩;have v:=qed h c
 have app:∀ s,s∈qj (kpN qs (stp r)++nwN qs (stp r))↔s∈qj (kpN qs (stp r))\/s∈qj (nwN qs (stp r)):=fun s=>by
  unfold qj;rw [xD,yx]
 have l1:=je v (m:=a::b::qj qs) fun s hs=>by
  have inr:s∈r->s∈a::b::qj qs:=fun d=>by
   obtain ⟨i,H,D⟩:=YH d;have g:r[i]?=some s:=by rw [yb H,D]
   by_cases F:i=0
   .subst F;rw [l] at g;cases g;exact yO
   by_cases hl:i=r.length-1
   .subst hl;rw [n] at g;cases g;exact yC _ yO
   refine yC _ (yC _ (Ym fun z=>?_));have en:=pt_none.mpr z;rcases xn i with y | y
   .have t:r[i-1]?=some r[i-1]:=yb (by omega);have E:r[i-1+1]?=some s:=by rw [show i-1+1=i by omega];exact g
    have:=(h.st (i-1) _ _ t E).2.mpr (by omega);rw [qai c,en] at this;cases this
   .have t:r[i+1]?=some r[i+1]:=yb (by omega);have:=(h.st i _ _ g t).2.mpr y;rw [en] at this;cases this
  rcases (app s).mp hs with z | z
  .obtain ⟨q,f,e⟩:=mem_names.mp z;exact yC _ (yC _ (mem_names.mpr ⟨q,((qaZ h c).mp f).1,e⟩))
  .obtain ⟨q,f,e⟩:=mem_names.mp z;obtain ⟨j,_,o,p⟩:=(zD h c).mp f;rcases e with rfl | rfl
   .exact inr (ye o)
   .exact inr (ye p)
 have l2:=je w (m:=qj (kpN qs (stp r)++nwN qs (stp r))) fun s hs=>by
  rw [app];by_cases d:s∈r
  .exact .inr (row_nw h c d)
  .rcases yy.mp hs with rfl | hs
   .exact absurd (ye l) d
   rcases yy.mp hs with rfl | hs
   .exact absurd (ye n) d
   obtain ⟨q,f,e⟩:=mem_names.mp hs;have ep:pt qs q.1=some q.2:=qdC c (.inl f)
   have st:∀ {x y:Str},(x,y)∈stp r->x∈r/\y∈r:=fun z=>by
    obtain ⟨j,o,p⟩:=mem_stp.mp z;exact ⟨ye o,ye p⟩
   refine .inl (mem_names.mpr ⟨q,(qaZ h c).mpr ⟨f,fun z=>?_,fun z=>?_⟩,e⟩)
   .have:=(qaK h c ep z).elim (fun y=>st y) fun y=>(st y).symm;rcases e with rfl | rfl
    .exact d this.1
    .exact d this.2
   .have:=(qaK h c ((qai c).mp ep) z).elim (fun y=>(st y).symm) fun y=>st y;rcases e with rfl | rfl
    .exact d this.1
    .exact d this.2
 rw [zt] at l1 l2;rw [yA,yA,zt] at l1 l2;omega
theorem qbf:∀ qs:List (Str×Str),(qs.map (·.1)++qs.map (·.2)).Perm (qj qs)
 | []=>.refl _
 | q::r=>by
  show (q.1::(r.map (·.1)++q.2::r.map (·.2))).Perm (q.1::q.2::qj r);exact ((List.perm_middle).trans ((qbf r).cons _)).cons _
theorem Aug.mrN (h:Aug A (pt qs) r) (i:∀ a b,A a b->tB tps a b=true) (f:(qj qs).Nodup) (c:∀ s∈r,s∈ss) (d:ss.length<=14):MrN ss tps qs r:=by
 refine ⟨Aug.rwN h i (fun a b e=>(qai f).mp e) (yi (je h.nd c) d),h.ev,fun s g=>?_,fun s g=>?_,qdZ h f,(qbf _).nodup_iff.mpr (qed h f)⟩
 .exact yp.mpr ⟨c s (ye g),by rw [h.hd s g];rfl⟩
 .exact yp.mpr ⟨c s (ye g),by rw [h.tl s g];rfl⟩
def tA (tps:List (Str×Str)) (a b:Str):Prop:=(a,b)∈tps\/(b,a)∈tps
theorem tB_tA {a:Str}:tB tps a b=true↔tA tps a b:=by
 unfold tB tA;rw [XH,Ye,Ye]
section
variable {ss:List Str} {tps qs:List (Str×Str)} {S:FS}
theorem mem_rd:s∈rdN ss S↔s∈ss/\S.rows s≠none:=by unfold rdN;rw [yp,isS]
theorem qd0 (F:Fn (tA tps) (pt qs) S ss):s∈brN ss tps (rdN ss S)↔s∈qcW S ss:=by
 unfold brN;rw [yp,qcN,mem_bar,YU,X4,Ne,List.isEmpty_iff];constructor
 .rintro ⟨⟨h1,b⟩,c⟩;have h:S.rows s=none:=Ym fun z=>b (mem_rd.mpr ⟨h1,z⟩);obtain ⟨o,i⟩:=List.exists_mem_of_ne_nil _ c;obtain ⟨f,g⟩:=yp.mp i;obtain ⟨n,d⟩:=mem_rd.mp f;rcases F.cl o s d (F.gr.as (tB_tA.mp g)) with e | e
  .exact absurd h (F.fi.evE d e)
  .exact ⟨h1,e⟩
 .rintro ⟨h1,b,c⟩;refine ⟨⟨h1,fun z=>(mem_rd.mp z).2 c⟩,fun e=>?_⟩;obtain ⟨z,hz⟩:=some_of b;obtain ⟨l,⟨r,m⟩,_⟩:=F.fi.odd s z hz;have a:S.rows z≠none:=by rw [m];exact fun y=>by cases y
  have:z∈(rdN ss S).filter fun o=>tB tps s o:=yp.mpr ⟨mem_rd.mpr ⟨F.es z a,a⟩,tB_tA.mpr (F.gr.as l)⟩;rw [e] at this;cases this
theorem Fn.hang (F:Fn (tA tps) (pt qs) S ss) (hv:S.rows v≠none) {C:Str->Prop} (p:∀ s t,S.bas s=S.bas v->S.bas t=S.bas v->C s->tA tps s t->C t) (o:C (S.bas v)):C v:=by
 obtain ⟨r,c⟩:=some_of hv;obtain ⟨z,t,h1,e,u⟩:=F.fi.bse v r c;obtain ⟨b,d⟩:=(F.fi.alt _ _ h1).tl;obtain ⟨m,i⟩:=(F.fi.alt _ _ c).tl;have st:=(F.fi.alt _ _ c).st
 have g:∀ (k:Nat) x,r[b.length+k]?=some x->S.bas x=S.bas v/\C x:=by
  intro k
  induction k with
  | zero =>
   intro x a;rw [e,d,yY,yz (by omega),Nat.add_zero,Xr] at a;cases a;exact ⟨F.fi.idm v r c,o⟩
  | succ k ih =>
   intro x a;obtain ⟨y,l⟩:∃ y,r[b.length+k]?=some y:=⟨_,yb (by have:=(yc.mp a).1;omega)⟩;obtain ⟨n,q⟩:=ih y l;have w:=(st _ y x l a).1
   have f:x∈t:=by
    rw [e,yz (by rw [d,yt,YX];omega)] at a;exact ye a
   have h:=u x f;exact ⟨h,p y x n h q w⟩
 have l1:r.length=m.length+1:=by rw [i,yt,YX]
 have l2:r.length=b.length+1+t.length:=by rw [e,d,yt,yt,YX]
 refine (g (r.length-1-b.length) v ?_).2;rw [show b.length+(r.length-1-b.length)=m.length by omega,i,yz (yh _),Xr];rfl
noncomputable def lfN (ss:List Str) (tps:List (Str×Str)) (S:FS):List Str:=zv ss (brN ss tps (rdN ss S))
theorem qb1 (F:Fn (tA tps) (pt qs) S ss):s∈lfN ss tps S↔s∈ss/\¬ (S.par s≠none/\S.rows s=none):=by
 unfold lfN;rw [qcN,qd0 F,mem_bar];exact ⟨fun z=>⟨z.1,fun y=>z.2 ⟨z.1,y⟩⟩,fun z=>⟨z.1,fun y=>z.2 y.2⟩⟩
theorem qds (F:Fn (tA tps) (pt qs) S ss) {p:List Str} (c:PcN tps (lfN ss tps S) p) {a:Str} (l:a∈p) (d:S.rows a≠none) (x:Str):x∈p↔x∈qci S ss (S.bas a):=by
 have inl:∀ s,S.rows s≠none->s∈lfN ss tps S:=fun s h=>(qb1 F).mpr ⟨F.es s h,fun z=>h z.2⟩;constructor
 .obtain ⟨n,_,b⟩:=c.con
  have step:∀ s t,t∈lfN ss tps S->s∈qci S ss (S.bas a)->tB tps s t=true->t∈qci S ss (S.bas a):=fun s t g f e=>by
   obtain ⟨_,m,B⟩:=mem_cls.mp f;obtain ⟨D,E⟩:=(qb1 F).mp g;rcases F.cl s t m (tB_tA.mp e) with z | z
   .exact mem_cls.mpr ⟨D,F.fi.evE m z,z.trans B⟩
   .exact absurd z E
  have all:=b (fun s=>s∈qci S ss (S.bas a)↔n∈qci S ss (S.bas a)) Iff.rfl fun s t f g h e=>⟨fun z=>h.mp (step t s f z (by rw [qdq];exact e)),fun z=>step s t g (h.mpr z) e⟩;have r:=(all a l).mp (mem_cls.mpr ⟨F.es a d,d,rfl⟩);exact fun i=>(all x i).mpr r
 .intro i;obtain ⟨_,G,H⟩:=mem_cls.mp i
  have one:∀ v,S.rows v≠none->S.bas v=S.bas a->(v∈p↔S.bas a∈p):=fun v hv u=>by
   have:=F.hang hv (C:=fun y=>y∈p↔S.bas a∈p) (fun s t o q h e=>?_) (by rw [u]);exact this;have w:=inl s (F.fi.evE hv o);have A:=inl t (F.fi.evE hv q);rw [<- h];exact ⟨fun z=>c.clo t z s w (by rw [qdq];exact tB_tA.mpr e),fun z=>c.clo s z t A (tB_tA.mpr e)⟩
  exact (one x G H).mpr ((one a d rfl).mp l)
theorem qd1 (F:Fn (tA tps) (pt qs) S ss) {p:List Str} (c:PcN tps (lfN ss tps S) p):p.length % 2=1↔∃ a∈p,S.rows a≠none:=by
 constructor
 .intro q;refine Ym fun hc=>?_
  have:=qdB (g:=pt qs) _ (X:=p) (yh _) c.nd fun x d=>by
   obtain ⟨n,_⟩:=(qb1 F).mp (c.sub x d)
   cases e:pt qs x with
   | none=>exact absurd ⟨x,d,F.sng x n e⟩ hc
   | some y =>
    have b:=F.gr.fa e;refine ⟨y,c.clo x d y ((qb1 F).mpr ⟨F.inn _ _ (F.gr.as b),fun ⟨o,_⟩=>?_⟩) (tB_tA.mpr b),rfl,Yb (F.gr.ir b),F.gr.fs e⟩;obtain ⟨z,hz⟩:=some_of o;obtain ⟨_,_,s,r,l,m⟩:=F.fi.odd y z hz;rw [F.gr.fs e] at l;cases l;exact hc ⟨x,d,by rw [m];exact fun z=>by cases z⟩
  omega
 .rintro ⟨a,b,f⟩;obtain ⟨r,h⟩:=some_of f;have i:S.rows (S.bas a)≠none:=F.fi.evE f (F.fi.idm a r h);rw [((xX c.nd (F.nd.filter _)).mpr (qds F c b f)).length_eq];exact F.cls_odd (mem_bas.mpr ⟨F.es _ i,i,F.fi.idm a r h⟩)
theorem Fn.nnN (F:Fn (tA tps) (pt qs) S ss):NnN ss tps qs (rdN ss S):=by
 refine ⟨?_,fun s d=>?_,fun pss h=>?_⟩
 .show _=ss.filter fun s=>(S.rows s).isSome;refine List.filter_congr fun s d=>?_;rw [Y5,Ye,mem_rd,isS];exact ⟨fun z=>z.2,fun z=>⟨d,z⟩⟩
 .obtain ⟨h1,f⟩:=yp.mp d;exact mem_rd.mpr ⟨h1,F.sng s h1 (xZ.mp f)⟩
 have h:PcsN tps (lfN ss tps S) (lfN ss tps S).length pss:=h;have g:=h.all;rw [yN] at g;obtain ⟨L,M⟩:=List.pairwise_flatten.mp h.nd
 have m:∀ {p},p∈zX pss↔p∈pss/\∃ a∈p,S.rows a≠none:=fun {p}=>by
  unfold zX;rw [yp,Ye];exact ⟨fun z=>⟨z.1,(qd1 F (h.pc p z.1)).mp z.2⟩,fun z=>⟨z.1,(qd1 F (h.pc p z.1)).mpr z.2⟩⟩
 have C:(zX pss).Pairwise fun p q=>∀ x∈p,∀ y∈q,x≠y:=M.filter _;have t:(zX pss).flatten.Nodup:=List.pairwise_flatten.mpr ⟨fun p c=>L p (m.mp c).1,C⟩
 have mem:∀ s,s∈(zX pss).flatten↔s∈rdN ss S:=fun s=>by
  rw [mem_rd,xl];constructor
  .rintro ⟨p,c,d⟩;obtain ⟨h1,a,f,H⟩:=m.mp c;obtain ⟨J,K,_⟩:=mem_cls.mp ((qds F (h.pc p h1) f H s).mp d);exact ⟨J,K⟩
  .rintro ⟨h1,f⟩;obtain ⟨p,c,d⟩:=xl.mp (g s ((qb1 F).mpr ⟨h1,fun z=>f z.2⟩));exact ⟨p,m.mpr ⟨c,s,d,f⟩,d⟩
 refine ⟨?_,(xX t (F.nd.filter _)).mpr mem⟩
 have u:∀ p∈zX pss,p.headD ""∈p:=fun p c=>by
  obtain ⟨_,a,f,_⟩:=m.mp c
  cases p with
  | nil=>cases f
  | cons x r=>exact yO
 have i:∀ p∈zX pss,S.rows (p.headD "")≠none:=fun p c=>(mem_rd.mp ((mem _).mp (xl.mpr ⟨p,c,u p c⟩))).2;have o:∀ p (c:p∈zX pss) x,x∈p↔x∈qci S ss (S.bas (p.headD "")):=fun p c=>qds F (h.pc p (m.mp c).1) (u p c) (i p c)
 have n:((zX pss).map fun p=>S.bas (p.headD "")).Nodup:=X6.mpr (C.imp_of_mem fun {p q} c I v e=>by
  have B:=u p c;refine v _ B _ ?_ rfl;rw [o q I,<- e,<- o p c];exact B)
 have w:((zX pss).map fun p=>S.bas (p.headD "")).length=(qa1 S ss).length:=XM
  (qdn n fun b l=>by
   obtain ⟨p,c,rfl⟩:=Y1.mp l;obtain ⟨r,A⟩:=some_of (i p c);have l:S.rows (S.bas (p.headD ""))≠none:=F.fi.evE (i p c) (F.fi.idm _ r A);exact mem_bas.mpr ⟨F.es _ l,l,F.fi.idm _ r A⟩)
  (qdn (F.nd.filter _) fun b l=>by
   obtain ⟨D,E,G⟩:=mem_bas.mp l;obtain ⟨p,c,d⟩:=xl.mp ((mem b).mpr (mem_rd.mpr ⟨D,E⟩));refine Y1.mpr ⟨p,c,?_⟩;exact ((mem_cls.mp ((o p c b).mp d)).2.2.symm.trans G))
 rw [ya] at w;rw [w,F.count];have N:(brN ss tps (rdN ss S)).length=(qcW S ss).length:=((xX ((F.nd.filter _).filter _) (F.nd.filter _)).mpr fun s=>qd0 F).length_eq;have O:(sgl ss qs).length=(snL (pt qs) ss).length:=congrArg List.length (List.filter_congr fun s _=>by cases pt qs s<;>rfl);omega
theorem pt_some:s∈qj qs↔(pt qs s).isSome=true:=by
 cases e:pt qs s with
 | none=>exact ⟨fun z=>absurd z (pt_none.mp e),(fun z=>by cases z)⟩
 | some b=>exact ⟨fun _=>rfl,fun _=>Ym fun z=>by rw [pt_none.mpr z] at e;cases e⟩
theorem qd2 (c:(qj qs).Nodup) (b:ss.Nodup) (a:∀ s∈qj qs,s∈ss):(snL (pt qs) ss).length+2*qs.length=ss.length:=by
 have e:2*qs.length=(ss.filter fun s=>(pt qs s).isSome).length:=by
  rw [<- zt];exact XM (qdn c fun s h=>yp.mpr ⟨a s h,pt_some.mp h⟩) (qdn (b.filter _) fun s h=>pt_some.mpr (yp.mp h).2)
 rw [e];unfold snL;clear e b a
 induction ss with
 | nil=>rfl
 | cons x r ih =>
  rw [yV,yV];cases (pt qs x).isSome
  .rw [yK (show (!false)=true from rfl),yD Yd,yA,yA];omega
  .rw [yD (show ¬ (!true)=true by decide),yK (show true=true from rfl),yA,yA];omega
theorem gr_of (G:Gr (tA tps) (pt qs)) {rs:List (Str×Str)} (b:(qj rs).Nodup) (a:∀ q∈rs,tA tps q.1 q.2):Gr (tA tps) (pt rs):=
 ⟨G.as,G.ir,fun e=>(qai b).mp e,fun e=>(qcK e).elim (fun z=>a _ z) fun z=>G.as (a _ z)⟩
theorem Fn.none (F:Fn (tA tps) (pt qs) S ss) (g:PGo ss tps qs) (h:Aug (tA tps) (pt qs) r):False:=by
 have d:=qed h g.nd;have hl:=qdZ h g.nd
 have c:∀ q∈kpN qs (stp r)++nwN qs (stp r),tA tps q.1 q.2:=fun q a=>by
  rcases yx.mp a with z | z
  .exact (g.inn q ((qaZ h g.nd).mp z).1).1
  .obtain ⟨j,_,i,l⟩:=(zD h g.nd).mp z;exact (h.st j _ _ i l).1
 have f:∀ {rs:List (Str×Str)},(∀ q∈rs,tA tps q.1 q.2)->∀ s∈qj rs,s∈ss:=fun k s b=>by
  obtain ⟨q,a,e⟩:=mem_names.mp b;rcases e with rfl | rfl
  .exact F.inn _ _ (k q a)
  .exact F.inn _ _ (F.gr.as (k q a))
 have o:=qd2 g.nd F.nd (f fun q a=>(g.inn q a).1);have p:=qd2 d F.nd (f c);have t:=F.most (gr_of F.gr d c)
 have v:(ss.filter fun u=>!(pt (kpN qs (stp r)++nwN qs (stp r)) u).isSome&&(S.rows u).isSome).length<=(snL (pt (kpN qs (stp r)++nwN qs (stp r))) ss).length:=qdn (F.nd.filter _) fun s b=>by
  obtain ⟨m,n⟩:=yp.mp b;exact yp.mpr ⟨m,(yW _ _ ▸ n).1⟩
 omega
theorem qbg:∀ {l m:List (Str×Str)},All2 (fun a b=>b=a\/b=(a.2,a.1)) l m->(qj m).Perm (qj l)
 | [],[],_=>.refl _
 | [],_::_,h=>by have:=h.len;cases this
 | _::_,[],h=>by have:=h.len;cases this
 | a::l,b::m,h=>by
  have c:=qbg (l:=l) (m:=m) ⟨Nat.succ.inj h.len,fun k x y d f=>h.at_ (k+1) x y d f⟩;have e:=h.at_ 0 a b rfl rfl;show (b.1::b.2::qj m).Perm (a.1::a.2::qj l);rcases e with rfl | rfl
  .exact (c.cons _).cons _
  .exact (ky _ _ _).trans ((c.cons _).cons _)
theorem Shuf.names (sh:Shuf qs ups):(qj ups).Perm (qj qs):=by
 obtain ⟨ps,b,a⟩:=sh;exact (b.flatMap_right _).trans (qbg a)
theorem Shuf.back (sh:Shuf qs ups) (h:q∈qs):q∈ups\/(q.2,q.1)∈ups:=by
 obtain ⟨ps,f,a⟩:=sh;obtain ⟨k,b⟩:=yf h;obtain ⟨c,hc⟩:∃ c,ps[k]?=some c:=⟨_,yb (by rw [<- a.len];exact (yc.mp b).1)⟩;have d:=f.mem_iff.mpr (ye hc);rcases a.at_ k q c b hc with e | e
 .exact .inl (e ▸ d)
 .exact .inr (e ▸ d)
theorem Shuf.pgo (sh:Shuf qs ups) (g:PGo ss tps qs):PGo ss tps ups:=by
 refine ⟨fun q a=>?_,sh.names.nodup_iff.mpr g.nd,by rw [sh.len];exact g.few⟩;rcases sh.mem a with z | z
 .exact g.inn q z
 .obtain ⟨b,c,d,e⟩:=g.inn _ z;exact ⟨b.symm,d,c,e.symm⟩
theorem Shuf.pt (sh:Shuf qs ups) (g:PGo ss tps qs):pt ups=pt qs:=by
 funext a;refine opt_ext fun b=>?_;rw [qb0 (sh.pgo g).nd,qb0 g.nd];constructor
 .rintro (z | z)
  .exact sh.mem z
  .exact (sh.mem z).symm
 .rintro (z | z)
  .exact sh.back z
  .exact (sh.back z).symm
end
structure Wt (cw:Addr) (H:Hp) (x:Addr) (ss:List Str) (ns:List Nat) (tps:List (Str×Str)):Prop where
 web:WebAt cw H x ss ns
 adj:Adj ss ns tps
 ok:∀ ab∈tps,ab.1∈ss/\ab.2∈ss/\ab.1≠ab.2
theorem Wt.wok (h:Wt cw H x ss ns tps):WOk ss ns:=by obtain ⟨_,_,_,_,_,_,_,_,z⟩:=h.web;exact z
theorem Wt.wb (h:Wt cw H x ss ns tps) (g:PGo ss tps qs):Wb (tA tps) ss qs:=by
 refine ⟨⟨fun z=>Or.symm z,fun z e=>?_,fun e=>(qai g.nd).mp e,fun e=>(qcK e).elim (fun z=>(g.inn _ z).1) fun z=>(g.inn _ z).1.symm⟩,fun a b z=>z.elim (fun y=>(h.ok _ y).1) fun y=>(h.ok _ y).2.1,g.nd,h.wok.few,h.wok.nd⟩;rcases z with z | z
 .exact (h.ok _ z).2.2 e
 .exact (h.ok _ z).2.2 e.symm
theorem Wt.bes (h:Wt cw H x ss ns tps):∀ (j:Nat) z u,ss[j]?=some z->(u∈inB ss 0 (ns.getD j 0)↔tA tps z u):=fun j z u e=>by
 rw [qbc h.wok.nd,yp];constructor
 .rintro ⟨h1,b⟩;exact (h.adj j _ z u e (by rw [yb (xj h1),xM])).mp b
 .intro t;have a:u∈ss:=t.elim (fun y=>(h.ok _ y).2.1) fun y=>(h.ok _ y).1;exact ⟨a,(h.adj j _ z u e (by rw [yb (xj a),xM])).mpr t⟩
theorem qeA {wt:List Str} (h:FoD cf cw H0 H a ss ns qs S dn wt lo (tA tps)) (W:Wb (tA tps) ss qs) (b:lo=.non):Fn (tA tps) (pt qs) S ss:=by
 rcases h.en with ⟨_,rfl,I,C,sg⟩ | ⟨t,r,e,_⟩
 .have c:∀ v,v∈dn↔S.rows v≠none:=fun v=>by have:=h.fo.evi v;rwa [Yl] at this
  refine ⟨I,W.gr,W.inn,W.nd,fun v u hv d=>(C.cl v u ((c v).mpr hv) d).imp id fun z=>⟨z.1,Ym fun y=>z.2 ((c u).mpr y)⟩,sg,fun v hv=>h.fo.evs v ((h.fo.evi v).mpr hv)⟩
 .rw [b] at e;cases e
theorem str_ref {u:Addr}:rs.map V.str≠(u::us).map V.ref:=fun e=>by
 cases rs with
 | nil=>cases e
 | cons x r=>cases e
theorem FoD.clr {wt:List Str} (h:FoD cf cw H0 H a ss ns qs S dn wt lo A) {c:Addr} (e:H0 c=some (.lst (us.map V.ref))):∃ H1,FoD cf cw H1 (upd H c (.lst [])) a ss ns qs S dn wt lo A:=by
 have m:=h.fo.sm _ _ e
 cases us with
 | nil =>
  have:upd H c (.lst [])=H:=by
   funext d;by_cases z:d=c
   .rw [z,qb];exact m.symm
   .rw [qe z]
  rw [this];exact ⟨H0,h⟩
 | cons u us =>
  have v:∀ {G:Hp} {d:Addr} {rs:List Str},G c=some (.lst ((u::us).map V.ref))->G d=some (.lst (rs.map V.str))->d≠c:=fun J B z=>by
   rw [z,J] at B;exact str_ref (HO.lst.inj (ym B)).symm
  have M:∀ d∈a.six,d≠c:=fun d f z=>by
   have:=h.fo.fr d f;rw [z,e] at this;cases this
  have mem:∀ {d},d∈[a.x,a.dr,a.da,a.ds,a.dg,a.dw]->d≠c:=fun {d} f=>M d f;have b:∀ {d o},d≠c->H d=some o->upd H c (.lst []) d=some o:=fun z k=>by rw [qe z];exact k
  have E:∀ {d},H0 d=none->qdp c H0 d=none:=fun {d} k=>by
   unfold qdp;split
   .rfl
   .exact k
  refine ⟨qdp c H0,⟨fun d o k=>?_,?_,?_,fun d f=>E (h.fo.fr d f),h.fo.nd,fun d f=>?_,?_,?_,?_,?_,?_,?_,h.fo.evn,h.fo.evi,h.fo.evs⟩,?_⟩
  .unfold qdp at k;split at k
   .cases k
   .rename_i z
    exact b z (h.fo.sm d o k)
  .obtain ⟨U,d,ol,n,h1,C,D,p,K⟩:=h.fo.web;refine ⟨U,d,ol,n,(jx ?_).trans h1,(jx ?_).trans C,(jx (v e D)).trans D,(jx fun z=>?_).trans p,K⟩
   .exact zw h1 e (fun z=>by cases z)
   .exact zw C e (fun z=>by cases z)
   .rw [z,e] at p;have:=HO.lst.inj (ym p);unfold qcg at this
    cases ns with
    | nil=>cases this
    | cons x r=>cases this
  .exact (jx (zw h.fo.prt e fun z=>by cases z)).trans h.fo.prt
  .obtain ⟨q,g,o,L⟩:=h.fo.exf d f;refine ⟨E q,g,?_⟩;by_cases z:d=c
   .exact ⟨_,by rw [z];exact qb⟩
   .exact ⟨o,b z L⟩
  .exact h.fo.obj.eq (qe (mem (by simp)))
  .obtain ⟨q,N,O,P⟩:=h.fo.row;refine ⟨q,b (mem (by simp)) N,O,fun s=>?_⟩;have:=P s
   cases y:S.rows s with
   | none=>rw [y] at this;exact this
   | some r =>
    rw [y] at this;obtain ⟨t,R,F,T⟩:=this;exact ⟨t,R,b (v m F) F,T⟩
  .obtain ⟨g,i,l⟩:=h.fo.par;exact ⟨g,b (mem (by simp)) i,l⟩
  .obtain ⟨g,i,l⟩:=h.fo.bas;exact ⟨g,b (mem (by simp)) i,l⟩
  .obtain ⟨g,i,l⟩:=h.fo.rng;exact ⟨g,b (mem (by simp)) i,l⟩
  .exact b (mem (by simp)) h.fo.wai
  .exact h.en.elim .inl fun ⟨t,r,I,w,z⟩=>.inr ⟨t,r,I,b (v m w) w,z⟩
theorem wt_new {y:Addr} (h:WebN H0 cw H y ss ns) (e:qaX ss ns kps) (g:TGo ss kps):Wt cw H y ss ns kps:=
 ⟨h.web,fun a b s t d c=>by rw [e.2.2 a b s t d c,Ye],g.inn⟩
structure Wq (p cw:Addr) (H:Hp) (x:Addr) (ss:List Str) (ns:List Nat) (tps:List (Str×Str)):Prop where
 web:WebP (fun a=>a=p) cw H x ss ns
 adj:Adj ss ns tps
 ok:∀ ab∈tps,ab.1∈ss/\ab.2∈ss/\ab.1≠ab.2
section
variable {p cw x:Addr} {H H':Hp} {ss:List Str} {ns:List Nat} {tps:List (Str×Str)}
theorem Wq.wt (h:Wq p cw H x ss ns tps):Wt cw H x ss ns tps:=⟨h.web.web,h.adj,h.ok⟩
theorem Wq.bb (h:Wq p cw H x ss ns tps) (b:BB p H H'):Wq p cw H' x ss ns tps:=⟨h.web.keep fun c o n e=>b.1 c o n e,h.adj,h.ok⟩
theorem Wq.same (h:Wq p cw H x ss ns tps) (s:L2.Same H H'):Wq p cw H' x ss ns tps:=⟨h.web.keep fun c o _ e=>s c o e,h.adj,h.ok⟩
end
theorem tok_go (c:ss.Nodup) (h:TOk ss tps):TGo ss tps:=by
 refine ⟨h.few,fun ab b=>?_,Xd (fun {q r} i m d=>⟨d,fun z=>?_⟩) h.nd⟩
 .obtain ⟨j,k,l,h1,a⟩:=h.ok ab b;exact ⟨ye h1,ye a,fun e=>by rw [e] at h1;have:=qM c h1 a;omega⟩
 .obtain ⟨j,k,l,h1,a⟩:=h.ok q i;obtain ⟨n,k',l',f,g⟩:=h.ok r m;rw [z] at h1 a;have:=qM c h1 g;have:=qM c a f;omega
theorem wmake {m y:Addr} {Q:VK} (H:G m=some (.lst (ss.map V.str))) (g:ss.length<=14) (nd:ss.Nodup) (I:∀ s∈ss,zn s=true) (D:PL G l us kps) (p:TGo ss kps) (q:G y=none) (F:G dx=none) (i:dx≠y)
  (h:∀ ns H2,L2.Same G H2->WebN G cw H2 y ss ns->Wt cw H2 y ss ns kps->Q .non H2):spWeb cw [.ref y,.ref m,.ref l] (upd (upd G dx (.own y)) y (.ins cw dx [])) Q E:=by
 have f:=qD (qD (Sr G) (o:=.own y) F) (o:=.ins cw dx []) (show upd G dx (.own y) y=none by rw [qe (Yb i)];exact q);refine ⟨y,dx,m,l,ss,us,kps,rfl,qb,f _ _ H,g,nd,I,D.same f,p,fun ns H' b C B=>?_⟩
 have a:WebN G cw H' y ss ns:=by
  obtain ⟨J,d,ol,n,h1,r,t,u,v,w,x,A⟩:=C
  have k:∀ c,upd (upd G dx (.own y)) y (.ins cw dx []) c=none->G c=none:=fun c z=>by
   cases e:G c with
   | none=>rfl
   | some o=>rw [f _ _ e] at z;cases z
  exact ⟨J,d,ol,n,h1,r,t,u,v,k _ w,k _ x,k _ A⟩
 refine h ns H' (fun c o e=>b c o (fun z=>by rw [z,q] at e;cases e) (f _ _ e)) a (wt_new a B p)
theorem qeB {y:Addr} {Q:VK} (W:Wt cw G x ss ns tps) (q:PL G l us qs) (b:PGo ss tps qs) (f:G y=none) (m:G dx=none) (d:dx≠y)
  (h:∀ H0 H2 a S dn wt lo,a.x=y->FoD (cc 9) cw H0 H2 a ss ns qs S dn wt lo (tA tps)->L2.Same G H0->L2.Same G H2->Q .non H2):spFi cc cw [.ref y,.ref x,.ref l] (upd (upd G dx (.own y)) y (.ins (cc 9) dx [])) Q E:=by
 have n:=qD (qD (Sr G) (o:=.own y) m) (o:=.ins (cc 9) dx []) (show upd G dx (.own y) y=none by rw [qe (Yb d)];exact f);refine ⟨y,dx,x,l,ss,ns,us,tps,qs,tA tps,rfl,qb,W.web.same n,W.adj,W.wb b,W.wok.nm,W.bes,q.same n,b.few,b.inn,fun H0 H' a S dn wt lo p _ i r=>?_⟩
 have g:L2.Same G H0:=fun c o e=>r c o (by
  rw [jx (fun z=>by rw [z,f] at e;cases e),qe (fun z=>by rw [z,f] at e;cases e),qe (fun z=>by rw [z,m] at e;cases e)];exact e)
 exact h H0 H' a S dn wt lo p i g (g.trans i.fo.sm)
theorem kR:FnScope ["_law_script","_law_k","_law_box_here","_law_names_here","_law_ties_here","_law_web","_law_pairs","_law_handed","_law_forest","_law_row","_law_told"] ["_law_script"] (qh qcl):=fS
theorem vAsgT {c:TE} {b:TGs} {D:Ends} {a:L2.St} (h:c a H fun x H1=>qeM K n b x a H1 D.nx):qee c (qeM K n b) D a H:=h
inductive spLaw (K:W.Frag) (vs:List V) (H:Hp) (Q:VK) (E:XK):Prop|mk (a:Addr) (ns:List Int) (_:vs=[.ref a]) (_:SqL K H a (ns.map V.int)) (_:ns.length<=63) (_:∀ H',Q (.bl true) H')
theorem BB.out (s:L2.Same H H1) (a:H p=none) (b:BB p H1 H2):L2.Same H H2:=fun c o e=>b.1 c o (fun z=>by subst z;rw [a] at e;cases e) (s c o e)
def RwV (H:Hp) (v:V) (lr:Option (List Str)):Prop:=(lr=none/\v=.non)\/∃ l r,lr=some r/\v=.ref l/\H l=some (.lst (r.map V.str))
def TdV (H' H:Hp) (v:V):Prop:=v=.non\/∃ l xs,v=.ref l/\H' l=none/\H l=some (.lst xs)/\xs.length<=900
theorem Aug.inn {f:Str->Option Str} (h:Aug A f r) (as:∀ a b,A a b->A b a) (inn:∀ a b,A a b->a∈ss):∀ s∈r,s∈ss:=fun s l=>by
 obtain ⟨i,e,c⟩:=YH l;have g:r[i]?=some s:=by rw [yb e,c]
 have:=h.two;by_cases z:i+1<r.length
 .exact inn _ _ (h.st i _ _ g (yb z)).1
 .have d:r[i-1]?=some r[i-1]:=yb (by omega);exact inn _ _ (as _ _ (h.st (i-1) _ _ d (by rw [show i-1+1=i by omega];exact g)).1)
theorem RwV.same {v:V} (h:RwV H v lr) (s:L2.Same H H'):RwV H' v lr:=h.imp id fun ⟨l,r,a,b,c⟩=>⟨l,r,a,b,s _ _ c⟩
def TdJ (H0:Hp) (z:Addr) (j:Nat) (H:Hp) (v:V):Prop:=v=.non\/∃ l xs,v=.ref l/\H0 l=none/\l≠z/\H l=some (.lst xs)/\xs.length<=900+j
theorem TdJ.on {z:Addr} {j:Nat} {v:V} (h:TdJ H0 z j H v):TdJ H0 z (j+1) H v:=h.imp id fun ⟨l,xs,a,b,c,d,e⟩=>⟨l,xs,a,b,c,d,by omega⟩
theorem TdJ.put {z:Addr} {j:Nat} {v e:V} (h:TdJ H0 z j H v) (i:xs.length<=900+j):TdJ H0 z (j+1) (upd H l (.lst (xs++[e]))) v:=by
 rcases h with h | ⟨k,ys,a,b,c,d,f⟩
 .exact .inl h
 .by_cases g:k=l
  .subst g;exact .inr ⟨k,_,a,b,c,qb,by rw [yt];show xs.length+1<=_;omega⟩
  .exact .inr ⟨k,ys,a,b,c,by rw [qe g];exact d,by omega⟩
theorem TdV.j {z:Addr} {v:V} (h:TdV H0 H v) (s:L2.Same H H') (hz:H z=none):TdJ H0 z 0 H' v:=h.imp id fun ⟨l,xs,a,b,c,d⟩=>⟨l,xs,a,b,(fun e=>by rw [e,hz] at c;cases c),s _ _ c,d⟩
theorem qff {wt:List Str} (d:FoD (cc 9) cw H0 H a ss ns qs S dn wt lo A):∃ lr:Option (List Str),(lr=none->lo=.non)/\(∀ r,lr=some r->Aug A (pt qs) r)/\∀ (H':Hp) (Q:VK) (E:XK),L2.Same H H'->(∀ v H2,L2.Same H' H2->RwV H2 v lr->TdV H' H2 v->Q v H2)->spFr cc cw [.ref a.x] H' Q E:=by
 rcases d.en with ⟨e,_⟩ | ⟨t,r,e,g,_,m,i⟩
 .refine ⟨none,fun _=>e,(fun r z=>by cases z),fun H' Q E s h=>⟨H0,a,ss,ns,qs,S,dn,wt,lo,A,rfl,d.same s,fun _=>h _ _ (Sr _) (.inl ⟨rfl,rfl⟩) (.inl rfl),fun t r b=>by rw [e] at b;cases b⟩⟩
 .refine ⟨some r,(fun z=>by cases z),(fun n z=>by cases z;exact m),fun H' Q E s h=>⟨H0,a,ss,ns,qs,S,dn,wt,lo,A,rfl,d.same s,(fun b=>by rw [e] at b;cases b),fun t' n b c _ l hl=>?_⟩⟩;rw [e] at b;cases b;rw [s _ _ g] at c;have f:=(HO.lst.inj (ym c)).symm;rw [f];exact h _ _ (qD (Sr _) hl) (.inr ⟨l,r,rfl,rfl,qb⟩) (.inr ⟨l,_,rfl,hl,qb,by rw [ya];omega⟩)
theorem freach {wt:List Str} {Q:VK} (c:FoD (cc 9) cw H0 H a ss ns qs S dn wt lo A) (few:ss.length<=14) (h:∀ v H2,L2.Same H H2->TdV H H2 v->Q v H2):spFd2 cc cw [.ref a.x] H Q E:=by
 refine ⟨H0,a,ss,ns,qs,S,dn,wt,lo,A,rfl,c,few,fun _=>h _ _ (Sr _) (.inl rfl),fun _ l H' s hl b=>h _ _ s (.inr ⟨l,_,rfl,hl,b,?_⟩)⟩;rw [ya];exact yi (yI _ _) (by omega)
theorem rw_eq {v a:V} {Q:VK} (h:RwV H v lr) (h':RwV H a lr) (q:Q (.bl false) H):qea K true v a H Q:=by
 rcases h with ⟨rfl,rfl⟩ | ⟨l,r,rfl,rfl,e⟩
 .rcases h' with ⟨_,rfl⟩ | ⟨_,_,z,_⟩
  .exact .inl ⟨rfl,rfl,q⟩
  .cases z
 .rcases h' with ⟨z,_⟩ | ⟨l',c,z,rfl,b⟩
  .cases z
  .cases z;exact .inr (.inl ⟨l,l',true,1,rfl,rfl,by decide,by have:=qbr (K:=K) e b;rwa [yQ rfl] at this,q⟩)
theorem ok_law31 (F:Fun K "law" "law" qcl f fd) (T:Txt K mg cc cw) (uo:DefOk P w K mg base CX0 1 "_law_cell" ["_law_script","_law_k"] (spCell K)) (uq:DefOk P w K mg base CX0 1 "_law_box" ["_law_cell_here"] spBox) (uf:DefOk P w K mg base CX0 3 "_law_drawn" ["_law_box_here","_law_most"] spDrawn) (uu:MakeOk P w K mg base CX0 5 cw "Web" ["self","names","ties"] (spWeb cw)) (KH:DefOk P w K mg base CX0 3 "_law_some_pairs" ["_law_box_here","_law_ties_here"] spSo) (Kl:DefOk P w K mg base CX0 2 "_law_shuffled" ["_law_box_here","_law_ties_here"] spShuf) (KY:MakeOk P w K mg base CX0 10 (cc 9) "Forest" ["self","web","pairs"] (spFi cc cw)) (kM:MethOk P w K mg base CX0 1 (cc 9) "row" ["self"] (spFr cc cw)) (kN:MethOk P w K mg base CX0 2 (cc 9) "reached" ["self"] (spFd2 cc cw)) (KJ:DefOk P w K mg base CX0 5 "_law_right" ["_law_forest","_law_names_here","_law_ties_here","_law_pairs"] (spRx cc cw)):FnOk P w K mg base CX0 12 f fd ["_law_script"] (spLaw K):=by
 refine F.ok kR fun _ _ _ _ H vs Q E s h=>?_
 .obtain ⟨a,zs,rfl,ha,hl,q⟩:=h;have hu:=j9 s;refine ⟨_,(qc (jp yU rfl (jD rfl T.b_range (qa (qp (call_max2 rfl) rfl T.b_max boot_max (qa qi (qa (qp (call_min2 rfl) rfl T.b_min boot_min (qa qi (qa (qp (jK (K:=K) rfl) rfl T.b_len Yz (qa (pv 0) qd)) qd))) qd))) qd)) (qr (i:=1) kR.nd rfl (yR rfl))
 (qc (qq (i:=2) kR.nd rfl (yR rfl) (qu uq (hmR s) qE (qa (qu uo (hmR s) qE (qa (pv 0) (qa (pv 1) qd))) qd)))
 (qc (jV (qu uf (hmR s) qE (qa (pv 2) (qa (qv (qw (K:=K) rfl hu) (qO (qa qi (qa qi qd))) (jE call_int1 rfl T.b_int boot_int (qa (jH (zW (K:=K) rfl hu) (pv 1) qi (qx _)) qd)) (fun _ _=>rfl)) qd))) (qdF rfl (qaA (qr (i:=3) kR.nd rfl (yR rfl)) (qaA (qr (i:=4) kR.nd rfl (yR rfl)) qcX))))
 (qc (qq (i:=5) kR.nd rfl (yR rfl) (qbn uu (hmR s) (qa (pv 3) (qa (pv 4) qd))))
 (qc (qq (i:=6) kR.nd rfl (yR rfl) (qu KH (hmR s) qE (qa (pv 2) (qa (pv 4) qd))))
 (qc (qq (i:=7) kR.nd rfl (yR rfl) (jE (qat (K:=K) rfl rfl) rfl T.b_list xP (qa (pv 6) qd)))
 (qc (qq (i:=8) kR.nd rfl (yR rfl) (qbn KY (hmR s) (qa (pv 5) (qa (pv 7) qd))))
 (qc (qN (qk (qaq (K:=K) rfl hu) (pv 7) (pv 6) (qx _)) (qf (qo j4)) qt)
 (qc (qV (qev (K:=K) rfl yP PySem.F.slot_list_clear PySem.F.type_list_clear mtR_clear (pv 7)))
 (qc (qq (i:=9) kR.nd rfl (yR rfl) (qZ kM (hmR s) (pv 8)))
 (qc (qN (jr (jh (qu KJ (hmR s) qE (qa (pv 8) (qa (pv 3) (qa (pv 4) (qa (pv 6) qd))))))) (qf (qo j4)) qt)
 (qc (jp yU rfl (qK (K:=K) rfl (qO (qa (qZ kM (hmR s) (pv 8)) (qa (qZ kN (hmR s) (pv 8)) qd)))) (qr (i:=10) kR.nd rfl (yR rfl))
 (qf (qN (qk qbi (pv 10) jU (qx _)) (qf (qV (qbu (K:=K) rfl yP Yi Yj jc (pv 10) (qa qbw qd)))) qt)))
 (qc (qN (PW.pt (qaL (qk (qaq (K:=K) rfl hu) (qZ kM (hmR s) (pv 8)) (pv 9) (qx _)) (zR (jr (jh (qu KJ (hmR s) qE (qa (pv 8) (qa (pv 3) (qa (pv 4) (qa (pv 6) qd)))))))))) (qf (qo j4)) qt)
 (qf (qN (PW.pt (qaw (qk qeh (qZ kM (hmR s) (qbn KY (hmR s) (qa (pv 5) (qa (qu Kl (hmR s) qE (qa (pv 2) (qa (pv 6) qd))) qd)))) jU (qx _)) (zx (qk qbi (pv 9) jU (qx _))))) (qf (qo j4)) qt)))))))))))))))
 (qf (qo j4))),?_⟩
  ext;refine qdJ ha ?_;ext;refine ⟨_,_,rfl,?_⟩;ext;refine ⟨_,_,rfl,?_⟩;ext;rw [ya];refine ⟨_,rfl,by split<;>split<;>omega,by split<;>split<;>omega,?_⟩;generalize hN:(Int.toNat _)=N;have cn:N<=63:=by rw [<- hN];split<;>split<;>omega
  clear hN;refine zy (fun i σ H'=>L2.Same H H'/\∃ x1 x2 x3 x4 x5 x6 x7 x8 x9 D,σ=[some (.ref a),x1,x2,x3,x4,x5,x6,x7,x8,x9,D]) ⟨L2.Same.refl H,none,none,none,none,none,none,none,none,none,none,rfl⟩ (fun i σ H1 hi X=>?_) fun σ H1 X=>?_
  .obtain ⟨s1,x1,x2,x3,x4,x5,x6,x7,x8,x9,D,rfl⟩:=X;ext;refine ⟨a,zs,_,rfl,s1.seq ha,by omega,by omega,fun c=>?_⟩;ext;refine ⟨c,rfl,fun p u1 u2 u3 bi=>?_⟩;have s2:=qD s1 (o:=.lst [.int u1,.int u2,.int u3]) bi;have hB:Box (upd H1 p (.lst [.int u1,.int u2,.int u3])) p:=⟨u1,u2,u3,qb⟩;have bv:H p=none:=s1.free bi;generalize upd H1 p (.lst [.int u1,.int u2,.int u3])=H2 at s2 hB;ext;refine vAsgT ?_;ext;refine ⟨by show 2<=sizeLine;decide,fun m hm=>?_⟩;have b3:=(BB.refl hB).new (o:=.lst [.int 7,.int 14]) hm;have em:upd H2 m (.lst [.int 7,.int 14]) m=some (.lst [.int 7,.int 14]):=qb;generalize upd H2 m (.lst [.int 7,.int 14])=H3 at b3 em ⊢;ext;refine .inl (.inl (.inl ⟨rfl,rfl,?_⟩));ext;refine .inr ⟨_,rfl,?_⟩
   obtain ⟨mo,bx,bz,bj⟩:=(show ∀ bb:Bool,∃ mo:Int,atI [V.int 7,V.int 14] (if bb=true then 1 else 0)=some (.int mo)/\0<=mo/\mo<=14 from fun bb=>by
    cases bb
    .exact ⟨7,rfl,by decide,by decide⟩
    .exact ⟨14,rfl,by decide,by decide⟩) _
   refine .inl (qao em bx ?_);ext;refine ⟨p,mo,rfl,bz,bj,b3.2,fun t n l ss ts tps H4 av ht cq hn W co hT br=>?_⟩;refine ⟨t,_,rfl,SqT.of ht,rfl,_,_,rfl,_,_,rfl,rfl,?_⟩;have b4:=b3.trans av;have hg:TGo ss tps:=tok_go W.nd br;ext;refine fun y dx hy bt bu=>wmake hn.1 W.few W.nd W.nm hT.pl hg hy bt bu fun ns H5 s5 wn W5=>⟨rfl,?_⟩;have Wq5:Wq p cw H5 y ss ns tps:=⟨wn.apart (b4.apart hy) (fun z e e0=>by subst e;obtain ⟨_,_,_,q9⟩:=b4.2;rw [q9] at e0;cases e0),W5.adj,hg.inn⟩;have b5:=b4.same s5;have be:=hn.same s5;have ak:=hT.same s5;ext;refine ⟨p,l,ss,ts,tps,rfl,b5.2,ak,hg.few,hg.inn,fun l6 us qs H6 c6 cg A U=>?_⟩;have b6:=b5.trans c6;have Wq6:=Wq5.bb c6;have bf:=be.bb c6;have ae:=ak.bb c6;clear av b4 b5 hn hT W5 wn be ak Wq5 c6;ext;refine .inl ⟨l6,_,rfl,.inl (SqL.of A.1),fun c hc=>?_⟩;have s7:=qD (Sr H6) (o:=.lst (us.map V.ref)) hc;have ec:upd H6 c (.lst (us.map V.ref)) c=some (.lst (us.map V.ref)):=qb;generalize upd H6 c (.lst (us.map V.ref))=H7 at s7 ec;ext;refine fun x ck hx ba bg=>qeB (Wq6.same s7).wt ⟨ec,(A.pl.same s7).2⟩ U hx ba bg fun K0 H8 fo S dn wt lo ex hD g0 s8=>⟨rfl,?_⟩;subst ex;have aa:=s7.trans s8;ext;refine .inr (.inl ⟨c,l6,true,2,rfl,rfl,by decide,eqT_pl ⟨s8 _ _ ec,(A.pl.same aa).2⟩ (A.pl.same aa),?_⟩);refine ⟨_,rfl,qG (fun h=>by cases h) fun _=>?_⟩;ext;refine ⟨.inl ⟨rfl,_,SqL.of (s8 _ _ ec)⟩,?_⟩;refine ⟨c,_,rfl,rfl,s8 _ _ ec,?_⟩;obtain ⟨K1,u⟩:=hD.clr (g0 _ _ ec);have s9:L2.Same H6 (upd H8 c (.lst [])):=qak aa hc;generalize upd H8 c (.lst [])=H9 at s9 u;clear s7 s8 aa hD g0;obtain ⟨lr,cp,hA,I⟩:=qff u;have al:=(Wq6.same s9).wt.wb U;have ax:lo=.non->NnN ss tps qs (rdN ss S):=fun e=>(qeA u al e).nnN;have aw:∀ r,Aug (tA tps) (pt qs) r->MrN ss tps qs r:=fun r h=>h.mrN (fun a b e=>tB_tA.mpr e) U.nd (h.inn (fun _ _ e=>al.gr.as e) al.inn) W.few;ext;refine u.fo.obj.me (by decide) ?_;ext;refine I H9 _ _ (Sr _) fun ce H10 J af _=>?_;have O:=s9.trans J;ext;refine ⟨n,l,l6,ts,us,tps,K1,fo,ss,ns,qs,S,dn,wt,lo,tA tps,rfl,u.same J,(bf.same O).1,W.nd,W.few,ae.pl.same O,A.pl.same O,U.few,ax,aw,fun H11 an=>?_⟩;refine ⟨_,rfl,qG (fun h=>by cases h) fun _=>?_⟩;have G:=(u.same J).same an;ext;refine G.fo.obj.me (by decide) ?_;ext;refine I H11 _ _ (J.trans an) fun g H12 M _ ag=>?_;ext;refine (G.same M).fo.obj.me (by decide) ?_;ext;refine freach (G.same M) W.few fun d H13 Y ah=>?_;ext;refine ⟨by show 2<=sizeLine;decide,fun z hz=>?_⟩;have ao:=qD (M.trans Y) (o:=.lst [g,d]) hz;have ez:upd H13 z (.lst [g,d]) z=some (.lst [g,d]):=qb;have aq:TdJ H11 z 0 (upd H13 z (.lst [g,d])) g:=ag.j (Y.trans (qD (Sr H13) hz)) (Y.free hz);have ar:TdJ H11 z 0 (upd H13 z (.lst [g,d])) d:=(show TdV H11 H13 d from ah.imp id fun ⟨l,xs,a,b,c⟩=>⟨l,xs,a,M.free b,c⟩).j (qD (Sr H13) hz) hz;generalize upd H13 z (.lst [g,d])=H14 at ao ez aq ar;refine .inl ⟨⟨_,SqL.of ez⟩,qX (K:=K) (fun j σ H'=>L2.Same H11 H'/\H' z=some (.lst [g,d])/\(∀ v∈[g,d],TdJ H11 z j H' v)/\∃ D:Option V,σ=[some (.ref a),some (.int (0+(i:Int))),some (.ref p),some (.ref n),some (.ref l),some (.ref y),some (.ref l6),some (.ref c),some (.ref fo.x),some ce,D]) ⟨ao,ez,fun v hv=>?_,_,rfl⟩ (fun j σ H' _ X=>SqL.of X.2.1) (fun j v σ H15 hv X=>?_) fun σ H15 X=>?_⟩
   .rcases yy.mp hv with rfl | hv
    .exact aq
    .rw [yB.mp hv];exact ar
   .obtain ⟨Z,ac,tj,D,rfl⟩:=X;have hj:j<2:=(yc.mp hv).1;ext;rcases tj v (ye hv) with rfl | ⟨k,xs,rfl,k0,kz,ek,hk⟩
    .refine ⟨rfl,⟨_,rfl,qG (fun h=>by cases h) fun _=>?_⟩⟩;exact ⟨Z,ac,fun v hv=>(tj v hv).on,_,rfl⟩
    .refine ⟨rfl,⟨_,rfl,zg ?_⟩⟩;ext;refine ⟨.inl ⟨rfl,_,SqL.of ek⟩,?_⟩;ext;refine ⟨k,_,_,rfl,rfl,ek,qg (by omega),?_⟩;exact ⟨qak Z k0,by rw [qe kz.symm];exact ac,fun v hv=>(tj v hv).put hk,_,rfl⟩
   .obtain ⟨Z,_,_,ci,rfl⟩:=X;clear ag ah aq ar M Y ao hz ez;have L:=an.trans Z;have R:=J.trans L;have bo:=s9.trans R;have ad:=u.same R;ext;refine ad.fo.obj.me (by decide) ?_;ext;refine I H15 _ _ R fun cu H16 ap bm _=>?_;ext;refine rw_eq bm (af.same (L.trans ap)) ?_;have B:=bo.trans ap;refine ⟨_,rfl,qG (fun h=>by cases h) fun _=>?_⟩;ext;refine ⟨n,l,l6,ts,us,tps,K1,fo,ss,ns,qs,S,dn,wt,lo,tA tps,rfl,ad.same ap,(bf.same B).1,W.nd,W.few,ae.pl.same B,A.pl.same B,U.few,ax,aw,fun H17 ca=>?_⟩;refine ⟨_,rfl,qG (fun h=>by cases h) fun _=>?_⟩;have C:=B.trans ca;ext;have au:=b6.same C;refine ⟨p,l6,us,qs,rfl,au.2,A.same C,U.few,fun cr ch ups H18 ai _ ay sh=>?_⟩;have bp:=au.trans ai;ext;refine fun x3 cl bw bc bh=>qeB ((Wq6.same C).bb ai).wt ay.pl (sh.pgo U) bw bc bh fun K3 H19 cm S3 cj cx cs bq aj _ cb=>⟨rfl,?_⟩;subst bq;have az:=((Wq6.same C).bb ai).wt.wb (sh.pgo U);obtain ⟨ct,bd,_,am⟩:=qff aj;refine aj.fo.obj.me (by decide) ?_;ext;refine am H19 _ _ (Sr _) fun cv H20 cd bn _=>?_;have out:L2.Same H H20:=BB.out s2 bv ((bp.same cb).same cd);ext;rcases bn with ⟨rfl,rfl⟩ | ⟨k,r,rfl,rfl,_⟩
    .refine ⟨_,rfl,zg ?_⟩;ext;rcases af with ⟨rfl,rfl⟩ | ⟨k,r,rfl,rfl,_⟩
     .refine ⟨rfl,⟨_,rfl,qG (fun h=>by cases h) fun _=>?_⟩⟩;exact ⟨out,_,_,_,_,_,_,_,_,_,_,rfl⟩
     .have F3:=qeA aj az (bd rfl);rw [sh.pt U] at F3;exact (F3.none U (hA r rfl)).elim
    .refine ⟨_,rfl,qG (fun h=>by cases h) fun _=>qG (fun h=>by cases h) fun _=>?_⟩;exact ⟨out,_,_,_,_,_,_,_,_,_,_,rfl⟩
  .obtain ⟨s1,x1,x2,x3,x4,x5,x6,x7,x8,x9,D,rfl⟩:=X;ext;exact q H1
end
theorem all_mk {l:W.OpenLaw} {w:World} {h:Heap} {o:Str->Option Value} {N f b :Addr} {p q r:Tok} (X:K.In h) (G:h.Ns mainGlobals o) (z:o "law"=some (.ref N))
  (Cw_:W.nsIn K mainGlobals "Web"=some (some (.ref f)))
  (Cf_:W.nsIn K mainGlobals "Forest"=some (some (.ref b)))
  (Uo:FG K "are_pairs" zr)
  (uX:FG K "partners_in" jM)
  (UI:FG K "is_name" zB)
  (UJ:FG K "has_bit" qac)
  (Uv:FG K "is_place" zI)
  (uJ:FG K "are_two_places" jl)
  (Ue:FG K "numbers_of" jX)
  (UK:FG K "near_of" qad)
  (U1:FG K "_law_cell" qaG)
  (Va:FG K "_law_box" qbp)
  (U2:FG K "_law_take" qaH)
  (UL:FG K "_law_names" za)
  (U3:FG K "_law_ties" qaI)
  (UM:FG K "_law_drawn" qag)
  (Uf:FG K "_law_shuffled" jG)
  (Up:FG K "_law_partner" zu)
  (Uq:FG K "_law_singles" jS)
  (uT:FG K "_law_some_pairs" jC)
  (U4:FG K "_law_tied" qaJ)
  (Uw:FG K "_law_pieces" zc)
  (U5:FG K "_law_odds" zN)
  (Ux:FG K "_law_is_row" zO)
  (Uy:FG K "_law_turned" jz)
  (U6:FG K "_law_more" zP)
  (uY:FG K "_law_none_more" qQ)
  (UO:FG K "_law_right" qaj)
  (Vd:FG K "law" qcl)
  (Vx:FM K f "__init__" "Web.__init__" zJ)
  (Uz:FM K f "places" "Web.places" jY)
  (U7:FM K f "ties" "Web.ties" zL)
  (uZ:FM K f "has_place" "Web.has_place" ju)
  (Ur:FM K f "has_tie" "Web.has_tie" jL)
  (u8:FM K f "number_of" "Web.number_of" jv)
  (UA:FM K f "beside" "Web.beside" jZ)
  (uR:FM K f "bits_beside" "Web.bits_beside" jg)
  (U8:FM K f "tied" "Web.tied" zK)
  (Ug:FM K f "names_in" "Web.names_in" jk)
  (u9:FM K b "__init__" "Forest.__init__" jO)
  (U9:FM K b "row" "Forest.row" j3)
  (Uh:FM K b "reached" "Forest.reached" q8)
  (UP:FM K b "grow" "Forest.grow" jN)
  (UB:FM K b "reach" "Forest.reach" jB)
  (uK:FM K b "look_around" "Forest.look_around" qU)
  (uF:FM K b "bring_together" "Forest.bring_together" qC)
  (uB:FM K b "bases_down_from" "Forest.bases_down_from" qJ)
  (uL:FM K b "reach_round" "Forest.reach_round" qT)
  (UQ:FM K b "fold" "Forest.fold" jw)
  (w1:W.plainGet K f Str.empty=true)
  (w2:W.hasDictIn K f=true)
  (w3:W.plainOver K f=true)
  (w4:W.findIn K (.ref f) "__setattr__"=some (some (.builtin "object.__setattr__")))
  (w5:W.makesIn K f=true)
  (w6:W.keepIn K (.ref f)=true)
  (w7:W.findIn K (.ref f) "numbers"=some none)
  (w8:W.findIn K (.ref f) "order"=some none)
  (w9:W.findIn K (.ref f) "near"=some none)
  (B:W.plainGet K b Str.empty=true)
  (C:W.hasDictIn K b=true)
  (D:W.plainOver K b=true)
  (E:W.findIn K (.ref b) "__setattr__"=some (some (.builtin "object.__setattr__")))
  (F:W.makesIn K b=true)
  (H:W.keepIn K (.ref b)=true)
  (aa:W.findIn K (.ref b) "board"=some none)
  (ac:W.findIn K (.ref b) "partners"=some none)
  (ad:W.findIn K (.ref b) "rows"=some none)
  (ae:W.findIn K (.ref b) "parents"=some none)
  (af:W.findIn K (.ref b) "bases"=some none)
  (ag:W.findIn K (.ref b) "rings"=some none)
  (ah:W.findIn K (.ref b) "waiting"=some none)
  (ai:W.findIn K (.ref b) "longer"=some none)
  (u:W.nsIn K mainGlobals "sorted"=some none)
  (t:W.nsIn K mainGlobals "set"=some none)
  (z0:W.nsIn K mainGlobals "len"=some none)
  (z1:W.nsIn K mainGlobals "int"=some none)
  (z2:W.nsIn K mainGlobals "enumerate"=some none)
  (z3:W.nsIn K mainGlobals "all"=some none)
  (z4:W.nsIn K mainGlobals "max"=some none)
  (z5:W.nsIn K mainGlobals "min"=some none)
  (z6:W.nsIn K mainGlobals "isinstance"=some none)
  (z7:W.nsIn K mainGlobals "bool"=some none)
  (z8:W.nsIn K mainGlobals "str"=some none)
  (z9:W.nsIn K mainGlobals "range"=some none)
  (I:W.nsIn K mainGlobals "list"=some none)
  (J:W.nsIn K mainGlobals "tuple"=some none)
  (u0:W.nsIn K mainGlobals "LONGEST_NAME"=some (some (.int 6 p)))
  (u1:W.nsIn K mainGlobals "MOST_PLACES"=some (some (.int 14 q)))
  (u2:W.nsIn K mainGlobals "MOST_TIES"=some (some (.int 30 r))) :
  ∃ O:FuncData,(∀ (s:Shared) (v:Value),BindsTo s O ⟨[v],[]⟩ [("_law_script",v)])/\∀ c:Heap,K.In c->c.Ns mainGlobals o->FnOk l.prog w K o c CX0 12 N O ["_law_script"] (spLaw K):=by
 obtain ⟨_,_,Us,vi⟩:=Uo;obtain ⟨_,_,Ua,vk⟩:=uX;obtain ⟨_,_,UR,vm⟩:=UI;obtain ⟨_,_,US,vn⟩:=UJ;obtain ⟨_,_,UC,vo⟩:=Uv;obtain ⟨_,_,uM,vp⟩:=uJ;obtain ⟨_,_,Ui,vq⟩:=Ue;obtain ⟨_,_,UT,vv⟩:=UK;obtain ⟨_,_,va,vw⟩:=U1;obtain ⟨_,_,Vb,vx⟩:=Va;obtain ⟨_,_,vb,vy⟩:=U2;obtain ⟨_,_,UU,vz⟩:=UL;obtain ⟨_,_,vc,vA⟩:=U3;obtain ⟨_,_,UV,vD⟩:=UM;obtain ⟨_,_,Uj,vE⟩:=Uf;obtain ⟨_,_,Ut,vF⟩:=Up;obtain ⟨_,_,Uu,vG⟩:=Uq;obtain ⟨_,_,uU,vH⟩:=uT;obtain ⟨_,_,vd,vJ⟩:=U4;obtain ⟨_,_,UD,vK⟩:=Uw;obtain ⟨_,_,ve,vL⟩:=U5;obtain ⟨_,_,UE,vM⟩:=Ux;obtain ⟨_,_,UF,vN⟩:=Uy;obtain ⟨_,_,vf,vO⟩:=U6;obtain ⟨_,_,Ub,vP⟩:=uY;obtain ⟨_,_,UW,vQ⟩:=UO;obtain ⟨_,_,Ve,vR⟩:=Vd;obtain ⟨_,_,Vy,Vz,M⟩:=Vx;obtain ⟨_,_,Vf,Vg,vS⟩:=Uz;obtain ⟨_,_,Vh,Vi,vT⟩:=U7;obtain ⟨_,_,Vj,Vk,vV⟩:=uZ;obtain ⟨_,_,Vl,Vm,vW⟩:=Ur;obtain ⟨_,_,Vn,Vo,vX⟩:=u8;obtain ⟨_,_,Vp,Vq,vY⟩:=UA;obtain ⟨_,_,Vr,Vs,vZ⟩:=uR;obtain ⟨_,_,Vt,Vu,v8⟩:=U8;obtain ⟨_,_,Vv,Vw,v9⟩:=Ug;obtain ⟨_,_,Uc,Ud,S⟩:=u9;obtain ⟨_,_,vg,vh,L⟩:=U9;obtain ⟨_,_,Ul,Um,U⟩:=Uh;obtain ⟨_,_,UX,UY,Z⟩:=UP;obtain ⟨_,_,UG,UH,Y⟩:=UB;obtain ⟨_,_,uN,uO,uz⟩:=uK;obtain ⟨_,_,uG,uH,uw⟩:=uF;obtain ⟨_,_,uC,uD,uv⟩:=uB;obtain ⟨_,_,uP,uQ,R⟩:=uL;obtain ⟨_,_,UZ,U0,uW⟩:=UQ;have e:=z.symm.trans (W.mg_of X G Ve);cases e;have m:Cls K f:=⟨w1,w2,w3,w4⟩;have g:Cls K b:=⟨B,C,D,E⟩
 have A:∀ a∈fAtt,NoAttr K b a:=fun a y=>by
  unfold fAtt at y;simp only [yy,yX,YO] at y;rcases y with rfl | rfl | rfl | rfl | rfl | rfl | rfl | rfl<;>assumption
 have T:Txt K o (fun i=>b) f:=⟨YE X G z0,
  YE X G z1,
  YE X G z2,
  YE X G z3,
  YE X G z4,
  YE X G z5,
  YE X G z6,
  YE X G z7,
  YE X G z8,
  YE X G z9,
  YE X G I,
  YE X G J,
  ⟨p,W.mg_of X G u0⟩,
  ⟨q,W.mg_of X G u1⟩,
  ⟨r,W.mg_of X G u2⟩,
  m,
  w7,
  w8,
  w9,
  W.mg_of X G Cw_,
  W.mg_of X G Cf_,
  g,
  A,
  YE X G u,
  YE X G t⟩
 obtain ⟨oc,od,kV,x,pm,an,cd,ct,sl,rfl,lk,hc⟩:=vR.ex;refine ⟨W.fnOf "law" "law" (zU qcl) (zz qcl) (qh qcl) .none kV x pm an cd ct,fun s v=>.of_eq rfl,fun c _ _=>?_⟩;have d:=@fg_mk l.prog w K o c h;have n:=@fm_mk l.prog w K o c;have P:=@fw_mk l.prog w K o c h;have d_name:=d X G UR vm (ok_name vm T);have d_place:=d X G UC vo (ok_place vo d_name);have d_two:=d X G uM vp (ok_two vp T d_place);have d_bit:=d X G US vn (ok_bit vn);have d_nums:=d X G Ui vq (ok_nums vq T d_name);have d_near:=d X G UT vv (ok_near vv T d_two d_bit);have q_web:MakeOk l.prog w K o c CX0 5 f "Web" ["self","names","ties"] (spWeb f):=P X G Cw_ w5 w6 Vy Vz M (ok_web M T d_nums d_near);have m_has:=n m Vj Vk vV (ok_has vV T d_place);have m_num:=n m Vn Vo vX (ok_num vX T m_has);have m_bb:=n m Vr Vs vZ (ok_bb vZ T m_num);have m_nin:=n m Vv Vw v9 (ok_nin v9 T d_bit);have m_bs:=n m Vp Vq vY (ok_bs vY T m_bb m_nin);have m_tied:=n m Vt Vu v8 (ok_tied v8 T m_bb m_num d_bit);have m_pls:=n m Vf Vg vS (ok_pls vS T);have m_ts:=n m Vh Vi vT (ok_ts vT T m_bs);have m_ht:=n m Vl Vm vW (ok_ht vW T d_two m_tied);have d_ap:=d X G Us vi (ok_ap vi T m_ht);have d_pn:=d X G Ua vk (ok_pn vk T d_ap);have p_re:=n g UG UH Y (ok_re Y T);have p_bd:=n g uC uD uv (ok_bd uv T);have p_rr:=n g uP uQ R (ok_rr R T p_re);have p_fd:=n g UZ U0 uW (ok_fdF uW T m_pls);have p_bt:=n g uG uH uw (ok_bt uw T p_bd p_rr p_fd);have p_la:=n g uN uO uz (ok_la uz T m_bs p_bt p_re);have p_gw:=n g UX UY Z (ok_gw Z T m_pls p_re p_la);have p_mk:MakeOk l.prog w K o c CX0 10 b "Forest" ["self","web","pairs"] (spFi (fun i=>b) f):=P X G Cf_ F H Uc Ud S (ok_fi S T d_pn p_gw);have p_row:=n g vg vh L (ok_fr L T);have p_rch:=n g Ul Um U (ok_fd2 U T m_pls);have d_tk:=d X G vb vy (ok_take vy);have d_sh:=d X G Uj vE (ok_shuf vE T d_tk);have d_pa:=d X G Ut vF (ok_pa vF T);have d_sg:=d X G Uu vG (ok_sg vG T d_pa);have d_td:=d X G vd vJ (ok_td vJ T);have d_od:=d X G ve vL (ok_od vL T (d X G UD vK (ok_pi vK T d_td)));have d_mr:=d X G vf vO (ok_mr vO T (d X G UE vM (ok_ir vM T d_td d_pa)) d_sg (d X G UF vN (ok_tu vN T d_td)));have d_nn:=d X G Ub vP (ok_nn vP T d_sg d_td d_od);exact ok_law31 vR T (d X G va vw (ok_cell vw T)) (d X G Vb vx (ok_box vx)) (d X G UV vD (ok_drawn vD d_tk (d X G UU vz (ok_names vz T d_tk)) (d X G vc vA (ok_ties vA T d_tk)))) q_web (d X G uU vH (ok_so vH T d_tk d_sh d_sg)) d_sh p_mk p_row p_rch (d X G UW vQ (ok_rx vQ T p_row p_rch d_nn d_mr))
theorem walk {l:PySem.W.OpenLaw} {q:Program} {loose:List Str} {XP:(Str->Option Value)->Heap->Prop} {YP:World->Heap->Prop} {d:DefRec} {K:Params->yg} (p:l.most=some 63) (e:d.params.defaults=[])
  (o:∀ (w:World) (h:Heap),YP w h->(K w.params).In h)
  (F:∀ (w:World) (c:Str->Option Value) (g:Addr) (h:Heap),(K w.params).In h->h.Ns mainGlobals c->c d.name=some (.ref g) ->
   ∃ i:FuncData,(∀ (s:Shared) (u:Value),BindsTo s i ⟨[u],[]⟩ [("_law_script",u)])/\∀ b:Heap,(K w.params).In b->b.Ns mainGlobals c->FnOk l.prog w (K w.params) c b CX0 12 g i ["_law_script"] (spLaw (K w.params))) :
  PySem.W.WalkO q loose XP YP l.row.toRowW d [] (fun f vs=>PySem.call f vs):=
 L2.walk_of (n:=63) (k:=12) (x:="_law_script") (CX:=fun _=>CX0) (sp:=fun w=>spLaw (K w.params)) p (by decide) e ⟨rfl,by decide,by decide,rfl⟩ o F (fun _ _ a ns hl _ m=>⟨a,ns,rfl,m,hl,fun _=>rfl⟩) fun _ _ _ _ _ z=>z
end K31
set_option maxRecDepth 100000 in
set_option maxHeartbeats 0 in
theorem PySem.Challenge.cw_onceroad_k31_a_row_or_greatest_holds : PySem.Challenge.rw_onceroad_k31_a_row_or_greatest.Holds := by
  w_on; o_law
  refine PySem.W.holds_open (q := K31.Q) (loose := []) (Xt := K31.Xt) (XP := PySem.W.XL K31.Q []) (Yf := PySem.W.Hook.obs K31.Hk) (Ya := PySem.W.Hook.val K31.Hk) (YP := PySem.W.Hook.says (PySem.W.kHook K31.Kf K31.ks K31.ks_eq)) (N := K31.NN) K31.hl (PySem.W.Hook.of K31.Hk) (PySem.W.Hook.keeps K31.Hk) (fun s e => PySem.W.xl_of s (Bool.and_eq_true_iff.mp e).1) PySem.W.XL.keeps (by rfl) (by rfl) (by rfl) (fun s e => PySem.W.recFacts_of (Bool.and_eq_true_iff.mp e).2) (by rfl) (by first | assumption | decide +kernel) (by decide +kernel) ⟨rfl, rfl, rfl, rfl, rfl, by decide +kernel⟩ ?hw ?hc
  (case hw => w_witness2)
  k_fill
  refine K31.walk (l := PySem.Challenge.rw_onceroad_k31_a_row_or_greatest) rfl rfl (fun w h Y => PySem.W.kIn_of Y) ?F
  case F =>
    intro w mg fa h KX G hmg
    refine' K31.all_mk KX G hmg ?_ ?_ ?_ ?_ ?_ ?_ ?_ ?_ ?_ ?_ ?_ ?_ ?_ ?_ ?_ ?_ ?_ ?_ ?_ ?_ ?_ ?_ ?_ ?_ ?_ ?_ ?_ ?_ ?_ ?_ ?_ ?_ ?_ ?_ ?_ ?_ ?_ ?_ ?_ ?_ ?_ ?_ ?_ ?_ ?_ ?_ ?_ ?_ ?_ ?_ ?_ ?_ ?_ ?_ ?_ ?_ ?_ ?_ ?_ ?_ ?_ ?_ ?_ ?_ ?_ ?_ ?_ ?_ ?_ ?_ ?_ ?_ ?_ ?_ ?_ ?_ ?_ ?_ ?_ ?_ ?_ ?_ ?_ ?_ ?_ ?_ ?_ ?_ ?_
    any_goals first | k_is | decide
    any_goals first | k_is | decide | exact ⟨_, _, by k_is, L2.fun_mk (by k_is) (by k_is) (by k_is)⟩ | exact ⟨_, _, by k_is, by k_is, L2.fun_mk (by k_is) (by k_is) (by k_is)⟩ | exact ⟨_, _, _, _, _, _, _, _, _, _, _, _, _, _, _, by k_is⟩ | exact ⟨by k_is, by k_is, by k_is, by k_is, by k_is, by k_is, by k_is, by k_is⟩ | kernel_rfl | fail
