import PyProof.Rows.All
import Wide.All
import OpenK.AllK
import Wide.FinOn
import PyProof.EqAt
import PyProof.EqKinds
import PyProof.TupleCall
import Lean
import PySem.Challenge.RW_onceroad_k32_reached_are_loose
set_option Elab.async false
set_option linter.all false
set_option maxRecDepth 100000
local macro_rules | `(tactic| show $e)=>`(tactic| refine $e)
abbrev LX:=List Int
abbrev LQ:=List PySem.Addr
abbrev LN:=List Nat
abbrev LS:=List PySem.Str
abbrev LP:=List (PySem.Str×PySem.Str)
local macro_rules | `(tactic| room)=>`(tactic| decide +kernel)
local macro_rules | `(tactic| lk)=>`(tactic| first | lia | omega)
theorem ya{a b:Type}{as:List a}(f:a→b):(as.map f).length=as.length:=List.length_map f
theorem yb{a:Type}{l:List a}{i:Nat}(h:i<l.length):l[i]?=some l[i]:=List.getElem?_eq_getElem h
theorem yc{b:Type}{l:List b}{i:Nat}{a:b}:l[i]?=some a↔∃h:i<l.length,l[i]=a:=List.getElem?_eq_some_iff
theorem yd{a b:Type}{f:a→b}{l:List a}{i:Nat}:(l.map f)[i]?=l[i]?.map f:=List.getElem?_map
theorem ye{b:Type}{l:List b}{i:Nat}{a:b}(h:l[i]?=some a):a∈l:=List.mem_of_getElem? h
theorem yf{b:Type}{a:b}{l:List b}(h:a∈l):∃i:Nat,l[i]?=some a:=List.getElem?_of_mem h
noncomputable abbrev yg:=PySem.W.Frag
theorem yh(n:Nat):n≤n:=Nat.le_refl n
theorem yi{a b c:Nat}(h:a≤b)(k:b≤c):a≤c:=Nat.le_trans h k
theorem yj{a b c:Nat}(h:a<b)(k:b≤c):a<c:=Nat.lt_of_lt_of_le h k
theorem yk{p:Prop}[Decidable p](h:decide p=true):p:=of_decide_eq_true h
theorem yl{p:Prop}[Decidable p](h:¬p):decide p=false:=decide_eq_false h
theorem ym{c:Type}{a b:c}(h:some a=some b):a=b:=Option.some.inj h
theorem yn{c d:Type}{f:c→d}{x:Option c}{b:d}:x.map f=some b↔∃a,x=some a∧f a=b:=Option.map_eq_some_iff
theorem yo{b:Type}{a:b}{l:List b}:(a::l).Nodup↔a∉l∧l.Nodup:=List.nodup_cons
theorem yp{a:Type}{p:a→Bool}{as:List a}{x:a}:x∈as.filter p↔x∈as∧p x=true:=List.mem_filter
theorem yq{A B:Prop}(h:B):if false=true then A else B:=h
def yr:=@PySem.wpAny_bind
def yt:=@List.length_append
def yu:=@PySem.wpAny_pure
def yv:=@PySem.Heap.get?_push_of_some
def yw:=@List.length_cons
def yx:=@List.mem_cons
def yy:=@List.size_toArray
def yz:=@List.mem_append
def yA:=@List.mem_singleton
def yB:=@List.getElem?_append_right
def yC:=@List.map_append
def yD:=@List.take_add_one
def yE:=@List.length_filter_le
def yF:=@if_neg
def yG:=@List.mem_append_left
def yH:=@List.mem_append_right
def yI:=@if_pos
def yJ:=@List.mem_cons_of_mem
def yK:=@List.length_take
def yL:=@decide_eq_true
def yM:=@List.take_length
def yN:=@PySem.Heap.lt_size
def yO:=@Nat.ne_of_lt
def yP:=@Or.inl
def yQ:=@List.not_mem_nil
def yR:=@Nat.le_of_lt
def yS:=@List.filter_cons
def yT:=@PySem.F.plainAttrs_list
def yU:=@List.mem_cons_self
def yV:=@PySem.PassesOwn.never
def yW:=@List.getElem?_append_left
def yX:=@PySem.Heap.get?_push_size
def yY:=@Bool.and_eq_true
def yZ:=@List.filter_append
def Yb:=@List.nodup_append
def Yc:=@List.append_assoc
def Yd:=@List.append_nil
def Ye:=@PyProof.Rows.slot_tuple_getitem
def Yg:=@decide_eq_true_iff
def Yh:=@Ne.symm
def Yi:=@Nat.ne_of_gt
def Yj:=@PySem.F.slot_list_append
def Yk:=@PySem.F.type_list_append
def Yl:=@Bool.false_ne_true
def Ym:=@beq_iff_eq
def Yn:=@List.getD_eq_getElem?_getD
def Yo:=@Classical.byContradiction
def Yp:=@List.append_of_mem
def Yq:=@List.filter_nil
def Yr:=@PySem.wpAny_holding
def Ys:=@PySem.wpAny_newObj_type
def Yt:=@List.length_singleton
def Yu:=@List.contains_cons
def Yv:=@or_false
def Yw:=@decide_eq_false_iff_not
def Yx:=@beq_eq_false_iff_ne
def Yy:=@Nat.lt_irrefl
def Yz:=@List.pairwise_iff_getElem
def YA:=@PySem.Heap.get?_update_other
def YB:=@Bool.not_eq_true'
def YC:=@Nat.lt_of_le_of_lt
def YD:=@PySem.wpAny_field
def YE:=@PySem.Heap.get?_update_self
def YF:=@List.mem_map
def YG:=@List.length_reverse
def YH:=@PyProof.Rows.boot_isinstance
def YI:=@List.take_zero
def YJ:=@List.map_cons
def YK:=@PySem.wpAny_loadPart_at
def YL:=@PySem.wpAny_mono
def YM:=@List.all_eq_true
def YN:=@decide_eq_decide
def YO:=@PySem.sizeLine_eq
def YQ:=@PySem.boot_len
def YR:=@List.idxOf_lt_length_of_mem
def YS:=@PySem.W.mg_none_of
def YT:=@PySem.W.looks_findIn
def YU:=@True.intro
def YV:=@List.getElem?_tail
def YW:=@List.perm_ext_iff_of_nodup
def YX:=@List.getElem_of_mem
def YY:=@List.length_replicate
def YZ:=@PySem.Heap.size_push
def Y2:=@PySem.F.slot_NoneType_eq
def Y3:=@Int.emod_nonneg
def Y4:=@List.dropLast_concat_getLast
def Y5:=@Int.emod_lt_of_pos
def Y6:=@List.mem_flatMap
def Y7:=@PyProof.Rows.callWith_type1
def Y8:=@PySem.F.excBase_ValueError
def Y9:=@Array.getElem?_eq_some_iff
def xi:=@List.take_of_length_le
def xj:=@Nat.mod_two_eq_zero_or_one
def xk:=@Bool.eq_iff_iff
def xl:=@List.length_nil
def xm:=@PySem.wpAny_of_eq
def xn:=@List.getElem?_zip_eq_some
def xo:=@List.lookup_cons
def xp:=@List.getElem_idxOf
def xq:=@Option.isSome_iff_exists
def xr:=@List.length_erase_of_mem
def xt:=@List.Pairwise.imp_of_mem
def xu:=@List.getElem?_set_ne
def xv:=@Nat.zero_le
def xw:=@PySem.wpAny_truthy_bool
def xx:=@PySem.wpAny_callSpecial?_slot
def xy:=@Int.eq_ofNat_of_zero_le
def xz:=@Array.length_toList
def xA:=@List.replicate_succ
def xB:=@PySem.W.looks_mroIn
def xC:=@PySem.wpAny_isSubtype_exc
def xD:=@List.filter_sublist
def xE:=@List.length_pos_of_mem
def xF:=@List.cons.inj
def xG:=@List.length_tail
def xH:=@List.mem_flatten
def xI:=@PySem.W.callWith_K
def xJ:=@List.lookup_append
def xK:=@Bool.false_eq_true
def xL:=@PySem.W.methodCall_KW
def xM:=@Array.getElem?_toList
def xN:=@List.mem_iff_getElem?
def xO:=@Array.getElem?_eq_getElem
def xP:=@PySem.wpAny_passesOwn
def xQ:=@List.find?_cons
def xR:=@Nat.le_antisymm
def xS:=@Sum.inr.inj
def xT:=@Nat.le_succ
def xU:=@Int.toNat_natCast
def xV:=@List.flatten_cons
def xW:=@PySem.codeAny_call_builtin
def xX:=@PySem.mem_of_lookup
def xY:=@List.flatMap_append
def xZ:=@List.mem_range
def x0:=@PySem.W.any_some
def Xa:=@Nat.lt_succ_self
def Xb:=@List.length_drop
def Xc:=@PySem.wpAny_call_entry
def Xd:=@beq_self_eq_true
def Xe:=@List.any_eq_true
def Xf:=@PySem.wpAny_getItem_str_slice
def Xg:=@PySem.F.slot_list_index
def Xh:=@Nat.le_add_right
def Xi:=@PyProof.Rows.boot_list
def Xj:=@List.eq_nil_of_length_eq_zero
def Xk:=@List.getElem?_set_self
def Xl:=@PySem.wpAny_call
def Xm:=@PySem.wpAny_Call_Name_kw
def Xn:=@PySem.Calls.callWith_builtin
def Xo:=@PySem.tupleKind_room_in1
def Xp:=@Array.getElem?_eq_none
def Xq:=@Nat.zero_add
def Xr:=@PySem.F.slot_list_pop
def Xs:=@PySem.F.type_list_pop
def Xu:=@Option.isSome_map
def Xv:=@List.filter_congr
def Xw:=@PyProof.Rows.slicePart_none
def Xx:=@List.getElem_mem
def Xy:=@Nat.sub_self
def Xz:=@Option.isNone_iff_eq_none
def XA:=@List.filterMap_cons
def XB:=@Or.inr
def XC:=@PySem.F.plain_extend_loop
def XD:=@PySem.Heap.SameBut.update
def XE:=@PySem.wpAny_standAt
def XF:=@List.all_cons
def XG:=@Prod.mk.injEq
def XH:=@PySem.Heap.IsSliceOf.new
def XI:=@List.getElem?_replicate
def XJ:=@List.pairwise_singleton
def XM:=@PySem.F.type_list_index
def XR:=@Nat.le_of_eq
def XS:=@PySem.codeAny_mono
def XT:=@List.take_sublist
def XU:=@if_false
def XV:=@Bool.eq_false_iff
def XW:=@Nat.le_succ_of_le
def XY:=@PySem.wpAny_nextOf_list_item
def XZ:=@List.pairwise_map
def X2:=@PySem.F.slot_dict_get
def X3:=@Nat.min_le_right
def X4:=@PySem.call_meets
def X5:=@if_true
def X6:=@PySem.evalPart_none
def X7:=@List.any_cons
def X8:=@PySem.wpAny_attempt
def X9:=@PySem.Value.ref.inj
def kc:=@PySem.Calls.evalArgs_plain
def ke:=@PySem.wpAny_execs_nil
def kf:=@List.length_set
def kg:=@PySem.SeqAt.EqAt.same
def kh:=@Option.map_some
def ki:=@Bool.or_eq_true
def kj:=@PySem.post_val_or_str
def kl:=@PySem.F.slot_zip_next
def km:=@PySem.wpAny_updateSeq
def kn:=@List.all_append
def ko:=@PySem.W.plainGet_of
def kq:=@PySem.W.looks_clsIn
def kt:=@PyProof.Rows.entry_tuple_getitem
def ku:=@List.length_pos_iff
def kx:=@List.flatten_append
def ky:=@List.all_map
def kz:=@Bool.or_true
def kA:=@Int.zero_add
def kB:=@PySem.Calls.spliced_cons
def kC:=@Prod.ext
def kD:=@List.pairwise_cons
def kE:=@PySem.Calls.spliced_nil
def kF:=@PySem.wpAny_sequenceKey
def kG:=@PySem.slot_list_getitem
def kH:=@PySem.wpAny_pyIter_list
def kI:=@PySem.Heap.get?_push_at
def kJ:=@Nat.lt_trichotomy
def kK:=@decide_eq_true_eq
def kL:=@Bool.or_false
def kM:=@PySem.W.mg_of
def kN:=@List.map_tail
def kO:=@List.cons_append
def kP:=@PySem.wpAny_askSetting
def kQ:=@Nat.min_eq_right
def kR:=@PySem.wpAny_pyIter_zip
def kS:=@Nat.lt_of_not_le
def kT:=@List.cons_ne_nil
def kU:=@List.mem_reverse
def kW:=@PySem.wpAny_typeOf
def kX:=@Nat.lt_trans
def kY:=@PySem.Txt.slice_le
def kZ:=@PySem.W.mg_of
def k7:=@List.of_mem_zip
def k8:=@List.forIn_cons
def k9:=@Nat.min_eq_left
def Ka:=@PySem.wpAny_Slice
def Kb:=@List.forIn_nil
def Kc:=@List.nodup_nil
def Kd:=@decide_false
def Ke:=@Nat.lt_or_ge
def Kg:=@Nat.sub_zero
def Kh:=@not_or
namespace L2
open PySem PySem.Spec PyProof.Rows
noncomputable def qU(s:Stmt)(j:Nat):Stmt:=match s with
 | .ClassDef _ _ _ body _ _ _ _ _ _ _=>body.getD j (.Pass ⟨0,0,0,0⟩)
 | _=>.Pass ⟨0,0,0,0⟩
noncomputable def qaF(s:Stmt):Arguments:=match s with
 | .FunctionDef _ a _ _ _ _ _ _ _ _=>a
 | _=>{ posonlyargs:=[],args:=[],vararg:=none,kwonlyargs:=[],kw_defaults:=[],kwarg:=none,defaults:=[] }
noncomputable def zy(s:Stmt):List Stmt:=match s with
 | .FunctionDef _ _ b _ _ _ _ _ _ _=>b
 | _=>[]
noncomputable def qg(s:Stmt):Scope:=match s with
 | .FunctionDef _ _ _ _ _ _ sc _ _ _=>sc
 | _=>{ kind:=.function,names:=[],isGenerator:=false,isCoroutine:=false }
end L2
namespace K32
open PySem L2 PyProof.Rows
noncomputable def top(i:Nat):Stmt:=PySem.Challenge.pw_onceroad_k32_reached_are_loose.main.body.getD i (.Pass ⟨0,0,0,0⟩)
noncomputable abbrev jE:Stmt:=qU (top 2) 0
noncomputable abbrev j6:Stmt:=qU (top 5) 0
noncomputable abbrev zi:Stmt:=top 27
noncomputable abbrev qaS:Stmt:=top 32
noncomputable abbrev zG:Stmt:=top 33
noncomputable abbrev jF:Stmt:=top 34
noncomputable abbrev zu:Stmt:=top 35
noncomputable abbrev qau:Stmt:=qU (top 31) 0
noncomputable abbrev qaU:Stmt:=top 36
noncomputable abbrev zv:Stmt:=qU (top 31) 1
noncomputable abbrev jr:Stmt:=qU (top 31) 4
noncomputable abbrev jt:Stmt:=qU (top 31) 6
noncomputable abbrev zw:Stmt:=qU (top 31) 7
noncomputable abbrev jy:Stmt:=qU (top 31) 8
noncomputable abbrev qav:Stmt:=qU (top 31) 9
noncomputable abbrev jD:Stmt:=qU (top 31) 12
noncomputable abbrev qax:Stmt:=qU (top 31) 2
noncomputable abbrev qbf:Stmt:=top 38
noncomputable abbrev qb5:Stmt:=top 39
noncomputable abbrev qbg:Stmt:=top 40
noncomputable abbrev qai:Stmt:=top 45
noncomputable abbrev qbC:Stmt:=top 47
noncomputable abbrev zI:Stmt:=top 41
noncomputable abbrev qbh:Stmt:=top 42
noncomputable abbrev qaX:Stmt:=top 43
noncomputable abbrev ju:Stmt:=top 44
noncomputable abbrev zV:Stmt:=top 11
noncomputable abbrev zc:Stmt:=qU (top 31) 5
noncomputable abbrev zd:Stmt:=top 12
noncomputable abbrev j7:Stmt:=qU (top 15) 6
noncomputable abbrev qQ:Stmt:=qU (top 15) 9
noncomputable abbrev jf:Stmt:=qU (top 15) 10
noncomputable abbrev jO:Stmt:=qU (top 15) 11
noncomputable abbrev qL:Stmt:=qU (top 15) 8
noncomputable abbrev jg:Stmt:=qU (top 15) 7
noncomputable abbrev ze:Stmt:=qU (top 15) 5
noncomputable abbrev zf:Stmt:=qU (top 15) 0
noncomputable abbrev zx:Stmt:=qU (top 15) 1
noncomputable abbrev jm:Stmt:=qU (top 15) 2
noncomputable abbrev j8:Stmt:=top 13
noncomputable abbrev jl:Stmt:=top 18
noncomputable abbrev qbi:Stmt:=top 17
noncomputable abbrev qV:Stmt:=top 19
noncomputable abbrev qaz:Stmt:=top 20
noncomputable abbrev qaY:Stmt:=top 21
noncomputable abbrev jP:Stmt:=top 24
noncomputable abbrev qaA:Stmt:=top 23
noncomputable abbrev zW:Stmt:=top 48
noncomputable abbrev zk:Stmt:=top 49
noncomputable abbrev qbk:Stmt:=top 51
noncomputable abbrev zJ:Stmt:=top 52
noncomputable abbrev qaB:Stmt:=top 53
noncomputable abbrev qaC:Stmt:=top 54
noncomputable abbrev jZ:Stmt:=top 55
noncomputable abbrev jw:Stmt:=qU (top 15) 3
noncomputable abbrev zY:Stmt:=top 58
noncomputable abbrev zK:Stmt:=top 56
noncomputable abbrev qbG:Stmt:=top 57
noncomputable abbrev qam:Stmt:=top 59
noncomputable abbrev qcH:Stmt:=top 60
end K32
namespace Hd
open PySem PySem.W PySem.Calls PyProof.Rows
variable{p:Program}{α:Type}
noncomputable def qfj(c:String->Option Builtin)(p:Program)(w:World)(a:Nat)(b:Option Value):Nat->SharedT->Thread->Option SharedT
 | 0,_,_=>none
 | n+1,s,t=>match through t with
  | true=>some s
  | false=>match stepOk a b t with
   | false=>none
   | true=>match stepT (denote c) p w s t with
    | some (s',t')=>qfj c p w a b n s' t'
    | none=>none
theorem qe0{d:String->Option Builtin}{w:World}{a:Nat}{b:Option Value}:∀{n:Nat} {s s':SharedT} {t:Thread},qfj d p w a b n s t=some s'->topRun d p w a b n s.abs t=some s'.abs
 | 0,_,_,_,h=>by cases h
 | n+1,s,s',t,h=>by
  unfold qfj at h;unfold topRun
  cases e:through t with
  | true=>rw[e] at h;cases h;rfl
  | false =>
   rw[e] at h
   cases f:stepOk a b t with
   | false=>rw[f] at h;cases h
   | true =>
    rw[f] at h
    cases c:stepT (denote d) p w s t with
    | none=>rw[c] at h;cases h
    | some r=>obtain⟨g,i⟩:=r;rw[c] at h;rw[stepT_spec c];show qe0 h
noncomputable def qcZ:List Obj->Nat->BT->BT
 | [],_,t=>t
 | o::r,n,t=>qcZ r (n+1) (t.ins n o)
noncomputable def qee(P:Params)(a:OsState):SharedT:=⟨qcZ (boot_heap P).objs.toList 0 .nil,(boot_heap P).objs.size,(boot_heap P).life,Array.mk [],boot_drawn,boot_toks,a⟩
theorem boot_abs(P:Params):absHeap (qcZ (boot_heap P).objs.toList 0 .nil) (boot_heap P).objs.size (boot_heap P).life=boot_heap P:=by kernel_rfl
noncomputable def qev(p q:Program)(Xt:Shared->Bool){α:Type}(Yf:Shared->α)(N:Nat)(w:World)(a:OsState):=match (boot_heap w.params).isNs mainGlobals&&(Array.mk []:Array GenState).size==0 with
 | true=>(qfj treeTable p w (boot_heap w.params).objs.size ((boot_heap w.params).nsMap mainGlobals "__annotations__") N (qee w.params a) (topStub p)).bind fun s=>match staticsOk (importedModules p.main.body) (boot_heap w.params) s.abs.heap&&namesBound p s.abs.heap&&gensDone s.abs&&laidKept (boot_heap w.params) s.abs.heap with
   | true=>some (openSeen q [] (importedModules p.main.body) Xt true s.abs,Yf s.abs)
   | false=>none
 | false=>none
noncomputable def lookS(p:Program)(N:Nat)(w:World)(a:OsState):Option Shared:=match (boot_heap w.params).isNs mainGlobals&&(Array.mk []:Array GenState).size==0 with
 | true=>(qfj treeTable p w (boot_heap w.params).objs.size ((boot_heap w.params).nsMap mainGlobals "__annotations__") N (qee w.params a) (topStub p)).bind fun s=>match staticsOk (importedModules p.main.body) (boot_heap w.params) s.abs.heap&&namesBound p s.abs.heap&&gensDone s.abs&&laidKept (boot_heap w.params) s.abs.heap with
   | true=>some s.abs
   | false=>none
 | false=>none
theorem lookT_map(p q:Program)(Xt:Shared->Bool)(Yf:Shared->α)(N:Nat)(w:World)(a:OsState):qev p q Xt Yf N w a=(lookS p N w a).map fun s=>(openSeen q [] (importedModules p.main.body) Xt true s,Yf s):=by
 unfold qev lookS
 cases (boot_heap w.params).isNs mainGlobals&&(Array.mk []:Array GenState).size==0 with
 | false=>rfl
 | true =>
  dsimp only
  cases qfj treeTable p w (boot_heap w.params).objs.size ((boot_heap w.params).nsMap mainGlobals "__annotations__") N (qee w.params a) (topStub p) with
  | none=>rfl
  | some s =>
   show(match _ with | true=>_ | false=>_)=Option.map _ (match _ with | true=>_ | false=>_);cases staticsOk (importedModules p.main.body) (boot_heap w.params) s.abs.heap&&namesBound p s.abs.heap&&gensDone s.abs&&laidKept (boot_heap w.params) s.abs.heap<;>rfl
theorem packs{b A B C D E Y:Type}{o:Option b}{f:b->A×B×C×D×E}{g:b->Y}{x:A×B×C×D×E}{y:Y}(h1:o.map (fun s=>((f s).1,(f s).2.1,(f s).2.2.1,(f s).2.2.2.1))=some (x.1,x.2.1,x.2.2.1,x.2.2.2.1))(h:o.map (fun s=>(f s).2.2.2.2)=some x.2.2.2.2)(c:o.map g=some y):o.map (fun s=>(f s,g s))=some (x,y):=by
 cases o with
 | none=>cases c
 | some s =>
  have a:=ym h1;have d:=ym h;have e:=ym c;have i:=congrArg Prod.fst a;have j:=congrArg (fun z=>z.2.1) a;have l:=congrArg (fun z=>z.2.2.1) a;have m:=congrArg (fun z=>z.2.2.2) a;show congrArg some (kC (kC i (kC j (kC l (kC m d)))) e)
theorem left_of{q:Program}{Xt:Shared->Bool}{Yf:Shared->α}{Ya:World->α}{N:Nat}(e:opening p=plainProg p.main.scope.names)(n:Nat.ble 600 N=true)(f:∀ s,fenceModules? p s=some s)
  (h:∀ w a,qev p q Xt Yf N w a=some (openGood q [],Ya w)):LeftO p q [] Xt Yf Ya N:=fun w=>by
 obtain⟨⟨m,l,d,k,a⟩,i,j⟩:=yn.mp (boot_open e n f w);obtain⟨rfl,rfl,rfl,rfl⟩:m=boot_heap w.params/\l=Array.mk []/\d=boot_drawn/\k=boot_toks:=by simpa using j
 have b:=h w a;unfold qev at b;unfold openEnds;rw[i];show(topFrom treeTable p w N _).map _=_;unfold topFrom;dsimp only;split at b
 .rename_i z
  rw[z];obtain⟨s,o,c⟩:=Option.bind_eq_some_iff.mp b;have r:=qe0 o
  have g:(qee w.params a).abs=⟨boot_heap w.params,Array.mk [],boot_drawn,boot_toks,a⟩:=by
   unfold qee SharedT.abs;dsimp only;rw[boot_abs]
  rw[g] at r;dsimp only;rw[r];split at c
  .rename_i z2
   show((match staticsOk (importedModules p.main.body) (boot_heap w.params) s.abs.heap&&namesBound p s.abs.heap&&gensDone s.abs&&laidKept (boot_heap w.params) s.abs.heap with | true=>some s.abs | false=>none):Option Shared).map _=_;rw[z2];show c
  .cases c
 .cases b
end Hd
namespace K32
open PySem L2 PyProof.Rows PySem.W
noncomputable abbrev NN:Nat:=20000
noncomputable def Q:Program:=view PySem.Challenge.pw_onceroad_k32_reached_are_loose [0,2,3,4,5,6,7,8,9,11,12,13,15,17,18,19,20,21,23,24,26,27,29,30,31,32,33,34,35,36,38,39,40,41,42,43,44,45,46,47,48,49,50,51,52,53,54,55,56,57,58,59,60]
noncomputable def en(P:Params)(t:Tok)(v:Value)(k:Str):DictEntry:=⟨PyData.keyHash P k,.str k t,v⟩
noncomputable def cO(t a b r:Nat)(x y z v:Value)(e u:Nat)(q n:Str):Obj:=⟨.type "code",none,.fields #[.str n t,.str q (t+1),.str "/claim/cut.py" (t+2),.int a 0,.int b 0,.int 0 0,.int 0 0,.int 3 0,.ref r,.bool true,.int 181 0,x,y,z,v,.ref e,.int u 0,.int a 0,.str "/claim/cut.py" (u+1)],#[]⟩
noncomputable def cE(t b a r:Nat)(x y z v:Value)(e u:Nat)(n:Str):Obj:=cO t b a r x y z v e u n n
noncomputable def fO(k c:Nat)(s:Stmt)(m q n:Str):Obj:=⟨.type "function",none,.func (fnOf n q (qaF s) (zy s) (qg s) .none .none .none (.str m k) none (.ref c) .none),#[]⟩
noncomputable def fE(k c:Nat)(s:Stmt)(m n:Str):Obj:=fO k c s m n n
noncomputable def Kf(P:Params):Frag:=
 (nat_lit 2,(⟨.none,none,.dict #[] 0,#[]⟩:Obj)) ::
 (nat_lit 3,(⟨(.type "dict"),none,.dict #[en P 165 (.str "law_onceroad_k32_reached_are_loose" 843) "__name__",en P 166 .none "__doc__",en P 167 .none "__package__",en P 168 (.builtin "__main__.__loader__#opaque") "__loader__",en P 169 .none "__spec__",en P 170 (.ref 6) "__annotations__",en P 171 (.ref 4) "__builtins__",en P 173 (.str "/claim/cut.py" 172) "__file__",en P 174 .none "__cached__",en P 193 (.ref 21) "_wall",en P 221 (.ref 38) "OnceError",en P 246 (.ref 58) "NoName",en P 271 (.ref 77) "Twice",en P 296 (.ref 96) "NoPlace",en P 321 (.ref 115) "NoTie",en P 346 (.ref 134) "TooMany",en P 371 (.ref 153) "NoPairs",en P 396 (.ref 172) "NoRow",en P 408 (.ref 181) "are_pairs",en P 418 (.ref 188) "partners_in",en P 424 (.ref 193) "told_pairs",en P 554 (.ref 281) "Forest",en P 566 (.ref 292) "is_row",en P 576 (.ref 299) "are_unlike_places",en P 582 (.ref 304) "goes_by_turns",en P 594 (.ref 311) "can_turn",en P 600 (.ref 316) "turned",en P 609 (.ref 323) "greatest",en P 620 (.ref 330) "greatest_from",en P 624 (.int 6 623) "LONGEST_NAME",en P 630 (.ref 335) "is_name",en P 634 (.int 14 633) "MOST_PLACES",en P 636 (.int 30 635) "MOST_TIES",en P 796 (.ref 462) "Web",en P 804 (.ref 473) "has_bit",en P 812 (.ref 480) "is_place",en P 821 (.ref 487) "are_two_places",en P 830 (.ref 494) "numbers_of",en P 842 (.ref 501) "near_of",en P 852 (.ref 508) "_law_cell",en P 859 (.ref 515) "_law_box",en P 868 (.ref 522) "_law_take",en P 874 (.ref 527) "_law_names",en P 886 (.ref 534) "_law_ties",en P 896 (.ref 541) "_law_drawn",en P 902 (.ref 546) "_law_shuffled",en P 908 (.ref 551) "_law_fresh",en P 914 (.ref 556) "_law_rising",en P 921 (.ref 563) "_law_odd",en P 931 (.ref 570) "_law_partner",en P 937 (.ref 575) "_law_singles",en P 948 (.ref 582) "_law_some_pairs",en P 957 (.ref 589) "_law_tied",en P 963 (.ref 594) "_law_pieces",en P 969 (.ref 599) "_law_odds",en P 979 (.ref 606) "_law_is_row",en P 985 (.ref 611) "_law_turned",en P 991 (.ref 616) "_law_shown",en P 997 (.ref 621) "_law_led",en P 1007 (.ref 628) "_law_refused",en P 1013 (.ref 633) "_law_right",en P 1019 (.ref 638) "law"] 62,#[]⟩:Obj)) ::
 (nat_lit 34,cO 208 7 2 29 (.ref 30) .none (.ref 31) (.ref 32) 33 213 "OnceError.__init__" "__init__") ::
 (nat_lit 35,fO 194 34 jE "onceroad.errors" "OnceError.__init__" "__init__") ::
 (nat_lit 37,(⟨(.type "dict"),none,.dict #[en P 203 (.str "onceroad.errors" 194) "__module__",en P 207 (.int 5 206) "__firstlineno__",en P 215 (.ref 35) "__init__",en P 216 (.ref 36) "__static_attributes__",en P 218 (.ref 39) "__weakref__",en P 219 .none "__doc__"] 3,#[]⟩:Obj)) ::
 (nat_lit 38,(⟨(.type "type"),none,.cls { name:="OnceError",bases:=[(.type "ValueError")],mro:=[(.ref 38),(.type "ValueError"),(.type "Exception"),(.type "BaseException"),(.type "object")],ns:=37,qualname:="OnceError",hasDict:=true,slotNames:=[],subclasses:=[(.ref 58),(.ref 77),(.ref 96),(.ref 115),(.ref 134),(.ref 153),(.ref 172)],abstract:=false,collection:=none,hasDel:=false },#[(some (.ref 22)),none,(some (.str "OnceError" 196)),(some (.str "OnceError" 204)),(some (.builtin "ValueError.__new__")),(some (.bool true))]⟩:Obj)) ::
 (nat_lit 92,cO 284 21 2 87 (.ref 88) .none (.ref 89) (.ref 90) 91 289 "NoPlace.__init__" "__init__") ::
 (nat_lit 93,fO 194 92 j6 "onceroad.errors" "NoPlace.__init__" "__init__") ::
 (nat_lit 95,(⟨(.type "dict"),none,.dict #[en P 279 (.str "onceroad.errors" 194) "__module__",en P 283 (.int 19 282) "__firstlineno__",en P 291 (.ref 93) "__init__",en P 293 (.ref 94) "__static_attributes__",en P 294 .none "__doc__"] 2,#[]⟩:Obj)) ::
 (nat_lit 96,(⟨(.type "type"),none,.cls { name:="NoPlace",bases:=[(.ref 38)],mro:=[(.ref 96),(.ref 38),(.type "ValueError"),(.type "Exception"),(.type "BaseException"),(.type "object")],ns:=95,qualname:="NoPlace",hasDict:=true,slotNames:=[],subclasses:=[],abstract:=false,collection:=none,hasDel:=false },#[(some (.ref 80)),none,(some (.str "NoPlace" 272)),(some (.str "NoPlace" 280)),(some (.builtin "ValueError.__new__")),(some (.bool true))]⟩:Obj)) ::
 (nat_lit 180,cE 399 45 2 175 (.ref 176) .none (.ref 177) (.ref 178) 179 406 "are_pairs") ::
 (nat_lit 181,fE 397 180 zV "onceroad.pairs" "are_pairs") ::
 (nat_lit 187,cE 409 55 2 182 (.ref 183) .none (.ref 184) (.ref 185) 186 416 "partners_in") ::
 (nat_lit 188,fE 397 187 zd "onceroad.pairs" "partners_in") ::
 (nat_lit 192,cE 419 63 2 189 (.ref 190) .none .none .none 191 422 "told_pairs") ::
 (nat_lit 193,fE 397 192 j8 "onceroad.pairs" "told_pairs") ::
 (nat_lit 206,cO 439 69 3 201 (.ref 202) .none (.ref 203) (.ref 204) 205 445 "Forest.__init__" "__init__") ::
 (nat_lit 207,fO 425 206 zf "onceroad.forests" "Forest.__init__" "__init__") ::
 (nat_lit 213,cO 448 80 1 208 (.ref 209) .none (.ref 210) (.ref 211) 212 452 "Forest.row" "row") ::
 (nat_lit 214,fO 425 213 zx "onceroad.forests" "Forest.row" "row") ::
 (nat_lit 218,cO 455 83 1 215 (.ref 216) .none .none .none 217 458 "Forest.reached" "reached") ::
 (nat_lit 219,fO 425 218 jm "onceroad.forests" "Forest.reached" "reached") ::
 (nat_lit 225,cO 461 88 2 220 (.ref 221) .none (.ref 222) (.ref 223) 224 466 "Forest.row_to" "row_to") ::
 (nat_lit 226,fO 425 225 jw "onceroad.forests" "Forest.row_to" "row_to") ::
 (nat_lit 239,cO 476 97 1 234 (.ref 235) .none (.ref 236) (.ref 237) 238 481 "Forest.grow" "grow") ::
 (nat_lit 240,fO 425 239 ze "onceroad.forests" "Forest.grow" "grow") ::
 (nat_lit 246,cO 484 105 3 241 (.ref 242) .none (.ref 243) (.ref 244) 245 490 "Forest.reach" "reach") ::
 (nat_lit 247,fO 425 246 j7 "onceroad.forests" "Forest.reach" "reach") ::
 (nat_lit 253,cO 493 109 2 248 (.ref 249) .none (.ref 250) (.ref 251) 252 500 "Forest.look_around" "look_around") ::
 (nat_lit 254,fO 425 253 jg "onceroad.forests" "Forest.look_around" "look_around") ::
 (nat_lit 258,cO 503 120 3 255 (.ref 256) .none .none .none 257 506 "Forest.bring_together" "bring_together") ::
 (nat_lit 259,fO 425 258 qL "onceroad.forests" "Forest.bring_together" "bring_together") ::
 (nat_lit 265,cO 509 131 2 260 (.ref 261) .none (.ref 262) (.ref 263) 264 516 "Forest.bases_down_from" "bases_down_from") ::
 (nat_lit 266,fO 425 265 qQ "onceroad.forests" "Forest.bases_down_from" "bases_down_from") ::
 (nat_lit 272,cO 519 138 4 267 (.ref 268) .none (.ref 269) (.ref 270) 271 530 "Forest.reach_round" "reach_round") ::
 (nat_lit 273,fO 425 272 jf "onceroad.forests" "Forest.reach_round" "reach_round") ::
 (nat_lit 277,cO 533 147 3 274 (.ref 275) .none .none .none 276 536 "Forest.fold" "fold") ::
 (nat_lit 278,fO 425 277 jO "onceroad.forests" "Forest.fold" "fold") ::
 (nat_lit 280,(⟨(.type "dict"),none,.dict #[en P 434 (.str "onceroad.forests" 425) "__module__",en P 438 (.int 67 437) "__firstlineno__",en P 447 (.ref 207) "__init__",en P 454 (.ref 214) "row",en P 460 (.ref 219) "reached",en P 468 (.ref 226) "row_to",en P 475 (.ref 233) "folds",en P 483 (.ref 240) "grow",en P 492 (.ref 247) "reach",en P 502 (.ref 254) "look_around",en P 508 (.ref 259) "bring_together",en P 518 (.ref 266) "bases_down_from",en P 532 (.ref 273) "reach_round",en P 538 (.ref 278) "fold",en P 547 (.ref 279) "__static_attributes__",en P 549 (.ref 282) "__dict__",en P 551 (.ref 283) "__weakref__",en P 552 .none "__doc__"] 4,#[]⟩:Obj)) ::
 (nat_lit 281,(⟨(.type "type"),none,.cls { name:="Forest",bases:=[(.type "object")],mro:=[(.ref 281),(.type "object")],ns:=280,qualname:="Forest",hasDict:=true,slotNames:=[],subclasses:=[],abstract:=false,collection:=none,hasDel:=false },#[none,none,(some (.str "Forest" 427)),(some (.str "Forest" 435)),(some (.builtin "object.__new__")),(some (.bool true))]⟩:Obj)) ::
 (nat_lit 291,cE 557 153 3 286 (.ref 287) .none (.ref 288) (.ref 289) 290 564 "is_row") ::
 (nat_lit 292,fE 555 291 qbi "onceroad.rows" "is_row") ::
 (nat_lit 298,cE 567 158 2 293 (.ref 294) .none (.ref 295) (.ref 296) 297 574 "are_unlike_places") ::
 (nat_lit 299,fE 555 298 jl "onceroad.rows" "are_unlike_places") ::
 (nat_lit 303,cE 577 167 3 300 (.ref 301) .none .none .none 302 580 "goes_by_turns") ::
 (nat_lit 304,fE 555 303 qV "onceroad.rows" "goes_by_turns") ::
 (nat_lit 310,cE 583 173 3 305 (.ref 306) .none (.ref 307) (.ref 308) 309 592 "can_turn") ::
 (nat_lit 311,fE 555 310 qaz "onceroad.rows" "can_turn") ::
 (nat_lit 315,cE 595 180 3 312 (.ref 313) .none .none .none 314 598 "turned") ::
 (nat_lit 316,fE 555 315 qaY "onceroad.rows" "turned") ::
 (nat_lit 322,cE 603 187 1 317 (.ref 318) .none (.ref 319) (.ref 320) 321 607 "greatest") ::
 (nat_lit 323,fE 601 322 qaA "onceroad.greatest" "greatest") ::
 (nat_lit 329,cE 610 189 2 324 (.ref 325) .none (.ref 326) (.ref 327) 328 618 "greatest_from") ::
 (nat_lit 330,fE 601 329 jP "onceroad.greatest" "greatest_from") ::
 (nat_lit 334,cE 625 200 1 331 (.ref 332) .none .none .none 333 628 "is_name") ::
 (nat_lit 335,fE 621 334 zi "onceroad.names" "is_name") ::
 (nat_lit 348,cO 649 209 3 343 (.ref 344) .none (.ref 345) (.ref 346) 347 655 "Web.__init__" "__init__") ::
 (nat_lit 349,fO 631 348 qau "onceroad.webs" "Web.__init__" "__init__") ::
 (nat_lit 355,cO 658 214 1 350 (.ref 351) .none (.ref 352) (.ref 353) 354 662 "Web.places" "places") ::
 (nat_lit 356,fO 631 355 zv "onceroad.webs" "Web.places" "places") ::
 (nat_lit 362,cO 665 217 1 357 (.ref 358) .none (.ref 359) (.ref 360) 361 672 "Web.ties" "ties") ::
 (nat_lit 363,fO 631 362 qax "onceroad.webs" "Web.ties" "ties") ::
 (nat_lit 376,cO 682 228 2 371 (.ref 372) .none (.ref 373) (.ref 374) 375 687 "Web.has_place" "has_place") ::
 (nat_lit 377,fO 631 376 jr "onceroad.webs" "Web.has_place" "has_place") ::
 (nat_lit 383,cO 690 231 2 378 (.ref 379) .none (.ref 380) (.ref 381) 382 695 "Web.has_tie" "has_tie") ::
 (nat_lit 384,fO 631 383 zc "onceroad.webs" "Web.has_tie" "has_tie") ::
 (nat_lit 390,cO 698 234 2 385 (.ref 386) .none (.ref 387) (.ref 388) 389 703 "Web.number_of" "number_of") ::
 (nat_lit 391,fO 631 390 jt "onceroad.webs" "Web.number_of" "number_of") ::
 (nat_lit 397,cO 706 239 2 392 (.ref 393) .none (.ref 394) (.ref 395) 396 711 "Web.beside" "beside") ::
 (nat_lit 398,fO 631 397 zw "onceroad.webs" "Web.beside" "beside") ::
 (nat_lit 404,cO 714 242 2 399 (.ref 400) .none (.ref 401) (.ref 402) 403 719 "Web.bits_beside" "bits_beside") ::
 (nat_lit 405,fO 631 404 jy "onceroad.webs" "Web.bits_beside" "bits_beside") ::
 (nat_lit 411,cO 722 245 3 406 (.ref 407) .none (.ref 408) (.ref 409) 410 729 "Web.tied" "tied") ::
 (nat_lit 412,fO 631 411 qav "onceroad.webs" "Web.tied" "tied") ::
 (nat_lit 430,cO 746 255 2 427 (.ref 428) .none .none .none 429 749 "Web.names_in" "names_in") ::
 (nat_lit 431,fO 631 430 jD "onceroad.webs" "Web.names_in" "names_in") ::
 (nat_lit 461,(⟨(.type "dict"),none,.dict #[en P 644 (.str "onceroad.webs" 631) "__module__",en P 648 (.int 207 647) "__firstlineno__",en P 657 (.ref 349) "__init__",en P 664 (.ref 356) "places",en P 674 (.ref 363) "ties",en P 681 (.ref 370) "how_many",en P 689 (.ref 377) "has_place",en P 697 (.ref 384) "has_tie",en P 705 (.ref 391) "number_of",en P 713 (.ref 398) "beside",en P 721 (.ref 405) "bits_beside",en P 731 (.ref 412) "tied",en P 738 (.ref 419) "pieces",en P 745 (.ref 426) "told",en P 751 (.ref 431) "names_in",en P 759 (.ref 438) "without",en P 767 (.ref 445) "with_place",en P 776 (.ref 452) "with_tie",en P 785 (.ref 459) "without_tie",en P 789 (.ref 460) "__static_attributes__",en P 791 (.ref 463) "__dict__",en P 793 (.ref 464) "__weakref__",en P 794 .none "__doc__"] 4,#[]⟩:Obj)) ::
 (nat_lit 462,(⟨(.type "type"),none,.cls { name:="Web",bases:=[(.type "object")],mro:=[(.ref 462),(.type "object")],ns:=461,qualname:="Web",hasDict:=true,slotNames:=[],subclasses:=[],abstract:=false,collection:=none,hasDel:=false },#[none,none,(some (.str "Web" 637)),(some (.str "Web" 645)),(some (.builtin "object.__new__")),(some (.bool true))]⟩:Obj)) ::
 (nat_lit 472,cE 797 269 2 467 (.ref 468) .none (.ref 469) (.ref 470) 471 802 "has_bit") ::
 (nat_lit 473,fE 631 472 qaS "onceroad.webs" "has_bit") ::
 (nat_lit 479,cE 805 271 2 474 (.ref 475) .none (.ref 476) (.ref 477) 478 810 "is_place") ::
 (nat_lit 480,fE 631 479 zG "onceroad.webs" "is_place") ::
 (nat_lit 486,cE 813 273 2 481 (.ref 482) .none (.ref 483) (.ref 484) 485 819 "are_two_places") ::
 (nat_lit 487,fE 631 486 jF "onceroad.webs" "are_two_places") ::
 (nat_lit 493,cE 822 278 1 488 (.ref 489) .none (.ref 490) (.ref 491) 492 828 "numbers_of") ::
 (nat_lit 494,fE 631 493 zu "onceroad.webs" "numbers_of") ::
 (nat_lit 500,cE 831 291 2 495 (.ref 496) .none (.ref 497) (.ref 498) 499 840 "near_of") ::
 (nat_lit 501,fE 631 500 qaU "onceroad.webs" "near_of") ::
 (nat_lit 507,cE 845 308 2 502 (.ref 503) .none (.ref 504) (.ref 505) 506 850 "_law_cell") ::
 (nat_lit 508,fE 843 507 qbf "law_onceroad_k32_reached_are_loose" "_law_cell") ::
 (nat_lit 514,cE 853 312 1 509 (.ref 510) .none (.ref 511) (.ref 512) 513 857 "_law_box") ::
 (nat_lit 515,fE 843 514 qb5 "law_onceroad_k32_reached_are_loose" "_law_box") ::
 (nat_lit 521,cE 860 316 2 516 (.ref 517) .none (.ref 518) (.ref 519) 520 866 "_law_take") ::
 (nat_lit 522,fE 843 521 qbg "law_onceroad_k32_reached_are_loose" "_law_take") ::
 (nat_lit 526,cE 869 325 2 523 (.ref 524) .none .none .none 525 872 "_law_names") ::
 (nat_lit 527,fE 843 526 zI "law_onceroad_k32_reached_are_loose" "_law_names") ::
 (nat_lit 533,cE 875 339 2 528 (.ref 529) .none (.ref 530) (.ref 531) 532 884 "_law_ties") ::
 (nat_lit 534,fE 843 533 qbh "law_onceroad_k32_reached_are_loose" "_law_ties") ::
 (nat_lit 540,cE 887 347 2 535 (.ref 536) .none (.ref 537) (.ref 538) 539 894 "_law_drawn") ::
 (nat_lit 541,fE 843 540 qaX "law_onceroad_k32_reached_are_loose" "_law_drawn") ::
 (nat_lit 545,cE 897 353 2 542 (.ref 543) .none .none .none 544 900 "_law_shuffled") ::
 (nat_lit 546,fE 843 545 ju "law_onceroad_k32_reached_are_loose" "_law_shuffled") ::
 (nat_lit 550,cE 903 359 1 547 (.ref 548) .none .none .none 549 906 "_law_fresh") ::
 (nat_lit 551,fE 843 550 qai "law_onceroad_k32_reached_are_loose" "_law_fresh") ::
 (nat_lit 562,cE 915 366 1 557 (.ref 558) .none (.ref 559) (.ref 560) 561 919 "_law_odd") ::
 (nat_lit 563,fE 843 562 qbC "law_onceroad_k32_reached_are_loose" "_law_odd") ::
 (nat_lit 569,cE 922 368 2 564 (.ref 565) .none (.ref 566) (.ref 567) 568 929 "_law_partner") ::
 (nat_lit 570,fE 843 569 zW "law_onceroad_k32_reached_are_loose" "_law_partner") ::
 (nat_lit 574,cE 932 375 2 571 (.ref 572) .none .none .none 573 935 "_law_singles") ::
 (nat_lit 575,fE 843 574 zk "law_onceroad_k32_reached_are_loose" "_law_singles") ::
 (nat_lit 588,cE 949 384 3 583 (.ref 584) .none (.ref 585) (.ref 586) 587 955 "_law_tied") ::
 (nat_lit 589,fE 843 588 qbk "law_onceroad_k32_reached_are_loose" "_law_tied") ::
 (nat_lit 593,cE 958 386 2 590 (.ref 591) .none .none .none 592 961 "_law_pieces") ::
 (nat_lit 594,fE 843 593 zJ "law_onceroad_k32_reached_are_loose" "_law_pieces") ::
 (nat_lit 598,cE 964 401 3 595 (.ref 596) .none .none .none 597 967 "_law_odds") ::
 (nat_lit 599,fE 843 598 qaB "law_onceroad_k32_reached_are_loose" "_law_odds") ::
 (nat_lit 605,cE 970 404 3 600 (.ref 601) .none (.ref 602) (.ref 603) 604 977 "_law_is_row") ::
 (nat_lit 606,fE 843 605 qaC "law_onceroad_k32_reached_are_loose" "_law_is_row") ::
 (nat_lit 610,cE 980 415 3 607 (.ref 608) .none .none .none 609 983 "_law_turned") ::
 (nat_lit 611,fE 843 610 jZ "law_onceroad_k32_reached_are_loose" "_law_turned") ::
 (nat_lit 615,cE 986 419 4 612 (.ref 613) .none .none .none 614 989 "_law_shown") ::
 (nat_lit 616,fE 843 615 zK "law_onceroad_k32_reached_are_loose" "_law_shown") ::
 (nat_lit 620,cE 992 429 5 617 (.ref 618) .none .none .none 619 995 "_law_led") ::
 (nat_lit 621,fE 843 620 qbG "law_onceroad_k32_reached_are_loose" "_law_led") ::
 (nat_lit 627,cE 998 439 2 622 (.ref 623) .none (.ref 624) (.ref 625) 626 1005 "_law_refused") ::
 (nat_lit 628,fE 843 627 zY "law_onceroad_k32_reached_are_loose" "_law_refused") ::
 (nat_lit 632,cE 1008 448 5 629 (.ref 630) .none .none .none 631 1011 "_law_right") ::
 (nat_lit 633,fE 843 632 qam "law_onceroad_k32_reached_are_loose" "_law_right") ::
 (nat_lit 637,cE 1014 464 1 634 (.ref 635) .none .none .none 636 1017 "law") ::
 (nat_lit 638,fE 843 637 qcH "law_onceroad_k32_reached_are_loose" "law") ::
 []
noncomputable def ks:LQ:=[2,3,34,35,37,38,92,93,95,96,180,181,187,188,192,193,206,207,213,214,218,219,225,226,239,240,246,247,253,254,258,259,265,266,272,273,277,278,280,281,291,292,298,299,303,304,310,311,315,316,322,323,329,330,334,335,348,349,355,356,362,363,376,377,383,384,390,391,397,398,404,405,411,412,430,431,461,462,472,473,479,480,486,487,493,494,500,501,507,508,514,515,521,522,526,527,533,534,540,541,545,546,550,551,562,563,569,570,574,575,588,589,593,594,598,599,605,606,610,611,615,616,620,621,627,628,632,633,637,638]
theorem ks_eq:∀ P,ks=(Kf P).map (·.1):=fun P=>by kernel_rfl
noncomputable abbrev Hk:Hook:=kHook Kf ks ks_eq
noncomputable abbrev Xt(s:Shared):Bool:=xlAt Q [] s&&recOk [] s
noncomputable abbrev sn(s:Shared):=openSeen Q [] (importedModules PySem.Challenge.pw_onceroad_k32_reached_are_loose.main.body) Xt true s
noncomputable def runA(w:World)(a:OsState):=(Hd.lookS PySem.Challenge.pw_onceroad_k32_reached_are_loose NN w a).map fun s=>((sn s).1,(sn s).2.1,(sn s).2.2.1,(sn s).2.2.2.1)
noncomputable def runB(w:World)(a:OsState):=(Hd.lookS PySem.Challenge.pw_onceroad_k32_reached_are_loose NN w a).map fun s=>(sn s).2.2.2.2
noncomputable def runC(w:World)(a:OsState):=(Hd.lookS PySem.Challenge.pw_onceroad_k32_reached_are_loose NN w a).map fun s=>ks.map s.heap.get?
noncomputable def gdA(_:World)(_:OsState):=some ((openGood Q []).1,(openGood Q []).2.1,(openGood Q []).2.2.1,(openGood Q []).2.2.2.1)
noncomputable def gdB(_:World)(_:OsState):=some (openGood Q []).2.2.2.2
noncomputable def gdC(w:World)(_:OsState):=some ((Kf w.params).map fun p=>some p.2)
noncomputable def tag{a:Type}(f g:World->OsState->a):Bool:=true
theorem tag1:(tag runA gdA&&(tag runB gdB&&tag runC runC))=true:=by k_qdec
theorem hA1(w:World)(a:OsState):runA w a=gdA w a:=by
 rw[PySem.W.Fast.te18094973287417962684,PySem.W.Fast.te5550257573196737834]
 kernel_rfl
theorem hB1(w:World)(a:OsState):runB w a=gdB w a:=by
 rw[PySem.W.Fast.te183370204133371247,PySem.W.Fast.te5000567023932703293]
 kernel_rfl
theorem hC1(w:World)(a:OsState):runC w a=gdC w a:=by
 rw[PySem.W.Fast.te7364954201420508118]
 kernel_rfl
theorem hl:LeftO PySem.Challenge.pw_onceroad_k32_reached_are_loose Q [] Xt (Hook.obs Hk) (Hook.val Hk) NN:=Hd.left_of (by kernel_rfl) (by decide) (fun s=>by kernel_rfl) fun w a=>(Hd.lookT_map ..).trans (Hd.packs (hA1 w a) (hB1 w a) (hC1 w a))
end K32
namespace L2
open PySem PySem.Spec PyProof.Rows
variable{A:Around}{C a b dx it:Addr}{CX:CXT}{D:Ends}{E:Value->Shared->Prop}{H:Hp}{M:Model}{N ps:LS}{P:Program}{X:Cx}{base h:Heap}{body:List Stmt}{c e tg:Expr}{ch fp:LQ}{d':Drawn}{es:List Expr}{f:Value->Value->Sem Value}{g:TG}{g':Array GenState}{i j n t':Nat}{kindOf:Str->Option NameKind}{kw:List (Str×Value)}{lo:Int}{mA mg:Str->Option Value}{o:HO}{op op':CmpOp}{outer:List Env}{pins:List (Addr×Obj)}{pos:Pos}{qual x:Str}{r r':R2}{s s':Shared}{sc scope:Scope}{t te:TE}{tb:TS}{tc:TT}{u:Value}{us:List Value}{v y:V}{vs xs:List V}{w:World}{α:Type}{σ:St}
noncomputable abbrev Key:=Sum Int Str
noncomputable def qcI:Key->Value->Bool
 | .inl k,v=>Value.isInt k v
 | .inr x,v=>Value.isStrOf x v
noncomputable def keyH(w:World):Key->Int
 | .inl k=>hashInt k
 | .inr x=>hashStr w x
theorem qZ:∀{k:Key} {v:Value},qcI k v=true->(∃ i t,k=Sum.inl i/\v=Value.int i t)\/(∃ x t,k=Sum.inr x/\v=Value.str x t)
 | .inl i,v,h=>by
  obtain⟨t,e⟩:=Value.isInt_shape (k:=i) (v:=v) h;show .inl ⟨i,t,rfl,e⟩
 | .inr x,v,h=>by
  obtain⟨t,e⟩:=Value.isStrOf_shape (x:=x) (v:=v) h;show .inr ⟨x,t,rfl,e⟩
theorem keyIs_int(i:Int)(t:Tok):qcI (.inl i) (.int i t)=true:=by simp[qcI,Value.isInt]
theorem keyIs_str(x:Str)(t:Tok):qcI (.inr x) (.str x t)=true:=by simp[qcI,Value.isStrOf]
theorem key_ll(a b:Int):decide ((Sum.inl a:Key)=Sum.inl b)=(a==b):=by
 by_cases e:a=b
 .subst e;simp
 .have h:¬ (Sum.inl a:Key)=Sum.inl b:=fun q=>e (Sum.inl.inj q);rw[yl h];show(Yx.mpr e).symm
theorem key_rr(a b:Str):decide ((Sum.inr a:Key)=Sum.inr b)=decide (a=b):=by
 by_cases e:a=b
 .subst e;simp
 .have h:¬ (Sum.inr a:Key)=Sum.inr b:=fun q=>e (xS q);rw[yl h,yl e]
theorem key_lr(a:Int)(b:Str):decide ((Sum.inl a:Key)=Sum.inr b)=false:=yl (fun q=>nomatch q)
theorem key_rl(a:Str)(b:Int):decide ((Sum.inr a:Key)=Sum.inl b)=false:=yl (fun q=>nomatch q)
noncomputable def jA(prog:Program)(w:World):PySem.KeyKind prog w Key where
 is:=qcI
 hash:=keyH w
 inj:=fun v a b c hb=>by
  rcases qZ c with⟨i,t,rfl,rfl⟩ | ⟨x,t,rfl,rfl⟩
  .rcases qZ hb with⟨j,u,rfl,e⟩ | ⟨y,u,rfl,e⟩
   .injection e with e1 _;rw[e1]
   .show nomatch e
  .rcases qZ hb with⟨j,u,rfl,e⟩ | ⟨y,u,rfl,e⟩
   .show nomatch e
   .injection e with e1 _;rw[e1]
 byValue:=fun k v h=>by
  rcases qZ h with⟨i,t,rfl,rfl⟩ | ⟨x,t,rfl,rfl⟩<;>rfl
 pyHash:=fun hv h=>by
  rcases qZ hv with⟨i,t,rfl,rfl⟩ | ⟨x,t,rfl,rfl⟩
  .show wpAny_pyHash_int h
  .show wpAny_pyHash_str h
 eqBool:=fun d hv h=>by
  rcases qZ d with⟨i,t,rfl,rfl⟩ | ⟨x,t,rfl,rfl⟩
  .rcases qZ hv with⟨j,u,rfl,rfl⟩ | ⟨y,u,rfl,rfl⟩
   .rw [key_ll] at h;show wpAny_eqBool_int h
   .rw [key_lr] at h;show SeqAt.EqAt.int_str i t y u _ _ _ _ h
  .rcases qZ hv with⟨j,u,rfl,rfl⟩ | ⟨y,u,rfl,rfl⟩
   .rw [key_rl] at h;show SeqAt.EqAt.str_int x t j u _ _ _ _ h
   .rw [key_rr] at h;show wpAny_eqBool_str h
 «strs»:=fun k x t v h=>by
  rcases qZ h with⟨i,u,rfl,e⟩ | ⟨y,u,rfl,e⟩
  .show nomatch e
  .injection e with e1 _
   subst e1;cases v<;>rfl
theorem mixKind_int(prog:Program)(w:World)(i:Int)(t:Tok):(jA prog w).is (.inl i) (.int i t)=true:=keyIs_int i t
theorem mixKind_str(prog:Program)(w:World)(x:Str)(t:Tok):(jA prog w).is (.inr x) (.str x t)=true:=keyIs_str x t
inductive V where
 | non | bl (b:Bool) | int (i:Int) | str (x:Str) | byt (b:Array UInt8) | flt (b:UInt64) | ref (a:Addr) | ty (n:String)
 deriving DecidableEq
def RelV:V->Value->Prop
 | .non,u=>u=Value.none
 | .bl b,u=>u=Value.bool b
 | .int i,u=>∃ t,u=Value.int i t
 | .str x,u=>∃ t,u=Value.str x t
 | .byt b,u=>∃ t,u=Value.bytes b t
 | .flt b,u=>∃ t,u=Value.float b t
 | .ref a,u=>u=Value.ref a
 | .ty n,u=>u=Value.type n
abbrev Vals:List V->List Value->Prop:=Paired RelV
theorem Vals.length(r:Vals xs us):xs.length=us.length:=Paired.length r
theorem Vals.get:∀{xs:List V} {us:List Value} {i:Nat} {x:V},Vals xs us->xs[i]?=some x->∃ u,us[i]?=some u/\RelV x u
 | _,_,_,_,.nil,e=>by simp at e
 | _,_,0,_,.cons r _,e=>by simp at e;subst e;show⟨_,rfl,r⟩
 | _,_,i+1,x,.cons _ t,e=>by
  obtain⟨u,h1,a⟩:=Vals.get (i:=i) (x:=x) t (by simpa using e);show⟨u,by simpa using h1,a⟩
theorem Vals.set{x:V}(r:RelV x u):∀{xs:List V} {us:List Value} (i:Nat),Vals xs us->Vals (xs.set i x) (us.set i u)
 | _,_,_,.nil=>.nil
 | _,_,0,.cons _ t=>.cons r t
 | _,_,i+1,.cons q t=>.cons q (Vals.set r i t)
theorem Vals.append:∀{xs ys:List V} {us a:List Value},Vals xs us->Vals ys a->Vals (xs++ys) (us++a)
 | _,_,_,_,.nil,s=>s
 | _,_,_,_,.cons r t,s=>.cons r (Vals.append t s)
theorem Vals.take:∀{xs:List V} {us:List Value} (n:Nat),Vals xs us->Vals (xs.take n) (us.take n)
 | _,_,0,_=>.nil
 | _,_,_+1,.nil=>.nil
 | _,_,n+1,.cons r t=>.cons r (Vals.take n t)
theorem Vals.drop:∀{xs:List V} {us:List Value} (n:Nat),Vals xs us->Vals (xs.drop n) (us.drop n)
 | _,_,0,r=>r
 | _,_,_+1,.nil=>.nil
 | _,_,n+1,.cons _ t=>Vals.drop n t
def RelO:Option V->Option Value->Prop
 | some v,some u=>RelV v u
 | none,none=>True
 | _,_=>False
def KV{a:Type}:List (a×V)->List (a×Value)->Prop:=Paired fun(p:a×V) (q:a×Value)=>p.1=q.1/\RelV p.2 q.2
noncomputable def kV:Key->V
 | .inl i=>.int i
 | .inr x=>.str x
inductive HO where
 /-- a list -/
 | lst (xs:List V)
 /-- a tuple (never changes) -/
 | tup (xs:List V)
 /-- a dict whose keys are ints and texts;one whose keys are tuples of ints and texts (the empty one is both) -/
 | dK (kvs:List (Key×V)) | dT (kvs:List (List Key×V))
 /-- a set of ints: its members,its size -/
 | set (S:Int->Bool) (n:Nat)
 /-- an instance of the class at C,its dict at dx,its attributes -/
 | ins (C dx:Addr) (fs:List (Str×V))
 /-- the dict of the instance at x -/
 | own (x:Addr)
 /-- the dict of an exception -/
 | xd (fs:List (Str×V))
 /-- a bound method,f of x -/
 | met (f x:Addr)
 /-- a range object lo,lo+1,.. below hi -/
 | rng (lo hi:Int)
 /-- a thing that is known to the object (the script;a dict while a loop walks it): read,never written while it is so -/
 | frz (o:Obj) (u:HO)
 /-- a code object's table -/
 | tbl (ps:Array Value)
 /-- any other thing,by what is true of its one object (a def of one's own: SetO a S n:=HO.ext fun h=>..) -/
 | ext (φ:Heap->Prop)
noncomputable abbrev Hp:=Addr->Option HO
noncomputable def upd(H:Hp)(a:Addr)(o:HO):Hp:=fun b=>if b=a then some o else H b
theorem qb:upd H a o a=some o:=by unfold upd;rw[yI rfl]
theorem qf(h:b≠a):upd H a o b=H b:=by unfold upd;rw[yF h]
theorem qac{u:HO}(h:H a=some o)(h':H b=some u)(d:o≠u):a≠b:=by
 intro e;subst e;rw[h] at h';show d (ym h')
theorem qv(h:H a=some o)(h':H b=none):a≠b:=by
 intro e;subst e;rw[h] at h';cases h'
section
variable(P:Program)(w:World)
def ObjOk(H:Hp)(h:Heap)(a:Addr):HO->Prop
 | .lst xs=>xs.length<=sizeLine/\∃(b:List Value) (n:Nat),Vals xs b/\h.get? a=some { cls:=.type "list",data:=.seq b.toArray n }
 | .tup xs=>xs.length<=sizeLine/\∃ b:List Value,Vals xs b/\IsTup h a b.toArray
 | .dK kvs=>kvs.length<=sizeLine/\(a==sysModules)=false/\∃ vs,KV kvs vs/\h.DictOf (jA P w) a vs
 | .dT kvs=>kvs.length<=sizeLine/\(a==sysModules)=false/\∃ xs:List (List Key×Addr×Value),
   Paired (fun(p:List Key×V) (q:List Key×Addr×Value)=>p.1=q.1/\H q.2.1=some (.tup (p.1.map kV))/\RelV p.2 q.2.2) kvs xs /\
   ∃ o es ep,h.get? a=some o/\o.ExactDict/\o.data=.dict es ep/\es.toList=xs.map (entryOfKey (tupleKind (jA P w)))/\(xs.map (·.1)).Nodup
 | .set S n=>h.SetOf (intKind P w) a S n
 | .ins C dx fs=>H dx=some (.own a)/\fs.length<=1000/\dx≠a/\h.get? a=some (PySem.W.instObj C dx) /\
   ∃ mA,h.Ns1 dx mA/\(∀ f,RelO (fs.lookup f) (mA f))/\PySem.Within mA (fs.map (·.1))
 | .own _=>∃ o,h.get? a=some o
 | .xd fs=>∃ mA,h.Ns1 a mA/\∀ f,RelO (fs.lookup f) (mA f)
 | .rng lo hi=>∃ t u v,h.get? a=some { cls:=.type "range",data:=.fields #[.int lo t,.int hi u,.int 1 v] }
 | .frz o u=>h.get? a=some o/\ObjOk H h a u
 | .tbl ps=>h.get? a=some { cls:=.none,data:=.fields ps }
 | .met f x=>h.get? a=some (PySem.W.methodObj (.ref f) (.ref x))
 | .ext φ=>φ h/\(∃ o,h.get? a=some o)/\∀ h1 c:Heap,φ h1->(∀ o,h1.get? a=some o->c.get? a=some o)->φ c
def HOk(H:Hp)(h:Heap):Prop:=∀ a o,H a=some o->ObjOk P w H h a o
end
section
variable{P:Program}{w:World}{H H':Hp}{h h':Heap}{a:Addr}{o:HO}
theorem ObjOk.lt(x:ObjOk P w H h a o):a<h.objs.size:=by
 cases o with
 | lst xs=>obtain⟨_,_,_,_,e⟩:=x;show yN e
 | tup xs=>obtain⟨_,_,_,p⟩:=x;show p.lt
 | dK kvs=>obtain⟨_,_,_,_,o,_,_,e,_⟩:=x;show yN e
 | dT kvs=>obtain⟨_,_,_,_,o,_,_,e,_⟩:=x;show yN e
 | set S n=>obtain⟨o,_,_,_,e,_⟩:=x;show yN e
 | ins C dx fs=>obtain⟨_,_,_,e,_⟩:=x;show yN e
 | own y=>obtain⟨_,e⟩:=x;show yN e
 | xd fs=>obtain⟨_,⟨_,_,_,e,_⟩,_⟩:=x;show yN e
 | rng lo hi=>obtain⟨_,_,_,e⟩:=x;show yN e
 | frz ob u=>obtain⟨e,_⟩:=x;show yN e
 | tbl ps=>show yN (show h.get? a=some _ from x)
 | met f y=>show yN (show h.get? a=some _ from x)
 | ext φ=>obtain⟨_,⟨_,e⟩,_⟩:=x;show yN e
theorem Paired.mapP{d:Type}{F G:α->d->Prop}:∀{l₁:List α} {c:List d},Paired F l₁ c->(∀ a b,F a b->G a b)->Paired G l₁ c
 | _,_,.nil,_=>.nil
 | _,_,.cons r t,f=>.cons (f _ _ r) (Paired.mapP t f)
theorem ObjOk.stay(x:ObjOk P w H h a o)(k:∀ b u,(b=a\/H b=some (.own a))->h.get? b=some u->h'.get? b=some u)
  (l:∀ b,H b=some (.own a)->H' b=some (.own a)) (m:∀ b xs,H b=some (.tup xs)->H' b=some (.tup xs)):ObjOk P w H' h' a o:=by
 induction o with
 | lst xs=>obtain⟨z,i,n,r,e⟩:=x;show⟨z,i,n,r,k _ _ (.inl rfl) e⟩
 | tup xs=>obtain⟨z,i,r,g,e,c⟩:=x;show⟨z,i,r,g,k _ _ (.inl rfl) e,c⟩
 | dK kvs=>obtain⟨z,y,vs,r,g,es,ep,e,c⟩:=x;show⟨z,y,vs,r,g,es,ep,k _ _ (.inl rfl) e,c⟩
 | dT kvs =>
  obtain⟨z,y,xs,r,g,es,ep,e,c⟩:=x;show⟨z,y,xs,Paired.mapP r fun p q z=>⟨z.1,m _ _ z.2.1,z.2.2⟩,g,es,ep,k _ _ (.inl rfl) e,c⟩
 | set S n=>obtain⟨g,es,ep,t,e,c⟩:=x;show⟨g,es,ep,t,k _ _ (.inl rfl) e,c⟩
 | ins C dx fs =>
  obtain⟨d,z,ne,e,mA,⟨od,es,ep,j,c⟩,r⟩:=x;show⟨l _ d,z,ne,k _ _ (.inl rfl) e,mA,⟨od,es,ep,k _ _ (.inr d) j,c⟩,r⟩
 | own y=>obtain⟨g,e⟩:=x;show⟨g,k _ _ (.inl rfl) e⟩
 | xd fs=>obtain⟨mA,⟨od,es,ep,e,c⟩,r⟩:=x;show⟨mA,⟨od,es,ep,k _ _ (.inl rfl) e,c⟩,r⟩
 | rng lo hi=>obtain⟨t,u,v,e⟩:=x;show⟨t,u,v,k _ _ (.inl rfl) e⟩
 | frz g u ih=>obtain⟨e,q⟩:=x;show⟨k _ _ (.inl rfl) e,ih q⟩
 | tbl ps =>
  have e:h.get? a=some { cls:=.none,data:=.fields ps }:=x;show h'.get? a=some { cls:=.none,data:=.fields ps };show k a _ (.inl rfl) e
 | met f y =>
  have e:h.get? a=some (PySem.W.methodObj (.ref f) (.ref y)):=x;show h'.get? a=some (PySem.W.methodObj (.ref f) (.ref y));show k a _ (.inl rfl) e
 | ext φ=>obtain⟨p,⟨o,e⟩,st⟩:=x;show⟨st _ _ p fun o q=>k _ _ (.inl rfl) q,⟨o,k _ _ (.inl rfl) e⟩,st⟩
theorem HOk.lt(x:HOk P w H h)(e:H a=some o):a<h.objs.size:=(x a o e).lt
theorem HOk.fresh(x:HOk P w H h)(e:h.objs.size<=a):H a=none:=by
 cases q:H a with
 | none=>rfl
 | some u=>show absurd (yj (x.lt q) e) (Yy _)
theorem HOk.kept(x:HOk P w H h)(k:∀ b u,h.get? b=some u->h'.get? b=some u):HOk P w H h':=fun a o e =>
 (x a o e).stay (fun b u _ q=>k b u q) (fun _ q=>q) fun _ _ q=>q
theorem HOk.laid(x:HOk P w H h)(k:∀ b u,h.get? b=some u->h'.get? b=some u)(f:h.objs.size<=a)(new:ObjOk P w (upd H a o) h' a o):HOk P w (upd H a o) h':=fun b u e=>by
 have d:=x.fresh f;by_cases hb:b=a
 .subst hb;rw[qb] at e;cases e;show new
 .rw [qf hb] at e;show(x b u e).stay (fun c v _ q=>k c v q) (fun c q=>by rw[qf (qv q d)];show q) fun c xs q=>by rw[qf (qv q d)];show q
end
def Rd(H:Hp)(a:Addr)(u:HO):Prop:=H a=some u\/∃ o,H a=some (.frz o u)
theorem Rd.ok{u:HO}(r:Rd H a u)(x:HOk P w H h):ObjOk P w H h a u:=by
 rcases r with r | ⟨o,r⟩
 .show x a u r
 .obtain⟨_,q⟩:=x a _ r;show q
def Mut:Option HO->Prop
 | some (.lst _)=>True
 | some (.dK _)=>True
 | some (.dT _)=>True
 | some (.set _ _)=>True
 | some (.ins _ _ _)=>True
 | some (.ext _)=>True
 | _=>False
section
variable{P:Program}{w:World}{H:Hp}{h h':Heap}{x e:Addr}{o':HO}
theorem HOk.write(ok:HOk P w H h)(g:Mut (H x))(j:e=x\/H e=some (.own x))(k:∀ b u,b≠e->h.get? b=some u->h'.get? b=some u)(i:∃ u,h'.get? e=some u)
  (new:ObjOk P w (upd H x o') h' x o'):HOk P w (upd H x o') h':=fun b u q=>by
 have d:∀ c y,H c=some (.own y)->c≠x:=fun c y r z=>by subst z;rw[r] at g;show g
 have f:∀ c xs,H c=some (.tup xs)->c≠x:=fun c xs r z=>by subst z;rw[r] at g;show g
 by_cases hb:b=x
 .subst hb;rw[qb] at q;cases q;show new
 .rw [qf hb] at q;by_cases a:b=e
  .have l:H b=some (.own x):=by
    rcases j with z | z
    .show absurd (a.trans z) hb
    .rw [a];show z
   rw[q] at l;cases l;obtain⟨v,hv⟩:=i;show⟨v,by rw[a];show hv⟩
  .show(ok b u q).stay (fun c v hc r=>k c v ?_ r) (fun c r=>by rw[qf (d c b r)];show r) fun c xs r=>by rw[qf (f c xs r)];show r
   rcases hc with rfl | hc
   .show a
   .rintro rfl;rcases j with z | z
    .show d c b hc z
    .rw [hc] at z;cases z;show hb rfl
end
structure Un(fs ex:LQ)(H H':Hp)(h h':Heap):Prop where
 keep:∀ b o,h.get? b=some o->H b=none->b∉fs->b∉ex->h'.get? b=some o
 slot:∀ b o,h.get? b=some o->H b=none->b∈fs->b∉ex->∃ sl,h'.get? b=some { o with slots:=sl }
 free:∀ b o,h.get? b=some o->H b=none->b∉ex->H' b=none
 there:∀ b o,h.get? b=some o->b∉ex->∃ o',h'.get? b=some o'
 tups:∀ b xs,H b=some (.tup xs)->H' b=some (.tup xs)
 frzs:∀ b o u,H b=some (.frz o u)->H' b=some (.frz o u)
 tbls:∀ b ps,H b=some (.tbl ps)->∃ more,H' b=some (.tbl (ps++more))
section
variable{fs fs' ex ex':LQ}{H H1 H2:Hp}{h h1 h2 h':Heap}{a x e:Addr}{o:HO}
theorem Un.any(u:Un fs ex H H1 h h1){a:Obj}(q:h.get? b=some a)(n:H b=none)(c:b∉ex):∃ d,h1.get? b=some { a with slots:=d }:=by
 by_cases hb:b∈fs
 .show u.slot b a q n hb c
 .show⟨a.slots,u.keep b a q n hb c⟩
theorem Un.kept(k:∀ b u,h.get? b=some u->h'.get? b=some u):Un fs ex H H h h':=
 ⟨fun b a q _ _ _=>k b a q,fun b a q _ _ _=>⟨a.slots,k b a q⟩,fun _ _ _ n _=>n,fun b a q _=>⟨a,k b a q⟩,fun _ _ q=>q,fun _ _ _ q=>q,fun _ ps q=>⟨#[],by rw[q];simp⟩⟩
theorem Un.refl:Un fs ex H H h h:=Un.kept fun _ _ q=>q
theorem Un.laid(k:∀ b u,h.get? b=some u->h'.get? b=some u)(d:h.objs.size<=a)(c:H a=none):Un fs ex H (upd H a o) h h' where
 keep:=fun b u q _ _ _=>k b u q
 slot:=fun b u q _ _ _=>⟨u.slots,k b u q⟩
 free:=fun b u q n _=>by rw[qf (yO (yj (yN q) d))];show n
 there:=fun b u q _=>⟨u,k b u q⟩
 tups:=fun b xs q=>by rw[qf (qv q c)];show q
 frzs:=fun b u xs q=>by rw[qf (qv q c)];show q
 tbls:=fun b ps q=>⟨#[],by rw[qf (qv q c),q];simp⟩
theorem Un.write(c:Mut (H x))(i:e=x\/H e=some (.own x))(k:∀ b u,b≠e->h.get? b=some u->h'.get? b=some u)(d:∃ u,h'.get? e=some u):Un fs ex H (upd H x o) h h':=by
 have g:∀ b,H b=none->b≠x:=fun b n z=>by subst z;rw[n] at c;show c
 have hb:∀ b,H b=none->b≠e:=fun b n z=>by
  subst z;rcases i with r | r
  .show g b n r
  .rw [n] at r;cases r
 have f:∀ b u,H b=some u->¬ Mut (some u)->b≠x:=fun b u q j z=>by subst z;rw[q] at c;show j c
 show⟨fun b u q n _ _=>k b u (hb b n) q,fun b u q n _ _=>⟨u.slots,k b u (hb b n) q⟩,fun b u q n _=>by rw[qf (g b n)];show n,fun b u q _=>?_,
  fun b xs q=>by rw[qf (f b _ q fun z=>z)];show q,fun b u xs q=>by rw[qf (f b _ q fun z=>z)];show q,fun b ps q=>⟨#[],by rw[qf (f b _ q fun z=>z),q];simp⟩⟩
 by_cases a:b=e
 .subst a;show d
 .show⟨u,k b u a q⟩
end
noncomputable def trk(h:Heap)(H:Hp):LQ:=(List.range h.objs.size).filter fun a=>(H a).isSome
noncomputable def qej(h:Heap)(H:Hp):Heap:=PySem.W.hideAll h (trk h H)
theorem hidT_size(h:Heap)(H:Hp):(qej h H).objs.size=h.objs.size:=PySem.W.hideAll_size _ _
theorem hidT_get{o:Obj}(e:h.get? b=some o)(n:H b=none):(qej h H).get? b=some o:=
 PySem.W.hideAll_get _ e fun a=>by
  have q:(H b).isSome=true:=(yp.mp a).2;rw[n] at q;simp at q
theorem of_hidT{o:Obj}(e:(qej h H).get? b=some o):h.get? b=some o/\H b=none:=by
 have a:h.get? b=some o:=PySem.W.of_hideAll (trk h H) e;show⟨a,?_⟩
 cases q:H b with
 | none=>rfl
 | some x =>
  have c:b∈trk h H:=yp.mpr ⟨xZ.mpr (yN a),by simp[q]⟩;have z:(qej h H).get? b=none:=PySem.W.hideAll_none (trk h H) c;rw[z] at e;cases e
noncomputable def allNews(g h:Heap)(L:Addr):List (Addr×Obj):=(List.range h.objs.size).filterMap fun a=>if a=L\/(g.get? a).isSome=true then none else(h.get? a).map fun o=>(a,o)
noncomputable def rest(g h:Heap)(L d:Addr):List (Addr×Obj):=(allNews g h L).filter fun p=>decide (p.1≠d)
structure Mod(K:yg)(mg:Str->Option Value)(base:Heap):Prop where
 kin:K.In base
 glob:base.Ns mainGlobals mg
 blt:∃ mb,base.Ns builtinsNs mb/\∀ x:Str,x≠"__name__"->mb x=bootBuiltins x
 nolimit:base.NoLimit
structure Cx where
 prog:Program
 w:World
 K:yg
 mg:Str->Option Value
 base:Heap
 A:Around
 N:LS
 s₀:Shared
 H₀:Hp
 env:Env
 outer:List Env
 stack:List Env
 ex:LQ
 fn:Str->Bool
 calm:Bool
 pn:List (Addr×Obj)
 xe:Value->Shared->Prop
noncomputable def frs(l:List Env):LQ:=l.filterMap (·.frame)
noncomputable abbrev Cx.fs(X:Cx):LQ:=frs X.outer
def Vis(sc:Scope)(x:Str):Prop:=sc.names.lookup x=some .local\/sc.names.lookup x=some .cell\/sc.names.lookup x=some .free
def Loc(sc:Scope)(x:Str):Prop:=sc.names.lookup x=some .local\/sc.names.lookup x=some .cell
def Look(env:Env)(h:Heap)(m:Str->Option Value)(x:Str)(u:Value):Prop:=
 (env.kindOf x=some .local/\m x=some u)\/((env.kindOf x=some .cell\/env.kindOf x=some .free)/\∃ c,env.cells.lookup x=some c/\h.IsCell c (some u))
structure Cx.Ok(X:Cx):Prop where
 mod:Mod X.K X.mg X.base
 kind:X.env.scope.kind=.function
 glob:X.env.globals=mainGlobals
 blt:X.env.builtins=builtinsNs
 above:X.s₀.heap.objs.size<=X.env.locals
 inj:∀ x y c,X.env.cells.lookup x=some c->X.env.cells.lookup y=some c->x=y
 has:∀ x,(X.env.kindOf x=some .cell\/X.env.kindOf x=some .free)->∃ c,X.env.cells.lookup x=some c
 cab:∀ x c,X.fn x=true->X.env.cells.lookup x=some c->X.s₀.heap.objs.size<=c
 hd:X.calm=true->X.A.handled=none
 frames:X.A.frames=some X.stack
 stk:X.stack=X.outer\/(X.stack=X.env::X.outer/\X.env.frame=some X.env.locals)
 exf:∀ b∈X.ex,b≠X.env.locals/\∀ x c,X.env.cells.lookup x=some c->c≠b
 bs:∀ b o,X.base.get? b=some o->X.s₀.heap.get? b=some o/\X.H₀ b=none
 bsz:X.base.objs.size<=X.s₀.heap.objs.size
 noex:∀ b o,X.base.get? b=some o->b∉X.ex
 exfs:∀ b∈X.ex,b∉X.fs
 funs:X.s₀.heap.FunFrames X.base X.outer
 frf:∀ b∈X.fs,X.H₀ b=none
structure Inv(X:Cx)(pins:List (Addr×Obj))(σ:List (Option V))(H:Hp)(s:Shared):Prop where
 ok:X.Ok
 os:s.os=X.s₀.os
 bare:AllBare s.gens
 base:Un X.fs X.ex X.H₀ H X.s₀.heap s.heap
 loc:∃ m,s.heap.Ns X.env.locals m/\∀(i:Nat) (x:Str) (v:V),X.N[i]?=some x->σ[i]?=some (some v)->Vis X.env.scope x->∃ u,RelV v u/\Look X.env s.heap m x u
 cell:∀ x c,X.env.cells.lookup x=some c->∃ v,s.heap.IsCell c v
 free:H X.env.locals=none
 freeC:∀ x c,X.env.cells.lookup x=some c->H c=none
 pin:∀ p∈X.pn++pins,s.heap.get? p.1=some p.2/\H p.1=none/\p.1≠X.env.locals/\p.1∉X.fs/\∀ v,p.2.data≠.cell v
 hok:HOk X.prog X.w H s.heap
 len:σ.length=X.N.length
section
variable{X:Cx}{pins:List (Addr×Obj)}{σ:List (Option V)}{H H':Hp}{s:Shared}{h':Heap}
theorem Cx.Ok.nofr(ok:X.Ok){o:Obj}(e:X.base.get? b=some o):b∉X.fs:=fun hb=>by
 have:=(ok.funs.mem hb).1;rw[e] at this;cases this
theorem Inv.bs(I:Inv X pins σ H s):∀ b o,X.base.get? b=some o->s.heap.get? b=some o/\H b=none:=fun b o e =>
 ⟨I.base.keep b o (I.ok.bs b o e).1 (I.ok.bs b o e).2 (I.ok.nofr e) (I.ok.noex b o e),I.base.free b o (I.ok.bs b o e).1 (I.ok.bs b o e).2 (I.ok.noex b o e)⟩
theorem Inv.bk(I:Inv X pins σ H s):∀ b o,X.base.get? b=some o->s.heap.get? b=some o:=fun b o e=>(I.bs b o e).1
theorem Inv.mod(I:Inv X pins σ H s):Mod X.K X.mg X.base:=I.ok.mod
theorem Inv.kIn(I:Inv X pins σ H s):X.K.In s.heap:=I.ok.mod.kin.keeps I.bk
theorem Inv.lt(I:Inv X pins σ H s):X.env.locals<s.heap.objs.size:=let ⟨_,hn,_⟩:=I.loc;hn.lt
theorem Inv.sz(I:Inv X pins σ H s):X.s₀.heap.objs.size<=s.heap.objs.size:=yi I.ok.above (yR I.lt)
theorem Inv.nofs(I:Inv X pins σ H s)(h:s.heap.objs.size<=a):a∉X.fs:=fun hb=>by
 obtain⟨_,o,b,_⟩:=I.ok.funs.mem hb;show absurd (yj (yN b) (yi I.sz h)) (Yy _)
theorem Inv.cne(I:Inv X pins σ H s):∀ x c,X.env.cells.lookup x=some c->c≠X.env.locals:=fun x c e z=>by
 obtain⟨v,o,f,d⟩:=I.cell x c e;obtain⟨m,⟨g,es,ep,b,a,_⟩,_⟩:=I.loc;rw[z,b] at f;cases f;rw[a] at d;cases d
theorem Inv.funs(I:Inv X pins σ H s):s.heap.FunFrames X.base X.outer:=by
 have all:∀(l:List Env),(∀ b∈frs l,b∈X.fs)->X.s₀.heap.FunFrames X.base l->s.heap.FunFrames X.base l:=by
  intro l
  induction l with
  | nil=>intro _ _;trivial
  | cons env r ih =>
   intro d hl;obtain⟨g,⟨L,o,c,h,i,f⟩,j⟩:=hl;have a:L∈X.fs:=d L (by unfold frs;rw[XA,c];show yU);obtain⟨m,e⟩:=I.base.slot L o i (I.ok.frf L a) a fun z=>I.ok.exfs L z a;show⟨g,⟨L,_,c,h,e,f⟩,ih (fun b hb=>d b (by unfold frs;rw[XA,c];show yJ _ hb)) j⟩
 show all X.outer (fun _ hb=>hb) I.ok.funs
theorem Inv.stack(I:Inv X pins σ H s):s.heap.FunFrames X.base X.stack:=by
 rcases I.ok.stk with e | ⟨e,hf⟩
 .rw [e];show I.funs
 .rw [e];obtain⟨m,a,_⟩:=I.loc;show .cons (by rw[I.ok.kind];decide) hf a ?_ I.funs;show Heap.get?_none_of_le (yi I.ok.bsz I.ok.above)
theorem Inv.stkSub(I:Inv X pins σ H s):∀ b∈frs X.stack,b∈X.env.locals::X.fs:=fun b hb=>by
 rcases I.ok.stk with e | ⟨e,hf⟩
 .rw [e] at hb;show yJ _ hb
 .rw [e] at hb;unfold frs at hb;rw[XA,hf] at hb;show hb
theorem Inv.stkFree(I:Inv X pins σ H s):∀ b∈frs X.stack,H b=none:=fun b hb=>by
 rcases yx.mp (I.stkSub b hb) with e | hb
 .rw [e];show I.free
 .obtain⟨_,o,a,_⟩:=I.ok.funs.mem hb;show I.base.free b o a (I.ok.frf b hb) fun z=>I.ok.exfs b z hb
theorem Inv.step(I:Inv X pins σ H s)
  (f:∀ b∈ch,(b∈X.ex\/X.s₀.heap.objs.size<=b)/\b≠X.env.locals/\(∀ x c,X.env.cells.lookup x=some c->c≠b)/\∀ p∈X.pn++pins,p.1≠b)
  (keep:∀ b o,b≠X.env.locals->b∉X.fs->b∉ch->s.heap.get? b=some o->H b=none->h'.get? b=some o)
  (t:∀ b o,b≠X.env.locals->b∈X.fs->b∉ch->s.heap.get? b=some o->H b=none->∃ L,h'.get? b=some { o with slots:=L }) (free:∀ b o,b∉ch->s.heap.get? b=some o->H b=none->H' b=none)
  (y:∀ b o,b∉ch->s.heap.get? b=some o->∃ E,h'.get? b=some E)
  (G:∀ b xs,H b=some (.tup xs)->H' b=some (.tup xs)) (C:∀ b o u,H b=some (.frz o u)->H' b=some (.frz o u)) (F:∀ b ps,H b=some (.tbl ps)->∃ more,H' b=some (.tbl (ps++more)))
  (ns:∀ m,s.heap.Ns X.env.locals m->h'.Ns X.env.locals m) (K:HOk X.prog X.w H' h') (R:AllBare g') :
  Inv X pins σ H' { s with heap:=h',gens:=g',drawn:=d',toks:=t' }:=by
 have D:∀ b o,X.s₀.heap.get? b=some o->b≠X.env.locals:=fun b o e=>yO (yj (yN e) I.ok.above)
 have j:∀ b o,X.s₀.heap.get? b=some o->b∉X.ex->b∉ch:=fun b o e a hb=>by
  rcases(f b hb).1 with z | z
  .show a z
  .show absurd (yj (yN e) z) (Yy _)
 have cellK:∀ x c,X.env.cells.lookup x=some c->∀ v,s.heap.IsCell c v->h'.IsCell c v:=fun x c e v ⟨o,A,J⟩=>by
  have g:c∉ch:=fun z=>(f c z).2.2.1 x c e rfl;by_cases hc:c∈X.fs
  .obtain⟨L,q⟩:=t c o (I.cne x c e) hc g A (I.freeC x c e);show⟨_,q,J⟩
  .show⟨o,keep c o (I.cne x c e) hc g A (I.freeC x c e),J⟩
 show⟨I.ok,I.os,R,⟨fun b o e n hb a=>?_,fun b o e n hb a=>?_,fun b o e n a=>?_,fun b o e a=>?_,fun b xs e=>G b xs (I.base.tups b xs e),fun b o xs e=>C b o xs (I.base.frzs b o xs e),fun b ps e=>?_⟩,?_,fun x c e=>?_,?_,fun x c e=>?_,fun p N=>?_,K,I.len⟩
 .show keep b o (D b o e) hb (j b o e a) (I.base.keep b o e n hb a) (I.base.free b o e n a)
 .obtain⟨L,h⟩:=I.base.slot b o e n hb a;obtain⟨M,B⟩:=t b _ (D b o e) hb (j b o e a) h (I.base.free b o e n a);show⟨M,B⟩
 .obtain⟨E,h⟩:=I.base.there b o e a;show free b E (j b o e a) h (I.base.free b o e n a)
 .obtain⟨E,h⟩:=I.base.there b o e a;show y b E (j b o e a) h
 .obtain⟨T,h⟩:=I.base.tbls b ps e;obtain⟨U,B⟩:=F b _ h;show⟨T++U,by rw[B,Array.append_assoc]⟩
 .obtain⟨m,S,hl⟩:=I.loc;show⟨m,ns m S,fun i x v h B P=>?_⟩;obtain⟨u,r,l⟩:=hl i x v h B P;show⟨u,r,?_⟩;rcases l with l | ⟨k,c,e,z⟩
  .show .inl l
  .show .inr ⟨k,c,e,cellK x c e _ z⟩
 .obtain⟨v,z⟩:=I.cell x c e;show⟨v,cellK x c e v z⟩
 .obtain⟨m,⟨o,_,_,A,_⟩,_⟩:=I.loc;show free _ o (fun z=>(f _ z).2.1 rfl) A I.free
 .obtain⟨v,o,A,J⟩:=I.cell x c e;show free c o (fun z=>(f c z).2.2.1 x c e rfl) A (I.freeC x c e)
 .obtain⟨e,n,ne,O,d⟩:=I.pin p N;have g:p.1∉ch:=fun z=>(f p.1 z).2.2.2 p N rfl;show⟨keep p.1 p.2 ne O g e n,free p.1 p.2 g e n,ne,O,d⟩
theorem Inv.un(I:Inv X pins σ H s)(u:Un X.fs [] H H' s.heap h')(f:HOk X.prog X.w H' h'):Inv X pins σ H' { s with heap:=h',toks:=t' }:=by
 obtain⟨m,⟨o,es,ep,g,r⟩,_⟩:=id I.loc;obtain⟨p,h⟩:=u.any g I.free (by simp)
 show I.step (g':=s.gens) (d':=s.drawn) (ch:=[]) (fun _ z=>nomatch z) (fun b o _ hb _ e n=>u.keep b o e n hb (by simp)) (fun b o _ hb _ e n=>u.slot b o e n hb (by simp)) (fun b o _ e n=>u.free b o e n (by simp)) (fun b o _ e=>u.there b o e (by simp)) u.tups u.frzs u.tbls (fun j i=>by
  obtain⟨l,d,c,a,r'⟩:=i;rw[g] at a;cases a;show⟨_,d,c,h,r'⟩) f I.bare
theorem Inv.call(I:Inv X pins σ H s)(u:Un (frs X.stack) ch H H' s.heap h')(i:HOk X.prog X.w H' h')(l:AllBare g')
  (a:∀ b∈ch,(b∈X.ex\/X.s₀.heap.objs.size<=b)/\b≠X.env.locals/\(∀ x c,X.env.cells.lookup x=some c->c≠b)/\∀ p∈X.pn++pins,p.1≠b) :
  Inv X pins σ H' { s with heap:=h',gens:=g',drawn:=d',toks:=t' }:=by
 obtain⟨m,⟨o,es,ep,j,r⟩,_⟩:=id I.loc;obtain⟨y,h⟩:=u.any j I.free fun z=>(a _ z).2.1 rfl
 show I.step (ch:=ch) a (fun b o h hb hc e n=>u.keep b o e n (fun z=>(yx.mp (I.stkSub b z)).elim h hb) hc) (fun b o _ _ hc e n=>u.any e n hc) (fun b o hc e n=>u.free b o e n hc) (fun b o hc e=>u.there b o e hc) u.tups u.frzs u.tbls (fun t q=>by
  obtain⟨v,g,f,d,r'⟩:=q;rw[j] at d;cases d;show⟨_,g,f,h,r'⟩) i l
theorem Inv.turned(I:Inv X pins σ H s)(k:∀ b o,b≠it->s.heap.get? b=some o->h'.get? b=some o)(i:H it=none)(d:it≠X.env.locals)
  (h1:it∈X.ex\/X.s₀.heap.objs.size<=it) (f:∀ x c,X.env.cells.lookup x=some c->c≠it) (g:∀ p∈X.pn++pins,p.1≠it):Inv X pins σ H { s with heap:=h',toks:=t' }:=by
 have a:∀ b u,H b=some u->b≠it:=fun b u e z=>by rw[z,i] at e;cases e
 show I.step (g':=s.gens) (d':=s.drawn) (ch:=[it]) (fun b hb=>?_) (fun b o _ _ hc e _=>k b o (fun z=>hc (by simp[z])) e) (fun b o _ _ hc e _=>⟨o.slots,k b o (fun z=>hc (by simp[z])) e⟩) (fun _ _ _ _ n=>n)
  (fun b o hc e=>⟨o,k b o (fun z=>hc (by simp[z])) e⟩) (fun _ _ e=>e) (fun _ _ _ e=>e) (fun b ps e=>⟨#[],by rw[e];simp⟩) (fun m h=>?_) (fun b u e=>?_) I.bare
 .have e:b=it:=by simpa using hb
  subst e;show⟨h1,d,f,g⟩
 .obtain⟨o,es,ep,j,r⟩:=h;show⟨o,es,ep,k _ o (Yh d) j,r⟩
 .show(I.hok b u e).stay (fun c v hc q=>k c v ?_ q) (fun _ q=>q) fun _ _ q=>q;rcases hc with z | z
  .rw [z];show a b u e
  .show a c _ z
theorem Inv.tok(I:Inv X pins σ H s)(t:Nat):Inv X pins σ H { s with toks:=t }:=I.un (h':=s.heap) (t':=t) Un.refl I.hok
theorem Inv.kept(I:Inv X pins σ H s)(k:∀ b u,s.heap.get? b=some u->h'.get? b=some u):Inv X pins σ H { s with heap:=h',toks:=t' }:=I.un (Un.kept k) (I.hok.kept k)
theorem Inv.laid(I:Inv X pins σ H s)(k:∀ b u,s.heap.get? b=some u->h'.get? b=some u)(c:s.heap.objs.size<=a)(new:ObjOk X.prog X.w (upd H a o) h' a o) :
  Inv X pins σ (upd H a o) { s with heap:=h',toks:=t' }:=I.un (Un.laid k c (I.hok.fresh c)) (I.hok.laid k c new)
theorem Inv.write{x e:Addr}(I:Inv X pins σ H s)(d:Mut (H x))(c:e=x\/H e=some (.own x))(k:∀ b u,b≠e->s.heap.get? b=some u->h'.get? b=some u)(a:∃ u,h'.get? e=some u)
  (new:ObjOk X.prog X.w (upd H x o) h' x o):Inv X pins σ (upd H x o) { s with heap:=h',toks:=t' }:=I.un (Un.write d c k a) (I.hok.write d c k a new)
theorem Inv.weak{a:List (Option V)}(I:Inv X pins σ H s)(hl:a.length=σ.length)(w:∀(i:Nat) v,a[i]?=some (some v)->σ[i]?=some (some v)):Inv X pins a H s:=
 ⟨I.ok,I.os,I.bare,I.base,let ⟨m,hn,hl'⟩:=I.loc;⟨m,hn,fun i x v b c d=>hl' i x v b (w i v c) d⟩,I.cell,I.free,I.freeC,I.pin,I.hok,hl.trans I.len⟩
theorem Inv.pins_of{pins':List (Addr×Obj)}(I:Inv X pins σ H s)(h:∀ p∈pins',s.heap.get? p.1=some p.2/\H p.1=none/\p.1≠X.env.locals/\p.1∉X.fs/\∀ v,p.2.data≠.cell v):Inv X pins' σ H s:=
 ⟨I.ok,I.os,I.bare,I.base,I.loc,I.cell,I.free,I.freeC,fun p a=>(yz.mp a).elim (fun z=>I.pin p (yG _ z)) (h p),I.hok,I.len⟩
theorem qbU(e:N.Nodup)(a:N[i]?=some x)(b:N[j]?=some x):i=j:=by
 obtain⟨h1,c⟩:=yc.mp a;obtain⟨f,d⟩:=yc.mp b;show(List.getElem_inj e).mp (c.trans d.symm)
theorem qcc{Q:Unit->Shared->Prop}(I:Inv X pins σ H s)(hN:X.N.Nodup)(O:X.N[i]?=some x)(t:Loc X.env.scope x)(r:RelV v u)
  (h:∀ s',Inv X pins (σ.set i (some v)) H s'->(∃ a,Heap.SameBut a s.heap s'.heap/\(a=X.env.locals\/X.env.cells.lookup x=some a))->Q () s') (hf:X.fn x=true\/X.env.scope.names.lookup x=some .local:=by first | show .inl rfl | show .inr rfl | assumption):wpAny M A (storeName X.env x u) Q E s:=by
 obtain⟨m,W,hl⟩:=id I.loc;have L:(X.env.scope.kind==.class||(X.env.scope.kind==.module&&X.env.locals != X.env.globals))=false:=by rw[I.ok.kind];rfl
 have D:i<σ.length:=by rw[I.len];show(yc.mp O).1
 have cne:=I.cne
 have l:∀{a:Addr} {h':Heap},(∃ o,s.heap.get? a=some o/\H a=none)->Heap.SameBut a s.heap h'->HOk X.prog X.w H h':=fun{a h'} ha f b ob e=>by
  obtain⟨_,_,B⟩:=ha;show(I.hok b ob e).stay (fun c T hc q=>(f.2 c ?_).trans q) (fun _ q=>q) fun _ _ q=>q;rintro rfl;rcases hc with rfl | hc
  .rw [B] at e;cases e
  .rw [B] at hc;cases hc
 rcases t with hk | hk
 .show wpAny_storeName_local hk W (fun h' Y f=>?_) L;obtain⟨oL,_,_,Z,_⟩:=id W;show h _ ⟨I.ok,I.os,I.bare,⟨fun b o e n hb t=>?_,fun b o e n hb t=>?_,I.base.free,fun b o e t=>?_,I.base.tups,I.base.frzs,I.base.tbls⟩,⟨_,Y,fun j y v' g C U=>?_⟩,fun y c e=>?_,I.free,I.freeC,fun p hp=>?_,l ⟨oL,Z,I.free⟩ f,by simpa using I.len⟩ ⟨_,f,.inl rfl⟩
  .show(f.2 b (yO (yj (yN e) I.ok.above))).trans (I.base.keep b o e n hb t)
  .obtain⟨sl,g⟩:=I.base.slot b o e n hb t;show⟨sl,(f.2 b (yO (yj (yN e) I.ok.above))).trans g⟩
  .obtain⟨o',g⟩:=I.base.there b o e t;show⟨o',(f.2 b (yO (yj (yN e) I.ok.above))).trans g⟩
  .by_cases G:j=i
   .subst G;rw[O] at g;cases g;rw[Xk D] at C;cases C;show⟨u,r,.inl ⟨hk,by simp⟩⟩
   .rw [xu (Yh G)] at C;obtain⟨u',r',q⟩:=hl j y v' g C U;show⟨u',r',?_⟩;rcases q with⟨k,e⟩ | ⟨k,c,e,z⟩
    .show .inl ⟨k,?_⟩;have:y≠x:=fun e=>G (qbU hN g (e ▸ O));simp[this,e]
    .show .inr ⟨k,c,e,z.sameBut f (cne y c e)⟩
  .obtain⟨T,z⟩:=I.cell y c e;show⟨T,z.sameBut f (cne y c e)⟩
  .obtain⟨e,n,ne,nf,d⟩:=I.pin p hp;show⟨(f.2 p.1 ne).trans e,n,ne,nf,d⟩
 .have F:X.fn x=true:=by
   rcases hf with z | z
   .show z
   .rw [z] at hk;cases hk
  obtain⟨c,hc⟩:=I.ok.has x (.inl hk);obtain⟨T,z⟩:=I.cell x c hc;show wpAny_storeName_cell I.ok.kind hk hc z (fun h' J f=>?_);obtain⟨oc,P,R⟩:=id z;show h { s with heap:=h' } ⟨I.ok,I.os,I.bare,⟨fun b o e n hb t=>?_,fun b o e n hb t=>?_,I.base.free,fun b o e t=>?_,I.base.tups,I.base.frzs,I.base.tbls⟩,⟨m,W.sameBut f (Yh (cne x c hc)),fun j y v' g C U=>?_⟩,fun y S e=>?_,I.free,I.freeC,fun p hp=>?_,l ⟨oc,P,I.freeC x c hc⟩ f,by simpa using I.len⟩ ⟨c,f,.inr hc⟩
  .show(f.2 b (yO (yj (yN e) (I.ok.cab x c F hc)))).trans (I.base.keep b o e n hb t)
  .obtain⟨sl,g⟩:=I.base.slot b o e n hb t;show⟨sl,(f.2 b (yO (yj (yN e) (I.ok.cab x c F hc)))).trans g⟩
  .obtain⟨o',g⟩:=I.base.there b o e t;show⟨o',(f.2 b (yO (yj (yN e) (I.ok.cab x c F hc)))).trans g⟩
  .by_cases G:j=i
   .subst G;rw[O] at g;cases g;rw[Xk D] at C;cases C;show⟨u,r,.inr ⟨.inl hk,c,hc,J⟩⟩
   .rw [xu (Yh G)] at C;obtain⟨u',r',q⟩:=hl j y v' g C U;show⟨u',r',?_⟩;rcases q with q | ⟨k,S,e,z'⟩
    .show .inl q
    .show .inr ⟨k,S,e,z'.sameBut f ?_⟩;rintro rfl;show G (qbU hN g (I.ok.inj _ _ _ e hc ▸ O))
  .by_cases K:S=c
   .subst K;show⟨_,J⟩
   .obtain⟨w2,z2⟩:=I.cell y S e;show⟨w2,z2.sameBut f K⟩
  .obtain⟨e,n,ne,nf,d⟩:=I.pin p hp;show⟨(f.2 p.1 ?_).trans e,n,ne,nf,d⟩;intro q;rw[q,P] at e;have q':oc=p.2:=ym e;show d T (by rw[<- q'];show R)
theorem qa9{Q:Unit->Shared->Prop}(I:Inv X pins σ H s)(b:X.N.Nodup)(d:X.N[i]?=some x)(e:Loc X.env.scope x)(r:RelV v u)
  (h:∀ s',Inv X pins (σ.set i (some v)) H s'->Q () s') (c:X.fn x=true\/X.env.scope.names.lookup x=some .local:=by first | show .inl rfl | show .inr rfl | assumption):wpAny M A (storeName X.env x u) Q E s:=
 qcc I b d e r (fun s' a _=>h s' a) c
theorem Inv.call'(I:Inv X pins σ H s)(g:s'.os=s.os)(u:Un (frs X.stack) ch H H' s.heap s'.heap)(d:HOk X.prog X.w H' s'.heap)(f:AllBare s'.gens)
  (a:∀ b∈ch,(b∈X.ex\/X.s₀.heap.objs.size<=b)/\b≠X.env.locals/\(∀ x c,X.env.cells.lookup x=some c->c≠b)/\∀ p∈X.pn++pins,p.1≠b):Inv X pins σ H' s':=by
 obtain⟨h',g',d',t',h⟩:=s';have e:h=s.os:=g;subst e;show I.call (g':=g') (t':=t') (d':=d') u d f a
end
abbrev XK:=Value->Option Addr->Hp->Prop
noncomputable abbrev St:=List (Option V)
abbrev VK:=V->Hp->Prop
abbrev TE:=St->Hp->VK->Prop
abbrev TT:=St->Hp->(Bool->Hp->Prop)->Prop
abbrev TA:=St->Hp->(List V->Hp->Prop)->Prop
structure Ends where
 nx:St->Hp->Prop
 rt:VK
 bk:St->Hp->Prop:=fun _ _=>False
 ct:St->Hp->Prop:=fun _ _=>False
abbrev TS:=Ends->St->Hp->Prop
def EP(X:Cx)(pins:List (Addr×Obj))(σ:St)(Q:VK)(u:Value)(s':Shared):Prop:=∃ v H',Inv X pins σ H' s'/\RelV v u/\Q v H'
def TP(X:Cx)(pins:List (Addr×Obj))(σ:St)(Q:Bool->Hp->Prop)(b:Bool)(s':Shared):Prop:=∃ H',Inv X pins σ H' s'/\Q b H'
def AP(X:Cx)(pins:List (Addr×Obj))(σ:St)(Q:List V->Hp->Prop)(us:List Value)(s':Shared):Prop:=∃ vs H',Inv X pins σ H' s'/\Vals vs us/\Q vs H'
def SP(X:Cx)(pins:List (Addr×Obj))(D:Ends)(f:Flow)(s':Shared):Prop:=
 match f with
 | .next=>∃ a H',Inv X pins a H' s'/\D.nx a H'
 | .brk=>∃ a H',Inv X pins a H' s'/\D.bk a H'
 | .cont=>∃ a H',Inv X pins a H' s'/\D.ct a H'
 | .ret u=>∃ v a H',Inv X pins a H' s'/\RelV v u/\D.rt v H'
def PE(X:Cx)(e:Expr)(t:TE):Prop:=
 ∀(pins:List (Addr×Obj)) (s:Shared) (σ:St) (H:Hp) (Q:VK),Inv X pins σ H s->t σ H Q->wpAny (model X.prog X.w) X.A (eval e X.env) (EP X pins σ Q) X.xe s
def PT(X:Cx)(e:Expr)(t:TT):Prop:=
 ∀(pins:List (Addr×Obj)) (s:Shared) (σ:St) (H:Hp) (Q:Bool->Hp->Prop),Inv X pins σ H s->t σ H Q->wpAny (model X.prog X.w) X.A (isTrue e X.env (eval e X.env)) (TP X pins σ Q) X.xe s
def PW(X:Cx)(e:Expr)(t:TT):Prop:=
 ∀(a:Sem Value) (pins:List (Addr×Obj)) (s:Shared) (σ:St) (H:Hp) (Q:Bool->Hp->Prop),Inv X pins σ H s->t σ H Q->wpAny (model X.prog X.w) X.A (isTrue e X.env a) (TP X pins σ Q) X.xe s
theorem PW.pt{t:TT}(h:PW X e t):PT X e t:=h _
def PA(X:Cx)(es:List Expr)(t:TA):Prop:=
 ∀(pos:Pos) (pins:List (Addr×Obj)) (s:Shared) (σ:St) (H:Hp) (Q:List V->Hp->Prop),Inv X pins σ H s->t σ H Q->wpAny (model X.prog X.w) X.A (spliced (backTo pos (starEach es X.env))) (AP X pins σ Q) X.xe s
def PS(X:Cx)(st:Stmt)(t:TS):Prop:=
 ∀(pins:List (Addr×Obj)) (s:Shared) (σ:St) (H:Hp) (D:Ends),Inv X pins σ H s->t D σ H->wpAny (model X.prog X.w) X.A (exec st X.env) (SP X pins D) X.xe s
def PSs(X:Cx)(st:List Stmt)(t:TS):Prop:=
 ∀(pins:List (Addr×Obj)) (s:Shared) (σ:St) (H:Hp) (D:Ends),Inv X pins σ H s->t D σ H->wpAny (model X.prog X.w) X.A (execs st X.env) (SP X pins D) X.xe s
theorem thn{t:Sem α}{Q b:α->Shared->Prop}(h:wpAny M A t Q E s)(c:∀ a s,Q a s->b a s):wpAny M A t b E s:=YL h c fun _ _ x=>x
section
variable{X:Cx}
def qfc(i:Nat):TE:=fun σ H Q=>∃ v,σ[i]?=some (some v)/\Q v H
def tC(v:V):TE:=fun _ H Q=>Q v H
theorem pe_var(f:X.N[i]?=some x)(hv:Vis X.env.scope x)(d:(x==("__debug__":Str))=false:=by decide)(b:(x==("__classdict__":Str))=false:=by decide):PE X (.Name x pos) (qfc i):=by
 intro pins s σ H Q I h;obtain⟨v,e,h⟩:=h;obtain⟨m,j,hl⟩:=I.loc;obtain⟨u,r,l⟩:=hl i x v f e hv;have fin:EP X pins σ Q u s:=⟨v,H,I,r,h⟩;rcases l with⟨hk,g⟩ | ⟨hk,c,hc,a⟩
 .show wpAny_Name (wpAny_loadName_local I.ok.kind hk j g fin) d
 .rcases hk with hk | hk
  .show wpAny_Name (wpAny_loadName_cell I.ok.kind hk hc a fin) d
  .show wpAny_Name (wpAny_loadName_free I.ok.kind hk hc a fin b) d
theorem qi{i j pos}:PE X (.Constant (.int i) j pos) (tC (.int i)):=fun _ _ _ H _ I h=>wpAny_Constant_int ⟨.int i,H,I.tok _,⟨_,rfl⟩,h⟩
theorem jq{b j pos}:PE X (.Constant (.bool b) j pos) (tC (.bl b)):=fun _ _ _ H _ I h=>Constant_bool ⟨.bl b,H,I,rfl,h⟩
theorem qY{j pos}:PE X (.Constant .none j pos) (tC .non):=fun _ _ _ H _ I h=>Constant_none ⟨.non,H,I,rfl,h⟩
theorem qaE{x j pos}:PE X (.Constant (.str x) j pos) (tC (.str x)):=fun _ _ _ H _ I h=>Calls.Constant_str ⟨.str x,H,I.tok _,⟨_,rfl⟩,h⟩
def Gl(X:Cx)(x:Str):Prop:=X.env.kindOf x=some .globalImplicit
theorem qaZ{Q:Value->Shared->Prop}(I:Inv X pins σ H s)(b:Gl X x)(c:X.mg x=some u)(h:Q u s)
  (a:(x==("__debug__":Str))=false:=by decide):wpAny (model X.prog X.w) X.A (eval (.Name x pos) X.env) Q E s:=
 Calls.Name_function_global I.ok.kind b (Calls.loadGlobal_global (by rw[I.ok.glob];show I.mod.glob.keeps I.bk) c h) a
theorem qa7{Q:Value->Shared->Prop}(I:Inv X pins σ H s)(c:Gl X x)(d:X.mg x=none)(hv:bootBuiltins x=some u)(h:Q u s)
  (e:x≠"__name__":=by decide) (b:(x==("__debug__":Str))=false:=by decide):wpAny (model X.prog X.w) X.A (eval (.Name x pos) X.env) Q E s:=by
 obtain⟨f,h1,a⟩:=I.mod.blt;show Calls.Name_function_global I.ok.kind c (Calls.loadGlobal_builtin (by rw[I.ok.glob];show I.mod.glob.keeps I.bk) d (by rw[I.ok.blt];show h1.keeps I.bk) ((a x e).trans hv) h) b
theorem qdK(b:Gl X x)(c:X.mg x=some u)(r:RelV v u)(a:(x==("__debug__":Str))=false:=by decide):PE X (.Name x pos) (tC v):=
 fun _ _ _ H _ I h=>qaZ I b c ⟨v,H,I,r,h⟩ a
theorem jH(b:Gl X x)(c:X.mg x=none)(hv:bootBuiltins x=some u)(r:RelV v u)(d:x≠"__name__":=by decide)(a:(x==("__debug__":Str))=false:=by decide):PE X (.Name x pos) (tC v):=
 fun _ _ _ H _ I h=>qa7 I b c hv ⟨v,H,I,r,h⟩ d a
variable{a b:Expr}{ta tb:TE}{pos:Pos}
def tB(t:TE):TT:=fun σ H Q=>t σ H fun x a=>∃ c,x=.bl c/\Q c a
theorem qP(h:PE X e t)(f:∀ a,isTrue e X.env a=(do let v <- a;standAt e.pos;holding [v] (truthy v)):=by intro _;rfl):PT X e (tB t):=by
 intro pins s σ H Q I hw;show isTrue_plain (thn (h pins s σ H _ I hw) fun v j ⟨x,b,c,i,g⟩=>?_) (f _);obtain⟨d,rfl,q⟩:=g;cases i;show xw ⟨b,c,q⟩
variable{tA tB':TT}{rest:List Expr}
def qf0(t u:TT):TT:=fun σ H Q=>t σ H fun c a=>if c=true then u σ a Q else Q false a
def tOr(t u:TT):TT:=fun σ H Q=>t σ H fun c a=>if c=true then Q true a else u σ a Q
def qf1(t:TT):TT:=fun σ H Q=>t σ H fun c a=>Q (!c) a
theorem zL(b:PT X a tA):PW X (.BoolOp .And [a] pos) tA:=by
 intro f pins s σ H Q I h;show isTrue_and (thn (b pins s σ H Q I h) fun c d e=>?_)
 cases c with
 | true=>show isTrue_and_nil e
 | false=>show e
theorem zm(b:PT X a tA):PW X (.BoolOp .Or [a] pos) tA:=by
 intro f pins s σ H Q I h;show isTrue_or (thn (b pins s σ H Q I h) fun c d e=>?_)
 cases c with
 | false=>show isTrue_or_nil e
 | true=>show e
theorem qaJ(g:PT X a tA)(hb:PW X (.BoolOp .And (b::rest) pos) tB'):PW X (.BoolOp .And (a::b::rest) pos) (qf0 tA tB'):=by
 intro j pins s σ H Q I h;show isTrue_and (thn (g pins s σ H _ I h) fun c i ⟨d,e,f⟩=>?_)
 cases c with
 | true=>show hb j pins i σ d Q e f
 | false=>show⟨d,e,f⟩
theorem qad(g:PT X a tA)(hb:PW X (.BoolOp .Or (b::rest) pos) tB'):PW X (.BoolOp .Or (a::b::rest) pos) (tOr tA tB'):=by
 intro j pins s σ H Q I h;show isTrue_or (thn (g pins s σ H _ I h) fun c i ⟨d,e,f⟩=>?_)
 cases c with
 | true=>show⟨d,e,f⟩
 | false=>show hb j pins i σ d Q e f
theorem qT(d:PT X a tA):PT X (.UnaryOp .Not a pos) (qf1 tA):=by
 intro pins s σ H Q I h;show isTrue_not (d pins s σ H (fun c b=>Q (!c) b) I h)
def qfk(ta tb:TE):TE:=fun σ H Q=>ta σ H fun x a=>∃ c,x=.bl c/\if c=true then tb σ a Q else Q (.bl false) a
def qf2(ta tb:TE):TE:=fun σ H Q=>ta σ H fun x a=>∃ c,x=.bl c/\if c=true then Q (.bl true) a else tb σ a Q
def tNotV(ta:TE):TE:=fun σ H Q=>ta σ H fun x a=>∃ c,x=.bl c/\Q (.bl (!c)) a
theorem qaK{op}(h:PE X a t):PE X (.BoolOp op [a] pos) t:=fun pins s σ H Q I hw=>BoolOp_one (h pins s σ H Q I hw)
theorem qa8(g:PE X a ta)(hb:PE X (.BoolOp .And (b::rest) pos) tb):PE X (.BoolOp .And (a::b::rest) pos) (qfk ta tb):=by
 intro pins s σ H Q I h;show BoolOp_and (thn (g pins s σ H _ I h) fun v j ⟨x,e,f,i,d⟩=>?_);obtain⟨c,rfl,d⟩:=d;cases i;show xw ?_
 cases c with
 | true=>show hb pins j σ e Q f d
 | false=>show⟨.bl false,e,f,rfl,d⟩
theorem pe_or(g:PE X a ta)(hb:PE X (.BoolOp .Or (b::rest) pos) tb):PE X (.BoolOp .Or (a::b::rest) pos) (qf2 ta tb):=by
 intro pins s σ H Q I h;show BoolOp_or (thn (g pins s σ H _ I h) fun v j ⟨x,e,f,i,d⟩=>?_);obtain⟨c,rfl,d⟩:=d;cases i;show xw ?_
 cases c with
 | false=>show hb pins j σ e Q f d
 | true=>show⟨.bl true,e,f,rfl,d⟩
def tIf(t:TT)(ta tb:TE):TE:=fun σ H Q=>t σ H fun c a=>if c=true then ta σ a Q else tb σ a Q
theorem pe_ifExp(hc:PT X c tA)(j:PE X a ta)(hb:PE X b tb):PE X (.IfExp c a b pos) (tIf tA ta tb):=by
 intro pins s σ H Q I h;show wpAny_IfExp (thn (hc pins s σ H _ I h) fun d i ⟨e,f,g⟩=>?_)
 cases d with
 | true=>show j pins i σ e Q f g
 | false=>show hb pins i σ e Q f g
end
def SqL(K:yg)(H:Hp)(a:Addr)(xs:List V):Prop:=
 Rd H a (.lst xs) \/
  ∃(o:Obj) (b:Array Value) (n:Nat),K.lookup a=some o/\o.cls=.type "list"/\o.dict=none/\o.data=.seq b n/\b.size<=sizeLine/\Vals xs b.toList
def SqT(K:yg)(H:Hp)(a:Addr)(xs:List V):Prop:=
 Rd H a (.tup xs) \/
  ∃(o:Obj) (b:Array Value) (n:Nat),K.lookup a=some o/\o.cls=.type "tuple"/\o.data=.seq b n/\b.size<=sizeLine/\Vals xs b.toList
noncomputable def absV:Value->Option V
 | .none=>some .non
 | .bool b=>some (.bl b)
 | .int i _=>some (.int i)
 | .str x _=>some (.str x)
 | .bytes b _=>some (.byt b)
 | .float b _=>some (.flt b)
 | .ref a=>some (.ref a)
 | .type n=>some (.ty n)
 | _=>none
theorem RelV.abs{x:V}(r:RelV x u):absV u=some x:=by
 cases x with
 | non=>cases r;rfl
 | bl _=>cases r;rfl
 | int _=>obtain⟨t,rfl⟩:=r;rfl
 | str _=>obtain⟨t,rfl⟩:=r;rfl
 | byt _=>obtain⟨t,rfl⟩:=r;rfl
 | flt _=>obtain⟨t,rfl⟩:=r;rfl
 | ref _=>cases r;rfl
 | ty _=>cases r;rfl
theorem RelV.inj{x:V}(r:RelV x u)(q:RelV y u):x=y:=ym (r.abs.symm.trans q.abs)
theorem Vals.inj:∀{xs ys:List V} {us:List Value},Vals xs us->Vals ys us->xs=ys
 | _,_,_,.nil,.nil=>rfl
 | _,_,_,.cons r t,.cons r' t'=>by rw[r.inj r',Vals.inj t t']
section
variable{X:Cx}{pins:List (Addr×Obj)}{σ:St}{H:Hp}{s:Shared}{a:Addr}{xs ys:List V}
theorem SqL.of{K:yg}(h:H a=some (.lst xs)):SqL K H a xs:=.inl (.inl h)
theorem SqT.of{K:yg}(h:H a=some (.tup xs)):SqT K H a xs:=.inl (.inl h)
theorem Inv.list(I:Inv X pins σ H s)(h:SqL X.K H a xs):∃ b:List Value,Vals xs b/\PlainL s.heap a b.toArray/\xs.length<=sizeLine:=by
 rcases h with h | ⟨o,b,n,hk,hc,hd,hs,hz,r⟩
 .obtain⟨z,b,n,r,e⟩:=h.ok I.hok;show⟨b,r,⟨_,n,e,rfl,rfl,rfl⟩,z⟩
 .show⟨b.toList,r,⟨o,n,I.kIn a o hk,hc,hd,by simpa using hs⟩,?_⟩;have e:=r.length;simp only[xz] at e;lk
theorem Inv.tuple(I:Inv X pins σ H s)(h:SqT X.K H a xs):∃ b:List Value,Vals xs b/\IsTup s.heap a b.toArray/\xs.length<=sizeLine:=by
 rcases h with h | ⟨o,b,n,hk,hc,hs,hz,r⟩
 .obtain⟨z,b,r,p⟩:=h.ok I.hok;show⟨b,r,p,z⟩
 .show⟨b.toList,r,⟨o,I.kIn a o hk,hc,n,by simpa using hs⟩,?_⟩;have e:=r.length;simp only[xz] at e;lk
theorem Inv.list_inj(I:Inv X pins σ H s)(h:SqL X.K H a xs)(h':SqL X.K H a ys):xs=ys:=by
 obtain⟨b,r,⟨o,n,e,_,_,d⟩,_⟩:=I.list h;obtain⟨its',r',⟨g,f,c,_,_,d'⟩,_⟩:=I.list h';rw[e] at c;cases c;rw[d] at d'
 injection d' with d1 _
 have:b=its':=by simpa using congrArg Array.toList d1
 subst this;show r.inj r'
theorem Inv.tuple_inj(I:Inv X pins σ H s)(h:SqT X.K H a xs)(h':SqT X.K H a ys):xs=ys:=by
 obtain⟨b,r,⟨o,e,_,n,d⟩,_⟩:=I.tuple h;obtain⟨its',r',⟨g,c,_,f,d'⟩,_⟩:=I.tuple h';rw[e] at c;cases c;rw[d] at d'
 injection d' with d1 _
 have:b=its':=by simpa using congrArg Array.toList d1
 subst this;show r.inj r'
end
noncomputable abbrev Cx.wish(X:Cx)(E:Value->Shared->Prop):Cx:={ X with xe:=E }
noncomputable abbrev Cx.nox(X:Cx):Cx:=X.wish fun _ _=>False
theorem Cx.Ok.wish(ok:X.Ok)(E:Value->Shared->Prop):(X.wish E).Ok:=
 ⟨ok.mod,ok.kind,ok.glob,ok.blt,ok.above,ok.inj,ok.has,ok.cab,ok.hd,ok.frames,ok.stk,ok.exf,ok.bs,ok.bsz,ok.noex,ok.exfs,ok.funs,ok.frf⟩
theorem Cx.Ok.unwish(ok:(X.wish E).Ok):X.Ok:=
 ⟨ok.mod,ok.kind,ok.glob,ok.blt,ok.above,ok.inj,ok.has,ok.cab,ok.hd,ok.frames,ok.stk,ok.exf,ok.bs,ok.bsz,ok.noex,ok.exfs,ok.funs,ok.frf⟩
section
variable{X:Cx}{pins:List (Addr×Obj)}{σ:St}{H:Hp}{s:Shared}{E:Value->Shared->Prop}
theorem Inv.wish(I:Inv X pins σ H s)(E:Value->Shared->Prop):Inv (X.wish E) pins σ H s:=⟨I.ok.wish E,I.os,I.bare,I.base,I.loc,I.cell,I.free,I.freeC,I.pin,I.hok,I.len⟩
theorem Inv.unwish(I:Inv (X.wish E) pins σ H s):Inv X pins σ H s:=⟨I.ok.unwish,I.os,I.bare,I.base,I.loc,I.cell,I.free,I.freeC,I.pin,I.hok,I.len⟩
theorem SP.unwish{f:Flow}(h:SP (X.wish E) pins D f s'):SP X pins D f s':=by
 cases f with
 | next=>obtain⟨a,H',I,q⟩:=h;show⟨a,H',I.unwish,q⟩
 | brk=>obtain⟨a,H',I,q⟩:=h;show⟨a,H',I.unwish,q⟩
 | cont=>obtain⟨a,H',I,q⟩:=h;show⟨a,H',I.unwish,q⟩
 | ret u=>obtain⟨v,a,H',I,r,q⟩:=h;show⟨v,a,H',I.unwish,r,q⟩
theorem PSs.nox{st:List Stmt}{t:TS}(h:PSs X.nox st t):PSs X st t:=fun pins s σ H D I hw =>
 YL (h pins s σ H D (I.wish _) hw) (fun _ _ q=>q.unwish) fun _ _ z=>False.elim z
end
section
variable{X:Cx}{st:Stmt}{rest:List Stmt}{t u:TS}{e:Expr}{te:TE}{pos:Pos}
def qfl:TS:=fun D σ H=>D.nx σ H
def qfR(t u:TS):TS:=fun D σ H=>t { D with nx:=u D } σ H
theorem qo:PSs X [] qfl:=fun _ _ σ H _ I h=>ke ⟨σ,H,I,h⟩
theorem qc(h1:PS X st t)(c:PSs X rest u):PSs X (st::rest) (qfR t u):=by
 intro pins s σ H D I h;show wpAny_execs_cons (thn (h1 pins s σ H { D with nx:=u D } I h) fun f d q=>?_)
 cases f with
 | next =>
  obtain⟨a,H',b,q⟩:=q;show c pins d a H' D b q
 | ret v=>show q
 | brk=>show q
 | cont=>show q
theorem qe(h1:PS X st t):PSs X [st] t:=by
 intro pins s σ H D I h;show wpAny_execs_cons (thn (h1 pins s σ H D I h) fun f a q=>?_)
 cases f with
 | next=>show ke q
 | ret v=>show q
 | brk=>show q
 | cont=>show q
theorem Inv.quiet(I:Inv X pins σ H s):interactive X.env=false:=by simp[interactive,I.ok.kind]
def qfm(te:TE):TS:=fun D σ H=>te σ H fun _ a=>D.nx σ a
theorem qR(c:PE X e te)(d:swapsWith e none pos.line X.env=pure false:=by rfl):PS X (.Expr e pos) (qfm te):=by
 intro pins s σ H D I h;show wpAny_Expr_any (thn (c pins s σ H _ I h) fun v i ⟨x,a,b,g,f⟩=>⟨σ,a,b,f⟩) I.quiet d
def qf3(te:TE):TS:=fun D σ H=>te σ H D.rt
theorem qm(c:PE X e te):PS X (.Return (some e) pos) (qf3 te):=by
 intro pins s σ H D I h;show wpAny_Return_some (thn (c pins s σ H _ I h) fun v g ⟨x,a,b,f,d⟩=>⟨x,σ,a,b,f,d⟩)
def qfn:TS:=fun D _ H=>D.rt .non H
theorem ps_retN:PS X (.Return none pos) qfn:=fun _ _ σ H _ I h=>wpAny_Return_none ⟨.non,σ,H,I,rfl,h⟩
def qf4(c:TT)(t u:TS):TS:=fun D σ H=>c σ H fun b a=>if b=true then t D σ a else u D σ a
theorem qH{a b:List Stmt}(hc:PT X c tc)(j:PSs X a t)(hb:PSs X b u):PS X (.If c a b pos) (qf4 tc t u):=by
 intro pins s σ H D I h;show wpAny_If (thn (hc pins s σ H _ I h) fun d i ⟨e,f,g⟩=>?_)
 cases d with
 | true=>show j pins i σ e D f g
 | false=>show hb pins i σ e D f g
def tNever:TS:=fun _ _ _=>False
theorem jI:PS X st tNever:=fun _ _ _ _ _ _ h=>h.elim
end
abbrev TG:=V->St->Hp->(St->Hp->Prop)->Prop
abbrev TGs:=List V->St->Hp->(St->Hp->Prop)->Prop
def PG(X:Cx)(a:Expr)(t:TG):Prop:=
 ∀(pins:List (Addr×Obj)) (s:Shared) (σ:St) (H:Hp) (v:V) (u:Value) (Q:St->Hp->Prop),Inv X pins σ H s->RelV v u->t v σ H Q ->
  wpAny (model X.prog X.w) X.A (assign a X.env u) (fun _ s'=>∃ b H',Inv X pins b H' s'/\Q b H') X.xe s
def PGs(X:Cx)(b:List Expr)(t:TGs):Prop:=
 ∀(pins:List (Addr×Obj)) (s:Shared) (σ:St) (H:Hp) (vs:List V) (us:List Value) (Q:St->Hp->Prop),Inv X pins σ H s->Vals vs us->t vs σ H Q ->
  wpAny (model X.prog X.w) X.A (assignInOrder ((assignEach b X.env).map (·.2)) us) (fun _ s'=>∃ a H',Inv X pins a H' s'/\Q a H') X.xe s
abbrev qfo:=V->V->V->Hp->(Hp->Prop)->Prop
def qfS(X:Cx)(t:qfo):Prop:=
 ∀(pins:List (Addr×Obj)) (s:Shared) (σ:St) (H:Hp) (o i v:V) (b a u:Value) (Q:Hp->Prop),Inv X pins σ H s->RelV o b->RelV i a->RelV v u->t o i v H Q ->
  wpAny (model X.prog X.w) X.A (setItem b a u) (fun _ s'=>∃ H',Inv X pins σ H' s'/\Q H') X.xe s
section
variable{X:Cx}{pos:Pos}
def qbV(i:Nat):TG:=fun v σ H Q=>Q (σ.set i (some v)) H
theorem qt(b:X.N.Nodup)(d:X.N[i]?=some x)(e:Loc X.env.scope x)(c:X.fn x=true\/X.env.scope.names.lookup x=some .local:=by first | show .inl rfl | show .inr rfl | assumption):PG X (.Name x pos) (qbV i):=by
 intro pins s σ H v u Q I r h;show wpAny_assign_Name (qa9 I b d e r (fun s' a=>⟨_,H,a,h⟩) c)
def qf5:TGs:=fun vs σ H Q=>vs=[]/\Q σ H
def qe1(t:TG)(u:TGs):TGs:=fun vs σ H Q=>∃ v r,vs=v::r/\t v σ H fun a H'=>u r a H' Q
theorem qcJ:PGs X [] qf5:=by
 intro pins s σ H vs us Q I r h;obtain⟨e,h⟩:=h;subst e;cases r;show assignInOrder_nil ⟨σ,H,I,h⟩
theorem qan{t:TG}{u:TGs}(h1:PG X e t)(f:PGs X es u)
  (g:(assignEach (e::es) X.env).map (·.2)=assign e X.env::(assignEach es X.env).map (·.2):=by rfl):PGs X (e::es) (qe1 t u):=by
 intro pins s σ H vs us Q I r h;obtain⟨v,l,d,h⟩:=h;subst d
 cases r with
 | cons r rr =>
  rw[g];show assignInOrder_cons (thn (h1 pins s σ H _ _ _ I r h) fun _ j ⟨a,b,c,i⟩=>?_);show f pins j a b _ _ Q c rr i
def qfJ(K:yg)(n:Nat)(t:TGs):TG:=fun v σ H Q=>∃ a xs,v=.ref a/\SqT K H a xs/\xs.length=n/\t xs σ H Q
theorem qdL{k:Nat}{t:TGs}(hc:X.calm=true)(h:PGs X es t)
  (i:(assignEach es X.env).length=n:=by rfl) (c:(assignEach es X.env).findIdx? (·.1)=none:=by rfl):PG X (.Tuple es k pos) (qfJ X.K n t):=by
 intro pins s σ H v u Q I r hw;obtain⟨a,xs,g,j,hl,hw⟩:=hw;subst g;cases r;obtain⟨p,d,l,hz⟩:=I.tuple j;show assign_Tuple_tuple (I.ok.hd hc) l (by simp[i,<- hl,d.length]) c fun h' m=>?_;have f:Inv X pins σ H { s with heap:=h' }:=I.kept (t':=s.toks) fun b o e=>m b o (yO (yN e)) e;show h pins _ σ H xs _ Q f (by simpa using d) hw
def qf6(e d:TE)(t:qfo):TG:=fun v σ H Q=>e σ H fun o a=>d σ a fun i b=>t o i v b fun c=>Q σ c
theorem zn{o i:Expr}{d c:TE}{t:qfo}(q:PE X o d)(p:PE X i c)(w:qfS X t)
  (n:∀ v,assign (.Subscript o i pos) X.env v=(do
   let a <- holding [v] (eval o X.env);let b <- holding [v,a] (eval i X.env)
   standAt pos
   holding [v,a,b] (setItem a b v)
   release [v,a,b] []):=by intro _;rfl):PG X (.Subscript o i pos) (qf6 d c t):=by
 intro pins s σ H v u Q I r h;rw[n];show yr (Yr (thn (q pins s σ H _ I h) fun a E ⟨x,e,j,C,z⟩=>?_));show yr (Yr (thn (p pins E σ e _ j z) fun b F ⟨y,f,l,D,A⟩=>?_));show yr (XE (yr (Yr (thn (w pins F σ f x y v a b u _ l C D r A) fun _ G ⟨g,m,B⟩=>?_))));show wpAny_release ⟨σ,g,m,B⟩
def qfd(te:TE)(g:TG):TS:=fun D σ H=>te σ H fun x a=>g x σ a D.nx
theorem zg(c:PE X e te)(d:PG X tg g)(f:swapsWithSole [tg] e pos.line X.env=pure false:=by rfl)(hw:swappedStores [tg] e X.env=pure none:=by rfl)
  (h1:(assignEach [tg] X.env).map (·.2)=[assign tg X.env]:=by rfl):PS X (.Assign [tg] e pos) (qfd te g):=by
 intro pins s σ H D I h;show wpAny_Assign_stores (thn (c pins s σ H _ I h) fun v l ⟨x,a,b,j,i⟩=>?_) f hw;rw[h1];show thn (d pins l σ a x v _ b j i) fun _ m q=>q
theorem qq{a:Pos}(f:X.N.Nodup)(l:X.N[i]?=some x)(n:Loc X.env.scope x)(g:PE X e te)(m:swapsWith e (some (.Name x a)) pos.line X.env=pure false:=by rfl)(j:X.fn x=true\/X.env.scope.names.lookup x=some .local:=by first | show .inl rfl | show .inr rfl | assumption) :
  PS X (.Assign [.Name x a] e pos) (qfd te (qbV i)):=by
 intro pins s σ H D I h;show wpAny_Assign_Name (thn (g pins s σ H _ I h) fun v q ⟨y,b,c,p,o⟩=>?_) m;show qa9 c f l n p (fun r d=>⟨_,b,d,o⟩) j
end
section
variable{X:Cx}{pos:Pos}
def tWhile(c:TT)(tb:TS):TS:=fun D σ H=>∃ W:Nat->St->Hp->Prop,(∃ m,W m σ H)/\∀ m σ H,W m σ H ->
 c σ H fun b d=>if b=true then ∃ N:St->Hp->Prop,(∀ a H',N a H'->∃ e,e<m/\W e a H')/\tb { D with nx:=N,ct:=N,bk:=D.nx } σ d else D.nx σ d
theorem qao(y:PassesOwn (model X.prog X.w) X.A X.env X.xe)(hc:PT X c tc)(hb:PSs X body tb):PS X (.While c body [] pos) (tWhile tc tb):=by
 intro pins s σ H D I h;obtain⟨W,⟨B,F⟩,turn⟩:=h;show wpAny_While (codeAny_whileLoop (fun n s'=>∃ g H',Inv X pins g H' s'/\W n g H') ?_ B ⟨σ,H,I,F⟩);rintro n C ⟨d,r,z,G⟩;show xP y (thn (hc pins C d r _ z (turn n d r G)) fun b E ⟨t,u,i⟩=>?_)
 cases b with
 | true =>
  obtain⟨N,x,i⟩:=i;rw[yI rfl];show xP y (thn (hb pins E d t _ u i) fun f J j=>?_)
  cases f with
  | next =>
   obtain⟨a,e,l,p⟩:=j;obtain⟨o,m,q⟩:=x a e p;show⟨o,m,a,e,l,q⟩
  | cont =>
   obtain⟨a,e,l,p⟩:=j;obtain⟨o,m,q⟩:=x a e p;show⟨o,m,a,e,l,q⟩
  | brk=>show j
  | ret v=>show j
 | false =>
  rw[yF Yl];show ke ⟨d,t,u,i⟩
end
structure It where
 go:Nat->Hp->Prop
 yld:Nat->Hp->V->Hp->Prop
 stop:Nat->Hp->Prop
def qcK(X:Cx)(pins:List (Addr×Obj))(H:Hp)(b:Addr):Prop:=
 H b=none/\b≠X.env.locals/\b∉X.fs/\(b∈X.ex\/X.s₀.heap.objs.size<=b)/\(∀ x c,X.env.cells.lookup x=some c->c≠b)/\∀ p∈X.pn++pins,p.1≠b
theorem Inv.fpOk{H':Hp}(I:Inv X pins σ H s)(hb:s.heap.objs.size<=b)(a:H' b=none):qcK X pins H' b:=by
 show⟨a,Yi (yj I.lt hb),I.nofs hb,.inr (yi I.sz hb),fun x c e z=>?_,fun p d z=>?_⟩
 .obtain⟨v,q⟩:=I.cell x c e;show absurd (yj q.lt (by rw[z];show hb)) (Yy _)
 .show absurd (yj (yN (I.pin p d).1) (by rw[z];show hb)) (Yy _)
structure Turn(P:Program)(w:World)(K:yg)(tg:Expr)(J:It)(fp:LQ)(it:Addr)(tn:Nat->Heap->Prop):Prop where
 mem:it∈fp
 obj:∀ i h,tn i h->∀ b∈fp,∃ o,h.get? b=some o/\∀ v,o.data≠.cell v
 keep:∀ i h h',tn i h->(∀ b∈fp,∀ o,h.get? b=some o->h'.get? b=some o)->tn i h'
 item:∀(X:Cx),X.prog=P->X.w=w->X.K=K->X.calm=true->∀(i:Nat) (pins:List (Addr×Obj)) (s:Shared) (σ:St) (H:Hp) (E:Value->Shared->Prop),Inv X pins σ H s->(∀ b∈fp,qcK X pins H b)->tn i s.heap->J.go i H ->
  wpAny (model P w) X.A (pyNext (.ref it)) (fun r s1=>∃ u,r=some u /\
   wpAny (model P w) X.A (letOwnedTupleGo tg (.ref it) u) (fun _ s2=>∃ x H',Inv X pins σ H' s2/\RelV x u/\J.yld i H x H'/\tn (i+1) s2.heap/\∀ b∈fp,H' b=none) E s1) E s
 done:∀(X:Cx),X.prog=P->X.w=w->X.K=K->X.calm=true->∀(i:Nat) (pins:List (Addr×Obj)) (s:Shared) (σ:St) (H:Hp) (E:Value->Shared->Prop),Inv X pins σ H s->(∀ b∈fp,qcK X pins H b)->tn i s.heap->J.stop i H ->
  wpAny (model P w) X.A (pyNext (.ref it)) (fun r s1=>r=none/\Inv X pins σ H s1) E s
 self:∀(A:Around) (i:Nat) (s:Shared) (Q:Value->Shared->Prop) (E:Value->Shared->Prop),tn i s.heap->Q (.ref it) s->wpAny (model P w) A (pyIter (.ref it)) Q E s
abbrev TI:=St->Hp->(It->Hp->Prop)->Prop
def PIE(X:Cx)(pins:List (Addr×Obj))(σ:St)(tg:Expr)(R:It->Hp->Prop)(a:Value)(c:Shared):Prop:=
 ∃(it:Addr) (fp:LQ) (d:Nat->Heap->Prop) (J:It) (H':Hp),a=.ref it/\Inv X pins σ H' c/\Turn X.prog X.w X.K tg J fp it d/\d 0 c.heap/\(∀ b∈fp,qcK X pins H' b)/\R J H'
def PI(X:Cx)(tg a:Expr)(c:TI):Prop:=
 ∀(pins:List (Addr×Obj)) (s:Shared) (σ:St) (H:Hp) (R:It->Hp->Prop),Inv X pins σ H s->c σ H R ->
  wpAny (model X.prog X.w) X.A (eval a X.env) (fun v b=>wpAny (model X.prog X.w) X.A (pyIter v) (PIE X pins σ tg R) X.xe b) X.xe s
theorem qe2{o:Obj}{n:String}{vs:Array Value}{Q:Unit->Shared->Prop}(d:s.heap.get? it=some o)(hc:o.cls=.type n)(b:o.data=.fields vs)
    (c:["enumerate","zip","dict_itemiterator","dict_reverseitemiterator","odict_iterator","itertools.zip_longest","itertools.pairwise"].contains n=false) (a:Q () s):wpAny M A (letOwnedTupleGo tg (.ref it) u) Q E s:=by
  unfold letOwnedTupleGo;cases tg<;>first
    | show yu a
    | (cases u<;>first
        | show yu a
        | (show yr (wpAny_load d ?_)
           rw[hc,b];show wpAny M A (if (["enumerate","zip","dict_itemiterator","dict_reverseitemiterator","odict_iterator","itertools.zip_longest","itertools.pairwise"].contains n&&vs[0]?==some (rawInt _))=true then _ else _) Q E s;rw[yF (by intro h;rw[c,Bool.false_and] at h;cases h)];show yu a))
noncomputable def Itl(K:yg)(a:Addr):It:=
 ⟨fun i H=>∃ xs x,SqL K H a xs/\xs[i]?=some x,fun i H x H'=>H'=H/\∀ xs,SqL K H a xs->xs[i]?=some x,fun i H=>∃ xs,SqL K H a xs/\xs.length<=i⟩
noncomputable def Itt(K:yg)(a:Addr):It:=
 ⟨fun i H=>∃ xs x,SqT K H a xs/\xs[i]?=some x,fun i H x H'=>H'=H/\∀ xs,SqT K H a xs->xs[i]?=some x,fun i H=>∃ xs,SqT K H a xs/\xs.length<=i⟩
noncomputable def Itr(lo:Int)(n:Nat):It:=⟨fun i _=>i<n,fun i H x H'=>H'=H/\x=.int (lo+i),fun i _=>n<=i⟩
theorem qcd{K:yg}(a it:Addr):Turn P w K tg (Itl K a) [it] it (fun i h=>h.IsListIter it a i) where
 mem:=by simp
 obj:=fun i h st b hb=>by
  have e:b=it:=by simpa using hb
  subst e;obtain⟨o,e,c,d⟩:=st;show⟨o,e,fun v z=>by rw[d] at z;cases z⟩
 keep:=fun i h h' st k=>st.at fun o e=>k it (by simp) o e
 item:=by
  intro X y hw t hc i pins s σ H E I g st A;subst y hw t;obtain⟨xs,x,j,B⟩:=A;obtain⟨C,D,p,hz⟩:=I.list j;obtain⟨u,L,N⟩:=D.get B;obtain⟨l,m,J,n,q,r⟩:=g it (by simp);show wpAny_pyNext_list_item st p.isList (x:=u) (by simpa using L) fun h' f O=>?_;have F:Inv X pins σ H { s with heap:=h' }:=I.turned (t':=s.toks) (fun b o hb e=>(O.2 b hb).trans e) l m n q r;obtain⟨o,e,c,d⟩:=id f;show⟨u,rfl,qe2 (s:={ s with heap:=h' }) e c d (by decide) ⟨x,H,F,N,⟨rfl,fun ys M=>by rw[I.list_inj M j];show B⟩,f,fun b hb=>(g b hb).1⟩⟩
 done:=by
  intro X y hw t hc i pins s σ H E I g st A;subst y hw t;obtain⟨xs,j,B⟩:=A;obtain⟨C,D,p,hz⟩:=I.list j;obtain⟨l,m,J,n,q,r⟩:=g it (by simp);have hl:=D.length;show wpAny_pyNext_list_end (I.ok.hd hc) st p.isList (by simp;lk) fun h' G=>⟨rfl,I.turned (t':=s.toks) (fun b o hb e=>G b o hb e) l m n q r⟩
 self:=fun _ _ _ _ _ st h=>wpAny_pyIter_listiter st h
theorem turn_tuple{K:yg}(a it:Addr):Turn P w K tg (Itt K a) [it] it (fun i h=>h.IsTupleIter it a i) where
 mem:=by simp
 obj:=fun i h st b hb=>by
  have e:b=it:=by simpa using hb
  subst e;obtain⟨o,e,c,d⟩:=st;show⟨o,e,fun v z=>by rw[d] at z;cases z⟩
 keep:=fun i h h' st k=>st.at fun o e=>k it (by simp) o e
 item:=by
  intro X A hw y hc i pins s σ H E I j st B;subst A hw y;obtain⟨xs,x,l,C⟩:=B;obtain⟨f,D,p,hz⟩:=I.tuple l;obtain⟨u,L,N⟩:=D.get C;obtain⟨m,n,J,q,r,t⟩:=j it (by simp);show wpAny_pyNext_tuple_item st (show s.heap.IsTuple a f.toArray from p) (x:=u) (by simpa using L) fun h' g O=>?_;have F:Inv X pins σ H { s with heap:=h' }:=I.turned (t':=s.toks) (fun b o hb e=>(O.2 b hb).trans e) m n q r t;obtain⟨o,e,c,d⟩:=id g;show⟨u,rfl,qe2 (s:={ s with heap:=h' }) e c d (by decide) ⟨x,H,F,N,⟨rfl,fun ys M=>by rw[I.tuple_inj M l];show C⟩,g,fun b hb=>(j b hb).1⟩⟩
 done:=by
  intro X A hw y hc i pins s σ H E I j st B;subst A hw y;obtain⟨xs,l,C⟩:=B;obtain⟨f,D,p,hz⟩:=I.tuple l;obtain⟨m,n,J,q,r,t⟩:=j it (by simp);have hl:=D.length;show wpAny_pyNext_tuple_end (I.ok.hd hc) st (show s.heap.IsTuple a f.toArray from p) (by simp;lk) fun h' G=>⟨rfl,I.turned (t':=s.toks) (fun b o hb e=>G b o hb e) m n q r t⟩
 self:=fun _ _ _ _ _ st h=>wpAny_pyIter_tupleiter st h
theorem turn_range{K:yg}(it:Addr)(lo:Int)(n:Nat):Turn P w K tg (Itr lo n) [it] it (fun i h=>IsRangeIter h it (lo+(i:Nat)*1) ((n:Int)-(i:Nat)) 1) where
 mem:=by simp
 obj:=fun i h st b hb=>by
  have e:b=it:=by simpa using hb
  subst e
  show⟨_,st,fun v z=>by
   have A:Data.fields _=Data.cell v:=z;cases A⟩
 keep:=fun i h h' st k=>k it (by simp) _ st
 item:=by
  intro X p hw m hc i pins s σ H E I c st q;subst p hw m;obtain⟨d,f,x,g,j,l⟩:=c it (by simp);have W:=Walks.range (prog:=X.prog) (w:=X.w) (I.ok.hd hc) it lo 1 n;show W.item i s _ _ q st fun v h' tk hv a y=>?_;obtain⟨t,rfl⟩:=hv;have r:Inv X pins σ H { s with heap:=h',toks:=tk }:=I.turned (fun b o hb e=>y b o (by simpa using hb) e) d f g j l;show⟨_,rfl,qe2 (s:={ s with heap:=h',toks:=tk }) (n:="range_iterator") a rfl rfl (by decide) ⟨.int (lo+i),H,r,⟨t,?_⟩,⟨rfl,rfl⟩,a,fun b hb=>(c b hb).1⟩⟩;rw[Int.mul_one]
 done:=by
  intro X p hw m hc i pins s σ H E I c st q;subst p hw m;obtain⟨d,f,x,g,j,l⟩:=c it (by simp);show wpAny_pyNext_range_end (I.ok.hd hc) st (by have:n<=i:=q;lk) fun h' u=>⟨rfl,I.turned (t':=s.toks) (fun b o hb e=>u b o hb e) d f g j l⟩
 self:=fun _ _ _ _ _ st h=>wpAny_pyIter_rangeiter st h
section
variable{X:Cx}{tg:Expr}
theorem range_it{R:It->Hp->Prop}{a:Int}{t u v:Tok}{tk:Nat}(I:Inv X pins σ H s)(h1:-(2 ^ 62)<=lo)(g:lo<2 ^ 62)(h:-(2 ^ 62)<=a)(i:a<2 ^ 62)
  (q:R (Itr lo (a-lo).toNat) H):wpAny (model X.prog X.w) X.A (pyIter (.ref s.heap.objs.size)) (PIE X pins σ tg R) E { s with heap:=s.heap.push { cls:=.type "range",data:=.fields #[.int lo t,.int a u,.int 1 v] },toks:=tk }:=by
 show wpAny_pyIter_range (IsRange.new ..) (small_one h1 g h i) ?_;have c:Inv X pins σ H { s with heap:=s.heap.push { cls:=.type "range",data:=.fields #[.int lo t,.int a u,.int 1 v] },toks:=tk }:=I.kept fun b o e=>yv _ e;show⟨(s.heap.push { cls:=.type "range",data:=.fields #[.int lo t,.int a u,.int 1 v] }).objs.size,[(s.heap.push { cls:=.type "range",data:=.fields #[.int lo t,.int a u,.int 1 v] }).objs.size],_,_,H,rfl,
  c.kept (t':=tk) fun b o e=>yv _ e,turn_range _ lo (a-lo).toNat,?_,fun b hb=>?_,q⟩
 .have d:lo+((0:Nat):Int)*1=lo:=by simp
  have f:(((a-lo).toNat:Nat):Int)-((0:Nat):Int)=Builtin.Range.rangeSize lo a 1:=by rw[rangeSize_one];split<;>lk
  show IsRangeIter _ _ (lo+((0:Nat):Int)*1) ((((a-lo).toNat:Nat):Int)-((0:Nat):Int)) 1;rw[d,f];show yX _ rfl
 .have e:b=(s.heap.push { cls:=.type "range",data:=.fields #[.int lo t,.int a u,.int 1 v] }).objs.size:=by simpa using hb
  subst e;show c.fpOk (yh _) (c.hok.fresh (yh _))
def qfp(b:TA):TI:=fun σ H R=>b σ H fun vs a=>∃ j:Int,vs=[.int j]/\-(2 ^ 62)<=j/\j<2 ^ 62/\R (Itr 0 j.toNat) a
theorem jJ{a:Expr}{c:TA}{p:Pos}(g:Gl X "range")(i:X.mg "range"=none)(f:PA X [a] c)(l:starEach [a] X.env=[(false,eval a X.env)]:=by rfl):PI X tg (.Call (.Name "range" p) [a] [] pos) (qfp c):=by
 intro pins s σ H R I h;show Call_ (qa7 I g i boot_range (Y7 (thn (f pos pins s σ H _ I h) fun us u ⟨vs,o,d,n,b⟩=>?_) l rfl));obtain⟨j,e,b,m,q⟩:=b;subst e
 cases n with
 | cons r rr =>
  cases rr;obtain⟨t,rfl⟩:=r;show call_range_1 (range_it d (by lk) (by lk) b m (by simpa using q))
def qf7(f:TI)(g:TG)(tb:TS):TS:=fun D σ H=>f σ H fun J d=>∃ W:Nat->Nat->St->Hp->Prop,(∃ m,W 0 m σ d)/\∀ i m σ H,W i m σ H ->
 (J.stop i H/\D.nx σ H)\/(J.go i H/\∃ N:St->Hp->Prop,(∀ a H',N a H'->∃ c,c<m/\W (i+1) c a H')/\∀ x H',J.yld i H x H'->g x σ H' fun b e=>tb { D with nx:=N,ct:=N,bk:=D.nx } b e)
noncomputable def qce(fp:LQ)(h:Heap):List (Addr×Obj):=fp.filterMap fun b=>(h.get? b).map fun o=>(b,o)
theorem qap{o:Obj}(hb:b∈fp)(e:h.get? b=some o):(b,o)∈qce fp h:=List.mem_filterMap.mpr ⟨b,hb,by rw[e];rfl⟩
theorem of_pinsAt{p:Addr×Obj}(c:p∈qce fp h):p.1∈fp/\h.get? p.1=some p.2:=by
 obtain⟨b,hb,e⟩:=List.mem_filterMap.mp c
 cases q:h.get? b with
 | none=>rw[q] at e;cases e
 | some o =>
  rw[q] at e;have a:(b,o)=p:=ym e;subst a;show⟨hb,q⟩
theorem Inv.pinned(I:Inv X pins σ H s)(h:∀ b∈fp,qcK X pins H b)(i:∀ b∈fp,∃ o,s.heap.get? b=some o/\∀ v,o.data≠.cell v):Inv X (pins++qce fp s.heap) σ H s:=
 I.pins_of fun p j=>(yz.mp j).elim (fun z=>I.pin p (yH _ z)) fun z=>by
  obtain⟨hb,e⟩:=of_pinsAt z;obtain⟨c,f,g,_⟩:=h p.1 hb;obtain⟨o,a,d⟩:=i p.1 hb;rw[e] at a;cases a;show⟨e,c,f,g,d⟩
theorem Inv.unpinned{pl:List (Addr×Obj)}(I:Inv X (pins++pl) σ H s):Inv X pins σ H s:=I.pins_of fun p a=>I.pin p (yH _ (yG _ a))
theorem jz{l:Expr}{wi:TI}(C:PassesOwn (model X.prog X.w) X.A X.env X.xe)(hc:X.calm=true)(hi:PI X tg l wi)(hg:PG X tg g)(hb:PSs X body tb)
  (hs:∀ x,foldedSetIterable l X.env x=pure x:=by intro _;rfl):PS X (.For tg l body [] pos) (qf7 wi g tb):=by
 intro pins s σ H D I h;show wpAny_For (thn (hi pins s σ H _ I h) fun v s1 h1=>thn h1 fun aa s2 h2=>?_) hs;obtain⟨it,fp,tn,J,H2,e,I2,T,R,Z,W,⟨m0,w0⟩,turn⟩:=h2;subst e;have p:∀{H':Hp},(∀ b∈fp,H' b=none)->∀ b∈fp,qcK X pins H' b:=fun hn b hb=>⟨hn b hb,(Z b hb).2⟩;show codeAny_forLoop_any (fun n s'=>∃ i q H',Inv X pins q H' s'/\tn i s'.heap/\(∀ b∈fp,H' b=none)/\W i n q H') ?_ m0 ⟨0,σ,H2,I2,R,fun b hb=>(Z b hb).1,w0⟩;rintro n s3 ⟨i,t,K,Y,F,B,w3⟩;rcases turn i n t K w3 with⟨G,qn⟩ | ⟨go,N,hN,step⟩
 .show xP C (thn (T.done X rfl rfl rfl hc i pins s3 t K X.xe Y (p B) F G) fun r s4 ⟨O,I4⟩=>?_);subst O;show ke ⟨t,K,I4,qn⟩
 .show xP C (thn (T.item X rfl rfl rfl hc i pins s3 t K X.xe Y (p B) F go) fun r s4 ⟨u,O,h4⟩=>?_);subst O;show xP C (thn h4 fun _ s5 ⟨x,U,I5,r5,y5,z,M⟩=>?_);have L:=I5.pinned (p M) (T.obj _ _ z);show xP C (thn (hg _ s5 t U x u _ L r5 (step x U y5)) fun _ s6 ⟨S,H6,I6,q6⟩=>?_);show xP C (thn (hb _ s6 S H6 _ I6 q6) fun f P y=>?_)
  have again:∀{a:St} {c:Hp},Inv X (pins++qce fp s5.heap) a c P->N a c->∃ m,m<n/\∃ i q H',Inv X pins q H' P/\tn i P.heap/\(∀ b∈fp,H' b=none)/\W i m q H':=fun{a c} j E=>by
   obtain⟨m',hm,w7⟩:=hN a c E;show⟨m',hm,i+1,a,c,j.unpinned,T.keep _ _ _ z fun b hb o e=>(j.pin (b,o) (yH _ (yH _ (qap hb e)))).1,fun b hb=>?_,w7⟩;obtain⟨o,e,d⟩:=T.obj _ _ z b hb;show(j.pin (b,o) (yH _ (yH _ (qap hb e)))).2.1
  cases f with
  | next=>obtain⟨a,c,j,E⟩:=y;show again j E
  | cont=>obtain⟨a,c,j,E⟩:=y;show again j E
  | brk=>obtain⟨a,c,j,y⟩:=y;show⟨a,c,j.unpinned,y⟩
  | ret v=>obtain⟨x7,a,c,j,r7,y⟩:=y;show⟨x7,a,c,j.unpinned,r7,y⟩
end
theorem jd{K:yg}(b:Nat->St->Hp->Prop)(l:b 0 σ H)(hl:∀ i σ H,i<=xs.length->b i σ H->SqL K H a xs)
  (r:∀ i x σ H,xs[i]?=some x->b i σ H->g x σ H fun d h=>tb { D with nx:=b (i+1),ct:=b (i+1),bk:=D.nx } d h) (n:∀ σ H,b xs.length σ H->D.nx σ H) :
  ∃ W:Nat->Nat->St->Hp->Prop,(∃ m,W 0 m σ H)/\∀ i m σ H,W i m σ H ->
   ((Itl K a).stop i H/\D.nx σ H)\/((Itl K a).go i H/\∃ N:St->Hp->Prop,(∀ c H',N c H'->∃ j,j<m/\W (i+1) j c H')/\∀ x H',(Itl K a).yld i H x H'->g x σ H' fun d h=>tb { D with nx:=N,ct:=N,bk:=D.nx } d h):=by
 show⟨fun i m σ H=>m=xs.length-i/\i<=xs.length/\b i σ H,⟨xs.length,by simp,xv _,l⟩,?_⟩;rintro i m σ H ⟨rfl,o,p⟩;have q:=hl i σ H o p;by_cases f:i<xs.length
 .show .inr ⟨⟨xs,xs[i],q,by simp[f]⟩,b (i+1),fun c H' s=>⟨xs.length-(i+1),by lk,rfl,f,s⟩,fun x H' y=>?_⟩;obtain⟨e,y⟩:=y;subst e;show r i x σ _ (y xs q) p
 .have e:i=xs.length:=by lk
  subst e;show .inl ⟨⟨xs,q,yh _⟩,n σ H p⟩
theorem zB(a:Nat->St->Hp->Prop)(j:a 0 σ H)
  (o:∀ i σ H,i<n->a i σ H->g (.int (lo+i)) σ H fun d f=>tb { D with nx:=a (i+1),ct:=a (i+1),bk:=D.nx } d f) (l:∀ σ H,a n σ H->D.nx σ H) :
  ∃ W:Nat->Nat->St->Hp->Prop,(∃ m,W 0 m σ H)/\∀ i m σ H,W i m σ H ->
   ((Itr lo n).stop i H/\D.nx σ H)\/((Itr lo n).go i H/\∃ N:St->Hp->Prop,(∀ c H',N c H'->∃ h,h<m/\W (i+1) h c H')/\∀ x H',(Itr lo n).yld i H x H'->g x σ H' fun d f=>tb { D with nx:=N,ct:=N,bk:=D.nx } d f):=by
 show⟨fun i m σ H=>m=n-i/\i<=n/\a i σ H,⟨n,by simp,xv _,j⟩,?_⟩;rintro i m σ H ⟨rfl,r,p⟩;by_cases b:i<n
 .show .inr ⟨b,a (i+1),fun c H' q=>⟨n-(i+1),by lk,rfl,b,q⟩,fun x H' y=>?_⟩;obtain⟨e,y⟩:=y;subst e y;show o i σ _ b p
 .have e:i=n:=by lk
  subst e;show .inl ⟨yh _,l σ H p⟩
abbrev R2:=V->V->Hp->VK->Prop
def OpR(X:Cx)(f:Value->Value->Sem Value)(r:R2):Prop:=
 ∀(pins:List (Addr×Obj)) (s:Shared) (σ:St) (H:Hp) (x y:V) (v u:Value) (Q:VK),Inv X pins σ H s->RelV x v->RelV y u->r x y H Q ->
  wpAny (model X.prog X.w) X.A (f v u) (EP X pins σ Q) X.xe s
def UnR(X:Cx)(f:Value->Sem Value)(r:V->Hp->VK->Prop):Prop:=
 ∀(pins:List (Addr×Obj)) (s:Shared) (σ:St) (H:Hp) (x:V) (v:Value) (Q:VK),Inv X pins σ H s->RelV x v->r x H Q ->
  wpAny (model X.prog X.w) X.A (f v) (EP X pins σ Q) X.xe s
def qae(X:Cx)(f:Value)(r:List V->Hp->VK->Prop):Prop:=
 ∀(pins:List (Addr×Obj)) (s:Shared) (σ:St) (H:Hp) (xs:List V) (us:List Value) (Q:VK),Inv X pins σ H s->Vals xs us->r xs H Q ->
  wpAny (model X.prog X.w) X.A (call f us) (EP X pins σ Q) X.xe s
def tOp(r:R2)(c tb:TE):TE:=fun σ H Q=>c σ H fun x a=>tb σ a fun y b=>r x y b Q
def tUn(r:V->Hp->VK->Prop)(b:TE):TE:=fun σ H Q=>b σ H fun x a=>r x a Q
def rI(C:Int->Int->Prop)(g:Int->Int->V):R2:=fun x y H Q=>∃ i j,x=.int i/\y=.int j/\C i j/\Q (g i j) H
def rI0(g:Int->Int->V):R2:=fun x y H Q=>∃ i j,x=.int i/\y=.int j/\Q (g i j) H
def rU(g:Int->V):V->Hp->VK->Prop:=fun x H Q=>∃ i,x=.int i/\Q (g i) H
section
variable{X:Cx}{a b c:Expr}{ta tb tc:TE}{pos:Pos}
theorem qfT(m:PE X a ta)(hb:PE X b tb){R:V->V->Hp->Prop}(I:Inv X pins σ H s)
  (h:ta σ H fun x i=>tb σ i fun y c=>R x y c) {Q:Value->Shared->Prop}
  (n:∀ v u g x y c,Inv X pins σ c g->RelV x v->RelV y u->R x y c->wpAny (model X.prog X.w) X.A (f v u) Q X.xe g) :
  wpAny (model X.prog X.w) X.A (eval a X.env) (fun v d=>wpAny (model X.prog X.w) X.A (eval b X.env) (fun u e=>wpAny (model X.prog X.w) X.A (f v u) Q X.xe e) X.xe d) X.xe s:=by
 show thn (m pins s σ H _ I h) fun v t ⟨x,i,j,q,o⟩=>?_;show thn (hb pins t σ i _ j o) fun u g ⟨y,c,l,r,p⟩=>?_;show n v u g x y c l q r p
theorem qI{op:Operator}(f:OpR X (binaryOp op) r)(e:PE X a ta)(hb:PE X b tb):PE X (.BinOp a op b pos) (tOp r ta tb):=by
 intro pins s σ H Q I h;show wpAny_BinOp (qfT e hb I h fun v u j x y c d g i q=>f pins j σ c x y v u Q d g i q)
theorem qa0{op:UnaryOp}{r:V->Hp->VK->Prop}(e:UnR X (unaryOp op) r)(d:PE X a ta):PE X (.UnaryOp op a pos) (tUn r ta):=by
 intro pins s σ H Q I h;show UnaryOp_ (thn (d pins s σ H _ I h) fun v i ⟨x,b,c,g,f⟩=>e pins i σ b x v Q c g f)
theorem opI{C:Int->Int->Prop}{g:Int->Int->Int}
  (a:∀(i j:Int) (t u:Tok) (s:Shared) (Q:Value->Shared->Prop) (E:Value->Shared->Prop),C i j->Q (.int (g i j) s.toks) { s with toks:=s.toks+1 }->wpAny (model X.prog X.w) X.A (f (.int i t) (.int j u)) Q E s) :
  OpR X f (rI C fun i j=>.int (g i j)):=by
 intro pins s σ H x y v u Q I b c h;obtain⟨i,j,rfl,rfl,hc,q⟩:=h;obtain⟨t,rfl⟩:=b;obtain⟨t',rfl⟩:=c;show a i j t t' s _ _ hc ⟨.int (g i j),H,I.tok _,⟨_,rfl⟩,q⟩
theorem qfK{g:Int->Int->Int}
  (a:∀(i j:Int) (t u:Tok) (s:Shared) (Q:Value->Shared->Prop) (E:Value->Shared->Prop),Q (.int (g i j) s.toks) { s with toks:=s.toks+1 }->wpAny (model X.prog X.w) X.A (f (.int i t) (.int j u)) Q E s) :
  OpR X f (rI0 fun i j=>.int (g i j)):=by
 intro pins s σ H x y v u Q I b c h;obtain⟨i,j,rfl,rfl,q⟩:=h;obtain⟨t,rfl⟩:=b;obtain⟨t',rfl⟩:=c;show a i j t t' s _ _ ⟨.int (g i j),H,I.tok _,⟨_,rfl⟩,q⟩
theorem qfL{g:Int->Int->Bool}
  (a:∀(i j:Int) (t u:Tok) (s:Shared) (Q:Value->Shared->Prop) (E:Value->Shared->Prop),Q (.bool (g i j)) s->wpAny (model X.prog X.w) X.A (f (.int i t) (.int j u)) Q E s) :
  OpR X f (rI0 fun i j=>.bl (g i j)):=by
 intro pins s σ H x y v u Q I b c h;obtain⟨i,j,rfl,rfl,q⟩:=h;obtain⟨t,rfl⟩:=b;obtain⟨t',rfl⟩:=c;show a i j t t' s _ _ ⟨.bl (g i j),H,I,rfl,q⟩
def CDiv(i j:Int):Prop:=0<j/\j<1073741824
def qf8(i j:Int):Prop:=0<=j/\j<=1000000/\i.natAbs<2 ^ 64
def CMul(i j:Int):Prop:=(-(2 ^ 64)<i/\i<2 ^ 64)\/(-(2 ^ 64)<j/\j<2 ^ 64)
theorem CMul.ok{i j:Int}(h:CMul i j):IntMulOk i j:=by
 rcases h with⟨h1,a⟩ | ⟨h1,a⟩
 .show .of_left (intBits_le_64 h1 a)
 .show .of_right (intBits_le_64 h1 a)
theorem two_pow_nn(k:Nat):(0:Int)<=2 ^ k:=by
 rw[two_pow_cast];show Int.natCast_nonneg _
theorem op_add:OpR X (binaryOp .Add) (rI0 fun i j=>.int (i+j)):=qfK fun _ _ _ _ _ _ _ q=>add_int q
theorem qbJ:OpR X (binaryOp .Sub) (rI0 fun i j=>.int (i-j)):=qfK fun _ _ _ _ _ _ _ q=>sub_int q
theorem op_mul:OpR X (binaryOp .Mult) (rI CMul fun i j=>.int (i*j)):=opI fun _ _ _ _ _ _ _ hc q=>mul_int q hc.ok
theorem qdM:OpR X (binaryOp .FloorDiv) (rI CDiv fun i j=>.int (i / j)):=opI fun i j _ _ _ _ _ hc q=>by
 have h1:(0:Int)<j:=hc.1;have a:j<1073741824:=hc.2;show floordiv_int (by lk) (by rw[Int.fdiv_eq_ediv_of_nonneg i (by lk)];show q) (.inl (PyProof.noPylong_small (by lk)))
theorem zC:OpR X (binaryOp .Mod) (rI (fun _ j=>0<j) fun i j=>.int (i % j)):=opI fun i j _ _ _ _ _ hc q=>by
 have h1:(0:Int)<j:=hc;show mod_int' (by lk) (by rw[Int.fmod_eq_emod_of_nonneg i (by lk)];show q)
theorem op_pow:OpR X (binaryOp .Pow) (rI qf8 fun i j=>.int (i ^ j.toNat)):=opI fun _ _ _ _ _ _ _ hc q=>pow_int_small hc.1 hc.2.1 hc.2.2 q
theorem qew:OpR X (binaryOp .LShift) (rI qf8 fun i j=>.int (i*2 ^ j.toNat)):=opI fun _ _ _ _ _ _ _ hc q=>lshift_int_small hc.1 hc.2.1 hc.2.2 q
theorem op_shr:OpR X (binaryOp .RShift) (rI (fun _ j=>0<=j) fun i j=>.int (i / 2 ^ j.toNat)):=opI fun i j _ _ _ _ _ hc q =>
 rshift_int hc (by rw[Int.fdiv_eq_ediv_of_nonneg i (two_pow_nn _)];show q)
theorem op_and:OpR X (binaryOp .BitAnd) (rI0 fun i j=>.int (Builtin.bitAnd i j)):=qfK fun _ _ _ _ _ _ _ q=>and_int q
theorem qfq:OpR X (binaryOp .BitOr) (rI0 fun i j=>.int (Builtin.bitOr i j)):=qfK fun _ _ _ _ _ _ _ q=>or_int q
theorem unI{f:Value->Sem Value}{g:Int->Int}
  (a:∀(i:Int) (t:Tok) (s:Shared) (Q:Value->Shared->Prop) (E:Value->Shared->Prop),Q (.int (g i) s.toks) { s with toks:=s.toks+1 }->wpAny (model X.prog X.w) X.A (f (.int i t)) Q E s) :
  UnR X f (rU fun i=>.int (g i)):=by
 intro pins s σ H x v Q I b h;obtain⟨i,rfl,q⟩:=h;obtain⟨t,rfl⟩:=b;show a i t s _ _ ⟨.int (g i),H,I.tok _,⟨_,rfl⟩,q⟩
theorem zD:UnR X (unaryOp .USub) (rU fun i=>.int (-i)):=unI fun _ _ _ _ _ q=>neg_int q
end
noncomputable def scal:V->V->Bool
 | .non,.non=>true | .non,.int _=>true | .int _,.non=>true | .non,.bl _=>true | .bl _,.non=>true | .non,.str _=>true | .str _,.non=>true
 | .int _,.int _=>true | .bl _,.bl _=>true | .str _,.str _=>true | .byt _,.byt _=>true
 | .int _,.str _=>true | .str _,.int _=>true | .bl _,.str _=>true | .str _,.bl _=>true
 | _,_=>false
def rEq:R2:=fun x y H Q=>scal x y=true/\Q (.bl (decide (x=y))) H
theorem dec_bl{i j:Bool}:decide (V.bl i=V.bl j)=(i==j):=by
 rw[xk];simp
section
variable{X:Cx}{a b c:Expr}{ta tb tc:TE}{pos:Pos}
theorem qc0{Q:VK}{k k':Bool}(I:Inv X pins σ H s)(q:Q (.bl k) H)(e:k=k'):EP X pins σ Q (.bool k') s:=by
 subst e;show⟨.bl k,H,I,rfl,q⟩
theorem qdN:OpR X (compareOp .Lt) (rI0 fun i j=>.bl (decide (i<j))):=qfL fun _ _ _ _ _ _ _ q=>lt_int q
theorem op_le:OpR X (compareOp .LtE) (rI0 fun i j=>.bl (decide (i<=j))):=qfL fun _ _ _ _ _ _ _ q=>le_int q
theorem qdy:OpR X (compareOp .Gt) (rI0 fun i j=>.bl (decide (j<i))):=qfL fun _ _ _ _ _ _ _ q=>gt_int q
theorem op_ge:OpR X (compareOp .GtE) (rI0 fun i j=>.bl (decide (j<=i))):=qfL fun _ _ _ _ _ _ _ q=>ge_int q
theorem op_isN:OpR X (compareOp .Is) (fun x y H Q=>y=.non/\Q (.bl (decide (x=.non))) H):=by
 intro pins s σ H x y v u Q I a b h;obtain⟨rfl,q⟩:=h;cases b;show is_none_gen (qc0 I q ?_);cases x<;>first
  | (cases a;rfl)
  | (obtain⟨t,rfl⟩:=a;rfl)
theorem jR:OpR X (compareOp .IsNot) (fun x y H Q=>y=.non/\Q (.bl (!decide (x=.non))) H):=by
 intro pins s σ H x y v u Q I a b h;obtain⟨rfl,q⟩:=h;cases b;show isnot_none_gen (qc0 I q ?_);cases x<;>first
  | (cases a;rfl)
  | (obtain⟨t,rfl⟩:=a;rfl)
theorem qu(b:Expr)(h:op≠.In:=by decide)(d:op≠.NotIn:=by decide):behindInMarks op b=false:=by
 have a:(op==CmpOp.In)=false:=by cases op<;>first | rfl | show absurd rfl h
 have c:(op==CmpOp.NotIn)=false:=by cases op<;>first | rfl | show absurd rfl d
 cases b<;>simp[behindInMarks,a,c]
theorem qS(g:OpR X (compareOp op) r)(e:PE X a ta)(hb:PE X b tb)(f:behindInMarks op b=false):PE X (.Compare a [op] [b] pos) (tOp r ta tb):=by
 intro pins s σ H Q I h;show wpAny_Compare1 (qfT e hb I h fun v u l x y c d i j q=>g pins l σ c x y v u Q d i j q) f
def qe3(t:TE):TT:=fun σ H Q=>t σ H fun x H'=>∃ k,x=.bl k/\Q k H'
theorem qk(o:OpR X (compareOp op) r)(m:PE X a ta)(hb:PE X b tb)(n:behindInMarks op b=false):PT X (.Compare a [op] [b] pos) (qe3 (tOp r ta tb)):=by
 intro pins s σ H Q I h
 show wpAny_isTrue_Compare1 (thn (m pins s σ H _ I h) fun v C ⟨x,d,i,w,p⟩=>thn (hb pins C σ d _ i p) fun u D ⟨y,f,j,A,q⟩ =>
  thn (o pins D σ f x y v u _ j w A q) fun c E ⟨z,g,l,B,k,e,t⟩=>?_) n
 subst e;cases B;show xw ⟨g,l,t⟩
def qdO(r r':R2)(ta tb tc:TE):TE:=fun σ H Q=>ta σ H fun x b=>tb σ b fun y c=>r x y c fun z a=>∃ k,z=.bl k /\
 (if k=true then tc σ a fun e d=>r' y e d Q else Q (.bl false) a)
theorem qc1(B:OpR X (compareOp op) r)(f:OpR X (compareOp op') r')(w:PE X a ta)(hb:PE X b tb)(hc:PE X c tc)
  (A:lastMarks [op,op'] [b,c]=false:=by with_unfolding_all rfl):PE X (.Compare a [op,op'] [b,c] pos) (qdO r r' ta tb tc):=by
 intro pins s σ H Q I h
 show Compare_chain (thn (w pins s σ H _ I h) fun v K ⟨x,m,p,F,C⟩=>chain_link (thn (hb pins K σ m _ p C) fun u L ⟨y,n,q,l,D⟩ =>
  thn (B pins L σ n x y v u _ q F l D) fun d M ⟨z,g,i,G,k,e,j⟩=>?_)) A
 subst e;cases G;show xw ?_
 cases k with
 | false=>show ite_ff ⟨.bl false,g,i,rfl,j⟩
 | true=>show ite_tt (chain_last (thn (hc pins M σ g _ i j) fun O N ⟨P,o,t,J,E⟩=>f pins N σ o y P u O Q t l J E))
theorem qc2(F:OpR X (compareOp op) r)(f:OpR X (compareOp op') r')(D:PE X a ta)(hb:PE X b tb)(hc:PE X c tc)
  (E:lastMarks [op,op'] [b,c]=false:=by with_unfolding_all rfl):PT X (.Compare a [op,op'] [b,c] pos) (qe3 (qdO r r' ta tb tc)):=by
 intro pins s σ H Q I h
 show isTrue_chain (thn (D pins s σ H _ I h) fun v S ⟨x,m,q,N,J⟩=>test_link (thn (hb pins S σ m _ q J) fun u T ⟨y,n,t,l,K⟩ =>
  thn (F pins T σ n x y v u _ t N l K) fun d U ⟨z,g,i,O,k,e,j⟩=>?_)) E
 subst e;cases O;show xw ?_
 cases k with
 | false =>
  obtain⟨k',B,G⟩:=j;cases B;show ite_ff ⟨g,i,G⟩
 | true =>
  show ite_tt (test_last (thn (hc pins U σ g _ i j) fun Y W ⟨Z,o,w,P,L⟩=>thn (f pins W σ o y Z u Y _ w l P L) fun d' s5 ⟨z2,p,A,R,k2,C,M⟩=>?_));subst C;cases R;show xw ⟨p,A,M⟩
theorem qbK:(sizeLine:Nat)<2 ^ 63:=by rw[YO];decide
theorem op_add_str:OpR X (binaryOp .Add) (fun x y H Q=>∃ i j,x=.str i/\y=.str j/\i.length+j.length<=sizeLine/\Q (.str (i++j)) H):=by
 intro pins s σ H x y v u Q I a b h;obtain⟨i,j,rfl,rfl,hz,q⟩:=h;obtain⟨t,rfl⟩:=a;obtain⟨t',rfl⟩:=b;show add_str (fun t' tk=>⟨.str (i++j),H,I.tok _,⟨_,rfl⟩,q⟩) hz
theorem qbm{x:V}(r:Vals [x] us):∃ u,us=[u]/\RelV x u:=by
 cases r with
 | cons r1 r2=>cases r2;show⟨_,rfl,r1⟩
theorem qdz{x:V}(r:Vals [x,y] us):∃ u a,us=[u,a]/\RelV x u/\RelV y a:=by
 cases r with
 | cons r1 r2 =>
  cases r2 with
  | cons r3 r4=>cases r4;show⟨_,_,rfl,r1,r3⟩
theorem call_max2(hc:X.calm=true):qae X (.builtin "max") (fun xs H Q=>∃ i j,xs=[.int i,.int j]/\Q (.int (if j>i then j else i)) H):=by
 intro pins s σ H xs us Q I r h;obtain⟨i,j,rfl,q⟩:=h;obtain⟨u,b,rfl,⟨t,rfl⟩,⟨t',rfl⟩⟩:=qdz r;show max_two_ints (I.ok.hd hc) fun h' tk k=>⟨_,H,I.kept k,?_,q⟩;by_cases a:j>i
 .rw [yI a,yI a];show⟨_,rfl⟩
 .rw [yF a,yF a];show⟨_,rfl⟩
theorem call_min2(hc:X.calm=true):qae X (.builtin "min") (fun xs H Q=>∃ i j,xs=[.int i,.int j]/\Q (.int (if j<i then j else i)) H):=by
 intro pins s σ H xs us Q I r h;obtain⟨i,j,rfl,q⟩:=h;obtain⟨u,b,rfl,⟨t,rfl⟩,⟨t',rfl⟩⟩:=qdz r;show min_two_ints (I.ok.hd hc) fun h' tk k=>⟨_,H,I.kept k,?_,q⟩;by_cases a:j<i
 .rw [yI a,yI a];show⟨_,rfl⟩
 .rw [yF a,yF a];show⟨_,rfl⟩
theorem call_int1:qae X (.type "int") (fun xs H Q=>(∃ i,xs=[.int i]/\Q (.int i) H)\/∃ k,xs=[.bl k]/\Q (.int (if k then 1 else 0)) H):=by
 intro pins s σ H xs us Q I r h;rcases h with⟨i,rfl,q⟩ | ⟨k,rfl,q⟩
 .obtain⟨u,rfl,t,rfl⟩:=qbm r;show call_int_int ⟨.int i,H,I,⟨_,rfl⟩,q⟩
 .obtain⟨u,rfl,a⟩:=qbm r;cases a;show call_int_bool ⟨.int (if k then 1 else 0),H,I.tok _,⟨_,rfl⟩,q⟩
end
structure ObjM(h:Heap)(x dx C:Addr)(mA:Str->Option Value):Prop where
 obj:h.get? x=some (PySem.W.instObj C dx)
 ns:h.Ns1 dx mA
 ne:dx≠x
theorem qcf(n:h.Ns1 dx mA):∃ od,h.get? dx=some od/\∀ name,PySem.W.lookIn name od=some (mA name):=by
 obtain⟨o,es,ep,i,d,f,_,g⟩:=n;show⟨o,i,fun name=>?_⟩;have e:=g name;unfold nsFind findBy at e;rw[<- Array.find?_toList] at e;unfold PySem.W.lookIn;rw[d];dsimp only;split
 .rename_i y q
  rw[q] at e;show congrArg some e
 .rename_i q
  rw[q] at e
  have a:es.toList.any (·.refKey)=false:=by
   rw[List.any_eq_false];intro y j;obtain⟨z,t,b⟩:=f y (Array.mem_toList_iff.mp j);simp[DictEntry.refKey,b]
  have c:¬ es.toList.any (·.refKey)=true:=by rw[a];show Yl
  rw[yF c];show congrArg some e
theorem ObjM.look{x:Addr}(I:ObjM h x dx C mA):∃ od,PySem.W.InstAt h x (PySem.W.instObj C dx) C (some od)/\∀ name,PySem.W.lookIn name od=some (mA name):=
 let ⟨od,ho,hl⟩:=qcf I.ns
 ⟨od,⟨I.obj,rfl,rfl,ho⟩,hl⟩
section
variable{prog:Program}{w:World}{A:Around}{E:Value->Shared->Prop}{s:Shared}{K:yg}{x dx C f:Addr}{mA:Str->Option Value}{name:Str}{v:Value}
theorem get_map{a:Bool}{Q:Value->Shared->Prop}(X:K.In s.heap)(I:ObjM s.heap x dx C mA)(d:PySem.W.plainGet K C name=true)(e:PySem.W.hasDictIn K C=true)
  (c:PySem.W.findIn K (.ref C) name=some none) (hv:mA name=some v) (b:PySem.W.handedIn v=true) (h:Q v { s with toks:=s.toks+1 }) :
  wpAny (model prog w) A (getAttr (.ref x) name a) Q E s:=by
 obtain⟨od,J,hl⟩:=I.look;show PySem.W.get_value X J (ko d).1 (PySem.W.findObj_own e c rfl (by rw[hl,hv])) b h
theorem get_meth{pl:Sem Bool}{Q:Value×List Value->Shared->Prop}(X:K.In s.heap)(I:ObjM s.heap x dx C mA)(a:PySem.W.plainGet K C name=true)
  (b:PySem.W.findIn K (.ref C) name=some (some (.ref f))) (c:PySem.W.isFn K (.ref f)=true) (hv:mA name=none) (h:Q (.ref f,[.ref x]) s) :
  wpAny (model prog w) A (getMethod (.ref x) name pl) Q E s:=by
 obtain⟨od,J,hl⟩:=I.look;show PySem.W.method_fn X J (ko a).1 (ko a).2 b (Ym.mp c) (by show(PySem.W.lookIn name od).map (·.isSome)=some false;rw[hl,hv];rfl) h
theorem set_map{ns:LS}{Q:Unit->Shared->Prop}(X:K.In s.heap)(I:ObjM s.heap x dx C mA)
  (o:PySem.W.findIn K (.ref C) "__setattr__"=some (some (.builtin "object.__setattr__"))) (n:PySem.W.plainOver K C=true) (p:PySem.W.takerIn K C name=some none) (m:PySem.W.hasDictIn K C=true)
  (hw:PySem.Within mA ns) (hsz:ns.length<=sizeLine)
  (h:∀ h',ObjM h' x dx C (fun y=>if y=name then some v else mA y)->Heap.SameBut dx s.heap h'->Q () { s with heap:=h',toks:=s.toks+2 }) :
  wpAny (model prog w) A (setAttr (.ref x) name v) Q E s:=by
 obtain⟨od,J,hl⟩:=I.look;show PySem.W.set_plain X J o (PySem.W.osa_open (s:={ s with toks:=s.toks+1 }) (r:=none) X J n p fun b=>?_);obtain⟨t,hc,f⟩:=x0 m;have q:s.heap.get? x=some ⟨.ref C,some dx,.plain,#[]⟩:=I.obj;show yr (yu (yr (yr (wpAny_loadPart q (yr (PySem.W.Looks.here (s:={ s with toks:=s.toks+1 }) (kq X hc) ?_))))));rw[f];show yu (a:=some dx) (yr (yu (yr ?_)));show wpAny_nsSet1 (s:={ s with toks:=s.toks+1 }) I.ns fun h' c d=>?_;obtain⟨u,l,j,i,g,e⟩:=c.count (PySem.Within.cons name v hw);show yr (wpAny_lookBehind i (by rw[g];show pastItsLine_dict (yi e (by rw[yw];lk))) ?_);show yu (h _ ⟨(d.2 _ (Yh I.ne)).trans I.obj,c,I.ne⟩ d)
theorem make_map{R:Result->Shared->Prop}{vs:List Value}(X:K.In s.heap)(c:PySem.W.makesIn K C=true)
  (b:PySem.W.findIn K (.ref C) "__init__"=some (some (.ref f))) (a:PySem.W.typeIn K (.ref f)=some (.type "function"))
  (h:codeAny (model prog w) (A.under (.builtin "type.__call__" ⟨.ref C::vs,kw⟩)) (.call (.ref f) ⟨.ref (s.heap.objs.size+1)::vs,kw⟩) (PySem.W.InitBack (s.heap.objs.size+1) R)
   { s with heap:=(s.heap.push PySem.W.emptyDict).push (PySem.W.instObj C s.heap.objs.size) }) :
  codeAny (model prog w) A (.call (.ref C) ⟨vs,kw⟩) R s:=by
 obtain⟨e,g,d,t,i⟩:=s;show PySem.W.make_core (PySem.W.makes_of X c) (YT X b) (fun self=>PySem.W.bind_fn X self a) (.inl rfl) h
end
noncomputable def qJ(f:Str)(v:V):List (Str×V)->List (Str×V)
 | []=>[(f,v)]
 | (g,x)::r=>if g=f then(g,v)::r else(g,x)::qJ f v r
theorem qD(f g:Str)(v:V):∀ fs:List (Str×V),(qJ f v fs).lookup g=if g=f then some v else fs.lookup g
 | []=>by
  show List.lookup g [(f,v)]=_;by_cases h:g=f
  .have hb:(g==f)=true:=Ym.mpr h;simp only[List.lookup,hb,yI h]
  .have hb:(g==f)=false:=Yx.mpr h;simp only[List.lookup,hb,yF h]
 | (k,x)::r=>by
  have b:=qD f g v r;rw[show qJ f v ((k,x)::r)=(if k=f then(k,v)::r else(k,x)::qJ f v r) from rfl];by_cases a:k=f
  .rw [yI a];by_cases h:g=k
   .have hb:(g==k)=true:=Ym.mpr h;simp only[List.lookup,hb,yI (h.trans a)]
   .have hb:(g==k)=false:=Yx.mpr h;simp only[List.lookup,hb,yF (fun e:g=f=>h (e.trans a.symm))]
  .rw [yF a];by_cases h:g=k
   .have hb:(g==k)=true:=Ym.mpr h;simp only[List.lookup,hb,yF (fun e:g=f=>a (h.symm.trans e))]
   .have hb:(g==k)=false:=Yx.mpr h;simp only[List.lookup,hb];show b
theorem qbn(f:Str)(v:V):∀ fs:List (Str×V),f∈(qJ f v fs).map (·.1)/\∀ g,g∈fs.map (·.1)->g∈(qJ f v fs).map (·.1)
 | []=>⟨by simp[qJ],fun g h=>by simp at h⟩
 | (k,x)::r=>by
  obtain⟨b,c⟩:=qbn f v r;rw[show qJ f v ((k,x)::r)=(if k=f then(k,v)::r else(k,x)::qJ f v r) from rfl];by_cases a:k=f
  .rw [yI a];subst a;show⟨by simp,fun g h=>by simpa using h⟩
  .rw [yF a];show⟨?_,fun g h=>?_⟩
   .rw [YJ];show yJ _ b
   .rw [YJ] at h ⊢;rcases yx.mp h with e | e
    .show yx.mpr (.inl e)
    .show yJ _ (c g e)
theorem jG(f:Str)(v:V):∀ fs:List (Str×V),(qJ f v fs).length<=fs.length+1
 | []=>by simp[qJ]
 | (k,x)::r=>by
  have b:=jG f v r;rw[show qJ f v ((k,x)::r)=(if k=f then(k,v)::r else(k,x)::qJ f v r) from rfl];by_cases a:k=f
  .rw [yI a,yw,yw];lk
  .rw [yF a,yw,yw];lk
theorem RelO.some_of{o:Option Value}(r:RelO (some v) o):∃ u,o=some u/\RelV v u:=by
 cases o with
 | none=>show(show False from r).elim
 | some u=>show⟨u,rfl,r⟩
theorem RelO.none_of{o:Option Value}(r:RelO none o):o=none:=by
 cases o with
 | none=>rfl
 | some u=>show(show False from r).elim
theorem qcg(r:RelV v u):PySem.W.handedIn u=true:=by
 cases v with
 | non=>cases (show u=Value.none from r);rfl
 | bl b=>cases (show u=Value.bool b from r);rfl
 | int i=>obtain⟨t,e⟩:=(show ∃ t,u=Value.int i t from r);cases e;rfl
 | str x=>obtain⟨t,e⟩:=(show ∃ t,u=Value.str x t from r);cases e;rfl
 | byt b=>obtain⟨t,e⟩:=(show ∃ t,u=Value.bytes b t from r);cases e;rfl
 | flt b=>obtain⟨t,e⟩:=(show ∃ t,u=Value.float b t from r);cases e;rfl
 | ref a=>cases (show u=Value.ref a from r);rfl
 | ty n=>cases (show u=Value.type n from r);rfl
section
variable{P:Program}{w:World}{H H':Hp}{h h':Heap}{a C dx:Addr}{fs fs':List (Str×V)}
theorem qa1(b:HOk P w H h)(e:H a=some (.ins C dx fs)):∃ mA,ObjM h a dx C mA/\(∀ f,RelO (fs.lookup f) (mA f))/\PySem.Within mA (fs.map (·.1))/\fs.length<=1000/\H dx=some (.own a):=by
 obtain⟨d,z,ne,c,mA,n,r,q⟩:=(show ObjOk P w H h a (.ins C dx fs) from b a _ e);show⟨mA,⟨c,n,ne⟩,r,q,z,d⟩
end
structure Cls(K:yg)(C:Addr):Prop where
 pg:PySem.W.plainGet K C Str.empty=true
 hd:PySem.W.hasDictIn K C=true
 po:PySem.W.plainOver K C=true
 sa:PySem.W.findIn K (.ref C) "__setattr__"=some (some (.builtin "object.__setattr__"))
theorem Cls.get{K:yg}(c:Cls K C)(f:Str):PySem.W.plainGet K C f=true:=c.pg
def NoAttr(K:yg)(C:Addr)(f:Str):Prop:=PySem.W.findIn K (.ref C) f=some none
theorem NoAttr.taker{K:yg}{f:Str}(n:NoAttr K C f):PySem.W.takerIn K C f=some none:=by
 unfold PySem.W.takerIn;rw[show PySem.W.findIn K (.ref C) f=some none from n];rfl
structure Con(K:yg)(C:Addr)(f:Str)(v:V)(u:Value):Prop where
 at_:PySem.W.findIn K (.ref C) f=some (some u)
 rel:RelV v u
 get:PySem.W.specialIn K u "__get__"=some none
 cp:PySem.W.copiedNames.contains f=false
structure Meth(K:yg)(C:Addr)(m:Str)(f:Addr):Prop where
 at_:PySem.W.findIn K (.ref C) m=some (some (.ref f))
 fn:PySem.W.isFn K (.ref f)=true
 kp:PySem.W.keepIn K (.ref f)=true
section
variable{X:Cx}{pins:List (Addr×Obj)}{σ:St}{H:Hp}{s:Shared}{a C dx:Addr}{fs:List (Str×V)}{f:Str}{v:V}{A:Around}{E:Value->Shared->Prop}
theorem getattr_ok{b:Bool}{Q:Value->Shared->Prop}(I:Inv X pins σ H s)(e:H a=some (.ins C dx fs))(c:Cls X.K C)(n:NoAttr X.K C f)(l:fs.lookup f=some v)
  (h:∀ u s',Inv X pins σ H s'->RelV v u->Q u s'):wpAny (model X.prog X.w) A (getAttr (.ref a) f b) Q E s:=by
 obtain⟨mA,O,r,_,_,_⟩:=qa1 I.hok e;obtain⟨u,g,d⟩:=RelO.some_of (v:=v) (o:=mA f) (by rw[<- l];show r f);show get_map I.kIn O (c.get f) c.hd n g (qcg d) (h u _ (I.tok _) d)
theorem qa2{m:Str}{g:Addr}{pl:Sem Bool}{Q:Value×List Value->Shared->Prop}(I:Inv X pins σ H s)(e:H a=some (.ins C dx fs))(c:Cls X.K C)(k:Meth X.K C m g)(l:fs.lookup m=none)
  (h:Q (.ref g,[.ref a]) s):wpAny (model X.prog X.w) A (getMethod (.ref a) m pl) Q E s:=by
 obtain⟨mA,O,r,_,_,_⟩:=qa1 I.hok e;have b:mA m=none:=RelO.none_of (by rw[<- l];show r m);show get_meth I.kIn O (c.get m) k.at_ k.fn b h
theorem setattr_ok{Q:Unit->Shared->Prop}(I:Inv X pins σ H s)(e:H a=some (.ins C dx fs))(c:Cls X.K C)(n:NoAttr X.K C f)(hl:fs.length<1000)(p:RelV y u)
  (h:∀ s',Inv X pins σ (upd H a (.ins C dx (qJ f y fs))) s'->Q () s'):wpAny (model X.prog X.w) A (setAttr (.ref a) f u) Q E s:=by
 obtain⟨mA,O,r,j,_,i⟩:=qa1 I.hok e;have hz:(fs.map (·.1)).length<=sizeLine:=by rw[ya,YO];lk
 show set_map I.kIn O c.sa c.po n.taker c.hd j hz fun h' d t=>h _ ?_;have l:∃ o,h'.get? dx=some o:=let ⟨o,_,_,e',_⟩:=d.ns;⟨o,e'⟩;show I.write (x:=a) (e:=dx) (by rw[e];show YU) (.inr i) (fun b q hb z=>(t.2 b hb).trans z) l ?_;show⟨by rw[qf O.ne];show i,?_,O.ne,d.obj,_,d.ns,fun g=>?_,fun g m=>?_⟩
 .have:=jG f y fs;lk
 .show RelO ((qJ f y fs).lookup g) (if g=f then some u else mA g);rw[qD];by_cases q:g=f
  .rw [yI q,yI q];show p
  .rw [yF q,yF q];show r g
 .by_cases q:g=f
  .rw [q];show(qbn f y fs).1
  .show(qbn f y fs).2 g (j g fun z=>m ?_);show(if g=f then some u else mA g)=none;rw[yF q];show z
theorem Inv.made(I:Inv X pins σ H s):Inv X pins σ (upd (upd H s.heap.objs.size (.own (s.heap.objs.size+1))) (s.heap.objs.size+1) (.ins C s.heap.objs.size []))
  { s with heap:=(s.heap.push PySem.W.emptyDict).push (PySem.W.instObj C s.heap.objs.size) }:=by
 have c:(s.heap.push PySem.W.emptyDict).get? s.heap.objs.size=some PySem.W.emptyDict:=yX s.heap rfl
 have f:((s.heap.push PySem.W.emptyDict).push (PySem.W.instObj C s.heap.objs.size)).get? (s.heap.objs.size+1)=some (PySem.W.instObj C s.heap.objs.size):=by
  have:=yX (s.heap.push PySem.W.emptyDict) (o:=PySem.W.instObj C s.heap.objs.size) rfl
  rwa[YZ] at this
 have g:(s.heap.push PySem.W.emptyDict).Ns s.heap.objs.size (fun _=>none):=⟨PySem.W.emptyDict,#[],_,c,rfl,(fun e h=>absurd h (by simp)),fun _=>rfl⟩;have d:=I.laid (a:=s.heap.objs.size) (o:=.own (s.heap.objs.size+1)) (h':=s.heap.push PySem.W.emptyDict) (t':=s.toks) (fun b u q=>yv _ q) (yh _) ⟨_,c⟩;show d.laid (a:=s.heap.objs.size+1) (o:=.ins C s.heap.objs.size []) (t':=s.toks) (fun b u q=>yv _ q) (XR (YZ _ _)) ?_;have ne:s.heap.objs.size≠s.heap.objs.size+1:=yO (Xa _);show⟨by rw[qf ne,qb],xv _,ne,f,fun _=>none,(Heap.Ns1.of_empty g).at fun o q=>yv _ q,fun _=>YU,fun y i=>absurd rfl i⟩
theorem attr_of{prog:Program}{env:Env}{f:Str}{Q:Value->Shared->Prop}(hb:attributeBase e f env (eval e env)=eval e env)
  (h:wpAny (model prog w) A (eval e env) (fun o a=>wpAny (model prog w) A (getAttr o f true) Q E a) E s):wpAny (model prog w) A (eval (.Attribute e f pos) env) Q E s:=
 Attribute_any_ h (by rw[arm_eval_Attribute,hb])
end
section
variable{X:Cx}{o e value:Expr}{f:Str}{pos pos' tpos:Pos}{ta tv:TE}
end
section
variable{X:Cx}{pins:List (Addr×Obj)}{σ:St}{H:Hp}{s:Shared}{A:Around}{E:Value->Shared->Prop}{Q:Value->Shared->Prop}{c:Value}{b:Bool}
inductive TyOf(K:yg)(H:Hp):V->Value->Prop where
 | non:TyOf K H .non (.type "NoneType")
 | bl (x:Bool):TyOf K H (.bl x) (.type "bool")
 | int (i:Int):TyOf K H (.int i) (.type "int")
 | str (x:Str):TyOf K H (.str x) (.type "str")
 | flt (x:UInt64):TyOf K H (.flt x) (.type "float")
 | lst {a:Addr} {xs:List V} (e:H a=some (.lst xs)):TyOf K H (.ref a) (.type "list")
 | frz {a:Addr} {o:Obj} {xs:List V} (e:H a=some (.frz o (.lst xs))):TyOf K H (.ref a) (.type "list")
 | tup {a:Addr} {xs:List V} (e:H a=some (.tup xs)):TyOf K H (.ref a) (.type "tuple")
 | dK {a:Addr} {kvs:List (Key×V)} (e:H a=some (.dK kvs)):TyOf K H (.ref a) (.type "dict")
 | dT {a:Addr} {kvs:List (List Key×V)} (e:H a=some (.dT kvs)):TyOf K H (.ref a) (.type "dict")
 | ins {a C dx:Addr} {fs:List (Str×V)} (e:H a=some (.ins C dx fs)) (cl:Cls K C) (ha:PySem.W.findIn K (.ref C) "__class__"=some (some (.builtin "object.__class__")))
   (hn:PySem.W.specialIn K (.builtin "object.__class__") "__get__"=some (some (.builtin "getset_descriptor.__get__"))) (htk:PySem.W.takesIn K (.builtin "object.__class__")=some true)
   (hm:PySem.W.mroIn K C (.type "object")=some true):TyOf K H (.ref a) (.ref C)
end
structure Room(k:Nat)(A:Around):Prop where
 hd:A.handled=none
 dp:A.depth+3*k+5<recursionLimit
 un:A.units+16*k+200<cLine
 gd:A.guards=some []
theorem Room.mono{k:Nat}(r:Room k A)(h:j<=k):Room j A:=⟨r.hd,by have:=r.dp;lk,by have:=r.un;lk,r.gd⟩
theorem Room.deeper{k:Nat}(r:Room (k+1) A)(env:Env):Room k (A.deeper env):=
 ⟨r.hd,by have:=r.dp;show A.depth+1+3*k+5<_;lk,by have:=r.un;show A.units+3+16*k+200<_;lk,r.gd⟩
theorem make_depth:(A.under (.builtin "type.__call__" ⟨.ref C::us,kw⟩)).depth=A.depth+1:=by
 first | rfl | simp[Around.under,Code.weight,Code.isCreation,Code.isGuard,Code.isCaller,Code.frames,Code.isFrame,guardIds]
theorem make_units:(A.under (.builtin "type.__call__" ⟨.ref C::us,kw⟩)).units=A.units+1:=by
 first | rfl | simp[Around.under,Code.cUnits,Code.frames,Code.isFrame]
theorem make_guards:(A.under (.builtin "type.__call__" ⟨.ref C::us,kw⟩)).guards=A.guards:=by
 first | rfl | simp[Around.under,Code.guards,Code.isGuard,guardIds,pushGuards]
theorem Room.make{k:Nat}(r:Room (k+1) A)(C:Addr)(us:List Value)(kw:List (Str×Value)):Room k (A.under (.builtin "type.__call__" ⟨.ref C::us,kw⟩)):=
 ⟨r.hd,by have:=r.dp;rw[make_depth];lk,by have:=r.un;rw[make_units];lk,by rw[make_guards];show r.gd⟩
theorem Room.depth{k:Nat}(r:Room k A):A.depth<recursionLimit:=by have:=r.dp;lk
def qef:TA:=fun _ H Q=>Q [] H
def qaa(c:TE)(d:TA):TA:=fun σ H Q=>c σ H fun x a=>d σ a fun xs b=>Q (x::xs) b
section
variable{X:Cx}{e:Expr}{es:List Expr}{te:TE}{t:TA}{pos:Pos}
theorem qd:PA X [] qef:=fun _ _ _ _ H Q I h=>kE ⟨[],H,I,.nil,h⟩
theorem qa(f:PE X e te)(g:PA X es t)(i:starEach (e::es) X.env=(false,eval e X.env)::starEach es X.env:=by rfl):PA X (e::es) (qaa te t):=by
 intro pos pins s σ H Q I h;rw[i];show wpAny _ _ (spliced ((false,eval e X.env)::backTo pos (starEach es X.env))) _ _ s;show kB (thn (f pins s σ H _ I h) fun u o ⟨x,a,c,m,j⟩=>?_);show thn (g pos pins o σ a _ c j) fun us p ⟨xs,b,d,n,l⟩=>⟨x::xs,b,d,.cons m n,l⟩
inductive NewT(xs:List V)(H:Hp)(Q:VK):Prop|mk (_:xs.length<=sizeLine) (_:∀ p,H p=none->Q (.ref p) (upd H p (.tup xs)))
inductive NewL(xs:List V)(H:Hp)(Q:VK):Prop|mk (_:xs.length<=sizeLine) (_:∀ p,H p=none->Q (.ref p) (upd H p (.lst xs)))
def qfM(t:TA):TE:=fun σ H Q=>t σ H fun xs a=>NewT xs a Q
def qfN(t:TA):TE:=fun σ H Q=>t σ H fun xs a=>NewL xs a Q
theorem zE{x1}(h:PA X es t):PE X (.Tuple es x1 pos) (qfM t):=by
 intro pins s σ H Q I g;show wpAny_Tuple_spliced (thn (h pos pins s σ H _ I g) fun us a ⟨xs,c,d,r,z,q⟩=>⟨by rw[<- r.length];show z,?_⟩);have f:c a.heap.objs.size=none:=d.hok.fresh (yh _);show⟨.ref a.heap.objs.size,upd c a.heap.objs.size (.tup xs),d.laid (t':=a.toks) (fun b u e=>yv _ e) (yh _) ?_,rfl,q _ f⟩;show⟨z,us,r,⟨_,yX _ rfl,rfl,_,rfl⟩⟩
theorem qM(h:PA X es t):PE X (.List es pos) (qfN t):=by
 intro pins s σ H Q I g;show wpAny_List_spliced (thn (h pos pins s σ H _ I g) fun us a ⟨xs,c,d,r,z,q⟩=>⟨by rw[<- r.length];show z,?_⟩);have f:c a.heap.objs.size=none:=d.hok.fresh (yh _);show⟨.ref a.heap.objs.size,upd c a.heap.objs.size (.lst xs),d.laid (t':=a.toks) (fun b u e=>yv _ e) (yh _) ?_,rfl,q _ f⟩;show⟨z,us,0,r,yX _ rfl⟩
end
abbrev Sp:=List V->Hp->VK->XK->Prop
abbrev CXT:=List Env->Hp->Shared->XK->Value->Shared->Prop
structure Env0(P:Program)(w:World)(K:yg)(mg:Str->Option Value)(base:Heap)(A:Around)(outer:List Env)(s:Shared)(H:Hp):Prop where
 frames:A.frames=some outer
 mod:Mod K mg base
 bs:∀ b o,base.get? b=some o->s.heap.get? b=some o/\H b=none
 bsz:base.objs.size<=s.heap.objs.size
 funs:s.heap.FunFrames base outer
 frf:∀ b∈frs outer,H b=none
 hok:HOk P w H s.heap
 bare:AllBare s.gens
def CE(outer:List Env)(P:Program)(w:World)(H:Hp)(s:Shared)(Q:VK)(u:Value)(s':Shared):Prop:=
 ∃ v H',s'.os=s.os/\AllBare s'.gens/\Un (frs outer) [] H H' s.heap s'.heap/\HOk P w H' s'.heap/\RelV v u/\Q v H'
def CR(CX:CXT)(outer:List Env)(P:Program)(w:World)(H:Hp)(s:Shared)(Q:VK)(E:XK)(r:Result)(s':Shared):Prop:=
 match r with
 | .ok (.ret u)=>CE outer P w H s Q u s'
 | .ok _=>False
 | .error e=>CX outer H s E e s'
structure FnOk(P:Program)(w:World)(K:yg)(mg:Str->Option Value)(base:Heap)(CX:CXT)(k:Nat)(f:Addr)(fd:FuncData)(ps:LS)(sp:Sp):Prop where
 len:∀ vs H Q E,sp vs H Q E->vs.length=ps.length
 run:∀(A:Around) (outer:List Env) (s:Shared) (H:Hp) (args:Args) (us:List Value) (vs:List V) (Q:VK) (E:XK),Room k A->Env0 P w K mg base A outer s H->BindsTo s fd args (ps.zip us)->Vals vs us->sp vs H Q E ->
  codeAny (model P w) A (.call (.ref f) args) (CR CX outer P w H s Q E) s
theorem Env0.make{K:yg}(e:Env0 P w K mg base A outer s H)(C:Addr)(us:List Value)(kw:List (Str×Value)) :
  Env0 P w K mg base (A.under (.builtin "type.__call__" ⟨.ref C::us,kw⟩)) outer s H:=⟨by first | show e.frames | (simpa [Around.under,Code.envs,Code.isFrame,pushEnvs] using e.frames),e.mod,e.bs,e.bsz,e.funs,e.frf,e.hok,e.bare⟩
section
variable{X:Cx}{pins:List (Addr×Obj)}{σ:St}{H:Hp}{s s':Shared}
theorem Inv.env0(I:Inv X pins σ H s):Env0 X.prog X.w X.K X.mg X.base X.A X.stack s H:=
 ⟨I.ok.frames,I.ok.mod,I.bs,yi I.ok.bsz I.sz,I.stack,I.stkFree,I.hok,I.bare⟩
theorem Inv.after{Q:VK}(I:Inv X pins σ H s)(h:CE X.stack X.prog X.w H s Q u s'):EP X pins σ Q u s':=by
 obtain⟨v,H',i,a,un,c,r,q⟩:=h;obtain⟨f,g,d,t,e⟩:=s';obtain rfl:e=s.os:=i;show⟨v,H',I.call (h':=f) (g':=g) (d':=d) (t':=t) (ch:=[]) un c a (fun b z=>absurd z (by simp)),r,q⟩
end
def qdP(sp:Sp)(a:List V)(E:XK)(t:TA):TE:=fun σ H Q=>t σ H fun vs b=>sp (vs++a) b Q E
inductive MeR(C:Addr)(m:Str)(x:V)(H:Hp)(k:Prop):Prop|mk (a dx:Addr) (fs:List (Str×V)) (_:x=.ref a) (_:H a=some (.ins C dx fs)) (_:fs.lookup m=none) (_:k)
def qdA(C:Addr)(m:Str)(sp:Sp)(a:List V)(E:XK)(d:TE)(t:TA):TE:=fun σ H Q=>d σ H fun x b=>MeR C m x b (t σ b fun vs c=>sp (x::(vs++a)) c Q E)
def qek(C:Addr)(sp:Sp)(b:List V)(E:XK)(t:TA):TE:=fun σ H Q=>t σ H fun vs a=>∀ x dx,a x=none->a dx=none->dx≠x ->
 sp (.ref x::(vs++b)) (upd (upd a dx (.own x)) x (.ins C dx [])) (fun v c=>v=.non/\Q (.ref x) c) E
def Binds(K:yg)(b:FuncData)(ps:LS)(a:List Value):Prop:=
 ∀(s:Shared) (us:List Value),K.In s.heap->(us++a).length=ps.length->BindsTo s b ⟨us,[]⟩ (ps.zip (us++a))
theorem Binds.all{K:yg}{a:FuncData}(h:∀ us:List Value,us.length=ps.length->bindArgs a ⟨us,[]⟩=pure (ps.zip us)):Binds K a ps []:=fun s us _ hl=>by
 rw[Yd] at hl ⊢;show .of_eq (h us hl)
def qaf(CX:CXT)(X:Cx)(E:XK):Prop:=∀(pins:List (Addr×Obj)) (σ:St) (H:Hp) (s:Shared) (e:Value) (s':Shared),Inv X pins σ H s->CX X.stack H s E e s'->X.xe e s'
section
variable{X:Cx}{CX:CXT}{k:Nat}{f C:Addr}{fd:FuncData}{ps:LS}{sp:Sp}{dvs:List V}{ds:List Value}{E:XK}{x m:Str}{p pos apos:Pos}{e o:Expr}{es:List Expr}{ta:TE}{t:TA}
theorem qc3{Q:VK}(F:FnOk X.prog X.w X.K X.mg X.base CX k f fd ps sp)(d:Room k X.A)(hb:Binds X.K fd ps ds)(c:Vals dvs ds)(g:qaf CX X E)
  (I:Inv X pins σ H s) (r:Vals vs us) (h:sp (vs++dvs) H Q E):wpAny (model X.prog X.w) X.A (call (.ref f) us) (EP X pins σ Q) X.xe s:=by
 have b:Vals (vs++dvs) (us++ds):=r.append c;have hl:(us++ds).length=ps.length:=by rw[<- b.length];show F.len _ _ _ _ h
 show Xl (XS (F.run X.A X.stack s H ⟨us,[]⟩ (us++ds) (vs++dvs) Q E d I.env0 (hb s us I.kIn hl) b h) fun r s' a=>?_)
 cases r with
 | error e=>show g pins σ H s e s' I a
 | ok fl =>
  cases fl with
  | ret u=>show I.after a
  | next=>show False.elim a
  | brk=>show False.elim a
  | cont=>show False.elim a
theorem pe_call(F:FnOk X.prog X.w X.K X.mg X.base CX k f fd ps sp)(n:Room k X.A)(j:Gl X x)(m:X.mg x=some (.ref f))(l:PySem.W.keepIn X.K (.ref f)=true)(hb:Binds X.K fd ps ds)(g:Vals dvs ds)(o:qaf CX X E)
  (d:PA X (e::es) t) (a:(x==("__debug__":Str))=false:=by decide) (i:starEach (e::es) X.env=(false,eval e X.env)::starEach es X.env:=by rfl) (b:(backTo pos (starEach es X.env)).any (·.1)=false:=by rfl) :
  PE X (.Call (.Name x p) (e::es) [] pos) (qdP sp dvs E t):=by
 intro pins s σ H Q I h;show Xm (qaZ I j m ?_ a);show xI (h₀:=X.base) I.ok.mod.kin l (thn (d pos pins s σ H _ I h) fun us v ⟨vs,u,c,r,q⟩=>⟨c.kIn,?_⟩) i b;show qc3 F n hb g o c r q
theorem pe_meth{pl:Sem Bool}(z:PE X o ta)(c:Cls X.K C)(j:Meth X.K C m f)(F:FnOk X.prog X.w X.K X.mg X.base CX k f fd ps sp)(B:Room k X.A)(hb:Binds X.K fd ps ds)(y:Vals dvs ds)(G:qaf CX X E)(v:PA X (e::es) t)
  (d:starEach (e::es) X.env=(false,eval e X.env)::starEach es X.env:=by rfl) (b:(backTo pos (starEach es X.env)).any (·.1)=false:=by rfl)
  (D:eval (.Call (.Attribute o m apos) (e::es) [] pos) X.env=(do
   let ov <- eval o X.env
   standAt apos.atName
   let (f,first) <- holding [ov] (getMethod ov m pl)
   callWith pos f first (backTo pos (starEach (e::es) X.env)) (backToKw pos (keywordEach [] X.env))):=by rfl) :
  PE X (.Call (.Attribute o m apos) (e::es) [] pos) (qdA C m sp dvs E ta t):=by
 intro pins s σ H Q I h;show xL (pl:=pl) (thn (z pins s σ H _ I h) fun u M ⟨x,n,g,L,a,dx,fs,ex,p,l,q⟩=>?_) D;subst ex;obtain rfl:u=Value.ref a:=L;show qa2 g p c j l ?_;show xI (first:=[.ref a]) (h₀:=X.base) I.ok.mod.kin j.kp (thn (v pos pins M σ n _ g q) fun us O ⟨vs,N,i,r,J⟩=>⟨i.kIn,?_⟩) d b;show qc3 (us:=.ref a::us) (vs:=.ref a::vs) F B hb y G i (.cons rfl r) J
theorem pe_meth0{pl:Sem Bool}(i:PE X o ta)(c:Cls X.K C)(d:Meth X.K C m f)(F:FnOk X.prog X.w X.K X.mg X.base CX k f fd ps sp)(j:Room k X.A)(hb:Binds X.K fd ps ds)(g:Vals dvs ds)(p:qaf CX X E)
  (n:eval (.Call (.Attribute o m apos) [] [] pos) X.env=(do
   let ov <- eval o X.env
   standAt apos.atName
   let (f,first) <- holding [ov] (getMethod ov m pl)
   callWith pos f first (backTo pos (starEach [] X.env)) (backToKw pos (keywordEach [] X.env))):=by rfl) :
  PE X (.Call (.Attribute o m apos) [] [] pos) (qdA C m sp dvs E ta qef):=by
 intro pins s σ H Q I h;show xL (pl:=pl) (thn (i pins s σ H _ I h) fun u v ⟨x,t,b,r,a,dx,fs,ex,e,l,q⟩=>?_) n;subst ex;obtain rfl:u=Value.ref a:=r;show qa2 b e c d l ?_;show PySem.W.callWith_K0 (first:=[.ref a]) b.kIn d.kp (qc3 (us:=[.ref a]) (vs:=[.ref a]) F j hb g p b (.cons rfl .nil) q)
structure Mk(K:yg)(C f:Addr):Prop where
 makes:PySem.W.makesIn K C=true
 init:PySem.W.findIn K (.ref C) "__init__"=some (some (.ref f))
 fn:PySem.W.isFn K (.ref f)=true
 kp:PySem.W.keepIn K (.ref C)=true
theorem run_make{Q:VK}(M:Mk X.K C f)(F:FnOk X.prog X.w X.K X.mg X.base CX k f fd ps sp)(m:Room (k+1) X.A)(hb:Binds X.K fd ps ds)(l:Vals dvs ds)
  (n:qaf CX X E) (I:Inv X pins σ H s) (r:Vals vs us)
  (h:∀ x dx,H x=none->H dx=none->dx≠x->sp (.ref x::(vs++dvs)) (upd (upd H dx (.own x)) x (.ins C dx [])) (fun v g=>v=.non/\Q (.ref x) g) E) :
  wpAny (model X.prog X.w) X.A (call (.ref C) us) (EP X pins σ Q) X.xe s:=by
 have c:=h (s.heap.objs.size+1) s.heap.objs.size (I.hok.fresh (xT _)) (I.hok.fresh (yh _)) (yO (Xa _));have b:=Inv.made (C:=C) I;have d:Vals (V.ref (s.heap.objs.size+1)::(vs++dvs)) (Value.ref (s.heap.objs.size+1)::(us++ds)):=.cons rfl (r.append l)
 have hl:(Value.ref (s.heap.objs.size+1)::us++ds).length=ps.length:=by
  have e:=d.length;rw[F.len _ _ _ _ c] at e;show e.symm
 show Xl (make_map (f:=f) I.kIn M.makes M.init (Ym.mp M.fn) (XS (F.run _ X.stack _ _ ⟨Value.ref (s.heap.objs.size+1)::us,[]⟩ (Value.ref (s.heap.objs.size+1)::(us++ds)) _ _ E (m.make C us [])
  (b.env0.make C us []) (hb _ (Value.ref (s.heap.objs.size+1)::us) b.kIn hl) d c) fun r s' a=>?_))
 cases r with
 | error e=>show n pins σ _ _ e s' b a
 | ok fl =>
  cases fl with
  | ret u =>
   obtain⟨v,H',i,p,j,o⟩:=b.after a;subst j;show⟨p,⟨V.ref (s.heap.objs.size+1),H',i,rfl,o⟩⟩
  | next=>show False.elim a
  | brk=>show False.elim a
  | cont=>show False.elim a
theorem pe_make(M:Mk X.K C f)(F:FnOk X.prog X.w X.K X.mg X.base CX k f fd ps sp)(m:Room (k+1) X.A)(j:Gl X x)(l:X.mg x=some (.ref C))(hb:Binds X.K fd ps ds)(g:Vals dvs ds)(n:qaf CX X E)
  (d:PA X (e::es) t) (a:(x==("__debug__":Str))=false:=by decide) (i:starEach (e::es) X.env=(false,eval e X.env)::starEach es X.env:=by rfl) (b:(backTo pos (starEach es X.env)).any (·.1)=false:=by rfl) :
  PE X (.Call (.Name x p) (e::es) [] pos) (qek C sp dvs E t):=by
 intro pins s σ H Q I h;show Xm (qaZ I j l ?_ a);show xI (h₀:=X.base) I.ok.mod.kin M.kp (thn (d pos pins s σ H _ I h) fun us u ⟨vs,o,c,r,q⟩=>⟨c.kIn,?_⟩) i b;show run_make M F m hb g n c r q
end
section
variable{X:Cx}{CX:CXT}{k:Nat}{f C:Addr}{fd:FuncData}{ps ks:LS}{sp:Sp}{E:XK}{x m:Str}{p pos apos kpos:Pos}{e o:Expr}{es:List Expr}{kws:List Keyword}{te ta:TE}{t tk:TA}{nm:Option Str}
structure KBinds(K:yg)(fd:FuncData)(ps ks:LS)(g:List Value->List Value->List Value)(gV:List V->List V->List V):Prop where
 to:∀(s:Shared) (us ws:List Value),K.In s.heap->(g us ws).length=ps.length->BindsTo s fd ⟨us,ks.zip ws⟩ (ps.zip (g us ws))
 rel:∀{vs:List V} {us:List Value} {zs:List V} {ws:List Value},Vals vs us->Vals zs ws->Vals (gV vs zs) (g us ws)
variable{g:List Value->List Value->List Value}{gV:List V->List V->List V}
end
structure FnScope(N P:LS)(sc:Scope):Prop where
 kind:sc.kind=.function
 co:sc.isCoroutine=false
 gen:sc.isGenerator=false
 nd:N.Nodup
 pre:N.take P.length=P
 par:∀ x∈P,sc.names.lookup x=some .local\/sc.names.lookup x=some .cell
 nofree:∀ y∈sc.names,y.2≠.free
theorem fS{P:LS}(a:sc.kind=.function:=by rfl)(b:sc.isCoroutine=false:=by rfl)(c:sc.isGenerator=false:=by rfl)(d:N.Nodup:=by room)(e:N.take P.length=P:=by rfl)(f:∀ x∈P,sc.names.lookup x=some .local\/sc.names.lookup x=some .cell:=by room)(g:∀ y∈sc.names,y.2≠.free:=by room):FnScope N P sc:=⟨a,b,c,d,e,f,g⟩
theorem qch:∀{binds:List (Str×Value)} {m:Str->Option Value},(∀ v,(x,v)∉binds)->bindL kindOf binds m x=m x
 | [],_,_=>rfl
 | (n,v)::r,m,h=>by
  unfold bindL;rw[qch fun w hw=>h w (yJ _ hw)];split
  .have:x≠n:=by rintro rfl;show h v yU
   simp[this]
  .rfl
theorem qci:∀{binds:List (Str×Value)} {m:Str->Option Value},(∀ v,(x,v)∉binds)->bindC kindOf binds m x=m x
 | [],_,_=>rfl
 | (n,v)::r,m,h=>by
  unfold bindC;rw[qci fun w hw=>h w (yJ _ hw)];split
  .rfl
  .have:x≠n:=by rintro rfl;show h v yU
   simp[this]
theorem qcj{v:Value}:∀{P:LS} {vs:List Value} {i:Nat} {m:Str->Option Value},P.Nodup->P[i]?=some x->vs[i]?=some v->kindOf x=some .local ->
  bindL kindOf (P.zip vs) m x=some v
 | [],_,_,_,_,h,_,_=>by simp at h
 | _::_,[],_,_,_,_,h,_=>by simp at h
 | p::P,w::vs,0,m,nd,h1,h2,hk=>by
  simp at h1 h2;subst h1;subst h2;show bindL kindOf ((p,w)::P.zip vs) m p=_;unfold bindL;rw[qch fun v hv=>(yo.mp nd).1 (k7 hv).1,yI hk];simp
 | p::P,w::vs,i+1,m,nd,h1,h2,hk=>by
  show bindL kindOf ((p,w)::P.zip vs) m x=_;unfold bindL;show qcj (i:=i) (yo.mp nd).2 (by simpa using h1) (by simpa using h2) hk
theorem qck{v:Value}:∀{P:LS} {vs:List Value} {i:Nat} {m:Str->Option Value},P.Nodup->P[i]?=some x->vs[i]?=some v->kindOf x≠some .local ->
  bindC kindOf (P.zip vs) m x=some v
 | [],_,_,_,_,h,_,_=>by simp at h
 | _::_,[],_,_,_,_,h,_=>by simp at h
 | p::P,w::vs,0,m,nd,h1,h2,hk=>by
  simp at h1 h2;subst h1;subst h2;show bindC kindOf ((p,w)::P.zip vs) m p=_;unfold bindC;rw[qci fun v hv=>(yo.mp nd).1 (k7 hv).1,yF hk];simp
 | p::P,w::vs,i+1,m,nd,h1,h2,hk=>by
  show bindC kindOf ((p,w)::P.zip vs) m x=_;unfold bindC;show qck (i:=i) (yo.mp nd).2 (by simpa using h1) (by simpa using h2) hk
noncomputable def start(N:LS)(vs:List V):St:=vs.map some++List.replicate (N.length-vs.length) none
noncomputable def qex(CX:CXT)(P:Program)(w:World)(K:yg)(mg:Str->Option Value)(base:Heap)(N:LS)(qual:Str)(scope:Scope)(f:Addr)(b:Value)(A:Around)(outer:List Env)(s:Shared)(H:Hp)(E:XK):Cx where
 prog:=P
 w:=w
 K:=K
 mg:=mg
 base:=base
 A:=A.deeper (envOfC qual scope s.heap.objs.size f b)
 N:=N
 s₀:=s
 H₀:=H
 env:=envOfC qual scope s.heap.objs.size f b
 outer:=outer
 stack:=envOfC qual scope s.heap.objs.size f b::outer
 ex:=[]
 calm:=true
 fn:=fun _=>true
 pn:=[]
 xe:=fun e s'=>wpAny (model P w) (A.deeper (envOfC qual scope s.heap.objs.size f b)) (leaving (envOfC qual scope s.heap.objs.size f b) e) (fun _ a=>CX outer H s E e a) (fun c a=>CX outer H s E c a) s'
theorem qc4(h:sc.names.lookup x=some .cell):∃ c,(cellsFrom n sc.names []).lookup x=some c:=by
 have q:=PySem.W.cellsFrom_some sc.names n [] (.inl h);show xq.mp q
theorem inv_start{K:yg}{f:Addr}{o:Value}{D:Shared}{E:XK}
  (S:FnScope N ps scope) (G:A.handled=none) (g:Env0 P w K mg base A outer s H) (hl:vs.length=ps.length) (r:Vals vs us)
  (x:InCallC s s.heap.objs.size (bindL (envOfC qual scope s.heap.objs.size f o).kindOf (ps.zip us) fun _=>none) (cellsFrom (s.heap.objs.size+1) scope.names []) (bindC (envOfC qual scope s.heap.objs.size f o).kindOf (ps.zip us) fun _=>none) D) :
  Inv (qex CX P w K mg base N qual scope f o A outer s H E) [] (start N vs) H D:=by
 have I:ps.length<=N.length:=by have:=congrArg List.length S.pre;rw[yK] at this;lk
 obtain⟨h1,tk,rfl,B⟩:=x.done;have j:∀ b:Addr,b∉(qex CX P w K mg base N qual scope f o A outer s H E).ex:=fun b z=>absurd (show b∈([]:LQ) from z) (by simp);show⟨⟨g.mod,S.kind,rfl,rfl,yh _,fun y z c h1 d=>?_,fun y hy=>?_,fun y c _ h=>?_,fun _=>G,Around.frames_deeper g.frames,.inr ⟨rfl,rfl⟩,fun b z=>absurd z (j b),g.bs,g.bsz,fun b _ _=>j b,fun b z=>absurd z (j b),g.funs,g.frf⟩,
  rfl,g.bare,Un.kept B,⟨_,x.toInCall.ns,fun i y v h1 d L=>?_⟩,fun y c h=>⟨_,x.cell y c h⟩,g.hok.fresh (yh _),fun y c h=>?_,fun p l=>absurd (show p∈([]:List (Addr×Obj)) from l) (by simp),g.hok.kept B,?_⟩
 .show name_of_addr x.apart (xX h1) (xX d)
 .have hy:scope.names.lookup y=some .cell\/scope.names.lookup y=some .free:=hy;rcases hy with hy | hy
  .show qc4 hy
  .show absurd rfl (S.nofree _ (xX hy))
 .show yR (x.above y c (xX h))
 .have t:i<vs.length:=by
   unfold start at d;by_cases t:i<vs.length
   .show t
   .rw [yB (by simpa using t)] at d;rw[XI] at d;split at d<;>cases d
  have F:vs[i]?=some v:=by
   unfold start at d;rw[yW (by simpa using t),yd] at d
   cases e:vs[i]? with
   | none=>rw[e] at d;cases d
   | some a=>rw[e] at d;cases d;rfl
  obtain⟨u,C,J⟩:=r.get F
  have l:ps[i]?=some y:=by
   rw[<- S.pre,List.getElem?_take_of_lt (by lk)];show h1
  have m:ps.Nodup:=by rw[<- S.pre];show S.nd.sublist (XT _ _)
  show⟨u,J,?_⟩;rcases S.par y (ye l) with k | k
  .show .inl ⟨k,qcj m l C k⟩
  .obtain⟨c,e⟩:=qc4 (n:=s.heap.objs.size+1) k;show .inr ⟨.inl k,c,e,?_⟩;have q:=x.cell y c e;rw[qck m l C (by show scope.names.lookup y≠_;rw[k];decide)] at q;show q
 .show g.hok.fresh (yR (x.above y c (xX h)))
 .unfold start;show _=N.length;rw[yt,ya,YY];lk
theorem qfr{K:yg}{k:Nat}{f:Addr}{name:Str}{c:Arguments}{L kV j M a ct oc:Value}{G od:Option Addr}
  {C:Array (Option Value)} {sp:Sp} (Z:K.lookup f=some ⟨oc,od,.func (PySem.W.fnOf name qual c body scope L kV j M G a ct),C⟩) (p:PySem.W.codeIn K a qual=true) (S:FnScope N ps scope)
  (len:∀ vs H Q E,sp vs H Q E->vs.length=ps.length)
  (g:∀(A:Around) (outer:List Env) (s:Shared) (H:Hp) (vs:List V) (Q:VK) (E:XK),Room k (A.deeper (envOfC qual scope s.heap.objs.size f a))->sp vs H Q E ->
   ∃ t,PSs (qex CX P w K mg base N qual scope f a A outer s H E) body t/\t { nx:=fun _ H'=>Q .non H',rt:=Q } (start N vs) H) :
  FnOk P w K mg base CX (k+1) f (PySem.W.fnOf name qual c body scope L kV j M G a ct) ps sp:=by
 show⟨len,fun A outer s H args us vs Q E z l hb r m=>?_⟩;have hl:=len _ _ _ _ m;have F:K.In s.heap:=l.mod.kin.keeps fun b o e=>(l.bs b o e).1;have B:s.heap.NoLimit:=l.mod.nolimit.keeps fun b o e=>(l.bs b o e).1
 have h:∀ y∈ps.zip us,scope.names.lookup y.1=some .local\/(scope.names.lookup y.1=some .cell/\((cellsFrom (s.heap.objs.size+1) scope.names []).lookup y.1).isSome=true):=fun⟨n,v⟩ Y=>by
  rcases S.par n (k7 Y).1 with q | q
  .show .inl q
  .show .inr ⟨q,PySem.W.cellsFrom_some _ _ _ (.inl q)⟩
 show codeAny_call_function z.depth (F _ _ Z) rfl S.co S.gen rfl (PySem.W.codeRec_of F p) (hb _ _ _ _ ?_);show wpAny_newFunctionEnv_cells S.kind h fun env T O x=>?_;subst T;show⟨B.keeps x.toInCall.keep,codeAny_func ?_⟩;obtain⟨t,X,U⟩:=g A outer s H vs Q E (z.deeper _) m;have I:Inv (qex CX P w K mg base N qual scope f a A outer s H E) [] (start N vs) H O:=inv_start S z.hd l hl r x;show YL (X [] O (start N vs) H _ I U) (fun R s' i=>?_) fun e s' i=>i
 have fin:∀{d:St} {H':Hp} {v:V} {u:Value},Inv (qex CX P w K mg base N qual scope f a A outer s H E) [] d H' s'->RelV v u->Q v H'->CE outer P w H s Q u s':=
  fun{d H' v u} J D q=>⟨v,H',J.os,J.bare,J.base,J.hok,D,q⟩
 cases R with
 | ret u =>
  obtain⟨v,d,H',J,D,q⟩:=i;show fin J D q
 | next =>
  obtain⟨d,H',J,q⟩:=i;show fin (v:=V.non) (u:=Value.none) J rfl q
 | brk =>
  obtain⟨_,_,_,q⟩:=i;show False.elim q
 | cont =>
  obtain⟨_,_,_,q⟩:=i;show False.elim q
section
variable{X:Cx}{x:Str}{p pos:Pos}{e:Expr}{es:List Expr}{t:TA}{id T:String}{r:List V->Hp->VK->Prop}
def tCB(r:List V->Hp->VK->Prop)(t:TA):TE:=fun σ H Q=>t σ H fun vs a=>r vs a Q
theorem qp(hc:qae X (.builtin id) r)(i:Gl X x)(j:X.mg x=none)(hv:bootBuiltins x=some (.builtin id))(f:PA X (e::es) t)(l:x≠"__name__":=by decide)(a:(x==("__debug__":Str))=false:=by decide)
  (g:starEach (e::es) X.env=(false,eval e X.env)::starEach es X.env:=by rfl) (b:(backTo pos (starEach es X.env)).any (·.1)=false:=by rfl):PE X (.Call (.Name x p) (e::es) [] pos) (tCB r t):=by
 intro pins s σ H Q I h;show Xm (qa7 I i j hv ?_ l a);show PyProof.Rows.callWith_builtin1 (thn (f pos pins s σ H _ I h) fun us o ⟨vs,c,d,n,m⟩=>hc pins o σ c vs us Q d n m) g b
theorem zF(hc:qae X (.type T) r)(i:Gl X x)(j:X.mg x=none)(hv:bootBuiltins x=some (.type T))(f:PA X (e::es) t)(l:x≠"__name__":=by decide)(a:(x==("__debug__":Str))=false:=by decide)
  (g:starEach (e::es) X.env=(false,eval e X.env)::starEach es X.env:=by rfl) (b:(backTo pos (starEach es X.env)).any (·.1)=false:=by rfl):PE X (.Call (.Name x p) (e::es) [] pos) (tCB r t):=by
 intro pins s σ H Q I h;show Xm (qa7 I i j hv ?_ l a);show Y7 (thn (f pos pins s σ H _ I h) fun us o ⟨vs,c,d,n,m⟩=>hc pins o σ c vs us Q d n m) g b
end
end L2
namespace HT
open PySem PyProof.Rows
variable{hi lo:Option Int}{sl t:Addr}{vl vu:Value}
noncomputable def lexLt:LX->LX->Bool
 | [],[]=>false
 | [],_::_=>true
 | _::_,[]=>false
 | x::xs,y::ys=>if x=y then lexLt xs ys else decide (x<y)
section
open PySem.SeqAt
open PySem.AutoSeq1 (wpAny_loadPart')
open PySem.MeetsSeq PySem.MeetsSeq2 PySem.MeetsSeq3
end
section
variable{prog:Program}{w:World}{A:Around}{E:Value->Shared->Prop}{s:Shared}
theorem cat_tup{b:Addr}{vs a:List Value}{Q:Value->Shared->Prop}(r:IsTup s.heap t vs.toArray)(hb:IsTup s.heap b a.toArray)(hv:vs≠[])
  (h1:a=[]->Q (.ref t) s) (q:a≠[]->Q (.ref s.heap.objs.size) { s with heap:=s.heap.push { cls:=.type "tuple",data:=.seq (vs++a).toArray } })
  (hsz:vs.length+a.length<=sizeLine):wpAny (model prog w) A (binaryOp .Add (.ref t) (.ref b)) Q E s:=by
 obtain⟨⟨cls,m,data,sl⟩,i,hc,n,o⟩:=id r;obtain⟨⟨l,d,j,h⟩,c,f,p,g⟩:=id hb;simp only at hc o f g;subst hc o f g;have e:vs.toArray++a.toArray=(vs++a).toArray:=by simp
 by_cases hw:a=[]
 .show concat_meets ⟨_,i,rfl⟩ ⟨_,c,rfl⟩ noFill_tuple_add seq_tuple_add PySem.F.slot_tuple_add PySem.F.entry_tuple_add (PySem.F.args_tuple_add_2 _ _)
   (tuple_addW1 t b vs.toArray a.toArray n p m d sl h (by simpa using hv) (by simp[hw])) ⟨i,c,h1 hw⟩
 .show concat_meets ⟨_,i,rfl⟩ ⟨_,c,rfl⟩ noFill_tuple_add seq_tuple_add PySem.F.slot_tuple_add PySem.F.entry_tuple_add (PySem.F.args_tuple_add_2 _ _)
   (tuple_addW2 t b vs.toArray a.toArray n p m d sl h (by simpa using hv) (by simpa using hw) (by rw[yy,yy];show hsz)) ⟨i,c,?_⟩
  rw[e];show q hw
noncomputable def sIx(n d:Nat):Option Int->Nat
 | none=>d
 | some v=>if v<0 then(v+(n:Int)).toNat else min v.toNat n
theorem sIx_none(n d:Nat):sIx n d none=d:=rfl
theorem sIx_nat(n d k:Nat):sIx n d (some (k:Int))=min k n:=by
 show(if (k:Int)<0 then((k:Int)+(n:Int)).toNat else min (k:Int).toNat n)=min k n;rw[yF (by lk),xU]
theorem sIx_le(n d:Nat)(a:d<=n)(o:Option Int):sIx n d o<=n:=by
 cases o with
 | none=>show a
 | some v =>
  show(if v<0 then(v+(n:Int)).toNat else min v.toNat n)<=n;by_cases hv:v<0
  .rw [yI hv];lk
  .rw [yF hv];show X3 _ _
theorem qdQ(v:Int)(n d:Nat):(if v<0 then max (v+(n:Int)) 0 else min v (n:Int))=((sIx n d (some v):Nat):Int):=by
 show(if v<0 then max (v+(n:Int)) 0 else min v (n:Int))=(((if v<0 then(v+(n:Int)).toNat else min v.toNat n):Nat):Int);by_cases hv:v<0
 .simp only[yI hv];lk
 .simp only[yF hv];lk
theorem adjust_gen(lo hi:Option Int)(n:Nat):Builtin.Slice.sliceAdjust lo hi 1 (n:Int)=(((sIx n 0 lo:Nat):Int),((sIx n n hi:Nat):Int)):=by
 have h1:¬ ((1:Int)<0):=by lk
 unfold Builtin.Slice.sliceAdjust;simp only[h1,XU];show kC ?_ ?_
 .cases lo with
  | none=>rfl
  | some v=>show qdQ v n 0
 .cases hi with
  | none=>rfl
  | some v=>show qdQ v n n
theorem places_gen(i j:Nat):Builtin.Slice.slicePlaces (i:Int) (j:Int) 1=j-i:=by
 unfold Builtin.Slice.slicePlaces;have h1:(1:Int)>0:=by lk
 simp only[h1,X5,Int.ediv_one];split<;>lk
theorem qaq{v:Value}{o:Option Int}{Q:Option Int->Shared->Prop}(p:IsPart v o)(h:Q o s):wpAny (model prog w) A (Builtin.Slice.slicePartIndex v) Q E s:=by
 cases p with
 | none=>show Xw h
 | int i t=>show slicePart_int h
theorem sliceApplied_gen{n:Nat}{Q:Int×Int×Nat->Shared->Prop}(d:s.heap.IsSliceOf sl vl vu .none)(pl:IsPart vl lo)(e:IsPart vu hi)
  (h:Q (((sIx n 0 lo:Nat):Int),1,sIx n n hi-sIx n 0 lo) s):wpAny (model prog w) A (Builtin.Slice.sliceApplied (.ref sl) (pure (n:Int))) Q E s:=by
 obtain⟨f,b,c,a⟩:=id d;unfold Builtin.Slice.sliceApplied Builtin.Slice.sliceFields;show yr (yr (YD b a (x:=vl) rfl (yr (YD b a (x:=vu) rfl (yr (YD b a (x:=.none) rfl (yu ?_)))))));show yr (Xw ?_);show wpAny _ _ (if ((1:Int)==0)=true then _ else _) _ _ s;rw[yF (by decide)];show yr (qaq pl (yr (qaq e (yr (yu ?_)))));show wpAny _ _ (match Builtin.Slice.sliceAdjust lo hi 1 (n:Int) with | (lo,hi)=>pure (lo,(1:Int),Builtin.Slice.slicePlaces lo hi 1)) _ _ s;rw[adjust_gen lo hi n];show wpAny _ _ (pure (((sIx n 0 lo:Nat):Int),(1:Int),Builtin.Slice.slicePlaces ((sIx n 0 lo:Nat):Int) ((sIx n n hi:Nat):Int) 1)) _ _ s;rw[places_gen];show yu h
theorem pick_gen(xs:Array Value)(i k:Nat):((List.range k).filterMap fun(m:Nat)=>xs[((i:Int)+(m:Int)*1).toNat]?).toArray=((xs.toList.drop i).take k).toArray:=by
 have e:(fun(m:Nat)=>xs[((i:Int)+(m:Int)*1).toNat]?)=fun m=>xs[i+m]?:=by
  funext m;have:((i:Int)+(m:Int)*1).toNat=i+m:=by lk
  rw[this]
 rw[e];have:=pick_run xs i k;rw[List.filterMap_map] at this;have a:((fun x=>xs[x]?) ∘ fun x=>i+x)=fun m=>xs[i+m]?:=rfl;rw[a] at this;rw[this]
theorem getItem_tuple_cut{a:Array Value}{Q:Value->Shared->Prop}(c:IsTup s.heap t a)(i:s.heap.IsSliceOf sl vl vu .none)(pl:IsPart vl lo)(n:IsPart vu hi)
  (hw:¬ (sIx a.size 0 lo=0/\sIx a.size a.size hi=a.size))
  (h:Q (.ref s.heap.objs.size) { s with heap:=s.heap.push { cls:=.type "tuple",data:=.seq ((a.toList.drop (sIx a.size 0 lo)).take (sIx a.size a.size hi-sIx a.size 0 lo)).toArray } })
  (hsz:a.size<=sizeLine):wpAny (model prog w) A (getItem (.ref t) (.ref sl)) Q E s:=by
 have b:sizeOk (.seq ((a.toList.drop (sIx a.size 0 lo)).take (sIx a.size a.size hi-sIx a.size 0 lo)).toArray):=by
  show((a.toList.drop (sIx a.size 0 lo)).take (sIx a.size a.size hi-sIx a.size 0 lo)).toArray.size<=sizeLine;rw[yy,yK,Xb,xz];lk
 have o:sIx a.size a.size hi<=a.size:=sIx_le _ _ (yh _) hi;obtain⟨l,g,e,j⟩:=id i;have d:s.TypeIs (.ref sl) "slice":=⟨l,g,e⟩;unfold getItem
 try with_reducible show Yr ?_
 first | show yr (yu ?_) | skip
 show yr (kF c.typeIs (by decide) ?_);show yr (xx (name:=Str.ofString "__getitem__") c.typeIs Ye
  (Xc Ye c.typeIs kt ?_ (args_tuple_getitem _ _)))
 show wpAny _ _ (Builtin.Tuple.tupleItemsOf (.ref t)>>=_) _ _ s;show yr (tupleItemsOf_ c ?_);show yr (kW d ?_);rw[yI (by decide)];show yr (sliceApplied_gen i pl n ?_)
 have f:¬ ((((sIx a.size 0 lo:Nat):Int)==0&&(1:Int)==1&&(sIx a.size a.size hi-sIx a.size 0 lo)==a.size)=true):=by
  intro q;rw[yY,yY] at q;have p:((sIx a.size 0 lo:Nat):Int)=0:=eq_of_beq q.1.1;have r:sIx a.size a.size hi-sIx a.size 0 lo=a.size:=eq_of_beq q.2;show hw ⟨by lk,by lk⟩
 show wpAny _ _ (if (((sIx a.size 0 lo:Nat):Int)==0&&(1:Int)==1&&(sIx a.size a.size hi-sIx a.size 0 lo)==a.size)=true then _ else _) _ _ s;rw[yF f,pick_gen]
 first
  | show yr (m:=Builtin.Tuple.tupleExact _) (Ys (yu ⟨_,rfl,yu h⟩) b)
  | show yr (m:=Builtin.Tuple.tupleExact _) (Ys (yr (yu (yu ⟨_,rfl,yu h⟩))) b)
  | show yr (yr (m:=Builtin.Tuple.tupleExact _) (Ys (yu (yu ⟨_,rfl,yu h⟩)) b))
  | show yr (yr (m:=Builtin.Tuple.tupleExact _) (Ys (yu ⟨_,rfl,yu h⟩) b))
end
end HT
namespace L2
open PySem PySem.Spec PyProof.Rows
variable{A:Around}{H H':Hp}{P:Program}{X:Cx}{a p:Addr}{h':Heap}{i:Int}{its its' us:List Value}{j n t':Nat}{kvs:List (List Key×V)}{o:Option V}{pins:List (Addr×Obj)}{r:R2}{s:Shared}{u v:Value}{w:World}{x y:V}{xs:List V}{α:Type}{σ:St}
abbrev TO:=St->Hp->(Option Int->Hp->Prop)->Prop
def PO(X:Cx)(e:Option Expr)(t:TO):Prop:=
 ∀(pins:List (Addr×Obj)) (s:Shared) (σ:St) (H:Hp) (Q:Option Int->Hp->Prop),Inv X pins σ H s->t σ H Q ->
  wpAny (model X.prog X.w) X.A (evalPart e X.env) (fun u s'=>∃ o H',Inv X pins σ H' s'/\IsPart u o/\Q o H') X.xe s
def qdR:TO:=fun _ H Q=>Q none H
def qfs(t:TE):TO:=fun σ H Q=>t σ H fun x a=>∃ i,x=.int i/\Q (some i) a
section
variable{X:Cx}{e:Expr}{te:TE}{lo hi:Option Expr}{tl th:TO}{pos p2:Pos}
theorem jS:PO X none qdR:=by
 intro pins s σ H Q I h;rw[X6];show yu ⟨none,H,I,.none,h⟩
theorem jo(h:PE X e te):PO X (some e) (qfs te):=by
 intro pins s σ H Q I hw;rw[evalPart_some];show thn (h pins s σ H _ I hw) fun u f ⟨x,a,b,d,c⟩=>?_;obtain⟨i,rfl,q⟩:=c;obtain⟨t,rfl⟩:=d;show⟨some i,a,b,.int i t,q⟩
def SlR(X:Cx)(r:V->Option Int->Option Int->Hp->VK->Prop):Prop:=
 ∀(pins:List (Addr×Obj)) (s:Shared) (σ:St) (H:Hp) (x:V) (v b c:Value) (lo hi:Option Int) (a:Addr) (Q:VK),Inv X pins σ H s->RelV x v->s.heap.IsSliceOf a b c .none->IsPart b lo->IsPart c hi->r x lo hi H Q ->
  ∃ T id,typeLookup (.type T) "__getitem__"=pure (some (.builtin id))/\s.TypeIs v T/\wpAny (model X.prog X.w) X.A (getItem v (.ref a)) (EP X pins σ Q) X.xe s
def tSl(r:V->Option Int->Option Int->Hp->VK->Prop)(te:TE)(tl th:TO):TE:=fun σ H Q=>te σ H fun x a=>tl σ a fun l b=>th σ b fun u c=>r x l u c Q
theorem jx{r:V->Option Int->Option Int->Hp->VK->Prop}(z:SlR X r)(t:PE X e te)(hl:PO X lo tl)(C:PO X hi th):PE X (.Subscript e (.Slice lo hi none p2) pos) (tSl r te tl th):=by
 intro pins s σ H Q I h;show Subscript_ (thn (t pins s σ H _ I h) fun v K ⟨x,g,j,J,E⟩=>?_);show Ka (thn (hl pins K σ g _ j E) fun c L ⟨l,i,m,pl,F⟩=>thn (C pins L σ i _ m F) fun d a ⟨u,f,n,D,G⟩=>?_);rw[X6];show yu ?_;have o:Inv X pins σ f { a with heap:=a.heap.push { cls:=.type "slice",data:=.fields #[c,d,.none] } }:=n.kept (t':=a.toks) fun b M q=>yv _ q;obtain⟨T,id,p,B,y⟩:=z pins { a with heap:=a.heap.push { cls:=.type "slice",data:=.fields #[c,d,.none] } } σ f x v c d l u a.heap.objs.size Q o J (XH ..) pl D G;show wpAny (model X.prog X.w) X.A (subscriptTail e (.Slice lo hi none p2) v (.ref a.heap.objs.size)) (EP X pins σ Q) X.xe { a with heap:=a.heap.push { cls:=.type "slice",data:=.fields #[c,d,.none] } };show tail_any (ops:=[.ref a.heap.objs.size,v]) B p y (by with_unfolding_all rfl)
noncomputable def qc5(xs:List V)(lo hi:Option Int):List V:=(xs.drop (HT.sIx xs.length 0 lo)).take (HT.sIx xs.length xs.length hi-HT.sIx xs.length 0 lo)
theorem qbo(xs:List V)(lo hi:Option Int):(qc5 xs lo hi).length<=xs.length:=by
 unfold qc5;rw[yK,Xb];lk
inductive rSlT(K:yg)(x:V)(lo:Option Int)(hi:Option Int)(H:Hp)(Q:VK):Prop|mk (a xs:_) (_:x=.ref a) (_:SqT K H a xs) (_:¬ (HT.sIx xs.length 0 lo=0/\HT.sIx xs.length xs.length hi=xs.length)) (_:∀ p,H p=none->Q (.ref p) (upd H p (.tup (qc5 xs lo hi))))
theorem sl_tup:SlR X (rSlT X.K):=by
 intro pins s σ H x v m n lo hi l Q I i e pl g h;obtain⟨a,xs,rfl,f,hw,q⟩:=h;cases i;obtain⟨its,r,d,hz⟩:=I.tuple f;have c:its.toArray.size=xs.length:=by rw[yy];show r.length.symm
 show⟨"tuple",_,Ye.lookup,d.typeIs,?_⟩;show HT.getItem_tuple_cut d e pl g (by rw[c];show hw) ?_ (by rw[c];show hz);rw[c];show⟨.ref s.heap.objs.size,_,I.laid (t':=s.toks) (o:=.tup (qc5 xs lo hi)) (fun b j q=>yv _ q) (yh _) ?_,rfl,q _ (I.hok.fresh (yh _))⟩;show⟨yi (qbo xs lo hi) hz,_,(r.drop (HT.sIx xs.length 0 lo)).take (HT.sIx xs.length xs.length hi-HT.sIx xs.length 0 lo),IsTup.new _ _⟩
inductive rLtT(K:yg)(x:V)(y:V)(H:Hp)(Q:VK):Prop|mk (a b ns ms:_) (_:x=.ref a) (_:y=.ref b) (_:SqT K H a (ns.map V.int)) (_:SqT K H b (ms.map V.int)) (_:Q (.bl (HT.lexLt ns ms)) H)
inductive rCatT(K:yg)(x:V)(y:V)(H:Hp)(Q:VK):Prop|mk (a b xs ys:_) (_:x=.ref a) (_:y=.ref b) (_:SqT K H a xs) (_:SqT K H b ys) (_:xs≠[]) (_:xs.length+ys.length<=sizeLine) (_:(ys=[]->Q (.ref a) H)) (_:(ys≠[]->∀ p,H p=none->Q (.ref p) (upd H p (.tup (xs++ys)))))
theorem Vals.nil_iff(r:Vals xs us):us=[]↔xs=[]:=by
 cases r with
 | nil=>simp
 | cons _ _=>simp
theorem op_catT:OpR X (binaryOp .Add) (rCatT X.K):=by
 intro pins s σ H x y v u Q I m n h;obtain⟨a,b,xs,ys,rfl,rfl,f,hb,g,hz,j,l⟩:=h;cases m;cases n;obtain⟨its,d,i,_⟩:=I.tuple f;obtain⟨e,c,p2,_⟩:=I.tuple hb;show HT.cat_tup i p2 (fun z=>g (d.nil_iff.mp z)) (fun z=>⟨.ref a,H,I,rfl,j (c.nil_iff.mp z)⟩) (fun z=>?_) (by rw[<- d.length,<- c.length];show hz);show⟨.ref s.heap.objs.size,_,I.laid (t':=s.toks) (o:=.tup (xs++ys)) (fun b p q=>yv _ q) (yh _) ?_,rfl,l (fun w=>z (c.nil_iff.mpr w)) _ (I.hok.fresh (yh _))⟩;show⟨by rw[yt];show hz,_,d.append c,IsTup.new _ _⟩
end
noncomputable def ixN(n:Nat)(i:Int):Option Nat:=if 0<=i then(if i<n then some i.toNat else none) else if -(n:Int)<=i then some (i+n).toNat else none
noncomputable def atI{α:Type}(xs:List α)(i:Int):Option α:=(ixN xs.length i).bind fun j=>xs[j]?
theorem qbW(h:ixN n i=some j):seqIndex? i n=some j/\j<n/\-(n:Int)<=i/\i<n:=by
 unfold ixN at h;by_cases a:0<=i
 .rw [yI a] at h;by_cases h1:i<n
  .rw [yI h1] at h;have e:i.toNat=j:=ym h;show⟨by rw[seqIndex_of a h1,e],by lk,by lk,h1⟩
  .rw [yF h1] at h;cases h
 .rw [yF a] at h;by_cases h1:-(n:Int)<=i
  .rw [yI h1] at h;have e:(i+n).toNat=j:=ym h;show⟨by rw[seqIndex_neg (by lk) h1,e],by lk,h1,by lk⟩
  .rw [yF h1] at h;cases h
theorem qcL{xs:List α}{v:α}(h:atI xs i=some v):∃ j,seqIndex? i xs.length=some j/\xs[j]?=some v/\j<xs.length/\-(xs.length:Int)<=i/\i<xs.length:=by
 unfold atI at h
 cases e:ixN xs.length i with
 | none=>rw[e] at h;cases h
 | some j =>
  rw[e] at h;obtain⟨h1,a,b,c⟩:=qbW e;show⟨j,h1,h,a,b,c⟩
theorem qE{xs:List α}{v:α}(h:xs[j]?=some v):atI xs (j:Int)=some v:=by
 have a:j<xs.length:=(yc.mp h).1
 have e:ixN xs.length (j:Int)=some j:=by
  unfold ixN;rw[yI (by lk),yI (by lk)];simp
 unfold atI;rw[e];show h
theorem atI_last(xs:List α)(v:α):atI (xs++[v]) (-1)=some v:=by
 have hl:(xs++[v]).length=xs.length+1:=by simp
 have e:ixN (xs++[v]).length (-1)=some xs.length:=by
  unfold ixN;rw[hl,yF (by decide),yI (by lk)]
  congr 1
  lk
 unfold atI;rw[e];show(xs++[v])[xs.length]?=some v;simp
def PlainIx(b:Expr):Prop:=∀ o i,subscripted b false o i=operate [o,i] (getItem o i)
def IxR(X:Cx)(r:R2):Prop:=
 ∀(b a:Expr) (pins:List (Addr×Obj)) (s:Shared) (σ:St) (H:Hp) (x y:V) (v u:Value) (Q:VK),Inv X pins σ H s->RelV x v->RelV y u->r x y H Q ->
  subscripted a false v u=operate [v,u] (getItem v u)->wpAny (model X.prog X.w) X.A (subscriptTail b a v u) (EP X pins σ Q) X.xe s
def MtR(X:Cx)(id:String)(r:V->List V->Hp->VK->Prop):Prop:=
 ∀(pins:List (Addr×Obj)) (s:Shared) (σ:St) (H:Hp) (x:V) (xs:List V) (v:Value) (us:List Value) (Q:VK),Inv X pins σ H s->RelV x v->Vals xs us->r x xs H Q ->
  wpAny (model X.prog X.w) X.A (call (.builtin id) (v::us)) (EP X pins σ Q) X.xe s
section
variable{X:Cx}{a b:Expr}{ta tb:TE}{pos:Pos}
theorem IxR.or{d:R2}(h:IxR X r)(h':IxR X d):IxR X (fun x y H Q=>r x y H Q\/d x y H Q):=by
 intro b a pins s σ H x y v u Q I e f q c;rcases q with q | q
 .show h b a pins s σ H x y v u Q I e f q c
 .show h' b a pins s σ H x y v u Q I e f q c
theorem qw(f:IxR X r)(e:PE X a ta)(hb:PE X b tb)(g:PlainIx b):PE X (.Subscript a b pos) (tOp r ta tb):=by
 intro pins s σ H Q I h;show Subscript_ (qfT e hb I h fun v u l x y c d i j q=>f a b pins l σ c x y v u Q d i j q (g _ _))
inductive rIxL(K:yg)(x:V)(y:V)(H:Hp)(Q:VK):Prop|mk (p xs i v:_) (_:x=.ref p) (_:y=.int i) (_:SqL K H p xs) (_:atI xs i=some v) (_:Q v H)
inductive rIxT(K:yg)(x:V)(y:V)(H:Hp)(Q:VK):Prop|mk (p xs i v:_) (_:x=.ref p) (_:y=.int i) (_:SqT K H p xs) (_:atI xs i=some v) (_:Q v H)
inductive rIxS(x:V)(y:V)(H:Hp)(Q:VK):Prop|mk (z i c:_) (_:x=.str z) (_:y=.int i) (_:z.length<=sizeLine) (_:atI z.cps.toList i=some c) (_:Q (.str ⟨#[c]⟩) H)
theorem ix_list:IxR X (rIxL X.K):=by
 intro d c pins s σ H x y v u Q I B C h g;obtain⟨p,xs,i,z,rfl,rfl,A,o,q⟩:=h;cases B;obtain⟨t,rfl⟩:=C;obtain⟨its,r,pl,hz⟩:=I.list A;obtain⟨j,h1,l,D,m,n⟩:=qcL o;obtain⟨w,e,b⟩:=r.get l;have hl:=r.length;have E:=qbK;have fin:EP X pins σ Q w s:=⟨z,H,I,b,q⟩;by_cases f:0<=i
 .have a:i.toNat=j:=by
   rw[seqIndex_of f n] at h1;show ym h1
  show item_listR pl.isList f (by lk) (by rw[a];simpa using e) fin g
 .have a:(i+(its.toArray.size:Int)).toNat=j:=by
   rw[seqIndex_neg (by lk) m] at h1;rw[yy,<- hl];show ym h1
  show subscriptTail_builtinR (x:=w) pl.isList.typeIs kG.lookup
   (wpAny_getItem_list_neg (Q:=fun r s'=>r=w/\EP X pins σ Q r s') pl.isList (by lk) (by rw[yy]<;>lk) (by lk) (by rw[a];simpa using e) ⟨rfl,fin⟩) g
theorem ix_tup:IxR X (rIxT X.K):=by
 intro c b pins s σ H x y v u Q I m n h l;obtain⟨p,xs,i,z,rfl,rfl,g,f,q⟩:=h;cases m;obtain⟨t,rfl⟩:=n;obtain⟨its,r,pl,hz⟩:=I.tuple g;obtain⟨j,h1,e,o,A,B⟩:=qcL f;obtain⟨w,d,a⟩:=r.get e;have hl:=r.length;have C:=qbK;have fin:EP X pins σ Q w s:=⟨z,H,I,a,q⟩;show subscriptTail_builtinR (x:=w) pl.typeIs slot_tuple_getitem.lookup
  (getItem_tuple (j:=j) (Q:=fun r s'=>r=w/\EP X pins σ Q r s') pl (by lk) (by lk) (by rw[yy,<- hl];show h1) (by simpa using d) ⟨rfl,fin⟩) l
theorem ix_str:IxR X rIxS:=by
 intro b a pins s σ H x y v u Q I o p h n;obtain⟨z,i,c,rfl,rfl,hz,m,q⟩:=h;obtain⟨t,rfl⟩:=o;obtain⟨t',rfl⟩:=p;obtain⟨j,h1,f,r,g,l⟩:=qcL m;have hl:z.cps.toList.length=z.length:=by simp[Str.length]
 rw[hl] at h1 g l;have w:=qbK
 show tail_any (typeIs_str s z t) slot_str_getitem.lookup (getItem_str (c:=c) (by
  have d:decide (i < -(2 ^ 63:Int))=false:=yl (by lk);have e:decide (i ≥ 2 ^ 63)=false:=yl (by lk);rw[d,e,kL]) (by rw[h1];simpa using f) ⟨.str ⟨#[c]⟩,H,I.tok _,⟨_,rfl⟩,q⟩) n
def rIx(K:yg):R2:=fun x y H Q=>rIxL K x y H Q\/rIxT K x y H Q\/rIxS x y H Q
theorem ix_seq:IxR X (rIx X.K):=ix_list.or (ix_tup.or ix_str)
theorem mapSeq_set(its:List Value)(n j:Nat)(u:Value):Obj.mapSeq (·.setIfInBounds j u) { cls:=.type "list",data:=.seq its.toArray n }={ cls:=.type "list",data:=.seq (its.set j u).toArray n }:=by
 simp[Obj.mapSeq]
theorem Inv.lst(I:Inv X pins σ H s)(h:H p=some (.lst xs)) :
  ∃(its:List Value) (n:Nat),Vals xs its/\s.heap.get? p=some { cls:=.type "list",data:=.seq its.toArray n }/\xs.length<=sizeLine:=by
 obtain⟨z,its,n,r,e⟩:=I.hok p _ h;show⟨its,n,r,e,z⟩
theorem Inv.lstUpd{ys:List V}{a:Nat}{f:Obj->Obj}(I:Inv X pins σ H s)(h:H p=some (.lst xs))
  (d:s.heap.get? p=some { cls:=.type "list",data:=.seq its.toArray n }) (c:f { cls:=.type "list",data:=.seq its.toArray n }={ cls:=.type "list",data:=.seq its'.toArray a }) (r:Vals ys its') (hz:ys.length<=sizeLine) (t:Nat) :
  Inv X pins σ (upd H p (.lst ys)) { s with heap:=s.heap.update p f,toks:=t }:=by
 have e:(s.heap.update p f).get? p=some { cls:=.type "list",data:=.seq its'.toArray a }:=by
  rw[YE f d (by rw[c]<;>rfl),c]
 show I.write (x:=p) (e:=p) (by rw[h];trivial) (.inl rfl) (fun b u hb q=>(YA _ _ (Yh hb)).trans q) ⟨_,e⟩ ?_;show⟨hz,its',a,r,e⟩
inductive rSetL(o:V)(i:V)(v:V)(H:Hp)(Q:(Hp->Prop)):Prop|mk (p xs k j:_) (_:o=.ref p) (_:i=.int k) (_:H p=some (.lst xs)) (_:ixN xs.length k=some j) (_:Q (upd H p (.lst (xs.set j v))))
theorem set_list:qfS X rSetL:=by
 intro pins s σ H o i v B A u Q I w m x h;obtain⟨p,xs,k,j,rfl,rfl,g,l,q⟩:=h;cases w;obtain⟨t,rfl⟩:=m;obtain⟨its,n,r,b,hz⟩:=I.lst g;obtain⟨h1,y,e,f⟩:=qbW l;have hl:=r.length;have z:=qbK
 have c:Inv X pins σ (upd H p (.lst (xs.set j v))) { s with heap:=s.heap.update p (Obj.mapSeq (·.setIfInBounds j u)) }:=
  I.lstUpd g b (mapSeq_set its n j u) (r.set x j) (by rw[kf];show hz) s.toks
 by_cases d:0<=k
 .have a:k.toNat=j:=by
   rw[seqIndex_of d f] at h1;show ym h1
  show PySem.W.ki_setAt b d (by lk) (by rw[yy,<- hl];show f) (by rw[a];show⟨_,c,q⟩)
 .have a:(k+(its.toArray.size:Int)).toNat=j:=by
   rw[seqIndex_neg (by lk) e] at h1;rw[yy,<- hl];show ym h1
  show PySem.W.ki_setBack b (by lk) (by rw[yy,<- hl];show e) (by lk) (by rw[a];show⟨_,c,q⟩)
theorem slice_bounds(lo a:Option Int)(n:Nat):(sliceBounds lo a none n).1=((HT.sIx n 0 lo:Nat):Int)/\(sliceBounds lo a none n).2.1=((HT.sIx n n a:Nat):Int)/\(sliceBounds lo a none n).2.2=1:=by
 show⟨?_,?_,rfl⟩
 .cases lo with
  | none=>simp[sliceBounds,HT.sIx]
  | some i =>
   simp only[sliceBounds,HT.sIx,Option.getD_none,show(1:Int)>0 by decide,X5];by_cases h:i<0
   .simp only[h,X5]<;>lk
   .simp only[h,XU]<;>lk
 .cases a with
  | none=>simp[sliceBounds,HT.sIx]
  | some i =>
   simp only[sliceBounds,HT.sIx,Option.getD_none,show(1:Int)>0 by decide,X5];by_cases h:i<0
   .simp only[h,X5]<;>lk
   .simp only[h,XU]<;>lk
theorem slicePick_cut(its:List Value)(lo a:Option Int):slicePick its.toArray lo a none=((its.drop (HT.sIx its.length 0 lo)).take (HT.sIx its.length its.length a-HT.sIx its.length 0 lo)).toArray:=by
 obtain⟨h1,b,c⟩:=slice_bounds lo a its.toArray.size;unfold slicePick;rw[h1,b,c];simp only[sliceRange_one,pick_run,yy]<;>rfl
inductive rSlL(K:yg)(x:V)(lo:Option Int)(hi:Option Int)(H:Hp)(Q:VK):Prop|mk (a xs:_) (_:x=.ref a) (_:SqL K H a xs) (_:∀ p,H p=none->Q (.ref p) (upd H p (.lst (qc5 xs lo hi))))
theorem sl_list:SlR X (rSlL X.K):=by
 intro pins s σ H x v n p lo d m Q I j f pl i h;obtain⟨a,xs,rfl,g,q⟩:=h;cases j;obtain⟨its,r,e,hz⟩:=I.list g;have c:=r.length;show⟨"list",_,kG.lookup,e.isList.typeIs,?_⟩;show wpAny_getItem_list_slice e.isList f pl i .none (by simp) ?_ (by rw[yy]<;>lk);rw[slicePick_cut,<- c];show⟨.ref s.heap.objs.size,_,I.laid (t':=s.toks) (o:=.lst (qc5 xs lo d)) (fun b l q=>yv _ q) (yh _) ?_,rfl,q _ (I.hok.fresh (yh _))⟩;show⟨yi (qbo xs lo d) hz,_,0,(r.drop (HT.sIx xs.length 0 lo)).take (HT.sIx xs.length xs.length d-HT.sIx xs.length 0 lo),yX _ rfl⟩
noncomputable def zM:V->Bool
 | .non=>true
 | .bl _=>true
 | .int _=>true
 | .str _=>true
 | _=>false
noncomputable def eqV:V->V->Bool
 | .non,.non=>true
 | .bl a,.bl b=>a==b
 | .bl a,.int b=>(if a then 1 else 0)==b
 | .int a,.bl b=>a==(if b then 1 else 0)
 | .int a,.int b=>a==b
 | .str a,.str b=>a==b
 | _,_=>false
theorem qdS(e:RelV y u)(c:RelV x v)(f:zM y=true)(d:zM x=true):SeqAt.EqAt A s u v (eqV y x):=by
 cases y with
 | non =>
  cases e
  cases x with
  | non=>cases c;show kg _
  | bl b=>cases c;show SeqAt.EqAt.none_bool b
  | int b=>obtain⟨t,rfl⟩:=c;show SeqAt.EqAt.none_int b t
  | str b=>obtain⟨t,rfl⟩:=c;show SeqAt.EqAt.none_str b t
  | _=>show absurd (show false=true from d) Yl
 | bl a =>
  cases e
  cases x with
  | non=>cases c;show SeqAt.EqAt.bool_none a
  | bl b=>cases c;show SeqAt.EqAt.bool_bool a b
  | int b=>obtain⟨t,rfl⟩:=c;show SeqAt.EqAt.bool_int a b t
  | str b=>obtain⟨t,rfl⟩:=c;show SeqAt.EqAt.bool_str a b t
  | _=>show absurd (show false=true from d) Yl
 | int a =>
  obtain⟨t',rfl⟩:=e
  cases x with
  | non=>cases c;show SeqAt.EqAt.int_none a t'
  | bl b=>cases c;show SeqAt.EqAt.int_bool a t' b
  | int b=>obtain⟨t,rfl⟩:=c;show SeqAt.EqAt.int_int a t' b t
  | str b=>obtain⟨t,rfl⟩:=c;show SeqAt.EqAt.int_str a t' b t
  | _=>show absurd (show false=true from d) Yl
 | str a =>
  obtain⟨t',rfl⟩:=e
  cases x with
  | non=>cases c;show SeqAt.EqAt.str_none a t'
  | bl b=>cases c;show SeqAt.EqAt.str_bool a t' b
  | int b=>obtain⟨t,rfl⟩:=c;show SeqAt.EqAt.str_int a t' b t
  | str b=>obtain⟨t,rfl⟩:=c;show SeqAt.EqAt.str_str a t' b t
  | _=>show absurd (show false=true from d) Yl
 | _=>show absurd (show false=true from f) Yl
noncomputable def eqU(x:V)(u:Value):Bool:=match u with
 | .none=>eqV .non x
 | .bool b=>eqV (.bl b) x
 | .int i _=>eqV (.int i) x
 | .str z _=>eqV (.str z) x
 | _=>false
theorem qdT(r:RelV y u)(f:zM y=true):eqU x u=eqV y x:=by
 cases y with
 | non=>cases r;rfl
 | bl b=>cases r;rfl
 | int i=>obtain⟨t,rfl⟩:=r;rfl
 | str z=>obtain⟨t,rfl⟩:=r;rfl
 | _=>show absurd (show false=true from f) Yl
theorem qbp:∀{xs:List V} {us:List Value},Vals xs us->xs.all zM=true->us.any (eqU x)=xs.any fun y=>eqV y x
 | _,_,.nil,_=>rfl
 | y::xs,u::us,.cons r t,f=>by
  rw[XF,yY] at f;rw[X7,X7,qdT r f.1,qbp t f.2]
theorem qar(b:RelV x v)(a:zM x=true):∀{xs:List V} {us:List Value},Vals xs us->xs.all zM=true->∀ u∈us,SeqAt.EqAt A s u v (eqU x u)
 | _,_,.nil,_=>fun u hu=>by cases hu
 | y::xs,u::us,.cons r t,f=>fun c hu=>by
  rw[XF,yY] at f;rcases yx.mp hu with rfl | hu
  .rw [qdT r f.1];show qdS r b f.1 a
  .show qar b a t f.2 c hu
noncomputable def inV(x:V)(xs:List V):Bool:=xs.any fun y=>eqV y x
inductive rIn(K:yg)(neg:Bool)(x:V)(y:V)(H:Hp)(Q:VK):Prop|mk (p xs:_) (_:y=.ref p) (_:(SqL K H p xs\/SqT K H p xs)) (_:zM x=true) (_:xs.all zM=true) (_:Q (.bl (if neg then !inV x xs else inV x xs)) H)
theorem op_in_seq:OpR X (compareOp .In) (rIn X.K false):=by
 intro pins s σ H x y v u Q I b c h;obtain⟨p,xs,rfl,hq,a,fs,q⟩:=h;cases c;rcases hq with hq | hq
 .obtain⟨its,r,pl,hz⟩:=I.list hq;show SeqAt.in_listAt (eqU x) pl.isList (fun w hw=>qar b a r fs w (by simpa using hw)) ⟨.bl _,H,I,rfl,?_⟩;rw[show its.toArray.any (eqU x)=its.any (eqU x) by simp,qbp r fs];show q
 .obtain⟨its,r,pl,hz⟩:=I.tuple hq;show SeqAt.in_tupleAt (eqU x) pl (fun w hw=>qar b a r fs w (by simpa using hw)) ⟨.bl _,H,I,rfl,?_⟩;rw[show its.toArray.any (eqU x)=its.any (eqU x) by simp,qbp r fs];show q
theorem op_notIn_seq:OpR X (compareOp .NotIn) (rIn X.K true):=by
 intro pins s σ H x y v u Q I b c h;obtain⟨p,xs,rfl,hq,a,fs,q⟩:=h;cases c;rcases hq with hq | hq
 .obtain⟨its,r,pl,hz⟩:=I.list hq;show SeqAt.notIn_listAt (eqU x) pl.isList (fun w hw=>qar b a r fs w (by simpa using hw)) ⟨.bl _,H,I,rfl,?_⟩;rw[show its.toArray.any (eqU x)=its.any (eqU x) by simp,qbp r fs];show q
 .obtain⟨its,r,pl,hz⟩:=I.tuple hq;show SeqAt.notIn_tupleAt (eqU x) pl (fun w hw=>qar b a r fs w (by simpa using hw)) ⟨.bl _,H,I,rfl,?_⟩;rw[show its.toArray.any (eqU x)=its.any (eqU x) by simp,qbp r fs];show q
theorem call_len_seq:qae X (.builtin "len") (fun xs H Q=>∃ p ys,xs=[.ref p]/\(SqL X.K H p ys\/SqT X.K H p ys)/\Q (.int ys.length) H):=by
 intro pins s σ H xs us Q I r h;obtain⟨p,ys,rfl,hq,q⟩:=h;obtain⟨u,rfl,c⟩:=qbm r;cases c;have d:=qbK;rcases hq with hq | hq
 .obtain⟨its,b,pl,hz⟩:=I.list hq;have a:=b.length;show Calls.call_len_list pl.isList (by simp only[yy]<;>lk) ⟨.int ys.length,H,I.tok _,⟨s.toks+1,by rw[yy,a]⟩,q⟩
 .obtain⟨its,b,pl,hz⟩:=I.tuple hq;have a:=b.length;show len_tuple pl (by simp only[yy]<;>lk) ⟨.int ys.length,H,I.tok _,⟨s.toks+1,by rw[yy,a]⟩,q⟩
theorem call_len_str:qae X (.builtin "len") (fun xs H Q=>∃ z,xs=[.str z]/\z.length<=sizeLine/\Q (.int z.length) H):=by
 intro pins s σ H xs us Q I r h;obtain⟨z,rfl,hz,q⟩:=h;obtain⟨u,rfl,t,rfl⟩:=qbm r;have a:=qbK;show len_str (by lk) ⟨.int z.length,H,I.tok _,⟨_,rfl⟩,q⟩
theorem call_list_of:qae X (.type "list") (fun xs H Q=>∃ p ys,xs=[.ref p]/\(SqL X.K H p ys\/SqT X.K H p ys)/\∀ l,H l=none->Q (.ref l) (upd H l (.lst ys))):=by
 intro pins s σ H xs us Q I r h;obtain⟨p,ys,rfl,hq,q⟩:=h;obtain⟨u,rfl,m⟩:=qbm r;cases m;have fin:∀(its:List Value),Vals ys its->ys.length<=sizeLine->∀(h':Heap) (a:Nat),(∀ b j,s.heap.get? b=some j->h'.get? b=some j) ->
   h'.get? s.heap.objs.size=some { cls:=.type "list",dict:=none,data:=.seq its.toArray a,slots:=#[] }->EP X pins σ Q (.ref s.heap.objs.size) { s with heap:=h' }:=fun its c hz h' a f e =>
  ⟨.ref s.heap.objs.size,_,I.laid (t':=s.toks) f (yh _) (show ObjOk X.prog X.w _ h' _ (.lst ys) from⟨hz,its,a,c,e⟩),rfl,q _ (I.hok.fresh (yh _))⟩
 rcases hq with hq | hq
 .obtain⟨its,c,pl,hz⟩:=I.list hq;have d:=c.length;obtain⟨o,i,hc,n,g⟩:=pl.isList;show call_list_seq p (.inl rfl) i hc g (fun h' a f e=>fin its c hz h' a f e) (by simp only[yy]<;>lk)
 .obtain⟨its,c,pl,hz⟩:=I.tuple hq;have d:=c.length;obtain⟨o,i,hc,n,g⟩:=pl;show call_list_seq p (.inr rfl) i hc g (fun h' a f e=>fin its c hz h' a f e) (by simp only[yy]<;>lk)
def tyV(K:yg)(T:String)(x:V)(H:Hp):Prop:=match x with
 | .str _=>T="str"
 | .int _=>T="int"
 | .ref p=>(T="list"/\∃ xs,SqL K H p xs)\/(T="tuple"/\∃ o,K.lookup p=some o/\o.cls=.type "tuple"/\o.dict=none) \/
   (T="dict"/\((∃ kvs,H p=some (.dK kvs))\/∃ kvs,H p=some (.dT kvs)))\/(T="set"/\∃ S n,H p=some (.set S n))
 | _=>False
theorem qey{T:String}(I:Inv X pins σ H s)(r:RelV x v)(ty:tyV X.K T x H) :
  s.TypeIs v T/\∀ a,v=.ref a->∃ g,s.heap.get? a=some g/\g.dict=none:=by
 cases x with
 | str z =>
  obtain⟨t,rfl⟩:=r;cases (show T="str" from ty);show⟨typeIs_str s z t,fun _ e=>nomatch e⟩
 | int i =>
  obtain⟨t,rfl⟩:=r;cases (show T="int" from ty);show⟨typeIs_int s i t,fun _ e=>nomatch e⟩
 | ref p =>
  cases r;rcases ty with⟨rfl,xs,h⟩ | ⟨rfl,o,b,hc,f⟩ | ⟨rfl,b⟩ | ⟨rfl,S,n,b⟩
  .obtain⟨its,_,pl,_⟩:=I.list h;show⟨pl.isList.typeIs,fun a e=>?_⟩;cases e;obtain⟨o,n,e,c,f,_⟩:=pl;show⟨o,e,f⟩
  .show⟨⟨o,I.kIn p o b,hc⟩,fun a e=>?_⟩;cases e;show⟨o,I.kIn _ o b,f⟩
  .have z:∃ o,s.heap.get? p=some o/\o.ExactDict:=by
    rcases b with⟨kvs,b⟩ | ⟨kvs,b⟩
    .obtain⟨_,_,_,_,o,_,_,e,ex,_⟩:=I.hok p _ b;show⟨o,e,ex⟩
    .obtain⟨_,_,_,_,o,_,_,e,ex,_⟩:=I.hok p _ b;show⟨o,e,ex⟩
   obtain⟨o,e,ex⟩:=z;show⟨⟨o,e,ex.1⟩,fun a d=>?_⟩;cases d;show⟨o,e,ex.2.1⟩
  .obtain⟨o,_,_,_,e,ex,_⟩:=I.hok p _ b;show⟨⟨o,e,ex.1⟩,fun a d=>?_⟩;cases d;show⟨o,e,ex.2.1⟩
 | _=>show False.elim ty
def qfU(K:yg)(T:String)(r:V->List V->Hp->VK->Prop)(b:TE):TE:=fun σ H Q=>b σ H fun x a=>tyV K T x a/\r x [] a Q
def tBM(K:yg)(T:String)(r:V->List V->Hp->VK->Prop)(c:TE)(t:TA):TE:=fun σ H Q=>c σ H fun x a=>tyV K T x a/\t σ a fun xs b=>r x xs b Q
variable{o e:Expr}{es:List Expr}{to:TE}{t:TA}{name:Str}{apos cpos:Pos}{T id:String}{r:V->List V->Hp->VK->Prop}
theorem pe_bm0(m:PlainAttrs T)(c:Slot T name id)(d:typeOf (.builtin id)=pure (.type "method_descriptor"))(j:MtR X id r)(l:PE X o to)
  (a:attributeBase o name X.env (eval o X.env)=eval o X.env:=by rfl) (b:(apos.endLine==cpos.line)=true:=by rfl):PE X (.Call (.Attribute o name apos) [] [] cpos) (qfU X.K T r to):=by
 intro pins s σ H Q I h;show wpAny_Call_method0_late a b (thn (l pins s σ H _ I h) fun v p ⟨x,g,e,f,ty,n⟩=>?_);obtain⟨h1,i⟩:=qey e f ty;show⟨T,id,m,c,d,h1,i,Xn rfl (PySem.evalArgs_none (j pins p σ g x [] v [] Q e f .nil n))⟩
theorem pe_bm(A:PlainAttrs T)(f:Slot T name id)(g:typeOf (.builtin id)=pure (.type "method_descriptor"))(w:MtR X id r)(y:PE X o to)(u:PA X (e::es) t)
  (b:attributeBase o name X.env (eval o X.env)=eval o X.env:=by rfl)
  (d:((backTo cpos (starEach (e::es) X.env)).all (fun x=>!x.1)&&(backToKw cpos (keywordEach [] X.env)).all (fun x=>x.1.isSome)
   && decide ((e::es).length+([]:List Keyword).length+(if ([]:List Keyword).isEmpty then 0 else 1)<30))=true:=by rfl)
  (c:(apos.endLine==cpos.line)=true:=by rfl) (z:starEach (e::es) X.env=(false,eval e X.env)::starEach es X.env:=by rfl) (a:(backTo cpos (starEach es X.env)).any (·.1)=false:=by rfl) :
  PE X (.Call (.Attribute o name apos) (e::es) [] cpos) (tBM X.K T r to t):=by
 intro pins s σ H Q I h;show wpAny_Call_method_late b d c rfl (thn (y pins s σ H _ I h) fun v E ⟨x,m,i,l,ty,B⟩=>?_);obtain⟨h1,q⟩:=qey i l ty;show⟨T,id,A,f,g,h1,q,?_⟩;have j:=u cpos pins E σ m _ i B;rw[z] at j ⊢;show Xn (by show(false||(backTo cpos (starEach es X.env)).any (·.1))=false;rw[a]<;>rfl) (kc ?_);show thn j fun us F ⟨vs,n,p,D,C⟩=>w pins F σ n x vs v us Q p l D C
end
def MtM(X:Cx)(id:String)(r:V->List V->Hp->VK->Prop):Prop:=
 ∀(pins:List (Addr×Obj)) (s:Shared) (σ:St) (H:Hp) (x:V) (xs:List V) (v:Value) (us:List Value) (Q:VK),Inv X pins σ H s->RelV x v->Vals xs us->r x xs H Q ->
  wpAny (model X.prog X.w) X.A (call (.builtin id) (v::us)) (EP X pins σ Q) X.xe s
theorem Vals.one:∀{x:V} {us:List Value},Vals [x] us->∃ u,us=[u]/\RelV x u
 | _,_,.cons r .nil=>⟨_,rfl,r⟩
theorem Vals.zero:∀{us:List Value},Vals [] us->us=[]
 | _,.nil=>rfl
theorem Vals.dropLast(h:Vals xs us):Vals xs.dropLast us.dropLast:=by
 induction h with
 | nil=>show .nil
 | cons r t ih =>
  cases t with
  | nil=>show .nil
  | cons q t'=>show .cons r ih
theorem Vals.eraseIdx:∀{xs:List V} {us:List Value} (i:Nat),Vals xs us->Vals (xs.eraseIdx i) (us.eraseIdx i)
 | _,_,_,.nil=>.nil
 | _,_,0,.cons _ t=>t
 | _,_,i+1,.cons r t=>.cons r (Vals.eraseIdx i t)
theorem Vals.rep(h:Vals xs us):∀ k:Nat,Vals (List.replicate k xs).flatten (List.replicate k us).flatten
 | 0=>.nil
 | k+1=>by
  rw[xA,xA,xV,xV];show Vals.append h (Vals.rep h k)
theorem erase_last(l:List α):l.eraseIdx (l.length-1)=l.dropLast:=by
 induction l with
 | nil=>rfl
 | cons a r ih =>
  cases r with
  | nil=>rfl
  | cons b r =>
   have e:(a::b::r).length-1=((b::r).length-1)+1:=by
    have h1:(a::b::r).length=r.length+2:=rfl;have c:(b::r).length=r.length+1:=rfl;lk
   rw[e,List.eraseIdx_cons_succ,ih]
   all_goals rfl
theorem qcl:∀(l:List α) (i:Nat),(l.eraseIdx i).length<=l.length
 | [],_=>yh _
 | _::_,0=>xT _
 | _::r,i+1=>Nat.succ_le_succ (qcl r i)
theorem qcm(its:List Value):∀(k:Nat) (acc:List Value),
  List.foldl (fun b c=>b++c) acc.toArray (List.replicate k its.toArray)=(acc++(List.replicate k its).flatten).toArray
 | 0,acc=>by simp
 | k+1,acc=>by
  have e:acc.toArray++its.toArray=(acc++its).toArray:=by simp
  have a:(acc++its)++(List.replicate k its).flatten=acc++(List.replicate (k+1) its).flatten:=by
   rw[xA,xV,Yc]
  rw[<- a,<- qcm its k (acc++its),<- e,xA,List.foldl_cons]
section
variable{X:Cx}{pins:List (Addr×Obj)}{σ:St}{H:Hp}{s:Shared}{l b:Addr}{xs ys zs:List V}
theorem Inv.lset{f:Array Value->Array Value}(I:Inv X pins σ H s)(a:H l=some (.lst xs))
  (e:s.heap.get? l=some { cls:=.type "list",data:=.seq its.toArray n }) (b:f its.toArray=its'.toArray) (hv:Vals ys its') (hz:ys.length<=sizeLine) :
  Inv X pins σ (upd H l (.lst ys)) { s with heap:=s.heap.update l (Obj.mapSeq f),toks:=t' }:=by
 have q:=PySem.IsL.update e f;rw[b] at q;show I.write (x:=l) (e:=l) (by rw[a];show trivial) (.inl rfl) (fun d u hb c=>(YA s.heap (Obj.mapSeq f) (Yh hb)).trans c) ⟨_,q⟩ ?_;show⟨hz,its',_,hv,q⟩
theorem Inv.lnew(I:Inv X pins σ H s)(hv:Vals ys its)(hz:ys.length<=sizeLine) :
  Inv X pins σ (upd H s.heap.objs.size (.lst ys)) { s with heap:=s.heap.push { cls:=.type "list",data:=.seq its.toArray },toks:=t' }:=
 I.laid (fun _ _ q=>yv _ q) (yh _) ⟨hz,its,0,hv,yX _ rfl⟩
theorem Inv.fresh(I:Inv X pins σ H s):H s.heap.objs.size=none:=I.hok.fresh (yh _)
theorem Inv.lstM(I:Inv X pins σ H s)(a:H l=some (.lst xs)):xs.length<=sizeLine/\∃(its:List Value) (n:Nat),Vals xs its/\xs.length=its.length/\s.heap.get? l=some { cls:=.type "list",data:=.seq its.toArray n }:=by
 obtain⟨z,its,n,r,e⟩:=I.hok l _ a;show⟨z,its,n,r,r.length,e⟩
theorem qc6(h:n<=sizeLine):Builtin.List.listTooLong n=false:=by
 unfold Builtin.List.listTooLong;show yl (by lk)
end
section
variable{X:Cx}
inductive rAppend(x:V)(vs:List V)(H:Hp)(Q:VK):Prop|mk (l xs y:_) (_:x=.ref l) (_:vs=[y]) (_:H l=some (.lst xs)) (_:xs.length<sizeLine) (_:Q .non (upd H l (.lst (xs++[y]))))
theorem mt_append:MtM X "list.append" rAppend:=by
 intro pins s σ H x vs v us Q I d c h;obtain⟨l,xs,y,rfl,rfl,a,hz,q⟩:=h;cases d;obtain⟨u,rfl,b⟩:=c.one;obtain⟨z,its,n,r,hl,e⟩:=I.lstM a;show X4 F.slot_list_append ⟨_,e,rfl⟩ F.entry_list_append (F.args_list_append_2 _ _) (PySem.list_append l its.toArray n u (by rw[yy];lk)) ⟨e,?_⟩;show⟨.non,_,I.lset (its':=its++[u]) a e (by simp) (r.append (.cons b .nil)) ?_,rfl,q⟩;rw[yt,Yt];lk
inductive rExtend(x:V)(vs:List V)(H:Hp)(Q:VK):Prop|mk (l b xs zs:_) (_:x=.ref l) (_:vs=[.ref b]) (_:H l=some (.lst xs)) (_:H b=some (.lst zs)) (_:xs.length+zs.length<=sizeLine) (_:Q .non (upd H l (.lst (xs++zs))))
theorem mt_extend:MtM X "list.extend" rExtend:=by
 intro pins s σ H x vs v us Q I t p h;obtain⟨l,b,xs,y,rfl,rfl,d,g,hz,q⟩:=h;cases t;obtain⟨u,rfl,o⟩:=p.one;cases o;obtain⟨z,its,n,r,hl,e⟩:=I.lstM d;obtain⟨w,a,j,m,i,f⟩:=I.lstM g;have hsz:its.toArray.size+a.toArray.size<=sizeLine:=by rw[yy,yy];lk
 have c:¬ (!its.toArray.isEmpty&&Builtin.List.listTooLong (its.toArray.size+a.toArray.size))=true:=by
  rw[qc6 hsz,Bool.and_false];show Yl
 show X4 F.slot_list_extend ⟨_,e,rfl⟩ F.entry_list_extend (F.args_list_extend_2 _ _)
  (AutoSeq1.list_extend_list_list_0 l its.toArray n b a.toArray j c (by rw[yy];lk) (by lk)) ⟨e,f,?_⟩
 show⟨.non,_,I.lset (its':=its++a) d e (by simp) (r.append m) ?_,rfl,q⟩;rw[yt];lk
inductive rPop(x:V)(vs:List V)(H:Hp)(Q:VK):Prop|mk (l xs y:_) (_:x=.ref l) (_:vs=[]) (_:H l=some (.lst xs)) (_:xs[xs.length-1]?=some y) (_:Q y (upd H l (.lst xs.dropLast)))
theorem mt_pop:MtM X "list.pop" rPop:=by
 intro pins s σ H x vs v us Q I j i h;obtain⟨l,xs,y,rfl,rfl,c,f,q⟩:=h;cases j;have a:=i.zero;subst a;obtain⟨z,its,n,r,hl,e⟩:=I.lstM c;obtain⟨u,d,g⟩:=r.get f
 have b:its.toArray[its.toArray.size-1]?=some u:=by
  show its.toArray[its.length-1]?=some u;rw[<- xM,<- hl];show d
 show X4 F.slot_list_pop ⟨_,e,rfl⟩ F.entry_list_pop (F.args_list_pop_1 _) (MeetsSeq.list_pop_last l its.toArray n u b (by rw[yy];lk)) ⟨e,?_⟩;show⟨y,_,I.lset (its':=its.dropLast) c e ?_ r.dropLast ?_,g,q⟩
 .show its.toArray.eraseIdxIfInBounds (its.toArray.size-1)=its.dropLast.toArray;rw[yy,List.eraseIdxIfInBounds_toArray,erase_last]
 .rw [List.length_dropLast];lk
inductive rPopAt(x:V)(vs:List V)(H:Hp)(Q:VK):Prop|mk (l xs i k y:_) (_:x=.ref l) (_:vs=[.int i]) (_:H l=some (.lst xs)) (_:-(2 ^ 63)<=i) (_:i<2 ^ 63) (_:seqIndex? i xs.length=some k) (_:xs[k]?=some y) (_:Q y (upd H l (.lst (xs.eraseIdx k))))
theorem mt_popAt:MtM X "list.pop" rPopAt:=by
 intro pins s σ H x vs v us Q I m j h;obtain⟨l,xs,i,k,y,rfl,rfl,b,h1,c,d,f,q⟩:=h;cases m;obtain⟨u,rfl,g⟩:=j.one;obtain⟨t,rfl⟩:=g;obtain⟨z,its,n,r,hl,e⟩:=I.lstM b;obtain⟨w,hw,a⟩:=r.get f;show X4 F.slot_list_pop ⟨_,e,rfl⟩ F.entry_list_pop (F.args_list_pop_2 _ _)
  (MeetsSeq.list_pop_at l its.toArray n i t k w (fitsIndex_both h1 c) (by rw[yy,<- hl];show d) (by rw[<- xM];show hw) (by rw[yy];lk)) ⟨e,?_⟩
 show⟨y,_,I.lset (its':=its.eraseIdx k) b e ?_ (r.eraseIdx k) ?_,a,q⟩
 .show its.toArray.eraseIdxIfInBounds k=(its.eraseIdx k).toArray;rw[List.eraseIdxIfInBounds_toArray]
 .have:=qcl xs k;lk
inductive rReverse(x:V)(vs:List V)(H:Hp)(Q:VK):Prop|mk (l xs:_) (_:x=.ref l) (_:vs=[]) (_:H l=some (.lst xs)) (_:Q .non (upd H l (.lst xs.reverse)))
inductive rClear(x:V)(vs:List V)(H:Hp)(Q:VK):Prop|mk (l xs:_) (_:x=.ref l) (_:vs=[]) (_:H l=some (.lst xs)) (_:Q .non (upd H l (.lst [])))
inductive rCat(x:V)(y:V)(H:Hp)(Q:VK):Prop|mk (l b xs zs:_) (_:x=.ref l) (_:y=.ref b) (_:H l=some (.lst xs)) (_:H b=some (.lst zs)) (_:xs.length+zs.length<=sizeLine) (_:∀ p,H p=none->Q (.ref p) (upd H p (.lst (xs++zs))))
theorem op_cat:OpR X (binaryOp .Add) rCat:=by
 intro pins s σ H x y v u Q I m o h;obtain⟨l,b,xs,w,rfl,rfl,g,f,hz,q⟩:=h;cases m;cases o;obtain⟨z,its,n,r,hl,e⟩:=I.lstM g;obtain⟨t,a,p,j,i,c⟩:=I.lstM f;show PySem.P.add_list e c ?_ (by rw[yy,yy];lk);have d:its.toArray++a.toArray=(its++a).toArray:=by simp
 rw[d];show⟨.ref _,_,I.lnew (t':=s.toks) (r.append j) (by rw[yt];lk),rfl,q _ I.fresh⟩
inductive rRep(x:V)(y:V)(H:Hp)(Q:VK):Prop|mk (l k xs:_) (_:x=.ref l) (_:y=.int k) (_:H l=some (.lst xs)) (_:-(2 ^ 63)<=k) (_:k<2 ^ 63) (_:xs.length*k.toNat<=sizeLine) (_:∀ p,H p=none->Q (.ref p) (upd H p (.lst (List.replicate k.toNat xs).flatten)))
theorem len_rep(xs:List α)(k:Nat):(List.replicate k xs).flatten.length=k*xs.length:=by
 induction k with
 | zero=>simp
 | succ k ih=>rw[xA,xV,yt,ih,Nat.succ_mul,Nat.add_comm]
theorem qez:OpR X (binaryOp .Mult) rRep:=by
 intro pins s σ H x y v u Q I A B h;obtain⟨l,k,xs,rfl,rfl,w,h1,p,hz,q⟩:=h;cases A;obtain⟨t,rfl⟩:=B;obtain⟨z,its,n,r,hl,e⟩:=I.lstM w;have f:its.toArray.size*k.toNat<=sizeLine:=by rw[yy,<- hl];show hz
 have c:¬ its.toArray.size*k.toNat>(2 ^ 63-1) / 8:=by
  have:(sizeLine:Nat)<=(2 ^ 63-1) / 8:=by decide
  lk
 have d:¬ (!Builtin.List.listFitsIndex k)=true:=by
  rw[fitsIndex_both h1 p];show Yl
 have b:¬ Builtin.List.listTooLong (its.toArray.size*k.toNat)=true:=by
  rw[qc6 f];show Yl
 have g:List.foldl (fun i j=>i++j) #[] (List.replicate (if its.toArray.isEmpty=true then 0 else k.toNat) its.toArray)=(List.replicate k.toNat its).flatten.toArray:=by
  have o:∀ m:Nat,List.foldl (fun i j=>i++j) #[] (List.replicate m its.toArray)=(List.replicate m its).flatten.toArray:=fun m=>by
   have:=qcm its m [];rw[List.nil_append] at this;show this
  rw[o]
  cases its with
  | nil=>simp
  | cons a r'=>rw[yF (by simp)]
 show wpAny_binaryOp_repeat_ref (T:="list") (U:="int") (by decide) ⟨_,e,rfl⟩ (fun s'=>typeIs_int s' k t) noFill_list_mul F.fills_int_mul F.slot_int_rmul repeat_list F.slot_int_index.lookup
  (X4 F.slot_int_rmul (typeIs_int s k t) F.entry_int_rmul (F.args_int_rmul_2 _ _) (int___rmul___int_list k t l its.toArray n)
   ⟨e,rfl,⟨_,e,rfl⟩,X4 F.slot_list_mul ⟨_,e,rfl⟩ F.entry_list_mul (F.args_list_mul_2 _ _) (AutoListH.list___mul___list_int_3 l its.toArray n k t d c b) ⟨e,?_⟩⟩)
 rw[g];show⟨.ref _,_,I.lnew (t':=s.toks) (r.rep k.toNat) (by rw[len_rep,Nat.mul_comm];show hz),rfl,q _ I.fresh⟩
end
section
variable{prog:Program}{w:World}{A:Around}{E:Value->Shared->Prop}{s:Shared}
set_option maxRecDepth 100000 in
end
section
variable{X:Cx}
end
section
variable{κ:Type}[DecidableEq κ]
noncomputable def zh(kvs:List (κ×V))(k:κ):Option V:=(kvs.find? fun a=>decide (a.1=k)).map (·.2)
noncomputable def zN(kvs:List (κ×V))(k:κ)(v:V):List (κ×V):=
 if (kvs.any fun a=>decide (a.1=k))=true then kvs.map (fun a=>if a.1=k then(a.1,v) else a) else kvs++[(k,v)]
noncomputable def dropK(kvs:List (κ×V))(k:κ):List (κ×V):=kvs.filter fun a=>decide (a.1≠k)
theorem jp{p:κ×V}{r:List (κ×V)}{k:κ}(e:p.1=k):zh (p::r) k=some p.2:=by simp[zh,xQ,e]
theorem je{p:κ×V}{r:List (κ×V)}{k:κ}(e:¬ p.1=k):zh (p::r) k=zh r k:=by simp[zh,xQ,e]
theorem qas(k:κ):∀ kvs:List (κ×V),(kvs.any fun a=>decide (a.1=k))=(zh kvs k).isSome
 | []=>rfl
 | p::r=>by
  rw[X7];by_cases e:p.1=k
  .simp only[jp e,yL e,Bool.true_or,Option.isSome_some]
  .rw [je e,yl e,Bool.false_or];show qas k r
theorem qc7(k j:κ)(y:V):∀ kvs:List (κ×V),zh (kvs.map fun a=>if a.1=k then(a.1,y) else a) j=(zh kvs j).map fun x=>if j=k then y else x
 | []=>rfl
 | p::r=>by
  have b:=qc7 k j y r;rw[YJ];by_cases h:p.1=k
  .rw [yI h];by_cases e:p.1=j
   .rw [jp (p:=(p.1,y)) e,jp e,kh,yI (e.symm.trans h)]
   .rw [je (p:=(p.1,y)) e,je e,b]
  .rw [yF h];by_cases e:p.1=j
   .rw [jp (p:=p) e,jp e,kh,yF (fun z=>h (e.trans z))]
   .rw [je (p:=p) e,je e,b]
theorem qcn(k j:κ)(y:V):∀ kvs:List (κ×V),zh kvs k=none->zh (kvs++[(k,y)]) j=if j=k then some y else zh kvs j
 | [],_=>by
  by_cases e:k=j
  .rw [yI e.symm];show jp (p:=(k,y)) e
  .rw [yF (fun z=>e z.symm)];show je (p:=(k,y)) e
 | p::r,hn=>by
  rw[kO];have a:¬ p.1=k:=fun z=>by rw[jp z] at hn;cases hn
  rw[je a] at hn;have b:=qcn k j y r hn;by_cases e:p.1=j
  .rw [jp e,jp e,yF (fun z=>a (e.trans z))]
  .rw [je e,je e,b]
theorem qba(kvs:List (κ×V))(k j:κ)(y:V):zh (zN kvs k y) j=if j=k then some y else zh kvs j:=by
 unfold zN;by_cases a:(kvs.any fun c=>decide (c.1=k))=true
 .rw [yI a,qc7];rw[qas] at a;by_cases e:j=k
  .obtain⟨x,b⟩:=xq.mp a;rw[yI e,e,b,kh,yI rfl]
  .rw [yF e]
   cases zh kvs j with
   | none=>rfl
   | some x=>rw[kh,yF e]
 .rw [yF a];show qcn k j y kvs ?_;rw[qas] at a
  cases q:zh kvs k with
  | none=>rfl
  | some x=>rw[q] at a;show(a rfl).elim
theorem jT(kvs:List (κ×V))(k:κ)(v:V):(zN kvs k v).length<=kvs.length+1:=by
 unfold zN;split
 .rw [ya];lk
 .rw [yt,yw,xl];lk
theorem qbb{kvs:List (κ×V)}{k:κ}(v:V)(h:zh kvs k=none):zN kvs k v=kvs++[(k,v)]:=by
 unfold zN;rw[qas,h];show yF (by decide)
theorem RelO.isSome_eq{u:Option Value}(r:RelO o u):o.isSome=u.isSome:=by
 cases o with
 | none=>cases u with
  | none=>rfl
  | some _=>show(show False from r).elim
 | some _=>cases u with
  | none=>show(show False from r).elim
  | some _=>rfl
theorem RelO.getD{u:Option Value}{d:V}{d':Value}(r:RelO o u)(rd:RelV d d'):RelV (o.getD d) (u.getD d'):=by
 cases o with
 | none=>cases u with
  | none=>show rd
  | some _=>show(show False from r).elim
 | some _=>cases u with
  | none=>show(show False from r).elim
  | some _=>show r
theorem KV.val{kvs:List (κ×V)}{vs:List (κ×Value)}(r:KV kvs vs)(k:κ):RelO (zh kvs k) (valueAt vs k):=by
 unfold KV at r
 induction r with
 | nil=>show YU
 | @cons p q ps qs h t ih =>
  obtain⟨h1,c⟩:=h;by_cases e:p.1=k
  .have a:q.1=k:=h1.symm.trans e;have b:valueAt (q::qs) k=some q.2:=by simp[valueAt,xQ,a]
   rw[jp e,b];show c
  .have a:¬ q.1=k:=fun z=>e (h1.trans z);have b:valueAt (q::qs) k=valueAt qs k:=by simp[valueAt,xQ,a]
   rw[je e,b];show ih
theorem KV.any{kvs:List (κ×V)}{vs:List (κ×Value)}(r:KV kvs vs)(k:κ):(kvs.any fun a=>decide (a.1=k))=vs.any fun a=>decide (a.1=k):=by
 unfold KV at r
 induction r with
 | nil=>rfl
 | cons h t ih=>rw[X7,X7,ih,h.1]
theorem KV.repl{kvs:List (κ×V)}{vs:List (κ×Value)}(r:KV kvs vs)(k:κ)(c:RelV y u) :
  KV (kvs.map fun a=>if a.1=k then(a.1,y) else a) (vs.map fun a=>if a.1=k then(a.1,u) else a):=by
 unfold KV at r ⊢
 induction r with
 | nil=>show .nil
 | @cons p q ps qs h t ih =>
  rw[YJ,YJ];show .cons ?_ ih;obtain⟨h1,b⟩:=h;by_cases e:p.1=k
  .rw [yI e,yI (h1.symm.trans e)];show⟨h1,c⟩
  .rw [yF e,yF (fun z=>e (h1.trans z))];show⟨h1,b⟩
theorem KV.put{kvs:List (κ×V)}{vs:List (κ×Value)}(r:KV kvs vs)(k:κ)(a:RelV y u):KV (zN kvs k y) (stored vs k u):=by
 unfold zN stored;rw[r.any k];by_cases e:(vs.any fun b=>decide (b.1=k))=true
 .rw [yI e,yI e];show r.repl k a
 .rw [yF e,yF e];show Paired.snoc r ⟨rfl,a⟩
theorem KV.length{kvs:List (κ×V)}{vs:List (κ×Value)}(r:KV kvs vs):kvs.length=vs.length:=Paired.length r
end
theorem qdB{k:Key}(r:RelV (kV k) u):(jA P w).is k u=true:=by
 cases k with
 | inl i=>obtain⟨t,e⟩:=(show ∃ t,u=Value.int i t from r);subst e;show mixKind_int P w i t
 | inr x=>obtain⟨t,e⟩:=(show ∃ t,u=Value.str x t from r);subst e;show mixKind_str P w x t
theorem qco:∀{ks:List Key} {us:List Value},Vals (ks.map kV) us->ItemsAre (jA P w) ks us
 | [],_,r=>by rw[List.map_nil] at r;cases r;show .nil
 | k::ks,_,r=>by
  rw[YJ] at r
  cases r with
  | cons h t=>show .cons (qdB h) (qco t)
abbrev KT(H:Hp):List (List Key×V)->List (List Key×Addr×Value)->Prop:=Paired fun p q=>p.1=q.1/\H q.2.1=some (.tup (p.1.map kV))/\RelV p.2 q.2.2
theorem KT.val{xs:List (List Key×Addr×Value)}(r:KT H kvs xs)(k:List Key):RelO (zh kvs k) ((atKey xs k).map (·.2)):=by
 induction r with
 | nil=>show YU
 | @cons p q ps qs h t ih =>
  obtain⟨h1,_,c⟩:=h;by_cases e:p.1=k
  .have a:q.1=k:=h1.symm.trans e;have b:atKey (q::qs) k=some q.2:=by simp[atKey,xQ,a]
   rw[jp e,b];show c
  .have a:¬ q.1=k:=fun z=>e (h1.trans z);have b:atKey (q::qs) k=atKey qs k:=by simp[atKey,xQ,a]
   rw[je e,b];show ih
theorem KT.repl{xs:List (List Key×Addr×Value)}(r:KT H kvs xs)(k:List Key)(d:RelV y u) :
  KT H (kvs.map fun a=>if a.1=k then(a.1,y) else a) (xs.map (putAt k u)):=by
 induction r with
 | nil=>show .nil
 | @cons p q ps qs h t ih =>
  rw[YJ,YJ];show .cons ?_ ih;obtain⟨h1,b,c⟩:=h;unfold putAt;by_cases e:p.1=k
  .rw [yI e,yI (h1.symm.trans e)];show⟨h1,b,d⟩
  .rw [yF e,yF (fun z=>e (h1.trans z))];show⟨h1,b,c⟩
theorem KT.put{xs:List (List Key×Addr×Value)}(r:KT H kvs xs)(k:List Key){b:Addr}(hb:H b=some (.tup (k.map kV)))(a:RelV y u) :
  KT H (zN kvs k y) (storedH xs k b u):=by
 have e:(kvs.any fun c=>decide (c.1=k))=(atKey xs k).isSome:=by
  rw[qas,(r.val k).isSome_eq,Xu]
 unfold zN storedH;rw[e];by_cases q:(atKey xs k).isSome=true
 .rw [yI q,yI q];show r.repl k a
 .rw [yF q,yF q];show Paired.snoc r ⟨rfl,hb,a⟩
theorem KT.keeps{xs:List (List Key×Addr×Value)}(r:KT H kvs xs)(a:∀ b ys,H b=some (.tup ys)->H' b=some (.tup ys)):KT H' kvs xs:=
 Paired.mapP r fun _ _ z=>⟨z.1,a _ _ z.2.1,z.2.2⟩
section
variable{P:Program}{w:World}{H:Hp}{h:Heap}{a:Addr}
theorem qft{u:HO}(ok:HOk P w H h)(e:Rd H a u):ObjOk P w H h a u:=e.ok ok
theorem qcp{kvs:List (Key×V)}(ok:HOk P w H h)(e:Rd H a (.dK kvs)):kvs.length<=sizeLine/\(a==sysModules)=false/\∃ vs,KV kvs vs/\h.DictOf (jA P w) a vs:=
 show ObjOk P w H h a (.dK kvs) from qft ok e
theorem dk_of{kvs:List (Key×V)}(ok:HOk P w H h)(e:H a=some (.dK kvs)):kvs.length<=sizeLine/\(a==sysModules)=false/\∃ vs,KV kvs vs/\h.DictOf (jA P w) a vs:=qcp ok (.inl e)
theorem qbL{ks:List Key}(ok:HOk P w H h)(e:H a=some (.tup (ks.map kV))):(tupleKind (jA P w)).is h ks a:=by
 obtain⟨_,its,r,o,h1,b,n,c⟩:=(show ObjOk P w H h a (.tup (ks.map kV)) from ok a _ e);show⟨o,its.toArray,n,h1,b,c,by simpa using qco r⟩
theorem qcM(ok:HOk P w H h)(e:Rd H a (.dT kvs)):kvs.length<=sizeLine/\(a==sysModules)=false /\
  ∃ xs,KT H kvs xs/\h.DictOfH (tupleKind (jA P w)) a xs:=by
 obtain⟨z,y,xs,r,o,b,ep,h1,c,d,f,g⟩:=(show ObjOk P w H h a (.dT kvs) from qft ok e);show⟨z,y,xs,r,o,b,ep,h1,c,d,f,fun x hx=>?_,g⟩
 have all:∀{l:List (List Key×V)} {m:List (List Key×Addr×Value)},KT H l m->∀ x∈m,(tupleKind (jA P w)).is h x.1 x.2.1:=by
  intro l m q
  induction q with
  | nil=>intro x hx;show nomatch hx
  | @cons p q ps qs hq t ih =>
   intro x hx;rcases yx.mp hx with e | hx
   .subst e;show qbL ok (by rw[<- hq.1];show hq.2.1)
   .show ih x hx
 show all r x hx
theorem dt_of(ok:HOk P w H h)(e:H a=some (.dT kvs)):kvs.length<=sizeLine/\(a==sysModules)=false /\
  ∃ xs,KT H kvs xs/\h.DictOfH (tupleKind (jA P w)) a xs:=qcM ok (.inl e)
end
def DGet(H:Hp)(a:Addr)(y:V)(r:Option V):Prop:=
 (∃ kvs k,Rd H a (.dK kvs)/\y=kV k/\r=zh kvs k)\/∃ kvs k b,Rd H a (.dT kvs)/\y=.ref b/\H b=some (.tup (k.map kV))/\r=zh kvs k
def DPut(H:Hp)(a:Addr)(y v:V)(H':Hp):Prop:=
 (∃ kvs k,H a=some (.dK kvs)/\y=kV k/\kvs.length<sizeLine/\H'=upd H a (.dK (zN kvs k v))) \/
 ∃ kvs k b,H a=some (.dT kvs)/\y=.ref b/\H b=some (.tup (k.map kV))/\kvs.length<sizeLine/\H'=upd H a (.dT (zN kvs k v))
theorem DGet.k{kvs:List (Key×V)}{k:Key}(e:H a=some (.dK kvs)):DGet H a (kV k) (zh kvs k):=.inl ⟨kvs,k,.inl e,rfl,rfl⟩
theorem DPut.k{kvs:List (Key×V)}{k:Key}{v:V}(e:H a=some (.dK kvs))(hl:kvs.length<sizeLine):DPut H a (kV k) v (upd H a (.dK (zN kvs k v))):=.inl ⟨kvs,k,e,rfl,hl,rfl⟩
section
variable{X:Cx}{pins:List (Addr×Obj)}{σ:St}{H:Hp}{s:Shared}{a:Addr}{y v:V}{u r:Value}{o:Option V}{A:Around}{E:Value->Shared->Prop}
theorem Inv.big(I:Inv X pins σ H s):sysModules<s.heap.objs.size:=by
 have h:mainGlobals<s.heap.objs.size:=(I.mod.glob.keeps I.bk).lt;show kX (by decide) h
theorem d_getItem{Q:Value->Shared->Prop}(x:A.units+1<cLine)(I:Inv X pins σ H s)(g:DGet H a y (some v))(n:RelV y u)(h:∀ f s',Inv X pins σ H s'->RelV v f->Q f s') :
  wpAny (model X.prog X.w) A (getItem (.ref a) u) Q E s:=by
 rcases g with⟨kvs,k,e,j,l⟩ | ⟨kvs,k,b,e,j,q,l⟩
 .subst j;obtain⟨z,r,vs,c,i⟩:=qcp I.hok e;obtain⟨f,hw,d⟩:=RelO.some_of (v:=v) (o:=valueAt vs k) (by rw[l];show c.val k);show wpAny_getItem_of (qdB n) i.mapOf hw (h f _ (I.tok _) d)
 .subst j;cases (show u=Value.ref b from n);obtain⟨z,r,xs,c,i⟩:=qcM I.hok e;obtain⟨f,hw,d⟩:=RelO.some_of (v:=v) (o:=(atKey xs k).map (·.2)) (by rw[l];show c.val k);obtain⟨p,t,m⟩:=yn.mp hw;show wpAny_getItem_heap (Xo x) (qbL I.hok q) i t ?_;rw[m];show h f _ (I.tok _) d
theorem d_in{Q:Value->Shared->Prop}(n:A.units+1<cLine)(I:Inv X pins σ H s)(g:DGet H a y o)(j:RelV y u)(h:∀ s',Inv X pins σ H s'->Q (.bool o.isSome) s') :
  wpAny (model X.prog X.w) A (compareOp .In u (.ref a)) Q E s:=by
 rcases g with⟨kvs,k,e,f,l⟩ | ⟨kvs,k,b,e,f,m,l⟩
 .subst f;obtain⟨z,i,vs,c,d⟩:=qcp I.hok e;show wpAny_in_of (qdB j) i d.mapOf ?_;rw[<- (c.val k).isSome_eq,<- l];show h _ (I.tok _)
 .subst f;cases (show u=Value.ref b from j);obtain⟨z,i,xs,c,d⟩:=qcM I.hok e;show wpAny_in_heap (Xo n) (qbL I.hok m) i d ?_;have q:=(c.val k).isSome_eq;rw[Xu] at q;rw[<- q,<- l];show h _ (I.tok _)
theorem d_notIn{Q:Value->Shared->Prop}(n:A.units+1<cLine)(I:Inv X pins σ H s)(g:DGet H a y o)(j:RelV y u)(h:∀ s',Inv X pins σ H s'->Q (.bool (!o.isSome)) s') :
  wpAny (model X.prog X.w) A (compareOp .NotIn u (.ref a)) Q E s:=by
 rcases g with⟨kvs,k,e,f,l⟩ | ⟨kvs,k,b,e,f,m,l⟩
 .subst f;obtain⟨z,i,vs,c,d⟩:=qcp I.hok e;show wpAny_notIn_of (qdB j) i d.mapOf ?_;rw[<- (c.val k).isSome_eq,<- l];show h _ (I.tok _)
 .subst f;cases (show u=Value.ref b from j);obtain⟨z,i,xs,c,d⟩:=qcM I.hok e;show wpAny_notIn_heap (Xo n) (qbL I.hok m) i d ?_;have q:=(c.val k).isSome_eq;rw[Xu] at q;rw[<- q,<- l];show h _ (I.tok _)
theorem qdU{c:HO}(I:Inv X pins σ H s)(g:Mut (H a))(f:Heap.SameBut a s.heap h')(d:∃ q,h'.get? a=some q)(new:ObjOk X.prog X.w (upd H a c) h' a c) :
  Inv X pins σ (upd H a c) { s with heap:=h',toks:=t' }:=
 I.write (x:=a) (e:=a) g (.inl rfl) (fun b q hb z=>(f.2 b hb).trans z) d new
theorem dk_new{kvs:List (Key×V)}{vs:List (Key×Value)}(z:kvs.length<=sizeLine)(d:(a==sysModules)=false)(b:KV kvs vs)(c:h'.DictOf (jA P w) a vs) :
  ObjOk P w H' h' a (.dK kvs):=⟨z,d,vs,b,c⟩
theorem d_setItem{Q:Unit->Shared->Prop}(M:A.units+1<cLine)(I:Inv X pins σ H s)(g:DPut H a y v H')(C:RelV y u)(B:RelV v r)(h:∀ s',Inv X pins σ H' s'->Q () s') :
  wpAny (model X.prog X.w) A (setItem (.ref a) u r) Q E s:=by
 rcases g with⟨kvs,k,e,n,l,m⟩ | ⟨kvs,k,b,e,n,t,l,m⟩
 .subst n m;obtain⟨z,o,vs,d,j⟩:=dk_of I.hok e;have hz:vs.length<=sizeLine:=by rw[<- d.length];show z
  have hl:(zN kvs k v).length<=sizeLine:=by have:=jT kvs k v;lk
  show wpAny_setItem_pairs (hsz:=hz) (qdB C) j fun h' f p=>h _ ?_;have L:∃ q,h'.get? a=some q:=let ⟨q,_,_,i,_⟩:=f;⟨q,i⟩;show qdU I (by rw[e];show YU) p L (dk_new hl o (d.put k B) f)
 .subst n m;cases (show u=Value.ref b from C);obtain⟨z,o,xs,d,j⟩:=dt_of I.hok e;have hz:xs.length<=sizeLine:=by rw[<- Paired.length d];show z
  have hl:(zN kvs k v).length<=sizeLine:=by have:=jT kvs k v;lk
  show wpAny_setItem_heap (hsz:=hz) (Xo M) (qbL I.hok t) j fun h' f p=>h _ ?_;obtain⟨q,D,ep,i,F,G,J,_,K⟩:=f;show qdU I (by rw[e];show YU) p ⟨q,i⟩ ⟨hl,o,_,(d.put k t B).keeps fun c ys x=>?_,q,D,ep,i,F,G,J,K⟩;rw[qf (qac x e (fun z=>nomatch z))];show x
end
section
variable{X:Cx}{pins:List (Addr×Obj)}{σ:St}{H:Hp}{s:Shared}{a:Addr}{kvs:List (Key×V)}{k:Key}{u:Value}{A:Around}{E:Value->Shared->Prop}
theorem d_len{Q:Value->Shared->Prop}(I:Inv X pins σ H s)(e:Rd H a (.dK kvs))(h:∀ t s',Inv X pins σ H s'->Q (.int kvs.length t) s'):wpAny (model X.prog X.w) A (call (.builtin "len") [.ref a]) Q E s:=by
 obtain⟨z,d,vs,b,c⟩:=qcp I.hok e;show call_len_dict d c (by rw[<- b.length];rw[YO] at z;lk) ?_;rw[<- b.length];show h _ _ (I.tok _)
end
theorem dict_typeIs(I:Inv X pins σ H s)(g:DGet H a y o):s.TypeIs (.ref a) "dict":=by
 rcases g with⟨kvs,k,e,_,_⟩ | ⟨kvs,k,b,e,_,_,_⟩
 .obtain⟨_,_,vs,_,c⟩:=qcp I.hok e;show c.typeIs
 .obtain⟨_,_,xs,_,c⟩:=qcM I.hok e;show c.typeIs
section
variable{X:Cx}{o i e value:Expr}{pos pos' tpos:Pos}{td ty tv:TE}
end
theorem dk_empty(h:Heap)(hb:sysModules<h.objs.size):ObjOk P w H (h.push { cls:=.type "dict",data:=.dict #[] }) h.objs.size (.dK []):=
 ⟨xv _,Yx.mpr (Yh (yO hb)),[],.nil,Heap.DictOf.new h⟩
def qdV:TE:=fun _ H Q=>∀ p,H p=none->Q (.ref p) (upd H p (.dK []))
section
variable{X:Cx}{pos:Pos}
theorem zo:PE X (.Dict [] [] pos) qdV:=fun pins s σ H Q I h =>
 wpAny_Dict_empty ⟨.ref s.heap.objs.size,_,I.laid (a:=s.heap.objs.size) (o:=.dK []) (t':=s.toks) (fun _ _ q=>yv _ q) (yh _) (dk_empty s.heap I.big),rfl,h _ (I.hok.fresh (yh _))⟩
end
noncomputable def mergeK(kvs more:List (Key×V)):List (Key×V):=more.foldl (fun acc a=>zN acc a.1 a.2) kvs
structure M1(X:Cx)(o:Expr)(m:Str)(apos:Pos)(e:Expr)(cpos:Pos):Prop where
 base:attributeBase o m X.env (eval o X.env)=eval o X.env
 few:((backTo cpos (starEach [e] X.env)).all (fun x=>!x.1)&&(backToKw cpos (keywordEach [] X.env)).all (fun x=>x.1.isSome)
  && decide (([e]:List Expr).length+([]:List Keyword).length+(if ([]:List Keyword).isEmpty then 0 else 1)<30))=true
 line:(apos.endLine==cpos.line)=true
 trees:backTo cpos (starEach [e] X.env)=[(false,eval e X.env)]
structure M2(X:Cx)(o:Expr)(m:Str)(apos:Pos)(e f:Expr)(cpos:Pos):Prop where
 base:attributeBase o m X.env (eval o X.env)=eval o X.env
 few:((backTo cpos (starEach [e,f] X.env)).all (fun x=>!x.1)&&(backToKw cpos (keywordEach [] X.env)).all (fun x=>x.1.isSome)
  && decide (([e,f]:List Expr).length+([]:List Keyword).length+(if ([]:List Keyword).isEmpty then 0 else 1)<30))=true
 line:(apos.endLine==cpos.line)=true
 trees:backTo cpos (starEach [e,f] X.env)=[(false,eval e X.env),(false,eval f X.env)]
def IsD(H:Hp)(a:Addr):Prop:=(∃ kvs,Rd H a (.dK kvs))\/∃ kvs,Rd H a (.dT kvs)
theorem isD_at(I:Inv X pins σ H s)(d:IsD H a) :
  s.TypeIs (.ref a) "dict"/\(∀ b,Value.ref a=.ref b->∃ c,s.heap.get? b=some c/\c.dict=none)/\(a==sysModules)=false:=by
 rcases d with⟨kvs,e⟩ | ⟨kvs,e⟩
 .obtain⟨_,h,vs,_,f⟩:=qcp I.hok e;show⟨f.typeIs,fun b q=>?_,h⟩;cases q;obtain⟨c,_,_,h1,g,_⟩:=f;show⟨c,h1,g.2.1⟩
 .obtain⟨_,h,xs,_,f⟩:=qcM I.hok e;show⟨f.typeIs,fun b q=>?_,h⟩;cases q;obtain⟨c,_,_,h1,g,_⟩:=f;show⟨c,h1,g.2.1⟩
section
variable{X:Cx}{pins:List (Addr×Obj)}{σ:St}{H:Hp}{s:Shared}{a:Addr}{y d:V}{u r:Value}{o:Option V}{A:Around}{E:Value->Shared->Prop}
theorem d_get1{Q:Value->Shared->Prop}(p:A.units+1<cLine)(I:Inv X pins σ H s)(g:DGet H a y o)(j:RelV y u)(h:∀ m s',Inv X pins σ H s'->RelV (o.getD .non) m->Q m s') :
  wpAny (model X.prog X.w) A (call (.builtin "dict.get") [.ref a,u]) Q E s:=by
 rcases g with⟨kvs,k,e,f,l⟩ | ⟨kvs,k,b,e,f,n,l⟩
 .subst f;obtain⟨z,i,vs,c,d⟩:=qcp I.hok e;show call_meetsIn X2 d.typeIs PySem.F.entry_dict_get (PySem.F.args_dict_get_2 _ _) (meets_dict_get (jA X.prog X.w) a (qdB j) i) ⟨_,d.mapOf,h _ _ (I.tok _) ?_⟩;rw[l];show(c.val k).getD rfl
 .subst f;cases (show u=Value.ref b from j);obtain⟨z,i,xs,c,d⟩:=qcM I.hok e;show call_meetsIn X2 d.typeIs PySem.F.entry_dict_get (PySem.F.args_dict_get_2 _ _) (meetsH_dict_get (tupleKind (jA X.prog X.w)) a b i) ⟨Xo p,k,xs,qbL I.hok n,d,h _ _ (I.tok _) ?_⟩;rw[l];show(c.val k).getD rfl
end
def qeA(d ty:TE):TE:=fun σ H Q=>d σ H fun x b=>∃ a,x=.ref a/\IsD b a/\ty σ b fun y c=>∃ o,DGet c a y o/\Q (o.getD .non) c
def tDGet2(e ty f:TE):TE:=fun σ H Q=>e σ H fun x b=>∃ a,x=.ref a/\IsD b a/\ty σ b fun y d=>f σ d fun z c=>∃ o,DGet c a y o/\Q (o.getD z) c
section
variable{X:Cx}{o e f:Expr}{apos cpos:Pos}{td ty tx:TE}
theorem qaL(q:X.A.units+1<cLine)(p:PE X o td)(n:PE X e ty)(m:M1 X o "get" apos e cpos):PE X (.Call (.Attribute o "get" apos) [e] [] cpos) (qeA td ty):=by
 intro pins s σ H Q I h;show wpAny_Call_method m.base m.few m.line PySem.F.plainAttrs_dict X2 PySem.F.type_dict_get (thn (p pins s σ H _ I h) fun u z ⟨x,f,c,v,a,ex,d,r⟩=>?_);subst ex;obtain rfl:u=Value.ref a:=v;obtain⟨B,C,_⟩:=isD_at c d;show⟨B,C,?_⟩;rw[m.trees];show Xn rfl (kc (kB (thn (n pins z σ f _ c r) fun D G ⟨y,i,j,w,E,g,t⟩=>kE ?_)));show d_get1 q j g w fun K J l b=>⟨_,i,l,b,t⟩
end
section
variable{X:Cx}{pins:List (Addr×Obj)}{σ:St}{H:Hp}{s:Shared}{a:Addr}{kvs:List (Key×V)}{A:Around}{E:Value->Shared->Prop}
end
section
variable{X:Cx}{pins:List (Addr×Obj)}{σ:St}{H:Hp}{s:Shared}{a:Addr}{y:V}{u:Value}{A:Around}{E:Value->Shared->Prop}
end
end L2
namespace Att
open PySem PySem.W PySem.Calls PyProof.Rows
variable{P:Params}{h:Heap}{l:OpenLaw}{n:Nat}
theorem ints_of_wellAll:∀(ns:LX) (vs:List Value),WellAll P h vs (ns.map WData.int)->IntsAre vs ns:=by
 intro ns
 induction ns with
 | nil =>
  intro vs w;rw[List.map_nil] at w;cases w;show .nil
 | cons n ns ih =>
  intro vs w;rw[YJ] at w
  cases w with
  | cons a b =>
   cases a;show .cons _ _ (ih _ b)
theorem script_of(p:l.most=some n){args:List WData}{c:List Value}
  (b:l.row.toRowW.claim.pre args=true) (j:WellAll P h c args) :
  ∃ a vs ns,c=[Value.ref a]/\args=[WData.list (ns.map WData.int)]/\h.get? a=some { cls:=.type "list",data:=.seq vs.toArray }/\IntsAre vs ns/\ns.length<=n:=by
 have i:WShape.hasAll [] args [.list .int]=true:=(pre_splitW b).1;have hc:l.pre.holds [] { args:=args }=true:=(pre_splitW b).2;obtain⟨d,r,rfl,h1,m⟩:=hasAllW_cons i;obtain rfl:=hasAllW_nil m;obtain⟨xs,rfl,o⟩:=hasW_list h1;obtain⟨ns,rfl⟩:=items_int o
 have e:ns.length<=n:=by
  unfold OpenLaw.pre at hc
  have f:(WTm.not (.lt (.lit (.int (n:Int))) (.len (.arg 0)))).holds [] { args:=[.list (ns.map .int)] }=true:=by
   have f:=(holds_andW hc).1;rw[p] at f;show f
  have g:=condW_of f (w_not (w_lt w_lit (w_len_list (w_arg rfl))));rw[ya] at g;show Nat.le_of_not_lt fun q=>?_;have s:(n:Int)<((ns.length:Nat):Int):=by lk
  first
   | (rw[yL s] at g;show absurd g (by decide))
   | (simp at g;lk)
 cases j with
 | cons w1 w2 =>
  cases w2
  cases w1 with
  | list ho hall=>show⟨_,_,ns,rfl,rfl,ho,ints_of_wellAll ns _ hall,e⟩
theorem post_true(l:OpenLaw)(args:List WData):l.row.toRowW.claim.post args (.bool true) args=true:=
 postW_of (r:=l.row.toRowW) (X:=(true==true))
  (show WShape.has [] (.bool true) .bool=true by first | rfl | decide | simp[WShape.has,WShape.arms,WShape.armsAll])
  (show(WTm.eq .res (.lit (.bool true))).value [] { args:=args,res:=some (.bool true),after:=args }=some (.bool (true==true)) from w_eq_bool (w_res rfl) w_lit) rfl
theorem attach_call{q:Program}{loose:LS}{XP:(Str->Option Value)->Heap->Prop}{YP:World->Heap->Prop}{d:DefRec}
  (M:l.most=some n) (u:d.params.defaults=[])
  (call:∀(w:World) (c b:Shared) (s y:Str->Option Value) (h:Addr) (o:Obj) (z p e:Value) (a:Addr) (vs:List Value) (ns:LX),
   Ground q loose [] XP w c s y b.heap->YP w b.heap ->
   b.heap.get? h=some o->o.data=.func (docDef d.name d.params d.body d.scope z p e)->b.heap.CodeRec p d.name->s d.name=some (.ref h) ->
   b.heap.get? a=some { cls:=.type "list",data:=.seq vs.toArray }->IntsAre vs ns->ns.length<=n->b.gens=#[] ->
   codeAny (model l.prog w) callerA (.call (.ref h) ⟨[.ref a],[]⟩) (fun r s'=>r=.ok (.ret (.bool true))/\OldK b.heap s'.heap/\s'.os=b.os/\AllBare s'.gens) b) :
  WalkO q loose XP YP l.row.toRowW d [] (fun f vs=>PySem.call f vs):=by
 intro w c b s y G Y h o z p e D kV N I t A v J args C as m B P x K;obtain rfl:D=.none:=Dflts.none A u;obtain rfl:kV=.none:=Dflts.noKw A;obtain⟨a,vs,ns,rfl,rfl,j,g,i⟩:=script_of M m x;show enter_call (XS (call w c b s y h o z p e a vs ns G Y N (fd_plain I) t v j g i J) fun r s' O=>?_);obtain⟨rfl,E,F,H⟩:=O;show⟨.inl ⟨.bool true,.bool true,[],rfl,fun _=>rfl,.bool true,post_true l _,fun _=>⟨List.Pairwise.nil,fun _ L=>(nomatch L)⟩⟩,E,F,H⟩
section
variable{prog:Program}{w:World}{A:Around}{E:Value->Shared->Prop}{s:Shared}{K:Frag}
noncomputable def ledger(h:Heap)(L d:Addr):List (Addr×Obj):=(List.range h.objs.size).filterMap fun a=>if a=L\/a=d then none else(h.get? a).map fun o=>(a,o)
end
end Att
namespace L2
open PySem PySem.Spec PyProof.Rows
variable{A B:Prop}{H H':Hp}{a f:Addr}{fd:FuncData}{n:Nat}{ps:LS}{qual x:Str}{sp:Sp}{st:Stmt}
theorem qcq:∀{vs:List Value} {ns:LX},IntsAre vs ns->Vals (ns.map V.int) vs
 | _,_,.nil=>.nil
 | _,_,.cons n t h=>.cons ⟨t,rfl⟩ (qcq h)
def qfV(H:Hp):Prop:=∀ b,H b=none\/∃ o xs,H b=some (.frz o (.lst xs))
theorem law_call{P:Program}{w:World}{K:yg}{D R:Str->Option Value}{CX:CXT}{k:Nat}{J:Addr}{c:Shared}{vs:List Value}{ns:LX}
  (T:K.In c.heap) (y:c.heap.Ns mainGlobals D) (hb:c.heap.Ns builtinsNs R) (M:∀ x:Str,x≠"__name__"->R x=bootBuiltins x) (t:c.heap.NoLimit) (hg:c.gens=#[])
  (G:c.heap.get? a=some { cls:=.type "list",data:=.seq vs.toArray }) (Y:IntsAre vs ns) (hl:ns.length<=sizeLine) (hr:Room k callerA)
  (F:∀ base:Heap,K.In base->base.Ns mainGlobals D->FnOk P w K D base CX k J fd [x] sp) (i:∀(s:Shared) (u:Value),BindsTo s fd ⟨[u],[]⟩ [(x,u)])
  (O:∀ H:Hp,qfV H->SqL K H a (ns.map V.int)->sp [.ref a] H (fun v _=>v=.bl true) fun _ _ _=>False)
  (L:∀ H e s',CX [] H c (fun _ _ _=>False) e s'->False) :
  codeAny (model P w) callerA (.call (.ref J) ⟨[.ref a],[]⟩) (fun r s'=>r=.ok (.ret (.bool true))/\OldK c.heap s'.heap/\s'.os=c.os/\AllBare s'.gens) c:=by
 have Z:=qcq Y;have C:=Y.length;have g:∀ H:Hp,qfV H->SqL K H a (ns.map V.int)->HOk P w H c.heap->(∀ b,H b≠none->b=a)->(H a≠none->K.lookup a=none) ->
   codeAny (model P w) callerA (.call (.ref J) ⟨[.ref a],[]⟩) (fun r s'=>r=.ok (.ret (.bool true))/\OldK c.heap s'.heap/\s'.os=c.os/\AllBare s'.gens) c:=by
  intro H X hS A W hK;have base_of:∀{b:Addr} {o:Obj},c.heap.get? b=some o->H b=none->(qej c.heap H).get? b=some o:=fun e n=>hidT_get e n
  have S:∀{b:Addr} {o:Obj} {l:Array DictEntry} {ep:Nat},c.heap.get? b=some o->o.data=.dict l ep->H b=none:=fun{b o l ep} e d=>by
   cases q:H b with
   | none=>rfl
   | some u =>
    have I:b=a:=W b (by rw[q];simp);subst I;rw[G] at e;cases e;have d':Data.seq vs.toArray _=Data.dict l ep:=d;cases d'
  have f:∀{b:Addr} {m:Str->Option Value},c.heap.Ns b m->(qej c.heap H).Ns b m:=fun{b m} ⟨o,l,ep,e,d,r⟩=>⟨o,l,ep,base_of e (S e d),d,r⟩
  have p:K.In (qej c.heap H):=fun b o e=>base_of (T b o e) (by
   cases q:H b with
   | none=>rfl
   | some u =>
    have I:b=a:=W b (by rw[q];simp);subst I;rw[hK (by rw[q];simp)] at e;cases e)
  have hM:Mod K D (qej c.heap H):=⟨p,f y,⟨R,f hb,M⟩,let ⟨mc,h1,h2⟩:=t;⟨mc,f h1,h2⟩⟩;have e0:Env0 P w K D (qej c.heap H) callerA [] c H:=⟨rfl,hM,fun b o e=>of_hidT e,XR (hidT_size _ _),trivial,fun b hb=>absurd (show b∈([]:LQ) from hb) (by simp),A,.of_eq hg⟩;show XS ((F _ p (f y)).run callerA [] c H ⟨[.ref a],[]⟩ [.ref a] [.ref a] _ _ hr e0 (i c (.ref a)) (.cons rfl .nil) (O H X hS)) fun r s' h=>?_
  cases r with
  | error e=>show(L H e s' h).elim
  | ok fl =>
   cases fl with
   | next=>show False.elim h
   | brk=>show False.elim h
   | cont=>show False.elim h
   | ret u =>
    obtain⟨v,H',os,j,un,B,r',q⟩:=h;have q':v=.bl true:=q;subst q';obtain rfl:u=Value.bool true:=r';show⟨rfl,OldK.of_keep fun b o e=>?_,os,j⟩
    cases q:H b with
    | none=>show un.keep b o e q (by intro z;show absurd (show b∈([]:LQ) from z) (by simp)) (by simp)
    | some u =>
     rcases X b with z | ⟨ob,xs,z⟩
     .rw [q] at z;cases z
     .have z2:=un.frzs b ob _ z;obtain⟨U,_⟩:=A b _ z;obtain⟨e2,_⟩:=B b _ z2;rw[e] at U;cases U;show e2
 cases N:K.lookup a with
 | some o =>
  have e:=T a o N;rw[G] at e;cases e;show g (fun _=>none) (fun _=>.inl rfl) (.inr ⟨_,vs.toArray,_,N,rfl,rfl,rfl,by rw[yy,C];show hl,by simpa using Z⟩) (fun b u z=>by have E:(none:Option HO)=some u:=z;cases E) (fun b z=>absurd rfl z) fun z=>absurd rfl z
 | none =>
  show g (fun b=>if b=a then some (.frz { cls:=.type "list",data:=.seq vs.toArray } (.lst (ns.map V.int))) else none) (fun b=>?_) (.inl (.inr ⟨{ cls:=.type "list",data:=.seq vs.toArray },yI rfl⟩)) (fun b u z=>?_) (fun b z=>?_) fun _=>N
  .by_cases hb:b=a
   .show .inr ⟨_,_,yI hb⟩
   .show .inl (yF hb)
  .by_cases hb:b=a
   .have E:=(yI hb).symm.trans z;cases E;subst hb;show⟨G,by rw[ya];show hl,vs,_,Z,G⟩
   .have E:=(yF hb).symm.trans z;cases E
  .by_cases hb:b=a
   .show hb
   .show absurd (yF hb) z
noncomputable abbrev KOf{K:yg}{h:Heap}(_:K.In h):yg:=K
theorem walk_of{l:PySem.W.OpenLaw}{k:Nat}{q:Program}{loose:LS}{XP:(Str->Option Value)->Heap->Prop}{YP:World->Heap->Prop}{d:DefRec}{K:Params->yg}{CX:World->CXT}{sp:World->Sp}
  (P:l.most=some n) (A:n<=sizeLine) (y:d.params.defaults=[]) (R:Room k callerA)
  (M:∀(w:World) (h:Heap),YP w h->(K w.params).In h)
  (F:∀(w:World) (j:Str->Option Value) (r:Addr) (h:Heap),(K w.params).In h->h.Ns mainGlobals j->j d.name=some (.ref r) ->
   ∃ fd:FuncData,(∀(s:Shared) (u:Value),BindsTo s fd ⟨[u],[]⟩ [(x,u)]) /\
    ∀ base:Heap,(K w.params).In base->base.Ns mainGlobals j->FnOk l.prog w (K w.params) j base (CX w) k r fd [x] (sp w))
  (B:∀(w:World) (H:Hp) (a:Addr) (ns:LX),ns.length<=n->qfV H->SqL (K w.params) H a (ns.map V.int)->sp w [.ref a] H (fun v _=>v=.bl true) fun _ _ _=>False)
  (t:∀(w:World) (H:Hp) (s:Shared) (e:Value) (s':Shared),CX w [] H s (fun _ _ _=>False) e s'->False) :
  PySem.W.WalkO q loose XP YP l.row.toRowW d [] (fun f vs=>PySem.call f vs):=by
 show Att.attach_call P y fun w D p j Z r o pm S E a vs ns G Y X U N z m i c O=>?_;have C:=M w _ Y;obtain⟨fd,hb,I⟩:=F w j r _ C G.T.g z;show law_call C G.T.g G.T.b G.T.builtins G.T.nolimit O m i (yi c A) R I hb (fun H J L=>B w H a ns c J L) fun H e s'=>t w H p e s'
abbrev CX0:CXT:=fun _ _ _ _ _ _=>False
abbrev E0:XK:=fun _ _ _=>False
theorem qz{X:Cx}:qaf CX0 X E0:=fun _ _ _ _ _ _ _ h=>h.elim
structure Fun(K:yg)(x qual:Str)(st:Stmt)(f:Addr)(fd:FuncData):Prop where
 ex:∃(oc:Value) (od:Option Addr) (kV doc pm:Value) (an:Option Addr) (cdv ct:Value) (osl:Array (Option Value)),
  fd=PySem.W.fnOf x qual (qaF st) (zy st) (qg st) .none kV doc pm an cdv ct/\K.lookup f=some ⟨oc,od,.func fd,osl⟩/\PySem.W.codeIn K cdv qual=true
 kp:PySem.W.keepIn K (.ref f)=true
section
variable{P:Program}{w:World}{K:yg}{mg:Str->Option Value}{base:Heap}
theorem Fun.ok{N:LS}{k:Nat}(F:Fun K x qual st f fd)(S:FnScope N ps (qg st)) (c:∀(b:Value) (A:Around) (a:List Env) (s:Shared) (H:Hp) (vs:List V) (Q:VK) (E:XK),Room k (A.deeper (envOfC qual (qg st) s.heap.objs.size f b))->sp vs H Q E ->
   ∃ t,PSs (qex CX0 P w K mg base N qual (qg st) f b A a s H E).nox (zy st) t/\t { nx:=fun _ H'=>Q .non H',rt:=Q } (start N vs) H) (len:∀ vs H Q E,sp vs H Q E->vs.length=ps.length:=by intro _ _ _ _ h;cases h;subst_vars;rfl):FnOk P w K mg base CX0 (k+1) f fd ps sp:=by
 obtain⟨n,od,kV,g,o,m,b,ct,l,rfl,j,d⟩:=F.ex;show qfr j d S len fun A a s H vs Q E i e=>?_;obtain⟨t,h,q⟩:=c b A a s H vs Q E i e;show⟨t,h.nox,q⟩
theorem Fun.binds(F:Fun K x qual st f fd)
  (h:∀(kV b d:Value) (c:Option Addr) (a ct:Value) (us:List Value),us.length=ps.length->bindArgs (PySem.W.fnOf x qual (qaF st) (zy st) (qg st) .none kV b d c a ct) ⟨us,[]⟩=pure (ps.zip us)):Binds K fd ps []:=by
 obtain⟨j,od,kV,b,d,c,a,ct,g,rfl,i,e⟩:=F.ex;show .all (h kV b d c a ct)
theorem fun_mk{h:Value}{od e:Option Addr}{d:Array (Option Value)}{kV b g a ct:Value}(l:K.lookup f=some ⟨h,od,.func (PySem.W.fnOf x qual (qaF st) (zy st) (qg st) .none kV b g e a ct),d⟩)
  (c:PySem.W.codeIn K a qual=true) (k:PySem.W.keepIn K (.ref f)=true):Fun K x qual st f (PySem.W.fnOf x qual (qaF st) (zy st) (qg st) .none kV b g e a ct):=⟨⟨h,od,kV,b,g,e,a,ct,d,rfl,l,c⟩,k⟩
end
theorem qh(h:n<=1000):n<sizeLine:=YC h (by decide)
section
variable{X:Cx}
theorem pv(i:Nat){b:Pos}(c:X.N[i]?=some x:=by rfl)(hv:Vis X.env.scope x:=by first | show yP rfl | show XB (yP rfl) | show XB (XB rfl))(d:(x==("__debug__":Str))=false:=by decide)
  (a:(x==("__classdict__":Str))=false:=by decide):PE X (.Name x b) (qfc i):=pe_var c hv d a
theorem call_lenD:qae X (.builtin "len") (fun xs H Q=>∃ a kvs,xs=[V.ref a]/\H a=some (.dK kvs)/\Q (.int kvs.length) H):=by
 intro b s f H xs us Q I r h;obtain⟨a,kvs,rfl,d,q⟩:=h;obtain⟨u,rfl,e⟩:=qbm r;cases e;show d_len I (.inl d) fun t s' c=>⟨.int kvs.length,H,c,⟨t,rfl⟩,q⟩
end
theorem jU(h:A):if true=true then A else B:=by
 rw[yI rfl];show h
theorem qF{c:Prop}[Decidable c](h1:c->A)(a:¬ c->B):if c then A else B:=by
 by_cases h:c
 .rw [yI h];show h1 h
 .rw [yF h];show a h
def Same(H H':Hp):Prop:=∀ b o,H b=some o->H' b=some o
theorem Same.refl(H:Hp):Same H H:=fun _ _ h=>h
theorem Same.trans{d e:Hp}(a:Same H d)(b:Same d e):Same H e:=fun c o h=>b c o (a c o h)
theorem Same.free(e:Same H H'){l:Addr}(h:H' l=Option.none):H l=Option.none:=by
 cases q:H l with
 | none=>rfl
 | some o =>
  rw[e l o q] at h;cases h
theorem Same.seq{K:yg}{xs:List V}(e:Same H H')(h:SqL K H a xs):SqL K H' a xs:=by
 rcases h with(h | ⟨o,h⟩) | h
 .show .inl (.inl (e _ _ h))
 .show .inl (.inr ⟨o,e _ _ h⟩)
 .show .inr h
section
variable{κ:Type}[DecidableEq κ]
end
end L2
set_option maxHeartbeats 4000000
namespace L2
open PySem PySem.Spec PyProof.Rows
variable{A:Around}{C D a a0 c e f it p:Addr}{E:Value->Shared->Prop}{H H':Hp}{M:Model}{N:LS}{P prog:Program}{QO:Option Int->Hp->Prop}{R:It->Hp->Prop}{T:String}{X:Cx}{acc:List (Str×Addr)}{b expr:Bool}{dx:Option Addr}{elt iter tg:Expr}{env:Env}{fl t u:Value}{fp zs:LQ}{g:TG}{h h':Heap}{i j:Int}{ifs:List Expr}{its l us:List Value}{ixs:LN}{n nl:Nat}{od:Option Obj}{ox:Obj}{pins:List (Addr×Obj)}{pos:Pos}{qual x z:Str}{s:Shared}{sc scope:Scope}{sp:Sp}{tc:TT}{te:TE}{tk:Tok}{v y:V}{vs:Array Value}{w:World}{wi:TI}{xs ys:List V}{α:Type}{σ:St}
section
variable{prog:Program}{w:World}{A:Around}{R:Result->Shared->Prop}{s:Shared}
theorem compLoop_own{a:Expr}{it acc:Value}(I:Nat->Shared->Prop)
  (turn:∀ n s,I n s->wpAny (model prog w) A (pyNext it) (fun r e=>match r with
   | none=>R (.ok .next) e
   | some v=>wpAny (model prog w) A (letOwnedTupleGo a it v) (fun _ b=>wpAny (model prog w) A (assign a env v) (fun _ i =>
     wpAny (model prog w) A (forIn ifs true fun c r=>if r=true then do let ok <- isTrue c env (eval c env);pure (ForInStep.yield ok) else pure (ForInStep.yield r)) (fun ok f =>
      if ok=true then wpAny (model prog w) A (eval elt env) (fun x j =>
       wpAny (model prog w) A (call (.builtin "list.append") [acc,x]) (fun _ l=>∃ m,m<n/\I m l) (fun _ _=>False) j) (fun _ _=>False) f
      else ∃ m,m<n/\I m f) (fun _ _=>False) i) (fun _ _=>False) b) (fun _ _=>False) e) (fun _ _=>False) s)
  (n:Nat) (h:I n s) :
  codeAny (model prog w) A (.compLoop (.ListComp elt [⟨a,iter,ifs,0⟩] scope pos) 0 it acc env) R s:=by
 show codeAny_loop rfl I (fun n s t=>?_) n h;show wpAny _ A ((compTurn (.ListComp elt [⟨a,iter,ifs,0⟩] scope pos) 0 it acc env).onRaise (fun x=>do noteFrame x env;theTreesLotGoes x)) _ _ s;show wpAny_noted ?_;rw[compTurn_list];show yr (XE (yr (YL (turn n s t) (fun r e h1=>?_) fun _ _ h'=>h'.elim)))
 cases r with
 | none=>show yu h1
 | some v =>
  show yr (YL h1 (fun _ b d=>?_) fun _ _ h'=>h'.elim);show yr (YL d (fun _ i o=>yr (YL o (fun ok f g=>?_) fun _ _ h'=>h'.elim)) fun _ _ h'=>h'.elim)
  cases ok with
  | false=>show yu ⟨rfl,g⟩
  | true =>
   show yr (yr (YL g (fun x j p=>yr (YL p (fun _ l q=>yu (yu ⟨rfl,q⟩)) fun _ _ h'=>h'.elim)) fun _ _ h'=>h'.elim))
end
noncomputable def qO(env:Env):List (Str×NameKind)->List (Str×Addr)->List (Str×Addr)
 | [],acc=>acc
 | (n,k)::r,acc=>qO env r (if (k==.free)=true then(n,(env.cells.lookup n).getD 0)::acc else acc)
theorem zO:∀{names:List (Str×NameKind)} {acc:List (Str×Addr)} {x:Str} {c:Addr},(qO env names acc).lookup x=some c ->
  ((x,NameKind.free)∈names/\c=(env.cells.lookup x).getD 0)\/acc.lookup x=some c
 | [],_,_,_,h=>.inr h
 | (n,k)::r,acc,x,c,h=>by
  unfold qO at h;rcases zO h with⟨h1,f⟩ | h1
  .show .inl ⟨yJ _ h1,f⟩
  .by_cases a:(k==NameKind.free)=true
   .rw [yI a,xo] at h1
    cases b:x==n with
    | true =>
     rw[b] at h1;have e:x=n:=Ym.mp b;have d:k=.free:=Ym.mp a;subst e d;show .inl ⟨yU,(ym h1).symm⟩
    | false =>
     rw[b] at h1;show .inr h1
   .rw [yF a] at h1;show .inr h1
theorem qaM:∀{names:List (Str×NameKind)} {acc:List (Str×Addr)} {x:Str},(∃ c,acc.lookup x=some c)->∃ c,(qO env names acc).lookup x=some c
 | [],_,_,h=>h
 | (n,k)::r,acc,x,h=>by
  unfold qO;apply qaM;by_cases a:(k==NameKind.free)=true
  .rw [yI a,xo]
   cases b:x==n with
   | true=>show⟨_,rfl⟩
   | false=>show h
  .rw [yF a];show h
theorem zP:∀{names:List (Str×NameKind)} {acc:List (Str×Addr)} {x:Str},(x,NameKind.free)∈names->∃ c,(qO env names acc).lookup x=some c
 | [],_,_,h=>by cases h
 | (n,k)::r,acc,x,h=>by
  unfold qO;rcases yx.mp h with e | e
  .cases e;apply qaM;rw[show(NameKind.free==NameKind.free)=true from rfl,yI rfl,xo,Xd];show⟨_,rfl⟩
  .show zP e
theorem qaN(h:∀ n,(n,NameKind.free)∈scope.names->∃ c,env.cells.lookup n=some c):closureFor scope env=pure (qO env scope.names []):=by
 have f:∀(names:List (Str×NameKind)) (acc:List (Str×Addr)),(∀ n,(n,NameKind.free)∈names->∃ c,env.cells.lookup n=some c) ->
   (forIn names acc (fun(x:Str×NameKind) (r:List (Str×Addr))=>(if (x.2==NameKind.free)=true then(cellOf env x.1>>=fun c=>pure (ForInStep.yield ((x.1,c)::r))) else pure (ForInStep.yield r):Sem (ForInStep (List (Str×Addr))))))=(pure (qO env names acc):Sem (List (Str×Addr))):=by
  intro names
  induction names with
  | nil=>intro acc _;rfl
  | cons x r ih =>
   intro acc d;obtain⟨n,k⟩:=x;rw[k8];unfold qO;by_cases a:(k==NameKind.free)=true
   .have g:k=.free:=Ym.mp a;subst g;obtain⟨c,hc⟩:=d n yU;have i:cellOf env n=pure c:=by unfold cellOf;rw[hc]
    simp only[a,X5,i,hc,Option.getD_some];show ih _ fun m b=>d m (yJ _ b)
   .simp only[a,XU];show ih _ fun m b=>d m (yJ _ b)
 have e:=f scope.names [] h;unfold closureFor;show Eq.trans (congrArg (fun m=>m>>=pure) e) rfl
@[reducible] noncomputable def Cx.comp(X:Cx)(N:LS)(scope:Scope)(C:Addr)(s0:Shared)(H0:Hp)(ex:LQ):Cx where
 prog:=X.prog
 w:=X.w
 K:=X.K
 mg:=X.mg
 base:=X.base
 A:=X.A
 N:=N
 s₀:=s0
 H₀:=H0
 env:=compEnvC scope (cellsFrom (C+1) scope.names (qO X.env scope.names [])) C X.env
 outer:=X.stack
 stack:=X.stack
 ex:=ex
 fn:=fun x=>scope.names.lookup x==some NameKind.cell
 calm:=X.calm
 pn:=[]
 xe:=fun _ _=>False
theorem jB:∀(names:List (Str×NameKind)) (n:Nat) (acc:List (Str×Addr)),cellsFrom n names acc=cellsFrom n names []++acc
 | [],_,_=>rfl
 | (m,k)::r,n,acc=>by
  unfold cellsFrom;split
  .rw [jB r (n+1) ((m,n)::acc),jB r (n+1) [(m,n)],Yc];rfl
  .show jB r n acc
theorem qaO:∀{names:List (Str×NameKind)} {n:Nat} {x:Str},(x,NameKind.cell)∈names->∃ c,(cellsFrom n names []).lookup x=some c
 | (m,k)::r,n,x,h=>by
  unfold cellsFrom;rcases yx.mp h with e | e
  .cases e;rw[yI (show(NameKind.cell==NameKind.cell)=true from rfl),jB,xJ]
   cases q:(cellsFrom (n+1) r []).lookup m with
   | some c=>show⟨c,rfl⟩
   | none=>show⟨n,by show List.lookup m [(m,n)]=some n;rw[xo,Xd]⟩
  .split
   .rw [jB,xJ];obtain⟨c,hc⟩:=qaO (n:=n+1) e;show⟨c,by rw[hc];rfl⟩
   .show qaO e
theorem qbq:∀{names:List (Str×NameKind)} {n:Nat} {x:Str} {c:Addr},(x,c)∈cellsFrom n names []->(x,NameKind.cell)∈names
 | (m,k)::r,n,x,c,h=>by
  unfold cellsFrom at h;split at h
  .rename_i hk
   rw[jB] at h;rcases yz.mp h with z | z
   .show yJ _ (qbq z)
   .have e:(x,c)=(m,n):=yA.mp z;cases e;rw[Ym.mp hk];show yU
  .show yJ _ (qbq h)
theorem qbr{names:List (Str×NameKind)}(h:(cellsFrom n names acc).lookup x=some c):(x,c)∈cellsFrom n names []\/acc.lookup x=some c:=by
 rw[jB,xJ] at h
 cases e:(cellsFrom n names []).lookup x with
 | some d=>rw[e] at h;cases h;show .inl (mem_of_lookup e)
 | none=>rw[e] at h;show .inr h
theorem cells_some{names:List (Str×NameKind)}(h:(x,NameKind.cell)∈names\/∃ c,acc.lookup x=some c):∃ c,(cellsFrom n names acc).lookup x=some c:=by
 rw[jB,xJ]
 cases e:(cellsFrom n names []).lookup x with
 | some d=>show⟨d,rfl⟩
 | none =>
  rcases h with z | ⟨c,hc⟩
  .obtain⟨d,a⟩:=qaO (n:=n) z;rw[e] at a;cases a
  .show⟨c,hc⟩
section
variable{M:Model}{A:Around}{E:Value->Shared->Prop}{s:Shared}
theorem newEnvK{c:Addr}{b:List (Str×Addr)}{f:Option Addr}{e:Value}{d:Env}{a:Addr}{Q:Env->Shared->Prop}
  (i:Q (newEnv scope s.heap.objs.size c (cellsFrom (s.heap.objs.size+1) scope.names b) qual f e (some d) a) { s with heap:=pushCells (s.heap.push { cls:=.type "dict",data:=.dict #[] }) scope.names }) :
  wpAny M A (newFunctionEnv scope c b [] qual f e (some d) a) Q E s:=by
 simp only[newFunctionEnv,Option.isSome_some,X5];show yr (wpAny_alloc ?_);show yr (wpAny_layCells _ (fun name kind g=>by cases h:kind==NameKind.cell<;>simp[h]) _ _ _ _ ?_);rw[show({ s with heap:=s.heap.push { cls:=.type "dict",data:=.dict #[] } }:Shared).heap.objs.size=s.heap.objs.size+1 from YZ ..];rw[Kb];show yr (yu (yu i))
end
structure CompOk(sc scope:Scope):Prop where
 kind:scope.kind=.function
 cel:∀ y∈scope.names,y.2=.cell->scope.names.lookup y.1=some .cell
 loc:∀ y∈scope.names,y.2=.local->scope.names.lookup y.1=some .local
 free:∀ y∈scope.names,y.2=.free->sc.names.lookup y.1=some .cell\/sc.names.lookup y.1=some .free
 once:∀ y∈scope.names,y.2=.free->scope.names.lookup y.1=some .free
noncomputable def qcr(sc scope:Scope):Bool:=decide (scope.kind=.function)&&scope.names.all fun y=>match y.2 with
 | .local=>scope.names.lookup y.1==some .local
 | .free=>(sc.names.lookup y.1==some .cell||sc.names.lookup y.1==some .free)&&scope.names.lookup y.1==some .free
 | .cell=>scope.names.lookup y.1==some .cell
 | _=>true
theorem qc8(h:qcr sc scope=true):CompOk sc scope:=by
 unfold qcr at h;rw[yY] at h;have b:=YM.mp h.2;show⟨yk h.1,fun y a e=>?_,fun y a e=>?_,fun y a e=>?_,fun y a e=>?_⟩
 .have:=b y a;rw[e] at this;show Ym.mp this
 .have:=b y a;rw[e] at this;show Ym.mp this
 .have:=b y a;rw[e,yY,ki] at this;show this.1.imp Ym.mp Ym.mp
 .have:=b y a;rw[e,yY] at this;show Ym.mp this.2
noncomputable def qfO(nl:Nat)(ixs:LN)(N XN:LS)(names:List (Str×NameKind)):Bool:=(List.range ixs.length).all fun k=>match ixs[k]?,N[nl+k]? with
 | some j,some x=>XN[j]?==some x&&names.any fun y=>y.1==x&&y.2==.free
 | _,_=>true
theorem qdW{XN:LS}{names:List (Str×NameKind)}(h:qfO nl ixs N XN names=true)(k j:Nat)(x:Str)(h1:ixs[k]?=some j)(c:N[nl+k]?=some x):XN[j]?=some x/\(x,NameKind.free)∈names:=by
 have d:k<ixs.length:=(yc.mp h1).1;have:=YM.mp h k (xZ.mpr d);rw[h1,c] at this;simp only[yY] at this;show⟨Ym.mp this.1,?_⟩;obtain⟨⟨n,g⟩,f,e⟩:=Xe.mp this.2;rw[yY] at e;have a:n=x:=Ym.mp e.1;have b:g=.free:=Ym.mp e.2;subst a b;show f
noncomputable def qdI(nl:Nat)(ixs:LN)(σ:St):St:=List.replicate nl none++ixs.map fun j=>(σ[j]?).getD none
theorem capS_len(nl:Nat)(ixs:LN)(σ:St):(qdI nl ixs σ).length=nl+ixs.length:=by
 unfold qdI;rw[yt,YY,ya]
theorem qc9{i:Nat}(h:(qdI nl ixs σ)[i]?=some (some v)):nl<=i/\∃ j,ixs[i-nl]?=some j/\σ[j]?=some (some v):=by
 unfold qdI at h;by_cases a:i<nl
 .rw [yW (by rw[YY];show a),XI] at h;split at h<;>cases h
 .rw [yB (by rw[YY];lk),YY,yd] at h;show⟨by lk,?_⟩
  cases e:ixs[i-nl]? with
  | none=>rw[e] at h;cases h
  | some j =>
   rw[e] at h;have h':(σ[j]?).getD none=some v:=ym h
   cases q:σ[j]? with
   | none=>rw[q] at h';cases h'
   | some u =>
    rw[q] at h';show⟨j,rfl,by rw[q];show congrArg some h'⟩
noncomputable def qel(env:Env)(y:Str×NameKind):Str×NameKind:=if (y.2==NameKind.free&&env.scope.kind==.function&&env.kindOf y.1==some .cell)=true then(y.1,NameKind.cell) else(y.1,y.2)
theorem relF_fst(env:Env)(y:Str×NameKind):(qel env y).1=y.1:=by unfold qel;split<;>rfl
theorem relF_snd(env:Env)(y:Str×NameKind):(qel env y).2=y.2\/((qel env y).2=.cell/\y.2=.free):=by
 unfold qel;split
 .rename_i h
  rw[yY,yY] at h;show .inr ⟨rfl,Ym.mp h.1.1⟩
 .show .inl rfl
theorem zq:∀{names:List (Str×NameKind)} {x:Str} {k:NameKind},(names.map (qel env)).lookup x=some k->∃ b,names.lookup x=some b/\(x,b)∈names/\(k=b\/(k=.cell/\b=.free))
 | [],_,_,h=>by cases h
 | (n,k1)::r,x,k,h=>by
  rw[YJ,show qel env (n,k1)=((qel env (n,k1)).1,(qel env (n,k1)).2) from rfl,xo,relF_fst] at h;rw[xo]
  cases c:x==n with
  | true =>
   have e:x=n:=Ym.mp c;subst e;have a:(x==(x,k1).1)=true:=c;rw[a] at h;have h':=ym h;show⟨k1,rfl,yU,?_⟩;rcases relF_snd env (x,k1) with z | ⟨z1,z2⟩
   .show .inl (h'.symm.trans z)
   .show .inr ⟨h'.symm.trans z1,z2⟩
  | false =>
   have a:(x==(n,k1).1)=false:=c;rw[a] at h;obtain⟨b,d,f,g⟩:=zq h;show⟨b,d,yJ _ f,g⟩
section
variable{X:Cx}{pins:List (Addr×Obj)}{σ:St}{H:Hp}{s:Shared}
theorem comp_free_of{b:List (Str×Addr)}(h:(compEnvC scope b C X.env).kindOf x=some .cell\/(compEnvC scope b C X.env).kindOf x=some .free):(x,NameKind.cell)∈scope.names\/(x,NameKind.free)∈scope.names:=by
 rcases h with h | h
 .obtain⟨c,_,a,e | ⟨_,e⟩⟩:=zq (env:=X.env) (names:=scope.names) h
  .rw [<- e] at a;show .inl a
  .rw [e] at a;show .inr a
 .obtain⟨c,_,a,e | ⟨e,_⟩⟩:=zq (env:=X.env) (names:=scope.names) h
  .rw [<- e] at a;show .inr a
  .cases e
theorem Inv.comp{S:Obj}{h1:Heap}{tk:Nat}(I:Inv X pins σ H s)(O:CompOk X.env.scope scope)
  (hN:N.length=nl+ixs.length) (G:∀(k j:Nat) (x:Str),ixs[k]?=some j->N[nl+k]?=some x->X.N[j]?=some x/\(x,NameKind.free)∈scope.names)
  (M:∀ b∈fp,qcK X pins H b) (J:∀ b∈fp,b<s.heap.objs.size) (L:s.heap.objs.size<=C) (W:s.heap.objs.size<=D) (Y:D≠C) (ac:h1.Ns C fun _=>none) (k:∀ b o,s.heap.get? b=some o->h1.get? b=some o)
  (ad:h1.get? D=some S) (aa:∀ v,S.data≠.cell v) (B:CellsOk h1 (C+1) (cellsFrom (C+1) scope.names [])):Inv (X.comp N scope C s H fp) [(D,S)] (qdI nl ixs σ) H { s with heap:=h1,toks:=tk }:=by
 have a:∀ x c,(qO X.env scope.names []).lookup x=some c->X.env.cells.lookup x=some c/\(x,NameKind.free)∈scope.names:=fun x c h=>by
  rcases zO h with⟨h1,K⟩ | h1
  .obtain⟨F,l⟩:=I.ok.has x (by
    rcases O.free _ h1 rfl with z | z
    .show .inl z
    .show .inr z)
   rw[l] at K;show⟨by rw[l,K];rfl,h1⟩
  .cases h1
 have big:∀ c:Addr,C+1<=c->s.heap.objs.size<=c:=fun c h=>yi L (Nat.le_of_succ_le h);have R:∀{P:Prop} {c:Addr},C+1<=c->c<s.heap.objs.size->P:=fun h g=>absurd (yj g (big _ h)) (Yy _)
 have all:∀ x c,(cellsFrom (C+1) scope.names (qO X.env scope.names [])).lookup x=some c->((x,c)∈cellsFrom (C+1) scope.names []/\C+1<=c/\h1.IsCell c none)\/(X.env.cells.lookup x=some c/\c<s.heap.objs.size):=fun x c h=>by
  rcases qbr h with z | z
  .show .inl ⟨z,(B.empty _ _ z).2,(B.empty _ _ z).1⟩
  .obtain⟨_,q⟩:=I.cell x c (a x c z).1;show .inr ⟨(a x c z).1,q.lt⟩
 show⟨⟨I.ok.mod,O.kind,I.ok.glob,I.ok.blt,L,fun x y c h1 K=>?inj,fun x hx=>cells_some ((comp_free_of hx).imp id zP),fun x c z h=>?cab,I.ok.hd,I.ok.frames,.inl rfl,
   fun b hb=>⟨yO (yj (J b hb) L),fun x c e=>?exf⟩,I.bs,yi I.ok.bsz I.sz,fun b o e hb=>?_,fun b hb z=>?_,I.stack,I.stkFree⟩,
  rfl,I.bare,Un.kept k,⟨_,ac,fun i x v e1 e2 e3=>?_⟩,fun x c e=>?_,I.hok.fresh L,fun x c e=>?fre,fun p hp=>?_,I.hok.kept k,?_⟩
 case inj =>
  rcases all x c h1 with⟨r,f,_⟩ | ⟨r,f⟩<;>rcases all y c K with⟨T,U,_⟩ | ⟨T,U⟩
  .show name_of_addr B.apart r T
  .show R f U
  .show R U f
  .show I.ok.inj x y c r T
 case cab =>
  rcases all x c h with⟨_,f,_⟩ | ⟨r,f⟩
  .show big _ f
  .exfalso;obtain⟨d,E⟩:=qaO (n:=C+1) (mem_of_lookup (Ym.mp z));have h:(cellsFrom (C+1) scope.names (qO X.env scope.names [])).lookup x=some c:=h;rw[jB,xJ,E] at h;cases h;show R (B.empty _ _ (mem_of_lookup E)).2 f
 case exf =>
  rcases all x c e with⟨_,f,_⟩ | ⟨r,_⟩
  .show fun z=>R f (by rw[z];show J b hb)
  .show(M b hb).2.2.2.2.1 x c r
 case fre =>
  rcases all x c e with⟨_,f,_⟩ | ⟨r,_⟩
  .show I.hok.fresh (big _ f)
  .show I.freeC x c r
 .rcases(M b hb).2.2.2.1 with z | z
  .show I.ok.noex b o e z
  .have:=(I.ok.bs b o e).1;show absurd (yj (yN this) z) (Yy _)
 .rcases yx.mp (I.stkSub b z) with e | e
  .show(M b hb).2.1 e
  .show(M b hb).2.2.1 e
 .obtain⟨hi,j,hj,hv⟩:=qc9 e2;obtain⟨hx,t⟩:=G (i-nl) j x hj (by rw[Nat.add_sub_cancel' hi];show e1);obtain⟨m,hn,hl⟩:=I.loc;have B:=O.free _ t rfl
  obtain⟨u,ru,lk⟩:=hl j x v hx hv (by
   rcases B with z | z
   .show .inr (.inl z)
   .show .inr (.inr z))
  show⟨u,ru,?_⟩;rcases lk with⟨ab,_⟩ | ⟨_,c,hc,A⟩
  .have w:X.env.scope.names.lookup x=some .local:=ab;rcases B with z | z<;>· rw[z] at w;cases w
  .obtain⟨F,l⟩:=zP (env:=X.env) (acc:=[]) t
   have e:F=c:=by
    have:=(a x F l).1;rw[hc] at this;show(ym this).symm
   subst e
   have Z:(cellsFrom (C+1) scope.names (qO X.env scope.names [])).lookup x=some F:=by
    rw[jB,xJ]
    cases q:(cellsFrom (C+1) scope.names []).lookup x with
    | none=>show l
    | some d=>have:=O.cel _ (qbq (mem_of_lookup q)) rfl;rw[O.once _ t rfl] at this;cases this
   show .inr ⟨?_,F,Z,?_⟩
   .rcases e3 with z | z | z
    .obtain⟨k0,z3,_,e | ⟨e,_⟩⟩:=zq (env:=X.env) (names:=scope.names) z
     .rw [O.once _ t rfl] at z3;cases z3;cases e
     .cases e
    .show .inl z
    .show .inr z
   .obtain⟨o,ho,E⟩:=A;show⟨o,k _ _ ho,E⟩
 .rcases all x c e with⟨_,_,a3⟩ | ⟨r,_⟩
  .show⟨none,a3⟩
  .obtain⟨v,o,ho,E⟩:=I.cell x c r;show⟨v,o,k _ _ ho,E⟩
 .have e:p=(D,S):=by simpa using hp
  subst e;show⟨ad,I.hok.fresh W,Y,fun z=>?_,aa⟩;rcases yx.mp (I.stkSub D z) with e | e
  .show absurd (show X.env.locals<D from yj I.lt W) (by rw[e];show Yy _)
  .show I.nofs W e
 .show(qdI nl ixs σ).length=N.length;rw[capS_len,hN]
theorem Inv.compBack{s':Shared}{h:St}(I:Inv X pins σ H s)(f:∀ b∈fp,qcK X pins H b)(r:s.heap.objs.size<=C)(i:s.heap.objs.size<=D)
  (J:Inv (X.comp N scope C s H fp) [(D,{ cls:=.type "list",data:=.seq its.toArray n })] h H' s') (hv:Vals ys its) (hz:ys.length<=sizeLine):Inv X pins σ (upd H' D (.lst ys)) s':=by
 obtain⟨m,d,l,_,_⟩:=J.pin (D,{ cls:=.type "list",data:=.seq its.toArray n }) (yH _ (yA.mpr rfl));have g:∀ b o,s.heap.get? b=some o->b≠D:=fun b o e=>yO (yj (yN e) i);have a:=J.base;show I.call' (ch:=fp) J.os ⟨a.keep,a.slot,fun b o e n j=>?_,a.there,fun b xs e=>?_,fun b o u e=>?_,fun b p e=>?_⟩ (fun b u e=>?_) J.bare fun b hb=>⟨(f b hb).2.2.2.1,(f b hb).2.1,(f b hb).2.2.2.2.1,(f b hb).2.2.2.2.2⟩
 .rw [qf (g b o e)];show a.free b o e n j
 .have q:=a.tups b xs e;rw[qf (qv q d)];show q
 .have q:=a.frzs b o u e;rw[qf (qv q d)];show q
 .obtain⟨more,q⟩:=a.tbls b p e;show⟨more,by rw[qf (qv q d)];show q⟩
 .by_cases hb:b=D
  .subst hb;rw[qb] at e;cases e;show⟨hz,its,n,hv,m⟩
  .rw [qf hb] at e;show(J.hok b u e).stay (fun c v _ q=>q) (fun c q=>by rw[qf (qv q d)];show q) fun c xs q=>by rw[qf (qv q d)];show q
end
def qf9:TT:=fun _ H Q=>Q true H
def qem(wi:TI)(g:TG)(tc:TT)(te:TE)(nl:Nat)(ixs:LN):TE:=fun σ H Q=>wi σ H fun J e =>
 ∃ W:Nat->Nat->List V->Hp->Prop,(∃ m,W 0 m [] e)/\∀ i m ys H,W i m ys H ->
  (J.stop i H/\ys.length<=sizeLine/\∀ p,H p=none->Q (.ref p) (upd H p (.lst ys))) \/
  (J.go i H/\∃ M:List V->Hp->Prop,(∀ ys' H',M ys' H'->∃ d,d<m/\W (i+1) d ys' H')/\∀ x H',J.yld i H x H'->g x (qdI nl ixs σ) H' fun a f=>tc a f fun b c =>
   if b=true then te a c fun v h=>ys.length<sizeLine/\M (ys++[v]) h else M ys c)
def qdC(nl:Nat)(g:TG):Prop:=∀ x σ H Q,g x σ H Q->g x σ H fun a b=>Q a b/\a.length=σ.length/\∀ i,nl<=i->a[i]?=σ[i]?
theorem qN{i:Nat}(h:i<nl:=by decide):qdC nl (qbV i):=fun x σ H Q q=>⟨q,kf ..,fun j a=>xu (by lk)⟩
def qfe(X:Cx)(ifs:List Expr)(tc:TT):Prop:=
 ∀(pins:List (Addr×Obj)) (s:Shared) (σ:St) (H:Hp) (Q:Bool->Hp->Prop),Inv X pins σ H s->tc σ H Q ->
  wpAny (model X.prog X.w) X.A (forIn ifs true fun c r=>if r=true then do let ok <- isTrue c X.env (eval c X.env);pure (ForInStep.yield ok) else pure (ForInStep.yield r)) (TP X pins σ Q) X.xe s
theorem jK:qfe X [] qf9:=fun pins s σ H Q I h=>wpAny_tests_nil ⟨H,I,h⟩
theorem qW{c:Expr}(h:PT X c tc):qfe X [c] tc:=fun pins s σ H Q I q=>wpAny_tests_one (h pins s σ H Q I q)
section
variable{X:Cx}{pins:List (Addr×Obj)}{σ:St}{H:Hp}{s:Shared}
theorem qbM{tn:Nat->Heap->Prop}{J:It}{Q:V->Hp->Prop}
  {RR:Value->Addr->Result->Shared->Prop} (I:Inv X pins σ H s) (hc:X.calm=true) (O:CompOk X.env.scope scope)
  (hN:N.length=nl+ixs.length) (ah:∀(k j:Nat) (x:Str),ixs[k]?=some j->N[nl+k]?=some x->X.N[j]?=some x/\(x,NameKind.free)∈scope.names)
  (T:Turn X.prog X.w X.K tg J fp it tn) (st:tn 0 s.heap) (hf:∀ b∈fp,qcK X pins H b)
  (hg:∀ C s0 H0 ex,PG (X.comp N scope C s0 H0 ex) tg g) (gk:qdC nl g) (hi:∀ C s0 H0 ex,qfe (X.comp N scope C s0 H0 ex) ifs tc) (he:∀ C s0 H0 ex,PE (X.comp N scope C s0 H0 ex) elt te)
  (h:∃ W:Nat->Nat->List V->Hp->Prop,(∃ m,W 0 m [] H)/\∀ i m ys H,W i m ys H ->
   (J.stop i H/\ys.length<=sizeLine/\∀ p,H p=none->Q (.ref p) (upd H p (.lst ys))) \/
   (J.go i H/\∃ M:List V->Hp->Prop,(∀ ys' H',M ys' H'->∃ m',m'<m/\W (i+1) m' ys' H')/\∀ x H',J.yld i H x H'->g x (qdI nl ixs σ) H' fun an a=>tc an a fun b H3 =>
    if b=true then te an H3 fun v H4=>ys.length<sizeLine/\M (ys++[v]) H4 else M ys H3))
  (au:∀(D C:Addr) (s':Shared) (H':Hp) (P:St) (ys:List V) (its:List Value) (n:Nat),s.heap.objs.size<=C->s.heap.objs.size<=D->Inv (X.comp N scope C s H fp) [(D,{ cls:=.type "list",data:=.seq its.toArray n })] P H' s'->Vals ys its->ys.length<=sizeLine ->
   (∀ p,H' p=none->Q (.ref p) (upd H' p (.lst ys)))->RR (.ref D) C (.ok .next) s') :
  wpAny (model X.prog X.w) X.A (newList []) (fun acc s3=>wpAny (model X.prog X.w) X.A (newFunctionEnv scope X.env.globals (qO X.env scope.names []) [] X.env.qual none .none (some X.env)) (fun S s4 =>
   codeAny (model X.prog X.w) X.A (.compStart (.ListComp elt [⟨tg,iter,ifs,0⟩] scope pos) 0 (.ref it) acc { S with scope:=relabel scope X.env }) (RR acc S.locals) s4) E s3) E s:=by
 obtain⟨W,⟨m0,w0⟩,turn⟩:=h;show Ys (newEnvK ?_);dsimp only;generalize aa:s.heap.push { cls:=.type "list",dict:=none,data:=.seq ([]:List Value).toArray }=a;have Y:(pushCells (a.push { cls:=.type "dict",data:=.dict #[] }) scope.names).Ns a.objs.size fun _=>none:=(Heap.Ns.new a (.type "dict")).keeps (pushCells_keeps _ _);have B:=cellsFrom_ok scope.names (a.push { cls:=.type "dict",data:=.dict #[] }) (a.objs.size+1) [] ⟨fun _ _ hm=>(nomatch hm),List.Pairwise.nil⟩ (by rw[YZ];show yh _);rw[YZ] at B;have ab:∀ b o,a.get? b=some o->(pushCells (a.push { cls:=.type "dict",data:=.dict #[] }) scope.names).get? b=some o:=fun b o e=>pushCells_keeps _ _ b o (yv _ e);generalize pushCells (a.push { cls:=.type "dict",data:=.dict #[] }) scope.names=h1 at Y B ab ⊢;have hC:a.objs.size=s.heap.objs.size+1:=by rw[<- aa,YZ]
 have as:s.heap.objs.size≠a.objs.size:=by rw[hC];show yO (Xa _)
 have U:s.heap.objs.size<=a.objs.size:=by rw[hC];show xT _
 have f:∀ b,b<s.heap.objs.size->b≠a.objs.size/\b≠s.heap.objs.size:=fun b hb=>⟨by rw[hC];show yO (Nat.lt_succ_of_lt hb),yO hb⟩;have ac:∀ b o,s.heap.get? b=some o->h1.get? b=some o:=fun b o e=>ab b o (aa ▸ yv _ e);have af:h1.get? s.heap.objs.size=some { cls:=.type "list",data:=.seq ([]:List Value).toArray }:=ab _ _ (aa ▸ yX _ rfl)
 have t:∀ b∈fp,b<s.heap.objs.size:=fun b hb=>by
  obtain⟨o,ho,_⟩:=T.obj 0 _ st b hb;show yN ho
 have Z:∀ s3:Shared,s3={ s with heap:=h1 } ->
   codeAny (model X.prog X.w) X.A (.compLoop (.ListComp elt [⟨tg,iter,ifs,0⟩] scope pos) 0 (.ref it) (.ref s.heap.objs.size) (compEnvC scope (cellsFrom (a.objs.size+1) scope.names (qO X.env scope.names [])) a.objs.size X.env)) (RR (.ref s.heap.objs.size) a.objs.size) s3:=by
  rintro s3 rfl;have I0:=I.comp (N:=N) (C:=a.objs.size) (D:=s.heap.objs.size) (h1:=h1) (tk:=s.toks) O hN ah hf t U (yh _) as Y ac af (fun v z=>by cases z) B
  have l:∀{H':Hp} {P:St} {s':Shared} {pl:List (Addr×Obj)},Inv (X.comp N scope a.objs.size s H fp) pl P H' s'->(∀ p∈pl,p.1=s.heap.objs.size)->(∀ b∈fp,H' b=none)->∀ b∈fp,qcK (X.comp N scope a.objs.size s H fp) pl H' b:=fun{H' P s' pl} J aw hn b hb =>
   ⟨hn b hb,(f b (t b hb)).1,fun z=>(by
     rcases yx.mp (I.stkSub b z) with e | e
     .show(hf b hb).2.1 e
     .show(hf b hb).2.2.1 e),.inl hb,J.ok.exf b hb |>.2,fun p G z=>by
    have e:=aw p (by simpa using G);rw[e] at z;show(f b (t b hb)).2 z.symm⟩
  show compLoop_own (fun k s'=>∃ i H' ys its n,Inv (X.comp N scope a.objs.size s H fp) [(s.heap.objs.size,{ cls:=.type "list",data:=.seq its.toArray n })] (qdI nl ixs σ) H' s'/\tn i s'.heap/\(∀ b∈fp,H' b=none)/\Vals ys its/\W i k ys H') ?_ m0
   ⟨0,H,[],[],0,I0,T.keep _ _ _ st fun b _ o e=>ac b o e,fun b hb=>(hf b hb).1,.nil,w0⟩
  rintro k s' ⟨i,H',ys,its,n,J1,al,ae,v1,w1⟩
  have one:∀ p∈[((s.heap.objs.size,{ cls:=.type "list",data:=.seq its.toArray n }):Addr×Obj)],p.1=s.heap.objs.size:=fun p G=>by
   have e:p=_:=yA.mp G;rw[e]
  rcases turn i k ys H' w1 with⟨am,hz,q⟩ | ⟨go,M,hM,step⟩
  .show thn (T.done (X.comp N scope a.objs.size s H fp) rfl rfl rfl hc i _ s' _ H' _ J1 (l J1 one ae) al am) fun r s4 ⟨hr,J4⟩=>?_;subst hr;show au _ _ s4 H' _ ys its n U (yh _) J4 v1 hz q
  .show thn (T.item (X.comp N scope a.objs.size s H fp) rfl rfl rfl hc i _ s' _ H' _ J1 (l J1 one ae) al go) fun r s4 ⟨u,hr,h4⟩=>?_;subst hr;show thn h4 fun _ s5 ⟨x,H5,J5,r5,y5,ad,ap⟩=>?_;have ao:=J5.pinned (l J5 one ap) (T.obj _ _ ad);show thn (hg _ _ _ _ _ s5 _ H5 x u _ ao r5 (gk _ _ _ _ (step x H5 y5))) fun _ s6 ⟨R,H6,J6,q6,l6,k6⟩=>?_;show thn (hi _ _ _ _ _ s6 R H6 _ J6 q6) fun ok s7 ⟨H7,J7,q7⟩=>?_;have again:∀{L:Shared} {H8:Hp} {ys':List V} {k':Nat},Inv (X.comp N scope a.objs.size s H fp) ([((s.heap.objs.size,{ cls:=.type "list",data:=.seq its.toArray n }):Addr×Obj)]++qce fp s5.heap) R H8 L ->
     (∀ b o,b≠s.heap.objs.size->L.heap.get? b=some o->L.heap.get? b=some o)->tn (i+1) L.heap/\∀ b∈fp,H8 b=none:=fun{L H8 ys' k'} J8 _=>by
    show⟨T.keep _ _ _ ad fun b hb o e=>(J8.pin (b,o) (yH _ (yH _ (qap hb e)))).1,fun b hb=>?_⟩;obtain⟨o,e,d⟩:=T.obj _ _ ad b hb;show(J8.pin (b,o) (yH _ (yH _ (qap hb e)))).2.1
   have wk:∀(j:Nat) v,(qdI nl ixs σ)[j]?=some (some v)->R[j]?=some (some v):=fun j v e=>by
    obtain⟨hj,_⟩:=qc9 e;rw[k6 j hj];show e
   cases ok with
   | false =>
    rw[yF Yl] at q7 ⊢;obtain⟨m',hm,w7⟩:=hM _ _ q7;obtain⟨ay,aq⟩:=again (ys':=ys) (k':=0) J7 (fun _ _ _ e=>e);show⟨m',hm,i+1,H7,ys,its,n,J7.unpinned.weak l6.symm wk,ay,aq,v1,w7⟩
   | true =>
    rw[yI rfl] at q7 ⊢;show thn (he _ _ _ _ _ s7 R H7 _ J7 q7) fun y L ⟨v,H8,J8,r8,ba,mq⟩=>?_;obtain⟨m',hm,w8⟩:=hM _ _ mq;obtain⟨az,ar⟩:=again (ys':=ys) (k':=0) J8 (fun _ _ _ e=>e);have J9:=J8.unpinned;obtain⟨pD,nD,ak,ax,_⟩:=J9.pin (s.heap.objs.size,{ cls:=.type "list",data:=.seq its.toArray n }) (yH _ (yA.mpr rfl));show wpAny_list_append_plain (hsz:=by rw[yy,<- v1.length];lk) ⟨n,pD⟩ fun h9 F aj=>?_;obtain⟨n9,F⟩:=F;have e9:(its.toArray.push y)=(its++[y]).toArray:=by simp
    rw[e9] at F
    have Ja:Inv (X.comp N scope a.objs.size s H fp) [] (qdI nl ixs σ) H8 { L with heap:=h9,toks:=L.toks }:=
     ((J9.pins_of (pins':=[]) fun p G=>absurd G (by simp)).turned (it:=s.heap.objs.size) (h':=h9) (t':=L.toks) (fun b o hb e=>(aj.2 b hb).trans e) nD ak (.inr (yh _))
      (fun x c e z=>by
       rcases qbr e with w | e
       .have:=(B.empty _ _ w).2;rw[z,hC] at this;show absurd (yi (xT _) this) (Nat.not_succ_le_self _)
       have:=zO e;rcases this with⟨av,hcc⟩ | hcc
       .obtain⟨c',ag⟩:=I.ok.has x (by
         rcases O.free _ av rfl with q | q
         .show .inl q
         .show .inr q)
        rw[ag] at hcc;have ai:c=c':=hcc;obtain⟨_,q⟩:=I.cell x c' ag;rw[<- ai,z] at q;show absurd q.lt (Yy _)
       .cases hcc) (fun p G=>absurd G (by simp))).weak l6.symm wk
    show⟨m',hm,i+1,H8,ys++[v],its++[y],n9,Ja.pins_of fun p G=>?_,?_,ar,v1.append (.cons r8 .nil),w8⟩
    .have e:p=_:=yA.mp G;subst e;show⟨F,nD,ak,ax,fun v z=>by cases z⟩
    .show T.keep _ _ _ az fun b hb o e=>(aj.2 b (f b (t b hb)).2).trans e
 show codeAny_compStart_list (Z _ rfl) (T.self _ 0 _ _ _ (T.keep _ _ _ st fun b _ o e=>ac b o e) (Z _ rfl))
end
section
variable{X:Cx}{tg elt iter:Expr}{ifs:List Expr}{scope:Scope}{pos:Pos}{N:LS}{nl:Nat}{ixs:LN}{wi:TI}{g:TG}{tc:TT}{te:TE}
theorem jh{XN:LS}(N:LS)(nl:Nat)(ixs:LN)(F:X.env.scope=sc)(u:X.N=XN)(hc:X.calm=true)(M:qcr sc scope=true)(U:N.length=nl+ixs.length)(d:qfO nl ixs N XN scope.names=true)
  (hi:PI X tg iter wi) (Z:∀ C r i ex,PG (X.comp N scope C r i ex) tg g) (P:qdC nl g) (ht:∀ C r i ex,qfe (X.comp N scope C r i ex) ifs tc) (Y:∀ C r i ex,PE (X.comp N scope C r i ex) elt te)
  (hs:∀ x,foldedSetIterable iter X.env x=pure x:=by intro _;rfl):PE X (.ListComp elt [⟨tg,iter,ifs,0⟩] scope pos) (qem wi g tc te nl ixs):=by
 intro pins s σ H Q I h;subst F u;have O:=qc8 M;have l:=qdW d;rw[eval_ListComp]
 have y:=qaN (scope:=scope) (env:=X.env) fun n E=>I.ok.has n (by
  rcases O.free _ E rfl with z | z
  .show .inl z
  .show .inr z)
 show wpAny_comprehension_free (use:=none) rfl hs y O.kind O.loc (thn (hi pins s σ H _ I h) fun v s1 h1=>thn h1 fun aa s2 R=>?_);obtain⟨it,fp,tn,J,H2,e,f,T,K,L,W⟩:=R;subst e;show qbM (Q:=Q) (RR:=fun acc C=>compPost (model X.prog X.w) X.A X.xe none (EP X pins σ Q) acc C) f hc O U l T K L Z P ht Y W ?_;intro D C s' H' ab ys its n j S t hv hz q;obtain⟨m,E,_⟩:=id t.loc;have B:=f.compBack L j S t hv hz;obtain⟨_,nD,G,_,_⟩:=t.pin (D,{ cls:=.type "list",data:=.seq its.toArray n }) (yH _ (yA.mpr rfl));show⟨m,E,fun h' sb=>⟨.ref D,_,?_,rfl,q D nD⟩⟩;show B.turned (it:=C) (h':=h') (t':=s'.toks) (fun b o hb e=>(sb.2 b hb).trans e) ((qf (H:=H') (a:=D) (b:=C) (o:=.lst ys) (Yh G)).trans t.free) (Yi (yj f.lt j)) (.inr (yi f.sz j)) (fun x c e z=>?_) (fun p hp z=>?_)
 .obtain⟨_,q⟩:=f.cell x c e;show absurd (yj q.lt (by rw[z];show j)) (Yy _)
 .show absurd (yj (yN (f.pin p hp).1) (by rw[z];show j)) (Yy _)
theorem zQ{i:Nat}{y:Str}{r f:Pos}{XN:LS}(N:LS)(nl:Nat)(ixs:LN)(W:X.env.scope=sc)(u:X.N=XN)(hc:X.calm=true)(O':qcr sc scope=true)(hN:N.length=nl+ixs.length)(l:qfO nl ixs N XN scope.names=true)
  (M:X.N.Nodup) (R:X.N[i]?=some y) (hy:X.env.scope.names.lookup y=some .local)
  (hi:PI X tg iter wi) (hg:∀ C F t ex,PG (X.comp N scope C F t ex) tg g) (gk:qdC nl g) (ht:∀ C F t ex,qfe (X.comp N scope C F t ex) ifs tc) (he:∀ C F t ex,PE (X.comp N scope C F t ex) elt te)
  (Y:swapsWith (.ListComp elt [⟨tg,iter,ifs,0⟩] scope pos) (some (.Name y r)) f.line X.env=pure true:=by rfl)
  (hs:∀ x,foldedSetIterable iter X.env x=pure x:=by intro _;rfl):PS X (.Assign [.Name y r] (.ListComp elt [⟨tg,iter,ifs,0⟩] scope pos) f) (qfd (qem wi g tc te nl ixs) (qbV i)):=by
 intro pins s σ H K I h;subst W u;have O:=qc8 O';have E:=qdW l
 have P:=qaN (scope:=scope) (env:=X.env) fun n S=>I.ok.has n (by
  rcases O.free _ S rfl with z | z
  .show .inl z
  .show .inr z)
 rw[exec_Assign_Name_used _ _ _ _ Y];show yr (XE (yr ?_));show wpAny _ X.A (do let _ <- comprehension (.ListComp elt [⟨tg,iter,ifs,0⟩] scope pos) scope X.env _ (newList []) false (eval iter X.env) (some (assign (.Name y r) X.env))) _ _ s;show yr (YL (wpAny_comprehension_free (use:=some (assign (.Name y r) X.env)) (Q:=fun _ s'=>SP X pins K .next s') rfl hs P O.kind O.loc
  (thn (hi pins s σ H _ I h) fun v s1 h1=>thn h1 fun ac s2 h2=>?_)) (fun _ s' hq=>yu (yu hq)) fun _ _ e=>e)
 obtain⟨it,fp,tn,J,H2,e,d,T,ab,f2,hW⟩:=h2;subst e;show qbM (Q:=fun v H'=>qbV i v σ H' K.nx) (RR:=fun acc C=>compPost (model X.prog X.w) X.A X.xe (some (assign (.Name y r) X.env)) (fun _ s'=>SP X pins K .next s') acc C) d hc O hN E T ab f2 hg gk ht he hW ?_;intro D C s' H' ad ys its n j hD G hv hz q;obtain⟨m,S,_⟩:=id G.loc;have B:=d.compBack f2 j hD G hv hz;obtain⟨_,nD,Z,_,_⟩:=G.pin (D,{ cls:=.type "list",data:=.seq its.toArray n }) (yH _ (yA.mpr rfl));show wpAny _ X.A (assign (.Name y r) X.env (.ref D)) _ _ _;show wpAny_assign_Name (qcc (i:=i) (x:=y) (v:=.ref D) B M R (.inl hy) rfl (fun aa B' U=>?_) (.inr hy));obtain⟨a,sa,ha⟩:=U
 have L:C≠a:=by
  rintro rfl;rcases ha with z | z
  .show absurd (show X.env.locals<C from yj d.lt j) (by rw[z];show Yy _)
  .obtain⟨_,q⟩:=d.cell y C z;show absurd (yj q.lt j) (Yy _)
 show⟨m,S.sameBut sa L,fun h' sb=>⟨_,_,?_,q D nD⟩⟩;show B'.turned (it:=C) (h':=h') (t':=aa.toks) (fun b o hb e=>(sb.2 b hb).trans e) ((qf (H:=H') (a:=D) (b:=C) (o:=.lst ys) (Yh Z)).trans G.free) (Yi (yj d.lt j)) (.inr (yi d.sz j)) (fun x c e z=>?_) (fun p hp z=>?_)
 .obtain⟨_,q⟩:=d.cell x c e;show absurd (yj q.lt (by rw[z];show j)) (Yy _)
 .show absurd (yj (yN (d.pin p hp).1) (by rw[z];show j)) (Yy _)
end
noncomputable def Its(x:Str):It:=⟨fun i _=>i<x.cps.size,fun i H v H'=>H'=H/\∃ c,x.cps[i]?=some c/\v=.str ⟨#[c]⟩,fun i _=>i=x.cps.size⟩
theorem qda{K:yg}{t:Tok}(W:∀ A:Around,A.handled=none->Walks P w A it [it] [it] x.cps.size (SignAt x) fun i h=>h.IsStrIter it T x t i)
  (J:∀(A:Around) (i:Nat) (s:Shared) (Q:Value->Shared->Prop) (E:Value->Shared->Prop),s.heap.IsStrIter it T x t i->Q (.ref it) s->wpAny (model P w) A (pyIter (.ref it)) Q E s)
  (B:∀ v,letOwnedTupleGo tg (.ref it) v=pure ()):Turn P w K tg (Its x) [it] it (fun i h=>h.IsStrIter it T x t i) where
 mem:=by simp
 obj:=fun i h st b hb=>by
  have e:b=it:=by simpa using hb
  subst e;obtain⟨o,e,c,d⟩:=st;show⟨o,e,fun v z=>by rw[d] at z;cases z⟩
 keep:=fun i h h' st k=>by
  obtain⟨o,e,r⟩:=st;show⟨o,k it (by simp) o e,r⟩
 item:=by
  intro X p hw n hc i pins s σ H E I a st y;subst p hw n;obtain⟨f,g,G,j,l,m⟩:=a it (by simp);show(W X.A (I.ok.hd hc)).item i s _ _ y st fun v h' tk hv D C=>?_;obtain⟨c,u,q,rfl⟩:=hv;have F:Inv X pins σ H { s with heap:=h',toks:=tk }:=I.turned (fun b o hb e=>C b o (by simpa using hb) e) f g j l m;show⟨_,rfl,xm (B _) ⟨.str ⟨#[c]⟩,H,F,⟨u,rfl⟩,⟨rfl,c,q,rfl⟩,D,fun b hb=>(a b hb).1⟩⟩
 done:=by
  intro X p hw n hc i pins s σ H E I a st y;subst p hw n;obtain⟨f,g,G,j,l,m⟩:=a it (by simp);have e:i=x.cps.size:=y;subst e;show(W X.A (I.ok.hd hc)).done s _ _ st fun h' tk C=>⟨rfl,I.turned (fun b o hb e=>C b o (by simpa using hb) e) f g j l m⟩
 self:=J
section
variable{X:Cx}{tg:Expr}
end
section
variable{K:yg}{a:Addr}{xs:List V}{g:TG}{tc:TT}{te:TE}{σ':St}{H1:Hp}{Q:V->Hp->Prop}
def qdX(J:It)(g:TG)(tc:TT)(te:TE)(σ':St)(H1:Hp)(Q:V->Hp->Prop):Prop:=
 ∃ W:Nat->Nat->List V->Hp->Prop,(∃ m,W 0 m [] H1)/\∀ i m ys H,W i m ys H ->
   (J.stop i H/\ys.length<=sizeLine/\∀ p,H p=none->Q (.ref p) (upd H p (.lst ys))) \/
   (J.go i H/\∃ M:List V->Hp->Prop,(∀ ys' H',M ys' H'->∃ d,d<m/\W (i+1) d ys' H')/\∀ x H',J.yld i H x H'->g x σ' H' fun a e=>tc a e fun b c =>
    if b=true then te a c fun v f=>ys.length<sizeLine/\M (ys++[v]) f else M ys c)
theorem qG(c:Nat->List V->Hp->Prop)(n:c 0 [] H1)(hl:∀ i ys H,i<=xs.length->c i ys H->SqL K H a xs)
  (s:∀ i x ys H,xs[i]?=some x->c i ys H->g x σ' H fun f j=>tc f j fun b h=>if b=true then te f h fun v l=>ys.length<sizeLine/\c (i+1) (ys++[v]) l else c (i+1) ys h)
  (o:∀ ys H,c xs.length ys H->ys.length<=sizeLine/\∀ p,H p=none->Q (.ref p) (upd H p (.lst ys))):qdX (Itl K a) g tc te σ' H1 Q:=by
 show⟨fun i m ys H=>m=xs.length-i/\i<=xs.length/\c i ys H,⟨xs.length,by simp,xv _,n⟩,?_⟩;rintro i m ys H ⟨rfl,r,p⟩;have q:=hl i ys H r p;by_cases d:i<xs.length
 .show .inr ⟨⟨xs,xs[i],q,by simp[d]⟩,c (i+1),fun ys' H' t=>⟨xs.length-(i+1),by lk,rfl,d,t⟩,fun x H' y=>?_⟩;obtain⟨e,y⟩:=y;subst e;show s i x ys _ (y xs q) p
 .have e:i=xs.length:=by lk
  subst e;show .inl ⟨⟨xs,q,yh _⟩,o ys H p⟩
theorem qa3{lo:Int}(a:Nat->List V->Hp->Prop)(l:a 0 [] H1)
  (q:∀ i ys H,i<n->a i ys H->g (.int (lo+i)) σ' H fun d h=>tc d h fun b f=>if b=true then te d f fun v j=>ys.length<sizeLine/\a (i+1) (ys++[v]) j else a (i+1) ys f)
  (o:∀ ys H,a n ys H->ys.length<=sizeLine/\∀ p,H p=none->Q (.ref p) (upd H p (.lst ys))):qdX (Itr lo n) g tc te σ' H1 Q:=by
 show⟨fun i m ys H=>m=n-i/\i<=n/\a i ys H,⟨n,by simp,xv _,l⟩,?_⟩;rintro i m ys H ⟨rfl,s,p⟩;by_cases c:i<n
 .show .inr ⟨c,a (i+1),fun ys' H' r=>⟨n-(i+1),by lk,rfl,c,r⟩,fun x H' y=>?_⟩;obtain⟨e,y⟩:=y;subst e y;show q i ys _ c p
 .have e:i=n:=by lk
  subst e;show .inl ⟨yh _,o ys H p⟩
theorem qbX(a:Nat->List V->Hp->Prop)(n:a 0 [] H1)
  (q:∀ i c ys H,x.cps[i]?=some c->a i ys H->g (.str ⟨#[c]⟩) σ' H fun f j=>tc f j fun b h=>if b=true then te f h fun v l=>ys.length<sizeLine/\a (i+1) (ys++[v]) l else a (i+1) ys h)
  (o:∀ ys H,a x.cps.size ys H->ys.length<=sizeLine/\∀ p,H p=none->Q (.ref p) (upd H p (.lst ys))):qdX (Its x) g tc te σ' H1 Q:=by
 show⟨fun i m ys H=>m=x.cps.size-i/\i<=x.cps.size/\a i ys H,⟨x.cps.size,by simp,xv _,n⟩,?_⟩;rintro i m ys H ⟨rfl,s,p⟩;by_cases d:i<x.cps.size
 .show .inr ⟨d,a (i+1),fun ys' H' r=>⟨x.cps.size-(i+1),by lk,rfl,d,r⟩,fun v H' y=>?_⟩;obtain⟨e,c,hc,y⟩:=y;subst e y;show q i c ys _ hc p
 .have e:i=x.cps.size:=by lk
  subst e;show .inl ⟨rfl,o ys H p⟩
end
noncomputable def qcs:V->Option Value
 | .ty n=>some (.type n)
 | .ref a=>some (.ref a)
 | _=>none
theorem qbN{c:Value}(h:qcs y=some c)(r:RelV y u):u=c:=by
 cases y with
 | ty n=>cases h;show r
 | ref a=>cases h;show r
 | _=>cases h
section
variable{X:Cx}{pins:List (Addr×Obj)}{σ:St}{H:Hp}{s:Shared}
theorem TyOf.kit{x:V}(I:Inv X pins σ H s)(b:RelV x u)(ty:TyOf X.K H x t):∃ P:Heap->Prop,PySem.W.KitX X.K u t P/\P s.heap/\u≠.builtin "__main__.__loader__#opaque":=by
 cases ty with
 | non=>cases (show u=Value.none from b);show⟨_,PySem.W.kitx_none,YU,(fun z=>nomatch z)⟩
 | bl y=>cases (show u=Value.bool y from b);show⟨_,PySem.W.kitx_bool,YU,(fun z=>nomatch z)⟩
 | int i=>obtain⟨t,q⟩:=(show ∃ t,u=Value.int i t from b);cases q;show⟨_,PySem.W.kitx_int,YU,(fun z=>nomatch z)⟩
 | str y=>obtain⟨t,q⟩:=(show ∃ t,u=Value.str y t from b);cases q;show⟨_,PySem.W.kitx_str,YU,(fun z=>nomatch z)⟩
 | flt y=>obtain⟨t,q⟩:=(show ∃ t,u=Value.float y t from b);cases q;show⟨_,PySem.W.kitx_float,YU,(fun z=>nomatch z)⟩
 | @lst a xs ea =>
  cases (show u=Value.ref a from b);obtain⟨_,_,n,_,h1⟩:=(show ObjOk X.prog X.w H s.heap a (.lst xs) from I.hok a _ ea);show⟨_,PySem.W.kitx_list,⟨_,h1,rfl⟩,(fun z=>nomatch z)⟩
 | @frz a ob xs ea =>
  cases (show u=Value.ref a from b);obtain⟨_,_,_,n,_,h1⟩:=(show ObjOk X.prog X.w H s.heap a (.frz ob (.lst xs)) from I.hok a _ ea);show⟨_,PySem.W.kitx_list,⟨_,h1,rfl⟩,(fun z=>nomatch z)⟩
 | @tup a xs ea =>
  cases (show u=Value.ref a from b);obtain⟨_,_,_,p⟩:=(show ObjOk X.prog X.w H s.heap a (.tup xs) from I.hok a _ ea);obtain⟨o,h1,c,_⟩:=p;show⟨_,PySem.W.kitx_tuple,⟨o,h1,c⟩,(fun z=>nomatch z)⟩
 | @dK a kvs ea =>
  cases (show u=Value.ref a from b);obtain⟨_,_,vs,_,p⟩:=(show ObjOk X.prog X.w H s.heap a (.dK kvs) from I.hok a _ ea);obtain⟨o,d,ep,h1,c,_⟩:=p;show⟨_,PySem.W.kitx_dict,⟨o,h1,c.1⟩,(fun z=>nomatch z)⟩
 | @dT a kvs ea =>
  cases (show u=Value.ref a from b);obtain⟨_,_,xs,_,o,d,ep,h1,c,_⟩:=(show ObjOk X.prog X.w H s.heap a (.dT kvs) from I.hok a _ ea);show⟨_,PySem.W.kitx_dict,⟨o,h1,c.1⟩,(fun z=>nomatch z)⟩
 | @ins a C dx fs ea cl ha hn htk hm =>
  cases (show u=Value.ref a from b);obtain⟨e,O,_⟩:=qa1 I.hok ea;obtain⟨od,J,_⟩:=O.look;show⟨_,PySem.W.kitx_own (cl.get _) cl.hd ha hn htk hm,J,(fun z=>nomatch z)⟩
end
section
variable{X:Cx}
theorem qbs:∀{ys:List V} {a us:List Value},ys.map qcs=a.map some->Vals ys us->us=a
 | [],[],_,_,.nil=>rfl
 | [],_::_,_,h,_=>by cases h
 | y::ys,[],_,h,_=>by cases h
 | y::ys,c::a,_,h,.cons r t=>by
  rw[YJ,YJ] at h
  injection h with h1 h2
  rw[qbN h1 r,qbs h2 t]
theorem qdb:∀{bs:List Bool} {us:List Value},Vals (bs.map V.bl) us->us=bs.map Value.bool
 | [],_,.nil=>rfl
 | b::bs,_,.cons r t=>by
  have e:=qdb t;rw[e];cases r;rfl
def qga(K:yg):List V->Hp->VK->Prop:=fun xs H Q=>∃(p:Addr) (bs:List Bool),xs=[.ref p]/\SqL K H p (bs.map V.bl)/\Q (.bl (bs.all id)) H
theorem call_all(hc:X.calm=true):qae X (.builtin "all") (qga X.K):=by
 intro pins s σ H xs us Q I r h;obtain⟨p,bs,rfl,t,q⟩:=h;obtain⟨u,rfl,x⟩:=qbm r;cases x;obtain⟨its,y,pl,hz⟩:=I.list t;have e:=qdb y;subst e;have l:X.A.in1.handled=none:=I.ok.hd hc;show call_all_walk (kH pl.isList ?_)
 have f:p≠s.heap.objs.size:=by
  obtain⟨o,n,_⟩:=pl.isList;show yO (yN n)
 show⟨s.heap.objs.size,_,_,_,_,_,fun i=>(bs[i]?).getD false,rfl,Walks.list l s.heap.objs.size p f (bs.map Value.bool).toArray,⟨⟨_,yX _ rfl,rfl,rfl⟩,pl.isList.at fun o e=>yv _ e⟩,fun i v s Q E hv w=>?_,fun h' tk m=>?_⟩
 .have a:(bs.map Value.bool)[i]?=some v:=by simpa using hv
  rw[yd] at a
  cases e:bs[i]? with
  | none=>rw[e] at a;cases a
  | some b =>
   rw[e] at a;cases a;have c:Q ((bs[i]?).getD false) s:=w;rw[e] at c;show yu c
 .have e:((List.range (bs.map Value.bool).toArray.size).all fun i=>(bs[i]?).getD false)=bs.all id:=by
   rw[yy,ya]
   have g:∀ bs:List Bool,((List.range bs.length).all fun i=>(bs[i]?).getD false)=bs.all id:=by
    intro bs
    induction bs with
    | nil=>rfl
    | cons b r ih =>
     rw[yw,List.range_succ_eq_map,XF,ky,XF,<- ih];rfl
   show g bs
  rw[e];show⟨.bl _,H,?_,rfl,q⟩;have j:Inv X pins σ H { s with heap:=s.heap.push { cls:=.type "list_iterator",data:=.fields #[.ref p,.int 0 0] } }:=I.kept (t':=s.toks) fun b o e=>yv _ e;have d:=I.fpOk (b:=s.heap.objs.size) (yh _) (I.hok.fresh (yh _));show j.turned (it:=s.heap.objs.size) (h':=h') (t':=tk) (fun b o hb e=>m b o (by simpa using hb) e) d.1 d.2.1 d.2.2.2.1 d.2.2.2.2.1 d.2.2.2.2.2
theorem op_le_str:OpR X (compareOp .LtE) (fun x y H Q=>∃ i j,x=.str i/\y=.str j/\Q (.bl (!decide (j.cps.toList<i.cps.toList))) H):=by
 intro pins s σ H x y v u Q I a b h;obtain⟨i,j,rfl,rfl,q⟩:=h;obtain⟨t,rfl⟩:=a;obtain⟨t',rfl⟩:=b;show PySem.P.le_str (qc0 I q (by rfl))
def qfW:R2:=fun x y H Q=>match x,y with
 | .int i,.int j=>Q (.bl (decide (i<=j))) H
 | .str i,.str j=>Q (.bl (!decide (j.cps.toList<i.cps.toList))) H
 | _,_=>False
theorem qeB:OpR X (compareOp .LtE) qfW:=by
 intro pins s σ H x y v u Q I a b h
 cases x with
 | int i=>cases y with
  | int j=>show op_le pins s σ H _ _ v u Q I a b ⟨i,j,rfl,rfl,h⟩
  | _=>show False.elim h
 | str i=>cases y with
  | str j=>show op_le_str pins s σ H _ _ v u Q I a b ⟨i,j,rfl,rfl,h⟩
  | _=>show False.elim h
 | _=>show False.elim h
theorem op_is_bl:OpR X (compareOp .Is) (fun x y H Q=>∃ i j,x=.bl i/\y=.bl j/\Q (.bl (i==j)) H):=by
 intro pins s σ H x y v u Q I a b h;obtain⟨i,j,rfl,rfl,q⟩:=h;cases a;cases b;show wpAny_is_plain (by cases i<;>cases j<;>rfl) (qc0 I q (by cases i<;>cases j<;>rfl))
def qgb:R2:=fun x y H Q=>match x,y with
 | .bl i,.bl j=>Q (.bl (i==j)) H
 | x,.non=>Q (.bl (decide (x=.non))) H
 | _,_=>False
theorem qff:OpR X (compareOp .Is) qgb:=by
 intro pins s σ H x y v u Q I a b h
 cases y with
 | non=>show op_isN pins s σ H x _ v u Q I a b ⟨rfl,by cases x<;>show h⟩
 | bl j=>cases x with
  | bl i=>show op_is_bl pins s σ H _ _ v u Q I a b ⟨i,j,rfl,rfl,h⟩
  | _=>show False.elim h
 | _=>cases x<;>show False.elim h
theorem op_rep_str:OpR X (binaryOp .Mult) (fun x y H Q=>∃ z k,x=.str z/\y=.int k/\MulOk z k/\Q (.str (Txt.mul z k)) H):=by
 intro pins s σ H x y v u Q I b c h;obtain⟨z,k,rfl,rfl,a,q⟩:=h;obtain⟨t,rfl⟩:=b;obtain⟨t',rfl⟩:=c;show SB.mul a fun t' k'=>⟨.str _,H,I.tok _,⟨_,rfl⟩,q⟩
def qfu:R2:=fun x y H Q=>match x,y with
 | .int i,.int j=>CMul i j/\Q (.int (i*j)) H
 | .str z,.int k=>MulOk z k/\Q (.str (Txt.mul z k)) H
 | .ref a,.int k=>rRep (.ref a) (.int k) H Q
 | _,_=>False
theorem qbY:OpR X (binaryOp .Mult) qfu:=by
 intro pins s σ H x y v u Q I b c h
 cases y with
 | int j=>cases x with
  | int i=>show op_mul pins s σ H _ _ v u Q I b c ⟨i,j,rfl,rfl,h.1,h.2⟩
  | str i=>show op_rep_str pins s σ H _ _ v u Q I b c ⟨i,j,rfl,rfl,h.1,h.2⟩
  | ref a=>show qez pins s σ H _ _ v u Q I b c h
  | _=>show False.elim h
 | _=>cases x<;>show False.elim h
def qdD(K:yg):R2:=fun x y H Q=>match x,y with
 | .int i,.int j=>Q (.int (i+j)) H
 | .str i,.str j=>i.length+j.length<=sizeLine/\Q (.str (i++j)) H
 | .ref a,.ref b=>rCat (.ref a) (.ref b) H Q\/rCatT K (.ref a) (.ref b) H Q
 | _,_=>False
theorem u_add:OpR X (binaryOp .Add) (qdD X.K):=by
 intro pins s σ H x y v u Q I c d h
 cases x with
 | int i=>cases y with
  | int j=>show op_add pins s σ H _ _ v u Q I c d ⟨i,j,rfl,rfl,h⟩
  | _=>show False.elim h
 | str i=>cases y with
  | str j=>show op_add_str pins s σ H _ _ v u Q I c d ⟨i,j,rfl,rfl,h.1,h.2⟩
  | _=>show False.elim h
 | ref a=>cases y with
  | ref b=>show h.elim (fun h=>op_cat pins s σ H _ _ v u Q I c d h) fun h=>op_catT pins s σ H _ _ v u Q I c d h
  | _=>show False.elim h
 | _=>show False.elim h
def qdE(K:yg):List V->Hp->VK->Prop:=fun xs H Q=>match xs with
 | [.str z]=>z.length<=sizeLine/\Q (.int z.length) H
 | [.ref p]=>(∃ ys,(SqL K H p ys\/SqT K H p ys)/\Q (.int ys.length) H)\/∃ kvs,H p=some (.dK kvs)/\Q (.int kvs.length) H
 | _=>False
theorem call_lenU:qae X (.builtin "len") (qdE X.K):=by
 intro pins s σ H xs us Q I r h
 match xs,h with
 | [.str z],h=>show call_len_str pins s σ H _ us Q I r ⟨z,rfl,h.1,h.2⟩
 | [.ref p],.inl ⟨ys,h,q⟩=>show call_len_seq pins s σ H _ us Q I r ⟨p,ys,rfl,h,q⟩
 | [.ref p],.inr ⟨kvs,h,q⟩=>show call_lenD pins s σ H _ us Q I r ⟨p,kvs,rfl,h,q⟩
theorem sl_str:SlR X (fun x lo b H Q=>∃ z,x=.str z/\z.length<=sizeLine/\Q (.str (Txt.slice z lo b)) H):=by
 intro pins s σ H x v f g lo b e Q I d a pl c h;obtain⟨z,rfl,hz,q⟩:=h;obtain⟨t,rfl⟩:=d;show⟨"str",_,F.slot_str_getitem.lookup,typeIs_str _ _ _,?_⟩
 cases pl with
 | none =>
  cases c with
  | none=>show Xf (l:=none) (u:=none) (st:=none) a rfl (kj ⟨yi (kY z _ _) hz,fun t' k=>⟨.str _,H,I.tok _,⟨_,rfl⟩,q⟩⟩)
  | int j uj=>show Xf (l:=none) (u:=some (j,uj)) (st:=none) a rfl (kj ⟨yi (kY z _ _) hz,fun t' k=>⟨.str _,H,I.tok _,⟨_,rfl⟩,q⟩⟩)
 | int i ui =>
  cases c with
  | none=>show Xf (l:=some (i,ui)) (u:=none) (st:=none) a rfl (kj ⟨yi (kY z _ _) hz,fun t' k=>⟨.str _,H,I.tok _,⟨_,rfl⟩,q⟩⟩)
  | int j uj=>show Xf (l:=some (i,ui)) (u:=some (j,uj)) (st:=none) a rfl (kj ⟨yi (kY z _ _) hz,fun t' k=>⟨.str _,H,I.tok _,⟨_,rfl⟩,q⟩⟩)
def qfX(K:yg):V->Option Int->Option Int->Hp->VK->Prop:=fun x lo b H Q=>match x with
 | .str z=>z.length<=sizeLine/\Q (.str (Txt.slice z lo b)) H
 | .ref a=>rSlL K (.ref a) lo b H Q\/rSlT K (.ref a) lo b H Q
 | _=>False
theorem u_sl:SlR X (qfX X.K):=by
 intro pins s σ H x v g i lo b f Q I e c pl d h
 cases x with
 | str z=>show sl_str pins s σ H _ v g i lo b f Q I e c pl d ⟨z,rfl,h.1,h.2⟩
 | ref a=>show h.elim (fun h=>sl_list pins s σ H _ v g i lo b f Q I e c pl d h) fun h=>sl_tup pins s σ H _ v g i lo b f Q I e c pl d h
 | _=>show False.elim h
theorem qcN:∀{ys:LS} {us:List Value},Vals (ys.map V.str) us->StrsAre us ys
 | [],_,.nil=>.nil
 | y::ys,_,.cons r t=>by
  obtain⟨tk,rfl⟩:=r;show .cons y tk (qcN t)
def qfv(K:yg):V->List V->Hp->VK->Prop:=fun x vs H Q=>∃(z:Str) (p:Addr) (ys:LS),x=.str z/\vs=[.ref p]/\SqL K H p (ys.map V.str)/\(ys.map (·.length)).sum+ys.length*z.length<=16777216/\Q (.str (Txt.join z ys)) H
theorem mt_join:MtR X "str.join" (qfv X.K):=by
 intro pins s σ H x vs v us Q I d c h;obtain⟨z,p,ys,rfl,rfl,a,hz,q⟩:=h;obtain⟨t,rfl⟩:=d;obtain⟨u,rfl,b⟩:=c.one;cases b;obtain⟨its,r,pl,_⟩:=I.list a;show join_list pl.isList (by simpa using qcN r) hz fun t' k=>⟨.str _,H,I.tok _,⟨_,rfl⟩,q⟩
def qfY(K:yg)(te:TE):TI:=fun σ H R=>te σ H fun v b=>match v with
 | .str x=>R (Its x) b
 | .ref a=>((∃ xs,SqL K b a xs)/\R (Itl K a) b)\/((∃ xs,SqT K b a xs)/\R (Itt K a) b)
 | _=>False
theorem pi_any{e:Expr}(u:PE X e te)(g:∀ it v,letOwnedTupleGo tg it v=pure ():=by intro _ _;rfl):PI X tg e (qfY X.K te):=by
 intro pins s σ H R I h;show thn (u pins s σ H _ I h) fun v c ⟨y,f,d,r,j⟩=>?_
 cases y with
 | str x =>
  obtain⟨t,rfl⟩:=r
  have fp:∀ b∈[c.heap.objs.size],qcK X pins f b:=fun b hb=>by
   have e:b=c.heap.objs.size:=by simpa using hb
   subst e;show d.fpOk (yh _) (d.hok.fresh (yh _))
  cases n:x.cps.all (· < 128)
  .show wpAny_pyIter_wide n ⟨c.heap.objs.size,[c.heap.objs.size],_,_,f,rfl,d.kept (t':=c.toks) fun b o e=>yv _ e,
    qda (T:="str_iterator") (fun A l=>Walks.strWide l _ x t) (fun A i s Q E st h=>wpAny_pyIter_striter_wide st h) (g _),⟨_,yX _ rfl,rfl,rfl⟩,fp,j⟩
  .show wpAny_pyIter_ascii n ⟨c.heap.objs.size,[c.heap.objs.size],_,_,f,rfl,d.kept (t':=c.toks) fun b o e=>yv _ e,
    qda (T:="str_ascii_iterator") (fun A l=>Walks.strAscii l _ x t) (fun A i s Q E st h=>wpAny_pyIter_striter_ascii st h) (g _),⟨_,yX _ rfl,rfl,rfl⟩,fp,j⟩
 | ref a =>
  cases r
  have fp:∀ b∈[c.heap.objs.size],qcK X pins f b:=fun b hb=>by
   have e:b=c.heap.objs.size:=by simpa using hb
   subst e;show d.fpOk (yh _) (d.hok.fresh (yh _))
  rcases j with⟨⟨xs,m⟩,q⟩ | ⟨⟨xs,m⟩,q⟩
  .obtain⟨its,w,p,hz⟩:=d.list m;show kH p.isList ⟨c.heap.objs.size,[c.heap.objs.size],_,_,f,rfl,d.kept (t':=c.toks) fun b o e=>yv _ e,qcd a _,⟨_,yX _ rfl,rfl,rfl⟩,fp,q⟩
  .obtain⟨its,w,p,hz⟩:=d.tuple m;show wpAny_pyIter_tuple (show c.heap.IsTuple a its.toArray from p) ⟨c.heap.objs.size,[c.heap.objs.size],_,_,f,rfl,d.kept (t':=c.toks) fun b o e=>yv _ e,turn_tuple a _,⟨_,yX _ rfl,rfl,rfl⟩,fp,q⟩
 | _=>show False.elim j
end
section
variable{D:Ends}{σ:St}{H:Hp}{Q:VK}{QT:Bool->Hp->Prop}{QA:List V->Hp->Prop}{t u:TS}{te ta tb tc:TE}{c c':TT}{tr tas:TA}{r r':R2}{K:yg}
theorem vSeq(h:t { D with nx:=u D } σ H):qfR t u D σ H:=h
theorem vAsg{i:Nat}(h:te σ H fun x a=>D.nx (σ.set i (some x)) a):qfd te (qbV i) D σ H:=h
theorem vAsgS{b a:TE}{s:qfo}(h:te σ H fun x c=>b σ c fun o d=>a σ d fun i e=>s o i x e fun f=>D.nx σ f):qfd te (qf6 b a s) D σ H:=h
theorem vIfS(h:c σ H fun b a=>if b=true then t D σ a else u D σ a):qf4 c t u D σ H:=h
theorem vRet(h:te σ H D.rt):qf3 te D σ H:=h
theorem vRetN(h:D.rt .non H):qfn D σ H:=h
theorem vDrop(h:te σ H fun _ a=>D.nx σ a):qfm te D σ H:=h
theorem vNext(h:D.nx σ H):qfl D σ H:=h
theorem vC(h:Q v H):tC v σ H Q:=h
theorem vVar{i:Nat}(e:σ[i]?=some (some v))(h:Q v H):qfc i σ H Q:=⟨v,e,h⟩
theorem vOp(h:ta σ H fun x a=>tb σ a fun y b=>r x y b Q):tOp r ta tb σ H Q:=h
theorem vUn{f:V->Hp->VK->Prop}(h:ta σ H fun x a=>f x a Q):tUn f ta σ H Q:=h
theorem vChain(h:ta σ H fun x b=>tb σ b fun y c=>r x y c fun z a=>∃ k,z=.bl k/\if k=true then tc σ a fun e d=>r' y e d Q else Q (.bl false) a):qdO r r' ta tb tc σ H Q:=h
theorem vNil(h:QA [] H):qef σ H QA:=h
theorem vCons(h:ta σ H fun x a=>tr σ a fun xs b=>QA (x::xs) b):qaa ta tr σ H QA:=h
theorem vCB{f:List V->Hp->VK->Prop}(h:tas σ H fun vs a=>f vs a Q):tCB f tas σ H Q:=h
theorem vCall{E:XK}(h:tas σ H fun vs a=>sp (vs++[]) a Q E):qdP sp [] E tas σ H Q:=h
theorem vLst(h:tas σ H fun xs a=>NewL xs a Q):qfN tas σ H Q:=h
theorem vTup(h:tas σ H fun xs a=>NewT xs a Q):qfM tas σ H Q:=h
theorem vTest(h:te σ H fun x H'=>∃ k,x=.bl k/\QT k H'):qe3 te σ H QT:=h
theorem vB(h:te σ H fun x H'=>∃ k,x=.bl k/\QT k H'):tB te σ H QT:=h
theorem vNot(h:c σ H fun b a=>QT (!b) a):qf1 c σ H QT:=h
theorem vAnd(h:c σ H fun b a=>if b=true then c' σ a QT else QT false a):qf0 c c' σ H QT:=h
theorem vOr(h:c σ H fun b a=>if b=true then QT true a else c' σ a QT):tOr c c' σ H QT:=h
theorem vAndV(h:ta σ H fun x a=>∃ k,x=.bl k/\if k=true then tb σ a Q else Q (.bl false) a):qfk ta tb σ H Q:=h
theorem vOrV(h:ta σ H fun x a=>∃ k,x=.bl k/\if k=true then Q (.bl true) a else tb σ a Q):qf2 ta tb σ H Q:=h
theorem vNotV(h:ta σ H fun x a=>∃ k,x=.bl k/\Q (.bl (!k)) a):tNotV ta σ H Q:=h
theorem vIf(h:c σ H fun b a=>if b=true then ta σ a Q else tb σ a Q):tIf c ta tb σ H Q:=h
theorem vYes(h:QT true H):qf9 σ H QT:=h
theorem vI0{g:Int->Int->V}(h:Q (g i j) H):rI0 g (.int i) (.int j) H Q:=⟨i,j,rfl,rfl,h⟩
theorem vI{C:Int->Int->Prop}{g:Int->Int->V}(hc:C i j)(h:Q (g i j) H):rI C g (.int i) (.int j) H Q:=⟨i,j,rfl,rfl,hc,h⟩
theorem vU{g:Int->V}(h:Q (g i) H):rU g (.int i) H Q:=⟨i,rfl,h⟩
theorem vEqI(h:Q (.bl (decide (i=j))) H):rEq (.int i) (.int j) H Q:=⟨rfl,by
 have e:decide (V.int i=V.int j)=decide (i=j):=by
  by_cases h:i=j
  .subst h;simp
  .rw [yl h,yl (fun e=>h (V.int.inj e))]
 rw[e];show h⟩
theorem vEqB{i j:Bool}(h:Q (.bl (i==j)) H):rEq (.bl i) (.bl j) H Q:=⟨rfl,by rw[dec_bl];show h⟩
theorem qag(b:H p=some (.lst xs))(a:atI xs i=some v)(h:Q v H):rIx K (.ref p) (.int i) H Q:=.inl ⟨p,xs,i,v,rfl,rfl,SqL.of b,a,h⟩
theorem vIxLs(b:SqL K H p xs)(a:atI xs i=some v)(h:Q v H):rIx K (.ref p) (.int i) H Q:=.inl ⟨p,xs,i,v,rfl,rfl,b,a,h⟩
theorem qaD(b:H p=some (.tup xs))(a:atI xs i=some v)(h:Q v H):rIx K (.ref p) (.int i) H Q:=.inr (.inl ⟨p,xs,i,v,rfl,rfl,SqT.of b,a,h⟩)
theorem qgc{ch:Nat}(hz:z.length<=sizeLine)(a:atI z.cps.toList i=some ch)(h:Q (.str ⟨#[ch]⟩) H):rIx K (.str z) (.int i) H Q:=.inr (.inr ⟨z,i,ch,rfl,rfl,hz,a,h⟩)
theorem qen{k:Int}{j:Nat}{a:Hp->Prop}(c:H p=some (.lst xs))(b:ixN xs.length k=some j)(h:a (upd H p (.lst (xs.set j v)))):rSetL (.ref p) (.int k) v H a:=⟨p,xs,k,j,rfl,rfl,c,b,h⟩
theorem vEx{k:Bool}{P:Bool->Prop}(h:P k):∃ k',V.bl k=.bl k'/\P k':=⟨k,rfl,h⟩
theorem vLeI(h:Q (.bl (decide (i<=j))) H):qfW (.int i) (.int j) H Q:=h
theorem vLeS{i j:Str}(h:Q (.bl (!decide (j.cps.toList<i.cps.toList))) H):qfW (.str i) (.str j) H Q:=h
theorem vIsB{i j:Bool}(h:Q (.bl (i==j)) H):qgb (.bl i) (.bl j) H Q:=h
theorem vAddI(h:Q (.int (i+j)) H):qdD K (.int i) (.int j) H Q:=h
theorem qe4{i j:Str}(hz:i.length+j.length<=sizeLine)(h:Q (.str (i++j)) H):qdD K (.str i) (.str j) H Q:=⟨hz,h⟩
theorem qbZ(hc:CMul i j)(h:Q (.int (i*j)) H):qfu (.int i) (.int j) H Q:=⟨hc,h⟩
theorem qfw(hz:z.length<=sizeLine)(h:Q (.int z.length) H):qdE K [.str z] H Q:=⟨hz,h⟩
theorem qab(a:H p=some (.lst ys))(h:Q (.int ys.length) H):qdE K [.ref p] H Q:=.inl ⟨ys,.inl (SqL.of a),h⟩
theorem qeC(a:SqL K H p ys)(h:Q (.int ys.length) H):qdE K [.ref p] H Q:=.inl ⟨ys,.inl a,h⟩
theorem vLenT(a:H p=some (.tup ys))(h:Q (.int ys.length) H):qdE K [.ref p] H Q:=.inl ⟨ys,.inr (SqT.of a),h⟩
theorem qfZ{lo a:Option Int}(hz:z.length<=sizeLine)(h:Q (.str (Txt.slice z lo a)) H):qfX K (.str z) lo a H Q:=⟨hz,h⟩
theorem vSl{f:V->Option Int->Option Int->Hp->VK->Prop}{tl a:TO}(h:te σ H fun x b=>tl σ b fun l c=>a σ c fun u d=>f x l u d Q):tSl f te tl a σ H Q:=h
theorem vNoPart(h:QO none H):qdR σ H QO:=h
theorem vPart(h:te σ H fun x a=>∃ i,x=.int i/\QO (some i) a):qfs te σ H QO:=h
theorem vExI{P:Int->Prop}(h:P i):∃ j,V.int i=.int j/\P j:=⟨i,rfl,h⟩
theorem vBM{f:V->List V->Hp->VK->Prop}(h:te σ H fun x a=>tyV K T x a/\tas σ a fun xs b=>f x xs b Q):tBM K T f te tas σ H Q:=h
theorem vBM0{f:V->List V->Hp->VK->Prop}(h:te σ H fun x a=>tyV K T x a/\f x [] a Q):qfU K T f te σ H Q:=h
theorem vComp(h:wi σ H fun J a=>qdX J g c te (qdI nl ixs σ) a Q):qem wi g c te nl ixs σ H Q:=h
theorem vFor (h:wi σ H fun J d=>∃ W:Nat->Nat->St->Hp->Prop,(∃ m,W 0 m σ d)/\∀ i m σ H,W i m σ H ->
 (J.stop i H/\D.nx σ H)\/(J.go i H/\∃ N:St->Hp->Prop,(∀ a H',N a H'->∃ c,c<m/\W (i+1) c a H')/\∀ x H',J.yld i H x H'->g x σ H' fun b e=>t { D with nx:=N,ct:=N,bk:=D.nx } b e)):qf7 wi g t D σ H:=h
theorem vRng1(h:tas σ H fun vs a=>∃ j:Int,vs=[.int j]/\-(2 ^ 62)<=j/\j<2 ^ 62/\R (Itr 0 j.toNat) a):qfp tas σ H R:=h
theorem vAny (h:te σ H fun v b=>match v with
 | .str x=>R (Its x) b
 | .ref a=>((∃ xs,SqL K b a xs)/\R (Itl K a) b)\/((∃ xs,SqT K b a xs)/\R (Itt K a) b)
 | _=>False):qfY K te σ H R:=h
theorem vGN{i:Nat}{a:St->Hp->Prop}(h:a (σ.set i (some v)) H):qbV i v σ H a:=h
theorem qdc{xs:List α}(b:0<=i)(h1:i<xs.length):∃ v,atI xs i=some v/\xs[i.toNat]?=some v:=by
 obtain⟨n,rfl⟩:=xy b;have a:n<xs.length:=by lk
 show⟨xs[n],qE (by simp[a]),by simp[a]⟩
end
section
variable{X:Cx}{K:yg}{o e:Expr}{es:List Expr}{to ta:TE}{t:TA}{name f:Str}{apos cpos pos:Pos}{T id:String}{r:V->List V->Hp->VK->Prop}{tg:Expr}
theorem j9(a:X.K=K):qae X (.builtin "len") (qdE K):=by subst a;show call_lenU
theorem qeo(a:X.K=K)(hc:X.calm=true):qae X (.builtin "all") (qga K):=by subst a;show call_all hc
theorem qdF(a:X.K=K):SlR X (qfX K):=by subst a;show u_sl
theorem za(a:X.K=K):OpR X (binaryOp .Add) (qdD K):=by subst a;show u_add
theorem k_join(a:X.K=K):MtR X "str.join" (qfv K):=by subst a;show mt_join
theorem qK(b:X.K=K)(c:PE X e ta)(a:∀ it v,letOwnedTupleGo tg it v=pure ():=by intro _ _;rfl):PI X tg e (qfY K ta):=by subst b;show pi_any c a
theorem k_bm0(e:X.K=K)(h:PlainAttrs T)(c:Slot T name id)(d:typeOf (.builtin id)=pure (.type "method_descriptor"))(f:MtR X id r)(g:PE X o to)
  (a:attributeBase o name X.env (eval o X.env)=eval o X.env:=by rfl) (b:(apos.endLine==cpos.line)=true:=by rfl):PE X (.Call (.Attribute o name apos) [] [] cpos) (qfU K T r to):=by
 subst e;show pe_bm0 h c d f g a b
theorem qbO(h:X.K=K)(n:PlainAttrs T)(f:Slot T name id)(g:typeOf (.builtin id)=pure (.type "method_descriptor"))(j:MtR X id r)(l:PE X o to)(i:PA X (e::es) t)
  (b:attributeBase o name X.env (eval o X.env)=eval o X.env:=by rfl)
  (d:((backTo cpos (starEach (e::es) X.env)).all (fun x=>!x.1)&&(backToKw cpos (keywordEach [] X.env)).all (fun x=>x.1.isSome)
   && decide ((e::es).length+([]:List Keyword).length+(if ([]:List Keyword).isEmpty then 0 else 1)<30))=true:=by rfl)
  (c:(apos.endLine==cpos.line)=true:=by rfl) (m:starEach (e::es) X.env=(false,eval e X.env)::starEach es X.env:=by rfl) (a:(backTo cpos (starEach es X.env)).any (·.1)=false:=by rfl) :
  PE X (.Call (.Attribute o name apos) (e::es) [] cpos) (tBM K T r to t):=by
 subst h;show pe_bm n f g j l i b d c m a
end
structure DefOk(P:Program)(w:World)(K:yg)(mg:Str->Option Value)(base:Heap)(CX:CXT)(k:Nat)(x:Str)(ps:LS)(sp:Sp):Prop where
 ex:∃ f fd,FnOk P w K mg base CX k f fd ps sp/\mg x=some (.ref f)/\PySem.W.keepIn K (.ref f)=true/\Binds K fd ps []
section
variable{X:Cx}{CX:CXT}{k:Nat}{ps:LS}{sp:Sp}{E:XK}{x:Str}{p pos:Pos}{e:Expr}{es:List Expr}{t:TA}
theorem qr(D:DefOk X.prog X.w X.K X.mg X.base CX k x ps sp)(j:Room k X.A)(l:qaf CX X E)(c:PA X (e::es) t)(g:Gl X x:=by rfl)(a:(x==("__debug__":Str))=false:=by decide)
  (d:starEach (e::es) X.env=(false,eval e X.env)::starEach es X.env:=by rfl) (b:(backTo pos (starEach es X.env)).any (·.1)=false:=by rfl):PE X (.Call (.Name x p) (e::es) [] pos) (qdP sp [] E t):=by
 obtain⟨f,m,F,i,h,hb⟩:=D.ex;show pe_call F j g i h hb .nil l c a d b
theorem qbc(c:Gl X x)(a:∃ tk,X.mg x=some (.int i tk))(b:(x==("__debug__":Str))=false:=by decide):PE X (.Name x pos) (tC (.int i)):=by
 obtain⟨tk,a⟩:=a;show qdK c a ⟨tk,rfl⟩ b
end
noncomputable def qe5(t c:String):Bool:=t==c||(t=="bool"&&c=="int")
theorem zR(K:yg):∀ t∈["NoneType","bool","int","str","list","tuple","dict"],∀ c∈["bool","int","str","list","tuple","dict"],PySem.W.kitOne K (.type t) (.type c)=some (qe5 t c):=by
 intro t a c hc;simp only[yx,yQ,Yv] at a hc;rcases a with rfl | rfl | rfl | rfl | rfl | rfl | rfl<;>rcases hc with rfl | rfl | rfl | rfl | rfl | rfl<;>rfl
noncomputable def qcb:List Value->Bool
 | [.type a,.type b,.type c,.type d]=>a=="ValueError"&&b=="Exception"&&c=="BaseException"&&d=="object"
 | .ref _::r=>qcb r
 | _=>false
noncomputable def qfP(K:yg)(C:Addr):Bool:=match K.lookup C with
 | some ⟨.type "type",_,.cls cd,sl⟩=>(match cd.mro,sl.toList with
  | .ref D::bm,[_,_,_,_,some (.builtin n),_]=>D==C&&!cd.hasDel&&qcb bm&&n=="ValueError.__new__"
  | _,_=>false)
 | _=>false
theorem qdd{K:yg}(X:K.In h)(q:qfP K C=true):∃ m o N bs c b sn sub ab a d e f g i j,
  h.get? C=some (excClassObj m o C N bs c b sn sub ab a d e f g i j "ValueError.__new__")/\qcb c=true:=by
 unfold qfP at q;split at q
 .rename_i d cd sl ho
  split at q
  .rename_i D c e f g i n j hm hs
   simp only[yY,Ym,YB] at q;obtain⟨⟨⟨s,p⟩,t⟩,u⟩:=q;subst s u;obtain⟨m,bs,mro,ns,o,v,sn,sub,ab,a,r⟩:=cd;dsimp only at hm p;subst hm p;obtain⟨l⟩:=sl;dsimp only at hs;subst hs;show⟨m,o,ns,bs,c,v,sn,sub,ab,a,d,e,f,g,i,j,X _ _ ho,t⟩
  .cases q
 .cases q
structure XAt(K:yg)(C:Addr):Prop where
 ga:PySem.W.findIn K (.ref C) "__getattribute__"=some (some (.builtin "BaseException.__getattribute__"))
 gn:PySem.W.findIn K (.ref C) "__getattr__"=some none
 bx:PySem.W.mroIn K C (.type "BaseException")=some true
 ob:PySem.W.mroIn K C (.type "object")=some true
 hd:PySem.W.hasDictIn K C=true
 cl:PySem.W.findIn K (.ref C) "__class__"=some (some (.builtin "object.__class__"))
 cg:PySem.W.specialIn K (.builtin "object.__class__") "__get__"=some (some (.builtin "getset_descriptor.__get__"))
 ct:PySem.W.takesIn K (.builtin "object.__class__")=some true
 sa:PySem.W.findIn K (.ref C) "__setattr__"=some (some (.builtin "object.__setattr__"))
 mr:(PySem.W.clsIn K C).any (fun cd=>qcb cd.mro)=true
 xc:qfP K C=true
theorem bexc_ga_slot:Slot "ValueError" "__getattribute__" "BaseException.__getattribute__":=PySem.F.attr_ValueError.ga
section
variable{prog:Program}{w:World}{A:Around}{E:Value->Shared->Prop}{s:Shared}{K:yg}{x C:Addr}{ox:Obj}{od:Option Obj}{name:Str}{v:Value}
theorem xga_value{Q:Fin->Shared->Prop}(X:K.In s.heap)(I:PySem.W.InstAt s.heap x ox C od)(a:PySem.W.findObj K C od name=some (.value v))(h:Q (.done (.ret v)) s) :
  wpAny (model prog w) A (Builtin.«object.__getattribute__» ⟨[.ref x,.str name tk],[]⟩) Q E s:=by
 have F:=PySem.W.looks_find (M:=model prog w) X I a;show yr (yu (yr (yu (yr (I.type.here (yr (F.here ?_)))))));show yu h
theorem xga_call{R:Result->Shared->Prop}(X:K.In s.heap)(I:PySem.W.InstAt s.heap x ox C od)(hb:PySem.W.mroIn K C (.type "BaseException")=some true)
  (h:wpAny (model prog w) A.in1 (Builtin.«object.__getattribute__» ⟨[.ref x,.str name tk],[]⟩) (fun fin s'=>match fin with | .done f=>R (.ok f) s' | .again c'=>c'.quiet=true/\codeAny (model prog w) A c' R s') (fun e s'=>R (.error e) s') s) :
  codeAny (model prog w) A (.call (.builtin "BaseException.__getattribute__") ⟨[.ref x,.str name tk],[]⟩) R s:=by
 show xW bexc_ga_slot.plain PySem.F.entry_bexc_ga ?_;show @PySem.W.check_slot (model prog w) _ _ s "BaseException.__getattribute__" "BaseException" "__getattribute__" (.ref x) [.str name tk] [] _ (by room) (by room) (I.type.andThen (xB X hb)) (PySem.F.args_bexc_ga _ _) h
theorem qdY{a:Bool}{Q:Value->Shared->Prop}(X:K.In s.heap)(I:PySem.W.InstAt s.heap x ox C od)(c:XAt K C)
  (h:wpAny (model prog w) A.in1 (Builtin.«object.__getattribute__» ⟨[.ref x,.str name tk],[]⟩) (fun fin s'=>match fin with | .done (.ret v)=>wpAny (model prog w) A (handedOut v) Q E s' | _=>False) (fun _ _=>False) s) :
  wpAny (model prog w) A (getAttrBy (.ref x) (.str name tk) a expr) Q E s:=by
 unfold getAttrBy;show Yr (yr (I.type.here (yr ((YT X c.ga).here ?_))))
 have b:(onTheHeap (Value.ref C)&&Value.builtin "BaseException.__getattribute__"==Value.builtin "object.__getattribute__")=false:=by
  rw[show(Value.builtin "BaseException.__getattribute__"==Value.builtin "object.__getattribute__")=false by room];rfl
 dsimp only;rw[b,yF (by decide)];unfold getAttrByItsOwn hookBefore;rw[yI (show onTheHeap (Value.ref C)=true from rfl)];show yr ((YT X c.gn).here (yr (X8 (Yr ?_))));have d:(expr&&onTheHeap (Value.builtin "BaseException.__getattribute__"))=false:=by cases expr<;>rfl
 unfold callGetattribute;rw[d,yF (by decide)];unfold boundAndCalled;rw[bexc_ga_slot.bind];show yr (yu ?_);show wpAny _ _ (call (.builtin "BaseException.__getattribute__") [.ref x,.str name tk]) _ _ _;show Xl (xga_call X I c.bx (YL h (fun fin s' z=>?_) fun _ _ z=>z.elim));rcases fin with(_ | _ | _ | _) | _<;>first | show z | show z.elim
theorem xget{Q:Value->Shared->Prop}(X:K.In s.heap)(I:PySem.W.InstAt s.heap x ox C od)(c:XAt K C)(a:PySem.W.findObj K C od name=some (.value v))(b:PySem.W.handedIn v=true)
  (h:Q v { s with toks:=s.toks+1 }):wpAny (model prog w) A (getAttr (.ref x) name expr) Q E s:=by
 unfold getAttr;show yr (wpAny_mkText (qdY (s:={ s with toks:=s.toks+1 }) X I c (xga_value (s:={ s with toks:=s.toks+1 }) X I a ?_)));show wpAny _ _ (handedOut v) _ _ _;rw[PySem.W.handedOut_of b];show yu h
theorem xclass{Q:Option Value->Shared->Prop}(X:K.In s.heap)(I:PySem.W.InstAt s.heap x ox C od)(c:XAt K C)(a:PySem.W.findObj K C od "__class__"=some (.bind (.builtin "getset_descriptor.__get__") (.builtin "object.__class__")))
  (h:Q (some (.ref C)) { s with toks:=s.toks+1 }):wpAny (model prog w) A (getAttr? (.ref x) "__class__") Q E s:=by
 unfold getAttr? getAttrBy?;show yr (wpAny_mkText (yr (X8 (qdY (s:={ s with toks:=s.toks+1 }) X I c ?_))));have F:=PySem.W.looks_find (M:=model prog w) X I a;show yr (yu (yr (yu (yr (I.type.here (s:={ s with toks:=s.toks+1 }) (yr (F.here (s:={ s with toks:=s.toks+1 }) ?_)))))));show wpAny _ _ (holding [Value.builtin "object.__class__"] (call (.builtin "getset_descriptor.__get__") [.builtin "object.__class__",.ref x,.ref C])>>=ret) _ _ _;show yr (Yr (Xl (PySem.W.class_get (s:={ s with toks:=s.toks+1 }) X I c.ob ?_)));show yu ?_;show wpAny _ _ (handedOut (.ref C)) _ _ _;show yu (yu h)
theorem findObj_class(c:XAt K C):PySem.W.findObj K C od "__class__"=some (.bind (.builtin "getset_descriptor.__get__") (.builtin "object.__class__")):=by
 obtain⟨a,hc,_⟩:=x0 c.hd;unfold PySem.W.findObj;rw[hc,Option.bind_some,c.cl,Option.bind_some];simp[c.cg,c.ct]
theorem qde(c:XAt K C):PySem.W.KitX K (.ref x) (.ref C) (fun h=>PySem.W.InstAt h x ox C od) where
 ty:=fun _ _ _ I=>I.type
 it:=fun _ _ X _=>by
  obtain⟨b,hc,_⟩:=x0 c.hd;unfold PySem.W.clsIn at hc;split at hc
  .rename_i c1 d1 cd1 sl1 ho
   intro f i g s' k q;unfold isType loadHead;show yr (wpAny_loadPart (k _ _ (X _ _ ho)) (yu q))
  .cases hc
 ne:=fun h d j its n l X a=>by
  obtain⟨b,hc,_⟩:=x0 c.hd;show XV.mpr fun q=>?_;have e:C=d:=X9 (Ym.mp q);subst e;unfold PySem.W.clsIn at hc;split at hc
  .rename_i c1 d1 cd1 sl1 ho
   have z:=(X _ _ ho).symm.trans a;cases z
  .cases hc
 ca:=fun X I k=>xclass X I c (findObj_class c) k
end
theorem qct{r:List Value}(e:qcb (.ref c::r)=true):qcb r=true:=by
 cases r with
 | nil=>cases e
 | cons a r=>show e
theorem qaP:∀{l:List Value},qcb l=true->∃ f:LQ,l=f.map Value.ref++[.type "ValueError",.type "Exception",.type "BaseException",.type "object"]
 | [],e=>by cases e
 | .ref c::r,e=>by
  obtain⟨f,q⟩:=qaP (qct e);show⟨c::f,by rw[q];rfl⟩
 | .type a::r,e=>by
  match r,e with
  | [.type b,.type c,.type d],e =>
   simp only[qcb,yY,Ym] at e;obtain⟨⟨⟨rfl,rfl⟩,rfl⟩,rfl⟩:=e;show⟨[],rfl⟩
theorem refuse_exc(self:Value)(e:qcb l=true):refuseLoop self "__setattr__" l=pure ():=by
 obtain⟨a,rfl⟩:=qaP e
 induction a with
 | nil=>show PySem.F.store_ValueError.passes self
 | cons c a ih=>rw[YJ,kO,refuseLoop_ref];show ih (qct e)
theorem qaQ(e:qcb l=true)(h:T∈["ValueError","Exception","BaseException","object"]):l.contains (.type T)=true:=by
 obtain⟨a,rfl⟩:=qaP e;rw[List.contains_iff_mem];show yH _ ?_;simp only[yx,yQ,Yv] at h ⊢;rcases h with rfl | rfl | rfl | rfl<;>simp
section
variable{prog:Program}{w:World}{A:Around}{E:Value->Shared->Prop}{s:Shared}{K:yg}{x C:Addr}{name:Str}{v:Value}{R:Result->Shared->Prop}
theorem xosa(X:K.In s.heap)(I:PySem.W.InstAt s.heap x ox C od)(c:XAt K C)(n:NoAttr K C name)
  (h:wpAny (model prog w) A.in1 (Builtin.ObjectAttr.storeInOwnDict (.ref x) (.ref C) (.str name tk) name v false)
   (fun fin s'=>match fin with | .done f=>R (.ok f) s' | .again c'=>c'.quiet=true/\codeAny (model prog w) A c' R s') (fun e s'=>R (.error e) s') s) :
  codeAny (model prog w) A (.call (.builtin "object.__setattr__") ⟨[.ref x,.str name tk,v],[]⟩) R s:=by
 have a:=PySem.F.store_object;obtain⟨b,hc,g⟩:=x0 c.mr;have d:PySem.W.Looks (model prog w) s.heap (mroOf (.ref C)) b.mro:=(kq X hc).andThen .now;show xW a.slot.plain a.entry (@PySem.W.check_slot (model prog w) _ _ s "object.__setattr__" "object" "__setattr__" (.ref x) [.str name tk,v] [] _ a.kind a.split (I.type.andThen (xB X c.ob)) (a.args (.ref x) (.str name tk) v) ?_);rw[PySem.W.osa_eq,refuse_eq];show yr (yr (I.type.here (yr (d.here ?_))));rw[refuse_exc _ g];show yu (yr (I.type.here (yr ((YT X n).here (yr (yu ?_))))));show h
theorem xset(X:K.In s.heap)(m:s.heap.get? x=some ⟨.ref C,none,.fields vs,#[]⟩)(c:XAt K C)(n:NoAttr K C name){Q:Unit->Shared->Prop}
  (h:∀ h',h'.get? x=some ⟨.ref C,some s.heap.objs.size,.fields vs,#[]⟩->h'.Ns1 s.heap.objs.size (fun y=>if y=name then some v else none)->(∀ b o,b≠x->s.heap.get? b=some o->h'.get? b=some o) ->
   Q () { s with heap:=h',toks:=s.toks+2 }):wpAny (model prog w) A (setAttr (.ref x) name v) Q E s:=by
 have I:PySem.W.InstAt s.heap x ⟨.ref C,none,.fields vs,#[]⟩ C none:=⟨m,rfl,rfl,YU⟩;obtain⟨H,hc,D⟩:=x0 c.hd;show PySem.W.set_plain X I c.sa (xosa (s:={ s with toks:=s.toks+1 }) X I c n ?_);show yr (yu (yr (yr (wpAny_loadPart m (yr ((kq X hc).here (s:={ s with toks:=s.toks+1 }) ?_))))));rw[D];obtain⟨a,g,J,tk,M⟩:=s;show wpAny _ _ (alloc { cls:=.type "dict",data:=.dict #[] }>>=fun d=>update x (fun o=>{ cls:=o.cls,dict:=some d,data:=o.data,slots:=o.slots })>>=fun _=>pure (some d)) _ _ _;have l:x≠a.objs.size:=yO (yN m);have i:=yv { cls:=.type "dict",data:=.dict #[] } m;show yr (wpAny_alloc' (yr (wpAny_update' i (yu ?_))));have j:=YE (fun o:Obj=>{ cls:=o.cls,dict:=some a.objs.size,data:=o.data,slots:=o.slots }) i rfl;have f:=(Heap.get?_update_ne (a.push { cls:=.type "dict",data:=.dict #[] }) a.objs.size x (fun o:Obj=>{ cls:=o.cls,dict:=some a.objs.size,data:=o.data,slots:=o.slots }) l.symm).trans (kI rfl rfl);generalize G:(a.push { cls:=.type "dict",data:=.dict #[] }).update x (fun o:Obj=>{ cls:=o.cls,dict:=some a.objs.size,data:=o.data,slots:=o.slots })=h2 at j f ⊢;have nd:h2.Ns a.objs.size (fun _=>none):=⟨_,#[],_,f,rfl,fun e F=>absurd F (by simp),fun _=>rfl⟩;show wpAny _ _ (Builtin.ObjectAttr.storeInDict a.objs.size (.str name tk) name v) _ _ _;unfold Builtin.ObjectAttr.storeInDict Builtin.ObjectAttr.newKeyGuard;show yr (yu (yr (wpAny_nsSet1 (Heap.Ns1.of_empty nd) fun h' u z=>?_)));obtain⟨L,p,B,t,r,q⟩:=u.count (PySem.Within.cons name v PySem.Within.nil);have hz:p.size<=sizeLine:=yi q (by rw[yw,xl,YO];lk);show yr (wpAny_lookBehind t (by rw[r];show pastItsLine_dict (XW hz)) ?_);show yu (h h' ((z.2 x l).trans j) u fun b o hb e=>(z.2 b (yO (yN e))).trans ?_);rw[<- G];show(Heap.get?_update_ne _ _ _ _ hb).trans (yv _ e)
theorem ve_check{Q:Unit->Shared->Prop}(X:K.In s.heap)(c:XAt K C)(l:s.heap.get? x=some ox)(a:ox.cls=.ref C)(q:Q () s) :
  wpAny M A (checkBuiltinCall "ValueError.__init__" ⟨[.ref x,u],[]⟩) Q E s:=by
 have F:=Y8;have b:=F.noStar;obtain⟨y,B,N,bs,h,f,sn,sub,ab,i,m,p,r,t,v,w,e,j⟩:=qdd X c.xc;have d:(Value.ref C::h).contains (.type "ValueError")=true:=by rw[Yu,qaQ j (by simp),kz]
 obtain⟨o,g,n,tk,z⟩:=s;simp only[checkBuiltinCall,F.initKind,F.initSplit,F.initRow]
 repeat (first | (with_reducible show YK l ?_;rw[a]) | with_reducible show YK e ?_ | (with_reducible show xC e ?_;rw[d]) | wp_step)
 show q
noncomputable abbrev xfs(a0:Addr):Array Value:=#[.ref a0,.none,.none,.none,.bool false,.none]
theorem xbase_init(X:K.In s.heap)(a:s.heap.get? x=some ⟨.ref C,none,.fields (xfs a0),#[]⟩)(c:XAt K C){Q:Value->Shared->Prop}
  (h:∀ h' d,h'.get? x=some ⟨.ref C,none,.fields (xfs d),#[]⟩->(∀ b o,b≠x->s.heap.get? b=some o->h'.get? b=some o)->Q .none { s with heap:=h' }) :
  wpAny (model prog w) A (call (.builtin "ValueError.__init__") [.ref x,u]) Q E s:=by
 have F:=Y8;show Xl (xW F.init.plain F.initEntry (ve_check X c a rfl ?_));obtain⟨f,g,i,tk,j⟩:=s
 wp_walk
 show h _ f.objs.size ?_ fun b o hb e=>?_
 .rw [YE _ (yv _ a) rfl];rfl
 .rw [YA _ _ (Yh hb)];show yv _ e
end
theorem qdf(e:qcb l=true)(h:T∉["ValueError","Exception","BaseException","object"]):l.contains (.type T)=false:=by
 obtain⟨b,rfl⟩:=qaP e;show XV.mpr fun q=>?_;rcases yz.mp (List.contains_iff_mem.mp q) with z | z
 .obtain⟨a,_,q⟩:=YF.mp z;cases q
 .simp only[yx,yQ,Yv,Value.type.injEq] at z h;show h z
section
variable{prog:Program}{w:World}{A:Around}{R:Result->Shared->Prop}{E:Value->Shared->Prop}{h:Heap}{g:Array GenState}{d:Drawn}{t:Nat}{os:OsState}
variable{nm q:Str}{C N:Addr}{bs bm:List Value}{hdct:Bool}{sn:LS}{sub:List Value}{ab:Bool}{col:Option Bool}{dd:Option Addr}{k0 k1 k2 k3 k5:Option Value}
theorem xnew_check{rest:List Value}{Q:Unit->Shared->Prop}(b:h.get? C=some (excClassObj nm q C N bs bm hdct sn sub ab col dd k0 k1 k2 k3 k5 "ValueError.__new__"))(e:qcb bm=true)(f:Q () ⟨h,g,d,t,os⟩) :
  wpAny M A (checkBuiltinCall "ValueError.__new__" ⟨.ref C::rest,[]⟩) Q E ⟨h,g,d,t,os⟩:=by
 have F:=Y8;have a:(Value.ref C::bm).contains (.type "ValueError")=true:=by rw[Yu,qaQ e (by simp),kz]
 have c:=F.noStar;simp only[checkBuiltinCall,F.newKind,F.newSplit,F.newRow]
 repeat (first | show YK b ?_ | (show xC b ?_;rw[a]) | show wpAny_staticBase_exc b ?_ | show wpAny_madeBy_exc b ?_ | simp only[bne_self_eq_false,xK,XU] | wp_step)
 show f
theorem xnew{rest:List Value}(b:h.get? C=some (excClassObj nm q C N bs bm hdct sn sub ab col dd k0 k1 k2 k3 k5 "ValueError.__new__"))(j:qcb bm=true)(l:rest.length<=sizeLine)
  (m:R (.ok (.ret (.ref (h.objs.size+1)))) ⟨(h.push { cls:=.type "tuple",data:=.seq rest.toArray }).push { cls:=.ref C,data:=.fields (xfs h.objs.size) },g,d,t,os⟩) :
  codeAny (model prog w) A (.builtin "ValueError.__new__" ⟨.ref C::rest,[]⟩) R ⟨h,g,d,t,os⟩:=by
 have F:=Y8;have i:=F.ends;have e:(Value.ref C::bm).contains (.type "ValueError")=true:=by rw[Yu,qaQ j (by simp),kz]
 have c:(Value.ref C::bm).contains (.type "AttributeError")=false:=by rw[Yu,qdf j (by simp)];rfl
 have f:(Value.ref C::bm).contains (.type "NameError")=false:=by rw[Yu,qdf j (by simp)];rfl
 show codeAny_builtinAt F.entry ?_;unfold Builtin.«BaseException.__new__»;show PySem.wpAt_bind ?_;show PySem.wpAt _ _ _ (stack>>=_) _ _ _;show PySem.wpAt_bind (PySem.wpAt_stack fun n a=>PySem.wpAt_of_wpAny ?_)
 wp_walk
 show PySem.wpAt_of_wpAny ?_;rw[F.owner]
 repeat (first | with_reducible show wpAny_madeHere_exc F.canon b ?_ | with_reducible show YK b ?_ | (with_reducible show xC b ?_;first | rw[e] | rw[c] | rw[f]) | wp_step)
 show R _ _;rw[YZ];show m
theorem xtype_call{K:yg}{rest:List Value}{Q:Fin->Shared->Prop}(X:K.In h)(c:h.get? C=some (excClassObj nm q C N bs bm hdct sn sub ab col dd k0 k1 k2 k3 k5 "ValueError.__new__"))(m:qcb bm=true)
  (s:PySem.W.findIn K (.ref C) "__init__"=some (some (.ref f))) (p:PySem.W.isFn K (.ref f)=true) (a:rest.length<=sizeLine)
  (u:wpAny (model prog w) A (call (.ref f) (.ref (h.objs.size+1)::rest)) (fun r s'=>r=.none/\Q (.done (.ret (.ref (h.objs.size+1)))) s') E
   ⟨(h.push { cls:=.type "tuple",data:=.seq rest.toArray }).push { cls:=.ref C,data:=.fields (xfs h.objs.size) },g,d,t,os⟩) :
  wpAny (model prog w) A (Builtin.«type.__call__» ⟨.ref C::rest,[]⟩) Q E ⟨h,g,d,t,os⟩:=by
 have F:=Y8
 repeat (first | with_reducible show YK c ?_ | with_reducible show wpAny_madeBy_exc c ?_ | wp_step)
 show codeAny_call_builtin_code (Code.quiet_builtin _ F.quiet) (xnew_check c m (xnew c m a ?_));show wpAny _ _ _ _ _ _;have up:∀ b o,h.get? b=some o->((h.push { cls:=.type "tuple",data:=.seq rest.toArray }).push { cls:=.ref C,data:=.fields (xfs h.objs.size) }).get? b=some o:=fun b o e=>yv _ (yv _ e);have hC1:=up _ _ c;have i:((h.push { cls:=.type "tuple",data:=.seq rest.toArray }).push { cls:=.ref C,data:=.fields (xfs h.objs.size) }).get? (h.objs.size+1)=some { cls:=.ref C,data:=.fields (xfs h.objs.size) }:=kI (by rw[YZ]) rfl;have l:K.In ((h.push { cls:=.type "tuple",data:=.seq rest.toArray }).push { cls:=.ref C,data:=.fields (xfs h.objs.size) }):=X.keeps up;have j:(Value.ref C::bm).contains (.ref C)=true:=by simp
 unfold isInstance
 repeat (first | with_reducible show YK i ?_ | (with_reducible show xC hC1 ?_;rw[j]) | wp_step)
 show wpAny _ _ (typeLookup (.ref C) _) _ _ _;show(YT l s).at (Yr (yr ((PySem.W.bind_fn l _ (Ym.mp p)).at (yr (YL u (fun r s' v=>?_) fun _ _ z=>z)))));obtain⟨rfl,n⟩:=v
 wp_walk
 show n
theorem xcall{K:yg}{rest:List Value}{Q:Value->Shared->Prop}(X:K.In s.heap)(c:XAt K C)(i:PySem.W.findIn K (.ref C) "__init__"=some (some (.ref f)))(e:PySem.W.isFn K (.ref f)=true)(a:rest.length<=sizeLine)
  (l:wpAny (model prog w) (A.under (.builtin "type.__call__" ⟨.ref C::rest,[]⟩)) (call (.ref f) (.ref (s.heap.objs.size+1)::rest)) (fun r s'=>r=.none/\Q (.ref (s.heap.objs.size+1)) s') E
   { s with heap:=(s.heap.push { cls:=.type "tuple",data:=.seq rest.toArray }).push { cls:=.ref C,data:=.fields (xfs s.heap.objs.size) } }) :
  wpAny (model prog w) A (call (.ref C) rest) Q E s:=by
 obtain⟨nm,p,N,bs,bm,hdct,sn,sub,ab,col,dd,k0,k1,k2,k3,k5,b,j⟩:=qdd X c.xc;obtain⟨h,g,d,t,os⟩:=s;have m:=tc_lookup;have n:=tc_bind (.ref C);have o:(⟨h,g,d,t,os⟩:Shared).TypeIs (.ref C) "type":=⟨_,b,rfl⟩;show Xl (codeAny_of_tree ?_);show wpAny _ _ (callAny (.ref C) _) _ _ _
 repeat (any_goals (first | assumption | with_reducible show YK b ?_ | wp_step))
 show⟨rfl,?_⟩;show codeAny_call_builtin_at (Code.quiet_builtin _ (by room)) entry_typeCall (wpAny_check_type_call_sub b (xtype_call X b j i e a l))
end
noncomputable def XN(e C:Addr)(dx:Option Addr):HO:=.ext fun h=>∃ a0,h.get? e=some ⟨.ref C,dx,.fields (xfs a0),#[]⟩
noncomputable def XO(e C:Addr)(dx:Option Addr):HO:=.ext fun h=>∃ vs,h.get? e=some ⟨.ref C,dx,.fields vs,#[]⟩
theorem XN.ok(q:h.get? e=some ⟨.ref C,dx,.fields (xfs a0),#[]⟩):ObjOk P w H h e (XN e C dx):=
 ⟨⟨a0,q⟩,⟨_,q⟩,fun _ _ ⟨a,x⟩ k=>⟨a,k _ x⟩⟩
theorem XO.ok(q:h.get? e=some ⟨.ref C,dx,.fields vs,#[]⟩):ObjOk P w H h e (XO e C dx):=
 ⟨⟨vs,q⟩,⟨_,q⟩,fun _ _ ⟨a,x⟩ k=>⟨a,k _ x⟩⟩
def IsX(H:Hp)(e C:Addr)(dx:Option Addr):Prop:=H e=some (XN e C dx)\/H e=some (XO e C dx)
theorem IsX.get(q:IsX H e C dx)(b:HOk P w H h):∃ vs,h.get? e=some ⟨.ref C,dx,.fields vs,#[]⟩:=by
 rcases q with q | q
 .obtain⟨⟨a,x⟩,_⟩:=(show ObjOk P w H h e (XN e C dx) from b e _ q);show⟨_,x⟩
 .obtain⟨⟨a,x⟩,_⟩:=(show ObjOk P w H h e (XO e C dx) from b e _ q);show⟨_,x⟩
theorem upd_id{o:HO}(h:H a=some o):upd H a o=H:=by
 funext b;unfold upd;split
 .rename_i e;subst e;show h.symm
 .rfl
section
variable{X:Cx}{pins:List (Addr×Obj)}{σ:St}{H:Hp}{s:Shared}{e C:Addr}{dx:Option Addr}
theorem qeD(I:Inv X pins σ H s){d:Addr}{fs:List (Str×V)}(h:H d=some (.xd fs)):∃(od:Obj) (a:Str->Option Value),s.heap.get? d=some od/\(∀ name,PySem.W.lookIn name od=some (a name))/\∀ f,RelO (fs.lookup f) (a f):=by
 obtain⟨a,n,r⟩:=(show ObjOk X.prog X.w H s.heap d (.xd fs) from I.hok d _ h);obtain⟨od,h1,b⟩:=qcf n;show⟨od,a,h1,b,r⟩
end
section
variable{X:Cx}{pins:List (Addr×Obj)}{σ:St}{H:Hp}{s:Shared}{a d:Addr}{h':Heap}{o u:HO}{t':Nat}
theorem Inv.both(I:Inv X pins σ H s)(h:Mut (H a))(j:s.heap.objs.size<=d)(k:∀ b v,b≠a->s.heap.get? b=some v->h'.get? b=some v)(l:∃ v,h'.get? a=some v)
  (m:ObjOk X.prog X.w (upd (upd H d u) a o) h' a o) (p:ObjOk X.prog X.w (upd (upd H d u) a o) h' d u) (ne:d≠a):Inv X pins σ (upd (upd H d u) a o) { s with heap:=h',toks:=t' }:=by
 have nd:H d=none:=I.hok.fresh j;have f:∀ b q,H b=some q->¬ Mut (some q)->b≠a:=fun b q e t z=>by subst z;rw[e] at h;show t h
 have i:∀ b,H b=none->b≠a:=fun b e z=>by subst z;rw[e] at h;show h
 have big:∀ b v,s.heap.get? b=some v->b≠d:=fun b v e=>yO (yj (yN e) j);have up:∀ b q,H b=some q->b≠a->upd (upd H d u) a o b=some q:=fun b q e n=>by rw[qf n,qf (qv e nd)];show e
 show I.un ⟨fun b v e n _ _=>k b v (i b n) e,fun b v e n _ _=>⟨v.slots,k b v (i b n) e⟩,fun b v e n _=>by rw[qf (i b n),qf (big b v e)];show n,fun b v e _=>?_,fun b xs e=>up b _ e (f b _ e fun z=>z),fun b q xs e=>up b _ e (f b _ e fun z=>z),
  fun b x e=>⟨#[],by rw[up b _ e (f b _ e fun z=>z)];simp⟩⟩ fun b q e=>?_
 .by_cases hb:b=a
  .subst hb;show l
  .show⟨v,k b v hb e⟩
 .by_cases hb:b=a
  .subst hb;rw[qb] at e;cases e;show m
  .rw [qf hb] at e;by_cases g:b=d
   .subst g;rw[qb] at e;cases e;show p
   .rw [qf g] at e;show(I.hok b q e).stay (fun c v hc r=>k c v ?_ r) (fun c r=>up c _ r (f c _ r fun z=>z)) fun c xs r=>up c _ r (f c _ r fun z=>z);rcases hc with rfl | hc
    .show hb
    .show f c _ hc fun z=>z
end
inductive FldR(K:yg)(f:Str)(x:V)(H:Hp)(Q:VK):Prop|mk (a C dx:Addr) (fs:List (Str×V)) (v:V) (_:x=.ref a) (_:H a=some (.ins C dx fs)) (_:Cls K C) (_:NoAttr K C f) (_:fs.lookup f=some v) (_:Q v H)
inductive XFlR(K:yg)(f:Str)(x:V)(H:Hp)(Q:VK):Prop|mk (a C dx:Addr) (fs:List (Str×V)) (v:V) (_:x=.ref a) (_:IsX H a C (some dx)) (_:XAt K C) (_:NoAttr K C f) (_:H dx=some (.xd fs)) (_:fs.lookup f=some v) (_:Q v H)
inductive FlUR(K:yg)(f:Str)(x:V)(H:Hp)(Q:VK):Prop | inl (_:FldR K f x H Q) | inr (_:XFlR K f x H Q)
inductive SFdR(K:yg)(f:Str)(x y:V)(H:Hp)(k:Hp->Prop):Prop|mk (a C dx:Addr) (fs:List (Str×V)) (_:x=.ref a) (_:H a=some (.ins C dx fs)) (_:Cls K C) (_:NoAttr K C f) (_:fs.length<1000) (_:k (upd H a (.ins C dx (qJ f y fs))))
inductive SXdR(K:yg)(f:Str)(x y:V)(H:Hp)(k:Hp->Prop):Prop|mk (a C:Addr) (_:x=.ref a) (_:H a=some (XN a C none)) (_:XAt K C) (_:NoAttr K C f) (_:∀ dx,H dx=none->k (upd (upd H dx (.xd [(f,y)])) a (XN a C (some dx))))
inductive SFUR(K:yg)(f:Str)(x y:V)(H:Hp)(k:Hp->Prop):Prop | inl (_:SFdR K f x y H k) | inr (_:SXdR K f x y H k)
def qfx(K:yg)(b:TE)(f:Str):TE:=fun σ H Q=>b σ H fun x a=>FlUR K f x a Q
def qfy(K:yg)(c d:TE)(f:Str):TS:=fun D σ H=>d σ H fun y a=>c σ a fun x b=>SFUR K f x y b (D.nx σ)
section
variable{X:Cx}{o e value:Expr}{f:Str}{pos pos':Pos}{ta tv:TE}{K:yg}
theorem qy(w:X.K=K)(z:PE X e ta)(hb:attributeBase e f X.env (eval e X.env)=eval e X.env):PE X (.Attribute e f pos) (qfx K ta f):=by
 subst w;intro pins s σ H Q I h;show attr_of hb (thn (z pins s σ H _ I h) fun u E ⟨x,j,b,m,i⟩=>?_);rcases i with⟨a,C,dx,fs,v,rfl,g,c,n,l,q⟩ | ⟨a,C,dx,fs,v,rfl,g,c,n,y,l,q⟩
 .obtain rfl:u=Value.ref a:=m;show getattr_ok b g c n l fun D F p d=>⟨v,j,p,d,q⟩
 .obtain rfl:u=Value.ref a:=m;obtain⟨vs,i⟩:=g.get b.hok;obtain⟨od,B,h1,t,r⟩:=qeD b y;obtain⟨D,A,d⟩:=RelO.some_of (v:=v) (o:=B f) (by rw[<- l];show r f);show xget b.kIn (od:=some od) ⟨i,rfl,rfl,h1⟩ c (PySem.W.findObj_own c.hd n rfl (by rw[t,A])) (qcg d) ⟨v,j,b.tok _,d,q⟩
theorem jV(J:X.K=K)(L:PE X o ta)(hv:PE X value tv)(M:swapsWith value (some (.Attribute o f pos')) pos.line X.env=pure false):PS X (.Assign [.Attribute o f pos'] value pos) (qfy K ta tv f):=by
 subst J;intro pins s σ H D I h;show plainObj_wpAny_Assign_Attribute (thn (hv pins s σ H _ I h) fun u N ⟨y,A,B,z,q⟩=>thn (L pins N σ A _ B q) fun t i ⟨x,p,b,v,e⟩=>?_) M;rcases e with⟨a,C,dx,fs,rfl,d,c,n,l,m⟩ | ⟨a,C,rfl,d,c,n,m⟩
 .obtain rfl:t=Value.ref a:=v;show setattr_ok b d c n l z fun O E=>⟨σ,_,E,m⟩
 .obtain rfl:t=Value.ref a:=v;obtain⟨⟨a0,e⟩,_⟩:=(show ObjOk X.prog X.w p i.heap a (XN a C none) from b.hok a _ d);show xset b.kIn e c n fun h' r F G=>?_;have nd:p i.heap.objs.size=none:=b.hok.fresh (yh _);have ne:i.heap.objs.size≠a:=Yi (yN e);show⟨σ,_,b.both (o:=XN a C (some i.heap.objs.size)) (u:=.xd [(f,y)]) (by rw[d];show YU) (yh _) G ⟨_,r⟩ (XN.ok r) ⟨_,F,fun g=>?_⟩ ne,m _ nd⟩;by_cases j:g=f
  .subst j;simp only[List.lookup,Xd,X5];show z
  .have hb:(g==f)=false:=Yx.mpr j;simp only[List.lookup,hb,yF j];show YU
end
def qdZ(C:Addr)(sp:Sp)(E:XK)(t:TA):TE:=fun σ H Q=>t σ H fun vs a=>vs.length<=1000/\∀ x,a x=none->sp (.ref x::vs) (upd a x (XN x C none)) (fun v b=>v=.non/\Q (.ref x) b) E
structure XMk(K:yg)(C f:Addr):Prop where
 at_:XAt K C
 init:PySem.W.findIn K (.ref C) "__init__"=some (some (.ref f))
 fn:PySem.W.isFn K (.ref f)=true
 kp:PySem.W.keepIn K (.ref C)=true
section
variable{X:Cx}{CX:CXT}{k:Nat}{f C:Addr}{fd:FuncData}{ps:LS}{sp:Sp}{E:XK}{x m:Str}{p pos apos:Pos}{e o:Expr}{es:List Expr}{ta:TE}{t:TA}
theorem run_xmake{Q:VK}{vs:List V}(M:XMk X.K C f)(F:FnOk X.prog X.w X.K X.mg X.base CX k f fd ps sp)(y:Room (k+1) X.A)(hb:Binds X.K fd ps [])
  (B:qaf CX X E) (I:Inv X pins σ H s) (r:Vals vs us) (i:vs.length<=1000) (h:∀ x,H x=none->sp (.ref x::vs) (upd H x (XN x C none)) (fun v n=>v=.non/\Q (.ref x) n) E) :
  wpAny (model X.prog X.w) X.A (call (.ref C) us) (EP X pins σ Q) X.xe s:=by
 have l:=h (s.heap.objs.size+1) (I.hok.fresh (xT _));have up:∀ b o,s.heap.get? b=some o->((s.heap.push { cls:=.type "tuple",data:=.seq us.toArray }).push { cls:=.ref C,data:=.fields (xfs s.heap.objs.size) }).get? b=some o:=fun b o q=>yv _ (yv _ q);have d:((s.heap.push { cls:=.type "tuple",data:=.seq us.toArray }).push { cls:=.ref C,data:=.fields (xfs s.heap.objs.size) }).get? (s.heap.objs.size+1)=some ⟨.ref C,none,.fields (xfs s.heap.objs.size),#[]⟩:=kI (by rw[YZ]) rfl;have g:=I.laid (a:=s.heap.objs.size+1) (o:=XN (s.heap.objs.size+1) C none) (t':=s.toks) up (xT _) (XN.ok d);have m:Vals (V.ref (s.heap.objs.size+1)::vs) (Value.ref (s.heap.objs.size+1)::us):=.cons rfl r
 have hl:(Value.ref (s.heap.objs.size+1)::us++[]).length=ps.length:=by
  have q:=m.length;rw[F.len _ _ _ _ l] at q;rw[Yd];show q.symm
 have j:us.length<=sizeLine:=by rw[<- r.length];show yR (qh i)
 show xcall I.kIn M.at_ M.init M.fn j (Xl (XS (F.run _ X.stack _ _ ⟨Value.ref (s.heap.objs.size+1)::us,[]⟩ (Value.ref (s.heap.objs.size+1)::us) _ _ E (y.make C us [])
  (g.env0.make C us []) (by have z:=hb _ (Value.ref (s.heap.objs.size+1)::us) g.kIn hl;rw[Yd] at z;show z) m l) fun r s' c=>?_))
 cases r with
 | error e=>show B pins σ _ _ e s' g c
 | ok fl =>
  cases fl with
  | ret u =>
   obtain⟨v,H',p,G,t,D⟩:=g.after c;subst t;show⟨G,⟨V.ref (s.heap.objs.size+1),H',p,rfl,D⟩⟩
  | next=>show False.elim c
  | brk=>show False.elim c
  | cont=>show False.elim c
theorem pe_xmake(M:XMk X.K C f)(F:FnOk X.prog X.w X.K X.mg X.base CX k f fd ps sp)(l:Room (k+1) X.A)(i:Gl X x)(j:X.mg x=some (.ref C))(hb:Binds X.K fd ps [])(m:qaf CX X E)
  (d:PA X (e::es) t) (a:(x==("__debug__":Str))=false:=by decide) (g:starEach (e::es) X.env=(false,eval e X.env)::starEach es X.env:=by rfl) (b:(backTo pos (starEach es X.env)).any (·.1)=false:=by rfl) :
  PE X (.Call (.Name x p) (e::es) [] pos) (qdZ C sp E t):=by
 intro pins s σ H Q I h;show Xm (qaZ I i j ?_ a);show xI (h₀:=X.base) I.ok.mod.kin M.kp (thn (d pos pins s σ H _ I h) fun us o ⟨vs,n,c,r,z,q⟩=>⟨c.kIn,?_⟩) g b;show run_xmake M F l hb m c r z q
structure CMeth(K:yg)(C:Addr)(m:Str)(f:Addr):Prop where
 rd:PySem.W.readsIn K C (.type "type")=true
 at_:PySem.W.findCls K (.ref C) (.type "type") m=some (.val (.ref f))
 ga:PySem.W.specialIn K (.ref C) "__getattribute__"=some (some (.builtin "type.__getattribute__"))
 kp:PySem.W.keepIn K (.ref f)=true
theorem pe_clsm{pl:Sem Bool}(M:CMeth X.K C m f)(F:FnOk X.prog X.w X.K X.mg X.base CX k f fd ps sp)(l:Room k X.A)(i:Gl X x)(j:X.mg x=some (.ref C))(hb:Binds X.K fd ps [])(o:qaf CX X E)(g:PA X (e::es) t)
  (a:(x==("__debug__":Str))=false:=by decide) (c:starEach (e::es) X.env=(false,eval e X.env)::starEach es X.env:=by rfl) (b:(backTo pos (starEach es X.env)).any (·.1)=false:=by rfl)
  (n:eval (.Call (.Attribute (.Name x p) m apos) (e::es) [] pos) X.env=(do
   let ov <- eval (.Name x p) X.env
   standAt apos.atName
   let (f,first) <- holding [ov] (getMethod ov m pl)
   callWith pos f first (backTo pos (starEach (e::es) X.env)) (backToKw pos (keywordEach [] X.env))):=by rfl) :
  PE X (.Call (.Attribute (.Name x p) m apos) (e::es) [] pos) (qdP sp [] E t):=by
 intro pins s σ H Q I h;show xL (pl:=pl) (qaZ I i j ?_ a) n;show PySem.W.method_cls I.kIn M.ga (PySem.W.cls_value I.kIn M.rd M.at_ rfl ?_);show xI (first:=[]) (h₀:=X.base) I.ok.mod.kin M.kp (thn (g pos pins _ σ H _ (I.tok (s.toks+1)) h) fun us v ⟨vs,u,d,r,q⟩=>⟨d.kIn,?_⟩) c b;show qc3 F l hb .nil o d r q
end
def qeE(K:yg)(t:TA):TE:=fun σ H Q=>t σ H fun vs b=>∃ a C y,vs=[.ref a,y]/\b a=some (XN a C none)/\XAt K C/\Q .non b
theorem ve_type:PySem.W.Looks M h (typeOf (.type "ValueError")) (.type "type"):=PySem.W.Looks.of_pure (by kernel_rfl)
theorem ve_opaque:PySem.W.Looks M h (opaqueClassAbove (.type "ValueError")) none:=PySem.W.Looks.of_pure (by kernel_rfl)
structure VInit(K:yg):Prop where
 ga:PySem.W.findIn K (.type "type") "__getattribute__"=some (some (.builtin "type.__getattribute__"))
 su:PySem.W.subIn K (.type "type") (.type "type")=some true
 at_:PySem.W.findCls K (.type "ValueError") (.type "type") "__init__"=some (.val (.builtin "ValueError.__init__"))
section
variable{X:Cx}{p pos apos:Pos}{e:Expr}{es:List Expr}{t:TA}{K:yg}
theorem k_vinit{pl:Sem Bool}(E:X.K=K)(V:VInit K)(G:Gl X "ValueError")(L:X.mg "ValueError"=none)(hv:bootBuiltins "ValueError"=some (.type "ValueError"))(F:PA X (e::es) t)
  (l:starEach (e::es) X.env=(false,eval e X.env)::starEach es X.env:=by rfl) (j:(backTo pos (starEach es X.env)).any (·.1)=false:=by rfl)
  (M:eval (.Call (.Attribute (.Name "ValueError" p) "__init__" apos) (e::es) [] pos) X.env=(do
   let ov <- eval (.Name "ValueError" p) X.env
   standAt apos.atName
   let (f,first) <- holding [ov] (getMethod ov "__init__" pl)
   callWith pos f first (backTo pos (starEach (e::es) X.env)) (backToKw pos (keywordEach [] X.env))):=by rfl) :
  PE X (.Call (.Attribute (.Name "ValueError" p) "__init__" apos) (e::es) [] pos) (qeE K t):=by
 subst E;intro pins s σ H Q I h;show xL (pl:=pl) (qa7 I G L hv ?_) M
 have i:∀{d:Value×List Value->Shared->Prop},d (.builtin "ValueError.__init__",[]) { s with toks:=s.toks+1 }->wpAny (model X.prog X.w) X.A (getMethod (.type "ValueError") "__init__" pl) d X.xe s:=fun{d} q=>by
  unfold getMethod;show yr ((ve_type.andThen (YT I.kIn V.ga)).here ?_);dsimp only;rw[yI PySem.W.canon_tga];show yr (PySem.W.cls_open (hook:=none) I.kIn ve_opaque ve_type V.ga (PySem.W.Looks.now) V.su V.at_ (yu ?_));show wpAny _ _ (handedOut _) _ _ _;show PySem.W.handed_on rfl (yu q)
 show i ?_;have r:=F pos pins _ σ H _ (I.tok (s.toks+1)) h;rw[l] at r ⊢;show Xn (by show(false||(backTo pos (starEach es X.env)).any (·.1))=false;rw[j]<;>rfl) (kc ?_);show thn r fun us z ⟨vs,m,b,O,a,C,y,B,g,c,q⟩=>?_;subst B;obtain⟨u,v,rfl,P,S⟩:=qdz O;cases P;obtain⟨⟨a0,N⟩,_⟩:=(show ObjOk X.prog X.w m z.heap a (XN a C none) from b.hok a _ g);show xbase_init b.kIn N c fun h' R n D=>?_;have J:=b.write (x:=a) (e:=a) (o:=XN a C none) (t':=z.toks) (by rw[g];show YU) (.inl rfl) D ⟨_,n⟩ (XN.ok n);rw[upd_id g] at J;show⟨.non,m,J,rfl,q⟩
end
structure Keep(fs zs:LQ)(h h':Heap):Prop where
 keep:∀ b o,h.get? b=some o->b∉zs->b∉fs->h'.get? b=some o
 slot:∀ b o,h.get? b=some o->b∉zs->b∈fs->∃ sl,h'.get? b=some { o with slots:=sl }
structure Trc(h:Heap)(e:Addr)(C:Value)(dx:Option Addr)(T:Addr)(fl:Value):Prop where
 ex:∃ vs,h.get? e=some ⟨C,dx,.fields vs,#[]⟩/\vs[1]?=some (.ref T)/\vs[2]?=some .none
 tb:∃ ts,h.get? T=some ⟨.type "traceback",none,.fields ts,#[]⟩/\ts[3]?=some fl
 ne:T≠e
section
variable{M:Model}{A:Around}{E:Value->Shared->Prop}{s:Shared}{base:Heap}{env:Env}{outer:List Env}{L e:Addr}{C:Value}{dx:Option Addr}{vs:Array Value}
theorem qeF{d:Value}{p:Bool}{Q:Unit->Shared->Prop}(r:A.frames=some (env::outer))(hl:s.heap.FunFrames base (env::outer))(F:env.frame=some L)(w:s.heap.get? e=some ⟨C,dx,.fields vs,#[]⟩)(hsz:1<vs.size)(B:vs[2]?=some .none)
  (h:∀ h' T,s.heap.objs.size<=T->Trc h' e C dx T (rawInt L)->Keep (frs (env::outer)) [e] s.heap h'->Q () { s with heap:=h' }) :
  wpAny M A (do let a <- frameOf env;let pl <- entryPlaceOf L p;let b <- EntryCells.newEntry d a .none (rawInt L) .none pl;setField (.ref e) 1 b) Q E s:=by
 have l:e∉frs (env::outer):=fun G=>by
  obtain⟨_,o,y,t⟩:=hl.mem G;rw[w] at y;cases y;show t vs rfl
 show yr (wpAny_frameOf_fun r hl F fun c n=>yr (wpAny_entryPlaceOf fun pl m=>?_));unfold EntryCells.newEntry newFields;show yr (Ys ?_ (m.sizeOk5 _ _ _ _ _));have i:c.get? e=some ⟨C,dx,.fields vs,#[]⟩:=(n.2.1 e l).trans w;generalize u:([d,.ref L,.none,rawInt L,.none]++(if pl.isEmpty then List.replicate 6 Value.none else pl)).toArray=v;have D:v[3]?=some (rawInt L):=by rw[<- u];first | (simp;done) | (rcases m with rfl | ⟨_,_,_,_,_,_,_,rfl⟩<;>simp)
 have j:=yv (h:=c) { cls:=.type "traceback",dict:=none,data:=.fields v } i;have g:c.objs.size≠e:=Yi (yN i);show wpAny_setField j rfl hsz (h _ c.objs.size (XR n.1.symm) ⟨⟨vs.setIfInBounds 1 (.ref c.objs.size),?_,by simp[hsz],by rw[Array.getElem?_setIfInBounds_ne (by decide)];show B⟩,⟨v,?_,D⟩,g⟩ ⟨fun b o q hb x=>?_,fun b o q hb x=>?_⟩)
 .rw [YE _ j rfl];rfl
 .rw [YA _ _ (Yh g)];show yX c rfl
 .have f:b≠e:=fun z=>hb (by simp[z]);rw[YA _ _ (Yh f)];show yv _ ((n.2.1 b x).trans q)
 .have f:b≠e:=fun z=>hb (by simp[z]);obtain⟨H,z⟩:=n.2.2 b o q;show⟨H,by rw[YA _ _ (Yh f)];show yv _ z⟩
theorem qcu{Q:Unit->Shared->Prop}(a:A.frames=some (env::outer))(hl:s.heap.FunFrames base (env::outer))(c:env.frame=some L)(b:s.heap.get? e=some ⟨C,dx,.fields vs,#[]⟩)(h1:vs[1]?=some .none)(d:vs[2]?=some .none)
  (h:∀ h' T,s.heap.objs.size<=T->Trc h' e C dx T (rawInt L)->Keep (frs (env::outer)) [e] s.heap h'->Q () { s with heap:=h' }):wpAny M A (noteFrame (.ref e) env) Q E s:=by
 unfold noteFrame;simp only[c];show yr (YD b rfl h1 ?_);rw[yF (by decide)];show qeF a hl c b (Y9.mp h1).1 d h
theorem qdg{T:Addr}{Q:Unit->Shared->Prop}(f:A.frames=some (env::outer))(hl:s.heap.FunFrames base (env::outer))(p:env.frame=some L)(t:Trc s.heap e C dx T .none)
  (h:∀ h' c,s.heap.objs.size<=c->Trc h' e C dx c (rawInt L)->Keep (frs (env::outer)) [e,T] s.heap h'->Q () { s with heap:=h' }):wpAny M A (noteFrame (.ref e) env) Q E s:=by
 obtain⟨⟨vs,n,h1,r⟩,⟨v,d,m⟩,i⟩:=t;unfold noteFrame;simp only[p];show yr (YD n rfl h1 ?_);rw[yI (show(Value.ref T != Value.none)=true from by simp)];show yr (YD d rfl m ?_);rw[yF (show ¬ ((Value.none==rawInt L)=true) from by simp[rawInt])];show yr (wpAny_setField d rfl (Y9.mp m).1 ?_);have other:∀ b,b≠T->(s.heap.update T (Obj.mapFields (·.setIfInBounds 3 Value.none))).get? b=s.heap.get? b:=fun b hb=>YA _ _ (Yh hb);have l:(s.heap.update T (Obj.mapFields (·.setIfInBounds 3 Value.none))).objs.size=s.heap.objs.size:=Heap.size_after_update ..;show qeF (s:={ s with heap:=s.heap.update T (Obj.mapFields (·.setIfInBounds 3 Value.none)) }) f (hl.of_keeps fun b o hb j=>?_) p ((other e (Yh i)).trans n) (Y9.mp h1).1 r fun h' c u t' k=>?_
 .have a:b≠T:=fun q=>by rw[q,d] at hb;cases hb;show j v rfl
  show⟨o,(other b a).trans hb,rfl⟩
 .show h h' c (by rw[<- l];show u) t' ⟨fun b o q hb g=>?_,fun b o q hb g=>?_⟩
  .have a:b≠T:=fun z=>hb (by simp[z]);show k.keep b o ((other b a).trans q) (fun z=>hb (by simp only[yA] at z;simp[z])) g
  .have a:b≠T:=fun z=>hb (by simp[z]);show k.slot b o ((other b a).trans q) (fun z=>hb (by simp only[yA] at z;simp[z])) g
theorem qb0{T:Addr}{Q:Unit->Shared->Prop}(t:Trc s.heap e C dx T fl)(h:∀ h',Trc h' e C dx T .none->(∀ b o,b≠T->s.heap.get? b=some o->h'.get? b=some o)->h'.objs.size=s.heap.objs.size->Q () { s with heap:=h' }) :
  wpAny M A (setFlight (.ref e) none) Q E s:=by
 obtain⟨⟨vs,f,h1,i⟩,⟨g,d,j⟩,c⟩:=t;have a:3<g.size:=(Y9.mp j).1;unfold setFlight;show yr (YD f rfl h1 ?_);rw[yI (show(Value.ref T != Value.none)=true from by simp)];show wpAny_setField d rfl a (h _ ⟨⟨vs,?_,h1,i⟩,⟨g.setIfInBounds 3 .none,?_,by simp[a]⟩,c⟩ (fun b o hb q=>?_) (Heap.size_after_update ..))
 .rw [YA _ _ c];show f
 .rw [YE _ d rfl];rfl
 .rw [YA _ _ (Yh hb)];show q
end
def CX1(P:Program)(w:World):CXT:=fun b H s E c s'=>∃(a C:Addr) (dx:Option Addr) (T:Addr) (H':Hp),c=.ref a/\s'.os=s.os/\AllBare s'.gens/\Un (frs b) [] H H' s.heap s'.heap/\HOk P w H' s'.heap /\
 H' a=some (XO a C dx)/\Trc s'.heap a (.ref C) dx T .none/\s.heap.objs.size<=T/\H' T=none/\E (.ref C) dx H'
section
variable{X:Cx}{pins:List (Addr×Obj)}{σ:St}{H:Hp}{s:Shared}
theorem qb1{T:Addr}(I:Inv X pins σ H s)(f:H a=some (XO a C dx))(k:Keep (frs X.stack) zs s.heap h')(hz:∀ b∈zs,b=a\/H b=none)(t:Trc h' a (.ref C) dx T fl):HOk X.prog X.w H h':=fun b u e=>by
 by_cases hb:b=a
 .subst hb;rw[f] at e;cases e;obtain⟨vs,q,_⟩:=t.ex;show XO.ok q
 .have d:∀ c o,H c=some o->c≠a->c∉zs/\c∉frs X.stack:=fun c o q n=>⟨fun z=>(hz c z).elim n fun y=>(by rw[y] at q;cases q),fun z=>(by have y:=I.stkFree c z;rw[y] at q;cases q)⟩;show(I.hok b u e).stay (fun c v hc r=>?_) (fun _ q=>q) fun _ _ q=>q;rcases hc with rfl | hc
  .show k.keep c v r (d c _ e hb).1 (d c _ e hb).2
  .have n:c≠a:=fun z=>by rw[z,f] at hc;cases hc
   show k.keep c v r (d c _ hc n).1 (d c _ hc n).2
theorem qeG{T:Addr}(I:Inv X pins σ H s)(h:X.ex=[])(r:H a=some (XO a C dx))(k:Keep (frs X.stack) zs s.heap h')(hz:∀ b∈zs,b=a\/X.s₀.heap.objs.size<=b)(t:Trc h' a (.ref C) dx T fl) :
  Un X.fs [] X.H₀ H X.s₀.heap h':=by
 have B:=I.base;rw[h] at B;have i:∀ b o,X.s₀.heap.get? b=some o->b≠X.env.locals:=fun b o e=>yO (yj (yN e) I.ok.above);have l:∀ b o,X.s₀.heap.get? b=some o->b≠a->b∉zs:=fun b o e n z=>(hz b z).elim n fun y=>absurd (yj (yN e) y) (Yy _);have p:∀ b,H b=none->b≠a:=fun b n z=>by rw[z,r] at n;cases n
 have j:∀ b o,X.s₀.heap.get? b=some o->b∉X.fs->b∉frs X.stack:=fun b o e n z=>(yx.mp (I.stkSub b z)).elim (i b o e) n;show⟨fun b o e n hb c=>?_,fun b o e n hb c=>?_,B.free,fun b o e c=>?_,B.tups,B.frzs,B.tbls⟩
 .show k.keep b o (B.keep b o e n hb c) (l b o e (p b (B.free b o e n c))) (j b o e hb)
 .obtain⟨v,q⟩:=B.slot b o e n hb c;have g:=l b o e (p b (B.free b o e n c));by_cases d:b∈frs X.stack
  .obtain⟨f,m⟩:=k.slot b _ q g d;show⟨f,m⟩
  .show⟨v,k.keep b _ q g d⟩
 .obtain⟨u,q⟩:=B.there b o e c;by_cases hb:b=a
  .subst hb;obtain⟨vs,z,_⟩:=t.ex;show⟨_,z⟩
  .have g:=l b o e hb;by_cases d:b∈frs X.stack
   .obtain⟨f,m⟩:=k.slot b _ q g d;show⟨_,m⟩
   .show⟨u,k.keep b _ q g d⟩
end
structure XOk(X:Cx)(EK:St->XK):Prop where
 pass:∀(pins:List (Addr×Obj)) (σ:St) (H:Hp) (s:Shared) (e:Value) (s':Shared),Inv X pins σ H s->CX1 X.prog X.w X.stack H s (EK σ) e s'->X.xe e s'
 rais:∀(pins:List (Addr×Obj)) (σ:St) (H:Hp) (s:Shared) (a C:Addr) (dx:Option Addr),Inv X pins σ H s->H a=some (XN a C dx)->EK σ (.ref C) dx (upd H a (XO a C dx))->X.xe (.ref a) s
 calm:X.calm=true
section
variable{P:Program}{w:World}{K:yg}{mg:Str->Option Value}{base:Heap}{N:LS}{qual:Str}{scope:Scope}{f:Addr}{cd:Value}{A:Around}{outer:List Env}{s0:Shared}{H0:Hp}{E:XK}
theorem qdh:XOk (qex (CX1 P w) P w K mg base N qual scope f cd A outer s0 H0 E) fun _=>E where
 calm:=rfl
 pass:=by
  intro pins σ H s O s' I m;obtain⟨a,C,dx,T,H',rfl,D,l,un,B,g,t,M,v,q⟩:=m;have J:=I.call' (s':=s') (H':=H') (ch:=[]) D un B l (fun b z=>absurd z (by simp));show wpAny _ _ (leaving _ _) _ _ _;unfold leaving;show yr (qdg (base:=base) J.ok.frames J.stack rfl t fun h' d h t' k=>?_);show qb0 (s:={ s' with heap:=h' }) t' fun u i p L=>?_;have F:s0.heap.objs.size<=s.heap.objs.size:=I.sz;have j:=J.sz
  have r:Keep (frs (envOfC qual scope s0.heap.objs.size f cd::outer)) [a,T,d] s'.heap u:=by
   show⟨fun b o e z n=>?_,fun b o e z n=>?_⟩
   .simp only[yx,yQ,Yv,Kh] at z;show p b o z.2.2 (k.keep b o e (by simp[z.1,z.2.1]) n)
   .simp only[yx,yQ,Yv,Kh] at z;obtain⟨G,y⟩:=k.slot b o e (by simp[z.1,z.2.1]) n;show⟨G,p b _ z.2.2 y⟩
  have c:H' d=none:=J.hok.fresh h;show⟨a,C,dx,d,H',rfl,J.os,l,qeG J rfl g r (fun b hb=>?_) i,qb1 J g r (fun b hb=>?_) i,g,i,yi j h,c,q⟩
  .simp only[yx,yQ,Yv] at hb;rcases hb with rfl | rfl | rfl
   .show .inl rfl
   .show .inr (yi F M)
   .show .inr (yi j h)
  .simp only[yx,yQ,Yv] at hb;rcases hb with rfl | rfl | rfl
   .show .inl rfl
   .show .inr v
   .show .inr c
 rais:=by
  intro pins σ H s a C dx I e q;obtain⟨⟨a0,m⟩,_⟩:=(show ObjOk _ _ H s.heap a (XN a C dx) from I.hok a _ e);have J:Inv _ pins σ (upd H a (XO a C dx)) s:=I.write (x:=a) (e:=a) (o:=XO a C dx) (h':=s.heap) (t':=s.toks) (by rw[e];show YU) (.inl rfl) (fun _ _ _ q=>q) ⟨_,m⟩ (XO.ok m);show wpAny _ _ (leaving _ _) _ _ _;unfold leaving;show yr (qcu (base:=base) J.ok.frames J.stack rfl m rfl rfl fun h' d h t' k=>?_);show qb0 (s:={ s with heap:=h' }) t' fun u i p L=>?_;have j:=J.sz;have g:upd H a (XO a C dx) a=some (XO a C dx):=qb
  have r:Keep (frs (envOfC qual scope s0.heap.objs.size f cd::outer)) [a,d] s.heap u:=by
   show⟨fun b o e z n=>?_,fun b o e z n=>?_⟩
   .simp only[yx,yQ,Yv,Kh] at z;show p b o z.2 (k.keep b o e (by simp[z.1]) n)
   .simp only[yx,yQ,Yv,Kh] at z;obtain⟨G,y⟩:=k.slot b o e (by simp[z.1]) n;show⟨G,p b _ z.2 y⟩
  have c:upd H a (XO a C dx) d=none:=J.hok.fresh h;show⟨a,C,dx,d,_,rfl,J.os,J.bare,qeG J rfl g r (fun b hb=>?_) i,qb1 J g r (fun b hb=>?_) i,g,i,yi j h,c,q⟩
  .simp only[yx,yQ,Yv] at hb;rcases hb with rfl | rfl
   .show .inl rfl
   .show .inr (yi j h)
  .simp only[yx,yQ,Yv] at hb;rcases hb with rfl | rfl
   .show .inl rfl
   .show .inr c
end
def qeH(K:yg)(c:St->XK)(te:TE):TS:=fun _ σ H=>te σ H fun x b=>∃ a C dx,x=.ref a/\b a=some (XN a C dx)/\XAt K C/\c σ (.ref C) dx (upd b a (XO a C dx))
section
variable{X:Cx}{EK:St->XK}{e:Expr}{te:TE}{pos:Pos}{K:yg}
theorem xraise{x:Sem Value}{Q:Flow->Shared->Prop}(p:A.handled=none)
  (h:wpAny M A x (fun v b=>∃ a C dx a0,v=.ref a/\K.In b.heap/\XAt K C/\b.heap.get? a=some ⟨.ref C,dx,.fields (xfs a0),#[]⟩/\E (.ref a) b) E s):wpAny M A (raiseStmt env (some x) none) Q E s:=by
 unfold raiseStmt;show yr (YL h (fun v b h1=>?_) fun _ _ z=>z);obtain⟨a,C,dx,a0,rfl,f,c,o,n⟩:=h1;obtain⟨F,H,N,bs,l,j,sn,sub,ab,m,r,u,w,y,B,D,i,q⟩:=qdd f c.xc;have e:(Value.ref C::l).contains (.type "BaseException")=true:=by rw[Yu,qaQ q (by simp),kz]
 obtain⟨t,g,d,tk,G⟩:=b
 repeat (first | with_reducible show YK o ?_ | with_reducible show YK i ?_ | (with_reducible show xC i ?_;rw[e]) | wp_step)
 show wpAny_raiseNew_none p n
theorem k_raise(j:X.K=K)(f:XOk X EK)(l:PE X e te):PS X (.Raise (some e) none pos) (qeH K EK te):=by
 subst j;intro pins s σ H D I h;rw[arm_exec_Raise];show yr (XE (xraise (K:=X.K) (I.ok.hd f.calm) ?_));show yr (thn (l pins s σ H _ I h) fun v i ⟨x,d,b,n,a,C,dx,ex,g,c,q⟩=>yr (XE (yu ?_)));subst ex;cases n;obtain⟨⟨a0,m⟩,_⟩:=(show ObjOk _ _ d i.heap a (XN a C dx) from b.hok a _ g);show⟨a,C,dx,a0,rfl,b.kIn,c,m,f.rais pins σ d i a C dx b g q⟩
end
def tCallS(sp:Sp)(a:St->XK)(t:TA):TE:=fun σ H Q=>t σ H fun vs b=>sp vs b Q (a σ)
def qeI(C:Addr)(m:Str)(sp:Sp)(b:St->XK)(d:TE)(t:TA):TE:=fun σ H Q=>d σ H fun x a=>MeR C m x a (t σ a fun vs c=>sp (x::vs) c Q (b σ))
def tMakeS(C:Addr)(sp:Sp)(b:St->XK)(t:TA):TE:=fun σ H Q=>t σ H fun vs a=>∀ x dx,a x=none->a dx=none->dx≠x ->
 sp (.ref x::vs) (upd (upd a dx (.own x)) x (.ins C dx [])) (fun v c=>v=.non/\Q (.ref x) c) (b σ)
structure MethOk(P:Program)(w:World)(K:yg)(mg:Str->Option Value)(base:Heap)(CX:CXT)(k:Nat)(C:Addr)(m:Str)(ps:LS)(sp:Sp):Prop where
 ex:∃ f fd,FnOk P w K mg base CX k f fd ps sp/\Meth K C m f/\Binds K fd ps []
 cl:Cls K C
structure MakeOk(P:Program)(w:World)(K:yg)(mg:Str->Option Value)(base:Heap)(CX:CXT)(k:Nat)(C:Addr)(x:Str)(ps:LS)(sp:Sp):Prop where
 ex:∃ f fd,FnOk P w K mg base CX k f fd ps sp/\Mk K C f/\Binds K fd ps []
 mg_:mg x=some (.ref C)
structure XMakeOk(P:Program)(w:World)(K:yg)(mg:Str->Option Value)(base:Heap)(k:Nat)(C:Addr)(x:Str)(ps:LS)(sp:Sp):Prop where
 ex:∃ f fd,FnOk P w K mg base CX0 k f fd ps sp/\XMk K C f/\Binds K fd ps []
 mg_:mg x=some (.ref C)
section
variable{X:Cx}{EK:St->XK}{k:Nat}{f C:Addr}{fd:FuncData}{ps:LS}{sp:Sp}{x m:Str}{p pos apos:Pos}{e o:Expr}{es:List Expr}{ta:TE}{t:TA}
theorem run_fnS{Q:VK}{vs:List V}(F:FnOk X.prog X.w X.K X.mg X.base (CX1 X.prog X.w) k f fd ps sp)(d:Room k X.A)(hb:Binds X.K fd ps [])(c:XOk X EK)
  (I:Inv X pins σ H s) (r:Vals vs us) (h:sp vs H Q (EK σ)):wpAny (model X.prog X.w) X.A (call (.ref f) us) (EP X pins σ Q) X.xe s:=by
 have hl:(us++[]).length=ps.length:=by rw[Yd,<- r.length];show F.len _ _ _ _ h
 have b:=hb s us I.kIn hl;rw[Yd] at b;show Xl (XS (F.run X.A X.stack s H ⟨us,[]⟩ us vs Q (EK σ) d I.env0 b r h) fun r s' a=>?_)
 cases r with
 | error e=>show c.pass pins σ H s e s' I a
 | ok fl =>
  cases fl with
  | ret u=>show I.after a
  | _=>show False.elim a
theorem qdi{pl:Sem Bool}(D:MethOk X.prog X.w X.K X.mg X.base (CX1 X.prog X.w) k C m ps sp)(z:Room k X.A)(n:XOk X EK)(y:PE X o ta)(v:PA X (e::es) t)
  (c:starEach (e::es) X.env=(false,eval e X.env)::starEach es X.env:=by rfl) (b:(backTo pos (starEach es X.env)).any (·.1)=false:=by rfl)
  (B:eval (.Call (.Attribute o m apos) (e::es) [] pos) X.env=(do
   let ov <- eval o X.env
   standAt apos.atName
   let (f,first) <- holding [ov] (getMethod ov m pl)
   callWith pos f first (backTo pos (starEach (e::es) X.env)) (backToKw pos (keywordEach [] X.env))):=by rfl) :
  PE X (.Call (.Attribute o m apos) (e::es) [] pos) (qeI C m sp EK ta t):=by
 obtain⟨f,fd,F,i,hb⟩:=D.ex;intro pins s σ H Q I h;show xL (pl:=pl) (thn (y pins s σ H _ I h) fun u J ⟨x,j,d,G,a,dx,fs,ex,p,l,q⟩=>?_) B;subst ex;obtain rfl:u=Value.ref a:=G;show qa2 d p D.cl i l ?_;show xI (first:=[.ref a]) (h₀:=X.base) I.ok.mod.kin i.kp (thn (v pos pins J σ j _ d q) fun us M ⟨vs,L,g,r,E⟩=>⟨g.kIn,?_⟩) c b;show run_fnS (us:=.ref a::us) (vs:=.ref a::vs) F z hb n g (.cons rfl r) E
theorem pe_xm(D:XMakeOk X.prog X.w X.K X.mg X.base k C x ps sp)(h:Room (k+1) X.A)(c:PA X (e::es) t)(g:Gl X x:=by rfl)(a:(x==("__debug__":Str))=false:=by decide)
  (d:starEach (e::es) X.env=(false,eval e X.env)::starEach es X.env:=by rfl) (b:(backTo pos (starEach es X.env)).any (·.1)=false:=by rfl):PE X (.Call (.Name x p) (e::es) [] pos) (qdZ C sp E0 t):=by
 obtain⟨f,fd,F,M,hb⟩:=D.ex;show pe_xmake M F h g D.mg_ hb qz c a d b
theorem qB{pl:Sem Bool}(D:MethOk X.prog X.w X.K X.mg X.base CX0 k C m ps sp)(h:Room k X.A)(d:PE X o ta)(c:PA X (e::es) t)
  (b:starEach (e::es) X.env=(false,eval e X.env)::starEach es X.env:=by rfl) (a:(backTo pos (starEach es X.env)).any (·.1)=false:=by rfl)
  (i:eval (.Call (.Attribute o m apos) (e::es) [] pos) X.env=(do
   let ov <- eval o X.env
   standAt apos.atName
   let (f,first) <- holding [ov] (getMethod ov m pl)
   callWith pos f first (backTo pos (starEach (e::es) X.env)) (backToKw pos (keywordEach [] X.env))):=by rfl) :
  PE X (.Call (.Attribute o m apos) (e::es) [] pos) (qdA C m sp [] E0 ta t):=by
 obtain⟨f,fd,F,g,hb⟩:=D.ex;show pe_meth (pl:=pl) d D.cl g F h hb .nil qz c b a i
theorem ji{pl:Sem Bool}(D:MethOk X.prog X.w X.K X.mg X.base CX0 k C m ps sp)(c:Room k X.A)(a:PE X o ta)
  (d:eval (.Call (.Attribute o m apos) [] [] pos) X.env=(do
   let ov <- eval o X.env
   standAt apos.atName
   let (f,first) <- holding [ov] (getMethod ov m pl)
   callWith pos f first (backTo pos (starEach [] X.env)) (backToKw pos (keywordEach [] X.env))):=by rfl) :
  PE X (.Call (.Attribute o m apos) [] [] pos) (qdA C m sp [] E0 ta qef):=by
 obtain⟨f,fd,F,b,hb⟩:=D.ex;show pe_meth0 (pl:=pl) a D.cl b F c hb .nil qz d
end
section
variable{P:Program}{w:World}{K:yg}{mg:Str->Option Value}{base:Heap}
theorem Fun.ok1{st:Stmt}{h:FuncData}{g:LS}{k:Nat}(F:Fun K x qual st f h)(S:FnScope N g (qg st))(len:∀ vs H Q E,sp vs H Q E->vs.length=g.length)
  (c:∀(b:Value) (A:Around) (a:List Env) (s:Shared) (H:Hp) (vs:List V) (Q:VK) (E:XK),Room k (A.deeper (envOfC qual (qg st) s.heap.objs.size f b))->sp vs H Q E ->
   ∃ t,PSs (qex (CX1 P w) P w K mg base N qual (qg st) f b A a s H E) (zy st) t/\t { nx:=fun _ H'=>Q .non H',rt:=Q } (start N vs) H):FnOk P w K mg base (CX1 P w) (k+1) f h g sp:=by
 obtain⟨o,od,kV,i,p,n,b,ct,m,rfl,l,d⟩:=F.ex;show qfr l d S len fun A a s H vs Q E j e=>c b A a s H vs Q E j e
end
noncomputable abbrev Cx.tried(X:Cx)(pn:List (Addr×Obj))(E:Value->Shared->Prop):Cx:={ X with pn:=pn,xe:=E }
noncomputable abbrev Cx.hand(X:Cx)(a:Addr):Cx:={ X with A:=X.A.mark (some (.ref a)),calm:=false,xe:=fun _ _=>False }
section
variable{X:Cx}{pins pins':List (Addr×Obj)}{σ:St}{H:Hp}{s:Shared}{E:Value->Shared->Prop}{a:Addr}
theorem Inv.tried(I:Inv X pins σ H s)(E:Value->Shared->Prop):Inv (X.tried (X.pn++pins) E) [] σ H s:=
 ⟨⟨I.ok.mod,I.ok.kind,I.ok.glob,I.ok.blt,I.ok.above,I.ok.inj,I.ok.has,I.ok.cab,I.ok.hd,I.ok.frames,I.ok.stk,I.ok.exf,I.ok.bs,I.ok.bsz,I.ok.noex,I.ok.exfs,I.ok.funs,I.ok.frf⟩,I.os,I.bare,I.base,I.loc,I.cell,I.free,I.freeC,
  fun p a=>I.pin p (by have a:p∈(X.pn++pins)++[]:=a;rw[Yd] at a;show a),I.hok,I.len⟩
theorem Inv.untried(I:Inv (X.tried (X.pn++pins) E) pins' σ H s):Inv X pins σ H s:=
 ⟨⟨I.ok.mod,I.ok.kind,I.ok.glob,I.ok.blt,I.ok.above,I.ok.inj,I.ok.has,I.ok.cab,I.ok.hd,I.ok.frames,I.ok.stk,I.ok.exf,I.ok.bs,I.ok.bsz,I.ok.noex,I.ok.exfs,I.ok.funs,I.ok.frf⟩,I.os,I.bare,I.base,I.loc,I.cell,I.free,I.freeC,
  fun p a=>I.pin p (yG _ a),I.hok,I.len⟩
theorem Inv.hand(I:Inv X pins σ H s)(a:Addr):Inv (X.hand a) pins σ H s:=
 ⟨⟨I.ok.mod,I.ok.kind,I.ok.glob,I.ok.blt,I.ok.above,I.ok.inj,I.ok.has,I.ok.cab,(fun h=>nomatch h),I.ok.frames,I.ok.stk,I.ok.exf,I.ok.bs,I.ok.bsz,I.ok.noex,I.ok.exfs,I.ok.funs,I.ok.frf⟩,I.os,I.bare,I.base,I.loc,I.cell,I.free,I.freeC,I.pin,I.hok,I.len⟩
theorem Inv.unhand(hc:X.calm=true->X.A.handled=none)(I:Inv (X.hand a) pins σ H s):Inv X pins σ H s:=
 ⟨⟨I.ok.mod,I.ok.kind,I.ok.glob,I.ok.blt,I.ok.above,I.ok.inj,I.ok.has,I.ok.cab,hc,I.ok.frames,I.ok.stk,I.ok.exf,I.ok.bs,I.ok.bsz,I.ok.noex,I.ok.exfs,I.ok.funs,I.ok.frf⟩,I.os,I.bare,I.base,I.loc,I.cell,I.free,I.freeC,I.pin,I.hok,I.len⟩
structure Loose(X:Cx)(pins:List (Addr×Obj))(H:Hp)(T:Addr):Prop where
 hn:H T=none
 lo:X.s₀.heap.objs.size<=T
 nl:T≠X.env.locals
 nf:T∉X.fs
 nc:∀ x c,X.env.cells.lookup x=some c->c≠T
 np:∀ p∈X.pn++pins,p.1≠T
theorem Inv.loose(I:Inv X pins σ H s){T:Addr}(a:s.heap.objs.size<=T)(hn:H' T=none):Loose X pins H' T where
 hn:=hn
 lo:=yi I.sz a
 nl:=Yi (yj I.lt a)
 nf:=I.nofs a
 nc:=fun x c e=>by
  obtain⟨v,o,b,_⟩:=I.cell x c e;show yO (yj (yN b) a)
 np:=fun p d=>yO (yj (yN (I.pin p d).1) a)
theorem Inv.noted{T:Addr}(I:Inv X pins σ H s)(f:H a=some (XO a C dx))(k:Keep (frs X.stack) zs s.heap h')(hz:∀ b∈zs,b=a\/Loose X pins H b)(t:Trc h' a (.ref C) dx T fl) :
  Inv X pins σ H { s with heap:=h' }:=by
 have i:=qb1 I f k (fun b hb=>(hz b hb).imp (fun e=>e) fun l=>l.hn) t;have h:∀ b,H b=none->b∉zs.filter (fun b=>decide (b≠a))->b∉zs:=fun b n z y=>z (yp.mpr ⟨y,yL fun e=>by rw[e,f] at n;cases n⟩);show I.call (g':=s.gens) (t':=s.toks) (d':=s.drawn) (ch:=zs.filter fun b=>decide (b≠a)) ⟨fun b o e n hb d=>k.keep b o e (h b n d) hb,fun b o e n hb d=>k.slot b o e (h b n d) hb,fun _ _ _ n _=>n,fun b o e d=>?_,fun _ _ e=>e,fun _ _ _ e=>e,
  fun b j e=>⟨#[],by rw[e];simp⟩⟩ i I.bare fun b hb=>?_
 .by_cases c:b=a
  .subst c;obtain⟨vs,q,_⟩:=t.ex;show⟨_,q⟩
  .have z:b∉zs:=fun y=>d (yp.mpr ⟨y,yL c⟩);by_cases g:b∈frs X.stack
   .obtain⟨m,q⟩:=k.slot b o e z g;show⟨_,q⟩
   .show⟨o,k.keep b o e z g⟩
 .obtain⟨y,q⟩:=yp.mp hb;rcases hz b y with e | l
  .show absurd e (yk q)
  .show⟨.inr l.lo,l.nl,l.nc,l.np⟩
theorem unbind_ok{i:Nat}{Q:Unit->Shared->Prop}(I:Inv X pins σ H s)(J:X.N.Nodup)(B:X.N[i]?=some x)(f:X.env.scope.names.lookup x=some .local)(hv:σ[i]?=some (some v))
  (h:∀ s',Inv X pins (σ.set i none) H s'->Q () s'):wpAny M A (unbindName X.env x) Q E s:=by
 obtain⟨m,L,hl⟩:=id I.loc;obtain⟨u,ru,P⟩:=hl i x v B hv (.inl f)
 have K:m x=some u:=by
  rcases P with⟨_,e⟩ | ⟨k,_⟩
  .show e
  .have k':X.env.scope.names.lookup x=some .cell\/X.env.scope.names.lookup x=some .free:=k;rw[f] at k';rcases k' with z | z<;>cases z
 have r:(X.env.scope.kind==.class||(X.env.scope.kind==.module&&X.env.locals != X.env.globals))=false:=by rw[I.ok.kind];rfl
 show wpAny_unbindName_local f L K r fun h' u' F g=>?_;have a:∀ b o,X.s₀.heap.get? b=some o->b≠X.env.locals:=fun b o e=>yO (yj (yN e) I.ok.above);show h _ ⟨I.ok,I.os,I.bare,⟨fun b o e n hb f=>?_,fun b o e n hb f=>?_,I.base.free,fun b o e f=>?_,I.base.tups,I.base.frzs,I.base.tbls⟩,⟨_,F,fun j y Z l t G=>?_⟩,fun y c e=>?_,I.free,I.freeC,fun p O=>?_,fun b U e=>?_,by simpa using I.len⟩
 .show(g.2 b (a b o e)).trans (I.base.keep b o e n hb f)
 .obtain⟨Y,l⟩:=I.base.slot b o e n hb f;show⟨Y,(g.2 b (a b o e)).trans l⟩
 .obtain⟨T,l⟩:=I.base.there b o e f;show⟨T,(g.2 b (a b o e)).trans l⟩
 .by_cases C:j=i
  .subst C;have D:j<σ.length:=by rw[I.len];show(yc.mp B).1
   rw[Xk D] at t;cases t
  .rw [xu (Yh C)] at t;obtain⟨w,W,q⟩:=hl j y Z l t G;show⟨w,W,?_⟩;rcases q with⟨k,e⟩ | ⟨k,c,e,z⟩
   .have S:y≠x:=fun e=>C (qbU J l (e ▸ B));show .inl ⟨k,by simp[S,e]⟩
   .show .inr ⟨k,c,e,z.sameBut g (I.cne y c e)⟩
 .obtain⟨w,z⟩:=I.cell y c e;show⟨w,z.sameBut g (I.cne y c e)⟩
 .obtain⟨e,n,ne,R,d⟩:=I.pin p O;show⟨(g.2 p.1 ne).trans e,n,ne,R,d⟩
 .show(I.hok b U e).stay (fun c w hc q=>(g.2 c ?_).trans q) (fun _ q=>q) fun _ _ q=>q;rintro rfl;rcases hc with rfl | hc
  .rw [I.free] at e;cases e
  .rw [I.free] at hc;cases hc
end
structure Held(X:Cx)(pins:List (Addr×Obj))(H:Hp)(h:Heap)(a C:Addr)(dx:Option Addr):Prop where
 at_:H a=some (XO a C dx)
 tr:∃ T,Trc h a (.ref C) dx T .none/\Loose X pins H T
def PH(X:Cx)(a C:Addr)(dx:Option Addr)(b:List ExceptHandler)(c:TS):Prop:=
 ∀(pins:List (Addr×Obj)) (s:Shared) (σ:St) (H:Hp) (D:Ends),Inv X pins σ H s->Held X pins H s.heap a C dx->c D σ H->wpAny (model X.prog X.w) X.A (handleBy (.ref a) X.env b) (SP X pins D) X.xe s
def thNil:TS:=fun _ _ _=>False
def thAs(K:yg)(a C D:Addr)(i:Nat)(d rest:TS):TS:=fun Z σ H=>∃ b,PySem.W.mroIn K C (.ref D)=some b/\XAt K D/\XAt K C /\
 if b=true then d { nx:=fun c H'=>Z.nx (c.set i none) H',rt:=Z.rt,bk:=fun c H'=>Z.bk (c.set i none) H',ct:=fun c H'=>Z.ct (c.set i none) H' } (σ.set i (some (.ref a))) H else rest Z σ H
theorem xmatch{K:yg}{o:Obj}{Q:Bool->Shared->Prop}(X:K.In s.heap)(m:s.heap.get? a=some o)(hc:o.cls=.ref C)(d:XAt K D)(hb:PySem.W.mroIn K C (.ref D)=some b)(q:Q b s) :
  wpAny M A (excMatches (.ref a) (.ref D)) Q E s:=by
 obtain⟨y,B,N,bs,i,h,sn,sub,ab,j,n,t,u,v,w,x,e,l⟩:=qdd X d.xc;have c:(Value.ref D::i).contains (.type "BaseException")=true:=by rw[Yu,qaQ l (by simp),kz]
 have f:=tc_notTuple;have L:=xB (M:=M) X hb;obtain⟨r,g,p,tk,z⟩:=s;unfold excMatches
 repeat (first | with_reducible show YK e ?_ | (with_reducible show YK m ?_;rw[hc]) | (with_reducible show xC e ?_;rw[c]) | with_reducible show L.at ?_ | wp_step)
 cases b<;>(wp_walk;show q)
section
variable{X:Cx}{a C D:Addr}{dx:Option Addr}{c n:Str}{cp pos:Pos}{b0:Stmt}{body:List Stmt}{rest:List ExceptHandler}{tb tr:TS}{i:Nat}{K:yg}
theorem ph_nil:PH X a C dx [] thNil:=fun _ _ _ _ _ _ _ h=>h.elim
theorem suite_as{R:Result->Shared->Prop}{e:Value}
  (h:wpAny (model prog w) A (setFlight e none) (fun _ a=>wpAny (model prog w) A (bindName env n e) (fun _ b=>wpAny (model prog w) A (execs (b0::body) env) (fun f c=>R (.ok f) c) (fun _ _=>False) b) (fun _ _=>False) a) (fun _ _=>False) s) :
  codeAny (model prog w) A (.handlers e [.ExceptHandler none (some n) (b0::body) pos] env) R s:=by
 show codeAny_of_tree ?_;show wpAny _ A (do return Fin.done (<- (handleWith e env [.ExceptHandler none (some n) (b0::body) pos]).onRaise (fun x=>do noteFrame x env;theTreesLotGoes x))) _ _ s;show yr (wpAny_noted ?_);unfold handleWith;show yr (XE (yr (YL h (fun _ a h1=>yr (YL h1 (fun _ b d=>yr (X8 (YL d (fun f c g=>yu (yu g)) fun _ _ z=>z.elim))) fun _ _ z=>z.elim)) fun _ _ z=>z.elim)))
theorem ph_as(U:X.K=K)(x:X.N.Nodup)(p:X.N[i]?=some n)(l:X.env.scope.names.lookup n=some .local)(Y:Gl X c)(hm:X.mg c=some (.ref D))(hb:PSs (X.hand a) (b0::body) tb)(hr:PH X a C dx rest tr)
  (B:(c==("__debug__":Str))=false:=by decide):PH X a C dx (.ExceptHandler (some (.Name c cp)) (some n) (b0::body) pos::rest) (thAs K a C D i tb tr):=by
 subst U;intro pins s σ H Z I hl h;obtain⟨b,y,xd,xc,q⟩:=h;obtain⟨vs,W⟩:=(show IsX H a C dx from .inr hl.at_).get I.hok;show wpAny_handleBy_cons (codeAny_handlers_test ?_) (by intro q;cases q);have S:=I.hand a;show qaZ (X:=X.hand a) S Y hm (xmatch I.kIn W rfl xd y ?_) B
 cases b with
 | false=>show hr pins s σ H Z I hl q
 | true =>
  obtain⟨T,t,lo⟩:=hl.tr;show suite_as (qb0 t fun h1 t1 L aa=>?_);have kk:Keep (frs X.stack) [T] s.heap h1:=⟨fun b o e z _=>L b o (by simpa using z) e,fun b o e z _=>⟨o.slots,L b o (by simpa using z) e⟩⟩;have O:=I.noted hl.at_ kk (fun b hb=>.inr (by rw[yA.mp hb];show lo)) t1;have P:=O.hand a;show wpAny_bindName (qa9 (X:=X.hand a) P x p (.inl l) (v:=.ref a) rfl (fun s2 R=>?_) (.inr l));have q':tb { nx:=fun d H'=>Z.nx (d.set i none) H',rt:=Z.rt,bk:=fun d H'=>Z.bk (d.set i none) H',ct:=fun d H'=>Z.ct (d.set i none) H' } (σ.set i (some (.ref a))) H:=q;show thn (hb pins s2 _ H _ R q') fun f M m=>?_
  have fin:∀{d:St} {H':Hp} {Q:Unit->Shared->Prop},Inv (X.hand a) pins d H' M->(∀ j,Inv X pins (d.set i none) H' j->Q () j)->wpAny (model X.prog X.w) X.A (do bindName X.env n .none;unbindBehindTheSuite X.env n pos) Q X.xe M:=fun{d H' Q} J k=>by
   have F:=Inv.unhand I.ok.hd J;have E:i<d.length:=by rw[F.len];show(yc.mp p).1
   show yr (wpAny_bindName (qa9 F x p (.inl l) (v:=.non) rfl (fun j g=>?_) (.inr l)));show wpAny_onRaise (unbind_ok g x p l (v:=.non) (by rw[Xk E]) fun s5 G=>k s5 ?_);rw[List.set_set] at G;show G
  cases f with
  | next=>obtain⟨d,H',J,z⟩:=m;show fin J fun j g=>⟨_,H',g,z⟩
  | brk=>obtain⟨d,H',J,z⟩:=m;show fin J fun j g=>⟨_,H',g,z⟩
  | cont=>obtain⟨d,H',J,z⟩:=m;show fin J fun j g=>⟨_,H',g,z⟩
  | ret u=>obtain⟨v,d,H',J,r,z⟩:=m;show fin J fun j g=>⟨v,_,H',g,r,z⟩
end
def tTry(X:Cx)(b:List Stmt)(g:List ExceptHandler)(te:TS):TS:=fun D σ H=>∃(d:St->XK) (e:TS),(∀ pn xe,XOk (X.tried pn xe) d->PSs (X.tried pn xe) b e) /\
 e { nx:=te D,rt:=D.rt,bk:=D.bk,ct:=D.ct } σ H/\∀(a C:Addr) (dx:Option Addr) (c:St) (H':Hp),d c (.ref C) dx H'->H' a=some (XO a C dx)->∃ f,PH X a C dx g f/\f D c H'
section
variable{X:Cx}{body orelse:List Stmt}{h0:ExceptHandler}{hs:List ExceptHandler}{pos:Pos}{te:TS}
theorem ps_try(hc:X.calm=true)(j:X.stack=X.env::X.outer)(y:X.env.frame=some X.env.locals)(ho:PSs X orelse te):PS X (.Try body (h0::hs) orelse [] pos) (tTry X body (h0::hs) te):=by
 intro pins s σ H D I h;obtain⟨R,tb,hb,q,hh⟩:=h;have E:X.A.frames=some (X.env::X.outer):=by rw[<- j];show I.ok.frames
 let m:Value->Shared->Prop:=fun e d=>∃(a C:Addr) (dx:Option Addr) (c:St) (H':Hp),e=.ref a/\Inv X pins c H' d/\H' a=some (XO a C dx)/\R c (.ref C) dx H' /\
  ((∃ T,Trc d.heap a (.ref C) dx T .none/\Loose X pins H' T)\/∃ a0,d.heap.get? a=some ⟨.ref C,dx,.fields (xfs a0),#[]⟩)
 have Z:XOk (X.tried (X.pn++pins) m) R:=by
  show⟨fun pins' c L d e s2 J l=>?_,fun pins' c L d a C dx J e z=>?_,hc⟩
  .obtain⟨a,C,dx,T,H',rfl,P,N,un,O,n,t,hT,M,z⟩:=l;have p:=J.call' (s':=s2) (H':=H') (ch:=[]) P un O N (fun b z=>absurd z (by simp));have G:=Inv.untried J;show⟨a,C,dx,c,H',rfl,Inv.untried p,n,z,.inl ⟨T,t,G.loose hT M⟩⟩
  .have G:=Inv.untried J;obtain⟨⟨a0,l⟩,_⟩:=(show ObjOk _ _ L d.heap a (XN a C dx) from G.hok a _ e);have p:Inv X pins c (upd L a (XO a C dx)) d:=G.write (x:=a) (e:=a) (o:=XO a C dx) (h':=d.heap) (t':=d.toks) (by rw[e];show YU) (.inl rfl) (fun _ _ _ q=>q) ⟨_,l⟩ (XO.ok l);show⟨a,C,dx,c,_,rfl,p,qb,z,.inr ⟨a0,l⟩⟩
 have B:=hb (X.pn++pins) m Z [] s σ H _ (I.tried m) q;show wpAny_Try_except (YL B (fun f d K=>?_) fun e d he=>?_)
 .cases f with
  | next=>obtain⟨c,H',J,z⟩:=K;show ho pins d c H' D (Inv.untried J) z
  | brk=>obtain⟨c,H',J,z⟩:=K;show⟨c,H',Inv.untried J,z⟩
  | cont=>obtain⟨c,H',J,z⟩:=K;show⟨c,H',Inv.untried J,z⟩
  | ret u=>obtain⟨v,c,H',J,r,z⟩:=K;show⟨v,c,H',Inv.untried J,r,z⟩
 .obtain⟨a,C,dx,c,H',rfl,J,n,z,tt⟩:=he;obtain⟨th,hp,hq⟩:=hh a C dx c H' z n;have F:d.heap.FunFrames X.base (X.env::X.outer):=by rw[<- j];show J.stack
  have S:∀(h':Heap) (i:Addr) (zs:LQ),d.heap.objs.size<=i->Trc h' a (.ref C) dx i (rawInt X.env.locals)->Keep (frs (X.env::X.outer)) zs d.heap h'->(∀ b∈zs,b=a\/Loose X pins H' b) ->
    wpAny (model X.prog X.w) X.A (setFlight (.ref a) none) (fun _ s3=>wpAny (model X.prog X.w) X.A (handleBy (.ref a) X.env (h0::hs)) (SP X pins D) X.xe s3) X.xe { d with heap:=h' }:=fun h' i zs g t' k hz=>by
   have lo:=J.loose g (J.hok.fresh g);have p:=J.noted n (by rw[j];show k) hz t';show qb0 (s:={ d with heap:=h' }) t' fun h2 W U aa=>?_;have kk:Keep (frs X.stack) [i] h' h2:=⟨fun b o e z _=>U b o (by simpa using z) e,fun b o e z _=>⟨o.slots,U b o (by simpa using z) e⟩⟩;have Y:=p.noted n kk (fun b hb=>.inr (by rw[yA.mp hb];show lo)) W;show hp pins _ c H' D Y ⟨n,i,W,lo⟩ hq
  rcases tt with⟨T,t,lo⟩ | ⟨a0,l⟩
  .show qdg (base:=X.base) E F y t fun h' i g t' k=>S h' i _ g t' k fun b hb=>?_;simp only[yx,yQ,Yv] at hb;rcases hb with rfl | rfl
   .show .inl rfl
   .show .inr lo
  .show qcu (base:=X.base) E F y l rfl rfl fun h' i g t' k=>S h' i _ g t' k fun b hb=>?_;show .inl (yA.mp hb)
end
def TyX(K:yg)(H:Hp)(x:V)(t:Value):Prop:=TyOf K H x t\/∃ a C dx,x=.ref a/\t=.ref C/\IsX H a C dx/\XAt K C/\∀ d,dx=some d->∃ fs,H d=some (.xd fs)
theorem TyX.kit{x:V}(I:Inv X pins σ H s)(e:RelV x u)(ty:TyX X.K H x t):∃ P:Heap->Prop,PySem.W.KitX X.K u t P/\P s.heap/\u≠.builtin "__main__.__loader__#opaque":=by
 rcases ty with ty | ⟨a,C,dx,rfl,rfl,hx,c,hd⟩
 .show ty.kit I e
 .cases e;obtain⟨vs,b⟩:=hx.get I.hok
  cases dx with
  | none=>show⟨_,qde (od:=none) c,⟨b,rfl,rfl,YU⟩,fun z=>nomatch z⟩
  | some d =>
   obtain⟨fs,f⟩:=hd d rfl;obtain⟨od,g,h1,_⟩:=qeD I f;show⟨_,qde (od:=some od) c,⟨b,rfl,rfl,h1⟩,fun z=>nomatch z⟩
def qfz(K:yg):List V->Hp->VK->Prop:=fun xs H Q=>∃ x y t c b,xs=[x,y]/\TyX K H x t/\qcs y=some c/\PySem.W.kitOne K t c=some b/\Q (.bl b) H
def qeJ(K:yg):List V->Hp->VK->Prop:=fun xs H Q=>∃ x p ys t a b,xs=[x,.ref p]/\TyX K H x t/\H p=some (.tup ys)/\ys.map qcs=a.map some/\PySem.W.kitAny K t a=some b/\Q (.bl b) H
section
variable{X:Cx}{K:yg}
theorem qah(a:X.K=K):qae X (.builtin "isinstance") (qfz K):=by
 subst a;intro pins s σ H xs us Q I r h;obtain⟨x,y,t,c,b,rfl,ty,d,hb,q⟩:=h;obtain⟨u,v,rfl,f,g⟩:=qdz r;have e:=qbN d g;subst e;obtain⟨P,Z,p,ne⟩:=ty.kit I f;show PySem.W.kia_one Z I.kIn p hb ne fun tk=>⟨.bl b,H,I.tok tk,rfl,q⟩
theorem qd0(i:X.K=K):qae X (.builtin "isinstance") (qeJ K):=by
 subst i;intro pins s σ H xs us Q I r h;obtain⟨x,p,ys,t,B,b,rfl,ty,m,y,hb,q⟩:=h;obtain⟨u,v,rfl,A,f⟩:=qdz r;cases f;obtain⟨P,Z,z,ne⟩:=ty.kit I A;obtain⟨_,its,f,o,l,hc,n,j⟩:=(show ObjOk X.prog X.w H s.heap p (.tup ys) from I.hok p _ m);have e:=qbs y f;subst e;obtain⟨c,C,g,D⟩:=o;have a:c=.type "tuple":=hc;have d:g=.seq its.toArray n:=j;subst a d;show PySem.W.kia_tup Z I.kIn z l hb ne fun tk=>⟨.bl b,H,I.tok tk,rfl,q⟩
end
mutual
inductive EqD(K:yg)(H:Hp):Nat->V->V->Bool->Prop
 | flat {n:Nat} {x y:V} (fx:zM x=true) (fy:zM y=true):EqD K H n x y (eqV x y)
 | self {n:Nat} {a:Addr}:EqD K H n (.ref a) (.ref a) true
 | deep {n:Nat} {a b:Addr} {k:Bool} (h:EqT K H n a b k) (ne:a≠b):EqD K H n (.ref a) (.ref b) k
inductive EqT(K:yg)(H:Hp):Nat->Addr->Addr->Bool->Prop
 | lst {n:Nat} {a b:Addr} {xs ys:List V} {e:Nat->Bool} (ha:SqL K H a xs) (hb:SqL K H b ys) (hl:xs.length=ys.length) (he:∀ j x y,xs[j]?=some x->ys[j]?=some y->EqD K H n x y (e j)):EqT K H (n+1) a b ((List.range xs.length).all e)
 | lstL {n:Nat} {a b:Addr} {xs ys:List V} (ha:SqL K H a xs) (hb:SqL K H b ys) (hl:xs.length≠ys.length):EqT K H (n+1) a b false
 | tup {n:Nat} {a b:Addr} {xs ys:List V} {e:Nat->Bool} (ha:SqT K H a xs) (hb:SqT K H b ys) (he:∀ j x y,xs[j]?=some x->ys[j]?=some y->EqD K H n x y (e j)):EqT K H (n+1) a b ((List.range (min xs.length ys.length)).all e&&xs.length==ys.length)
 | lt {n:Nat} {a b:Addr} {xs ys:List V} (ha:SqL K H a xs) (hb:SqT K H b ys):EqT K H (n+1) a b false
 | tl {n:Nat} {a b:Addr} {xs ys:List V} (ha:SqT K H a xs) (hb:SqL K H b ys):EqT K H (n+1) a b false
end
theorem jC:∀{xs:List V} {us:List Value} {j:Nat} {u:Value},Vals xs us->us[j]?=some u->∃ x,xs[j]?=some x/\RelV x u
 | _,_,_,_,.nil,e=>by simp at e
 | _,_,0,_,.cons r _,e=>by simp at e;subst e;show⟨_,rfl,r⟩
 | _,_,j+1,u,.cons _ t,e=>by
  obtain⟨x,h1,a⟩:=jC (j:=j) (u:=u) t (by simpa using e);show⟨x,by simpa using h1,a⟩
section
variable{X:Cx}{pins:List (Addr×Obj)}{σ:St}{H:Hp}{s:Shared}
theorem qcO(I:Inv X pins σ H s):∀ n,(∀(A:Around) (x y:V) (k:Bool) (u v:Value),EqD X.K H n x y k->RelV x u->RelV y v->A.units+n<cLine->SeqAt.EqAt A s u v k)/\(∀(A:Around) (a b:Addr) (k:Bool),EqT X.K H n a b k->A.units+n<cLine->SeqAt.RcAt A s (.ref a) (.ref b) k):=by
 intro n
 induction n with
 | zero =>
  have F:∀(A:Around) (a b:Addr) (k:Bool),EqT X.K H 0 a b k->A.units+0<cLine->SeqAt.RcAt A s (.ref a) (.ref b) k:=fun A a b k h=>by cases h
  show⟨fun A x y k u v h g i z=>?_,F⟩
  cases h with
  | flat fx fy=>show qdS g i fx fy
  | self=>cases g;cases i;show kg _
  | deep h ne=>cases h
 | succ n ih =>
  have D:∀(A:Around) (a b:Addr) (k:Bool),EqT X.K H (n+1) a b k->A.units+(n+1)<cLine->SeqAt.RcAt A s (.ref a) (.ref b) k:=fun A a b k h z=>by
   have f:A.units<cLine:=by lk
   have o:A.in1.units+n<cLine:=by show A.units+1+n<cLine;lk
   cases h with
   | @lst _ _ _ xs ys e ha hb hl he =>
    obtain⟨its,r,pl,hz⟩:=I.list ha;obtain⟨c,m,d,l⟩:=I.list hb;have p:xs.length=its.toArray.size:=by rw[yy];show r.length
    have q:ys.length=c.toArray.size:=by rw[yy];show m.length
    rw[p];show SeqAt.RcAt.lists pl.isList d.isList (by rw[<- p,<- q,hl]) f fun j h1 E=>?_;have t:its[j]?=some its.toArray[j]:=by simp
    have w:c[j]?=some c.toArray[j]:=by simp
    obtain⟨x,B,g⟩:=jC r t;obtain⟨y,C,i⟩:=jC m w;show ih.1 A.in1 x y (e j) _ _ (he j x y B C) g i o
   | @lstL _ _ _ xs ys ha hb hl =>
    obtain⟨its,r,pl,hz⟩:=I.list ha;obtain⟨c,m,d,l⟩:=I.list hb;show SeqAt.RcAt.lists_lengths pl.isList d.isList ?_ f;rw[yy,yy,<- r.length,<- m.length];simp[hl]
   | @tup _ _ _ xs ys e ha hb he =>
    obtain⟨its,r,pl,hz⟩:=I.tuple ha;obtain⟨c,m,d,l⟩:=I.tuple hb;have p:xs.length=its.toArray.size:=by rw[yy];show r.length
    have q:ys.length=c.toArray.size:=by rw[yy];show m.length
    rw[p,q];show SeqAt.RcAt.tuples pl d f fun j h1 E=>?_;have t:its[j]?=some its.toArray[j]:=by simp
    have w:c[j]?=some c.toArray[j]:=by simp
    obtain⟨x,B,g⟩:=jC r t;obtain⟨y,C,i⟩:=jC m w;show ih.1 A.in1 x y (e j) _ _ (he j x y B C) g i o
   | lt ha hb =>
    obtain⟨its,r,pl,hz⟩:=I.list ha;obtain⟨c,m,d,l⟩:=I.tuple hb;show SeqAt.RcAt.list_tuple pl.isList d f
   | tl ha hb =>
    obtain⟨its,r,pl,hz⟩:=I.tuple ha;obtain⟨c,m,d,l⟩:=I.list hb;show SeqAt.RcAt.tuple_list pl d.isList f
  show⟨fun A x y k u v h g i z=>?_,D⟩
  cases h with
  | flat fx fy=>show qdS g i fx fy
  | self=>cases g;cases i;show kg _
  | deep h ne=>cases g;cases i;show SeqAt.EqAt.of_refs ne (D A _ _ k h z)
theorem ne_refs(I:Inv X pins σ H s){n:Nat}{A:Around}{a b:Addr}{k:Bool}(h:EqT X.K H n a b k)(z:A.units+n<cLine):SeqAt.RcNeAt A s (.ref a) (.ref b) (!k):=by
 cases n with
 | zero=>cases h
 | succ n =>
  have v:=qcO I n;have f:A.units<cLine:=by lk
  have l:A.in1.units+n<cLine:=by show A.units+1+n<cLine;lk
  cases h with
  | @lst _ _ _ xs ys e ha hb hl he =>
   obtain⟨its,r,pl,hz⟩:=I.list ha;obtain⟨c,i,d,g⟩:=I.list hb;have m:xs.length=its.toArray.size:=by rw[yy];show r.length
   have o:ys.length=c.toArray.size:=by rw[yy];show i.length
   rw[m];show SeqAt.RcNeAt.lists pl.isList d.isList (by rw[<- m,<- o,hl]) f fun j h1 w=>?_;obtain⟨x,p,t⟩:=jC r (show its[j]?=some its.toArray[j] by simp);obtain⟨y,q,u⟩:=jC i (show c[j]?=some c.toArray[j] by simp);show v.1 A.in1 x y (e j) _ _ (he j x y p q) t u l
  | @lstL _ _ _ xs ys ha hb hl =>
   obtain⟨its,r,pl,hz⟩:=I.list ha;obtain⟨c,i,d,g⟩:=I.list hb;show SeqAt.RcNeAt.lists_lengths pl.isList d.isList ?_ f;rw[yy,yy,<- r.length,<- i.length];simp[hl]
  | @tup _ _ _ xs ys e ha hb he =>
   obtain⟨its,r,pl,hz⟩:=I.tuple ha;obtain⟨c,i,d,g⟩:=I.tuple hb;have m:xs.length=its.toArray.size:=by rw[yy];show r.length
   have o:ys.length=c.toArray.size:=by rw[yy];show i.length
   rw[m,o];show SeqAt.RcNeAt.tuples pl d f fun j h1 w=>?_;obtain⟨x,p,t⟩:=jC r (show its[j]?=some its.toArray[j] by simp);obtain⟨y,q,u⟩:=jC i (show c[j]?=some c.toArray[j] by simp);show v.1 A.in1 x y (e j) _ _ (he j x y p q) t u l
  | lt ha hb =>
   obtain⟨its,r,pl,hz⟩:=I.list ha;obtain⟨c,i,d,g⟩:=I.tuple hb;show SeqAt.RcNeAt.list_tuple pl.isList d f
  | tl ha hb =>
   obtain⟨its,r,pl,hz⟩:=I.tuple ha;obtain⟨c,i,d,g⟩:=I.list hb;show SeqAt.RcNeAt.tuple_list pl d.isList f
theorem qeK{A:Around}{x y:V}{u v:Value}(e:RelV x u)(c:RelV y v)(f:zM x=true)(d:zM y=true):SeqAt.RcAt A s u v (eqV x y)/\SeqAt.RcNeAt A s u v (!eqV x y):=by
 cases x with
 | non =>
  cases e
  cases y with
  | non=>cases c;show⟨SeqAt.RcAt.none_none,SeqAt.RcNeAt.none_none⟩
  | bl b=>cases c;show⟨SeqAt.RcAt.none_bool b,SeqAt.RcNeAt.none_bool b⟩
  | int b=>obtain⟨t,rfl⟩:=c;show⟨SeqAt.RcAt.none_int b t,SeqAt.RcNeAt.none_int b t⟩
  | str b=>obtain⟨t,rfl⟩:=c;show⟨SeqAt.RcAt.none_str b t,SeqAt.RcNeAt.none_str b t⟩
  | _=>cases d
 | bl a =>
  cases e
  cases y with
  | non=>cases c;show⟨SeqAt.RcAt.bool_none a,SeqAt.RcNeAt.bool_none a⟩
  | bl b=>cases c;show⟨SeqAt.RcAt.bool_bool a b,SeqAt.RcNeAt.bool_bool a b⟩
  | int b=>obtain⟨t,rfl⟩:=c;show⟨SeqAt.RcAt.bool_int a b t,SeqAt.RcNeAt.bool_int a b t⟩
  | str b=>obtain⟨t,rfl⟩:=c;show⟨SeqAt.RcAt.bool_str a b t,SeqAt.RcNeAt.bool_str a b t⟩
  | _=>cases d
 | int a =>
  obtain⟨t',rfl⟩:=e
  cases y with
  | non=>cases c;show⟨SeqAt.RcAt.int_none a t',SeqAt.RcNeAt.int_none a t'⟩
  | bl b=>cases c;show⟨SeqAt.RcAt.int_bool a t' b,SeqAt.RcNeAt.int_bool a t' b⟩
  | int b=>obtain⟨t,rfl⟩:=c;show⟨SeqAt.RcAt.int_int a t' b t,SeqAt.RcNeAt.int_int a t' b t⟩
  | str b=>obtain⟨t,rfl⟩:=c;show⟨SeqAt.RcAt.int_str a t' b t,SeqAt.RcNeAt.int_str a t' b t⟩
  | _=>cases d
 | str a =>
  obtain⟨t',rfl⟩:=e
  cases y with
  | non=>cases c;show⟨SeqAt.RcAt.str_none a t',SeqAt.RcNeAt.str_none a t'⟩
  | bl b=>cases c;show⟨SeqAt.RcAt.str_bool a t' b,SeqAt.RcNeAt.str_bool a t' b⟩
  | int b=>obtain⟨t,rfl⟩:=c;show⟨SeqAt.RcAt.str_int a t' b t,SeqAt.RcNeAt.str_int a t' b t⟩
  | str b=>obtain⟨t,rfl⟩:=c;show⟨SeqAt.RcAt.str_str a t' b t,SeqAt.RcNeAt.str_str a t' b t⟩
  | _=>cases d
 | _=>cases f
end
def qep(K:yg)(c:Bool):R2:=fun x y H Q=>(zM x=true/\zM y=true/\Q (.bl (if c then !eqV x y else eqV x y)) H) \/
 (∃ a b k n,x=.ref a/\y=.ref b/\n<=60/\EqT K H n a b k/\Q (.bl (if c then !k else k)) H) \/
 (∃ a kvs,x=.ref a/\y=.ref a/\H a=some (.dK kvs)/\Q (.bl (!c)) H)
theorem qbt{b:Type}[DecidableEq b]:∀{a:List (b×Value)} {k:b} {v:Value},(a.map (·.1)).Nodup->(k,v)∈a->valueAt a k=some v
 | [],_,_,_,h=>by cases h
 | (k',v')::r,k,v,hn,h=>by
  obtain⟨h1,c⟩:=yo.mp (show(k'::r.map (·.1)).Nodup from hn);unfold valueAt;rw[xQ];by_cases e:k'=k
  .subst e;simp only[decide_true];rcases yx.mp h with z | z
   .cases z;rfl
   .show absurd (YF.mpr ⟨(k',v),z,rfl⟩) h1
  .simp only[e,Kd];rcases yx.mp h with z | z
   .cases z;show absurd rfl e
   .show qbt c z
theorem qcP{A:Around}{s:Shared}{c:Type}[DecidableEq c](a:List (c×Value))(d:(a.map (·.1)).Nodup):∀ f:List (c×Value),(∀ p∈f,p∈a)->PySem.W.KeqHits A s a f true
 | [],_=>.nil
 | (k,v)::r,h=>by
  have hv:valueAt a k=some v:=qbt d (h (k,v) yU);show .hit (e:=true) (b:=true) hv (kg v) (qcP a d r fun p g=>h p (yJ _ g))
section
variable{X:Cx}{K:yg}
theorem k_eqU(m:X.K=K)(p:X.A.units+100<cLine):OpR X (compareOp .Eq) (qep K false):=by
 subst m;intro pins s σ H x y u v Q I c f h;rcases h with⟨j,l,q⟩ | ⟨a,b,k,n,rfl,rfl,o,e,q⟩ | ⟨a,kvs,rfl,rfl,i,q⟩
 .show(qeK c f j l).1 _ _ _ _ ⟨.bl _,H,I,rfl,q⟩
 .cases c;cases f;show(qcO I n).2 X.A a b k e (by lk) _ _ _ _ ⟨.bl _,H,I,rfl,q⟩
 .cases c;cases f;obtain⟨_,g,vs,r,d⟩:=(show ObjOk X.prog X.w H s.heap a (.dK kvs) from I.hok a _ i);obtain⟨_,_,_,_,_,_,_,_,nd⟩:=id d;show PySem.W.keq_eq g g d d (by lk) (fun _=>qcP vs nd vs fun _ h=>h) ?_;rw[Xd];show⟨.bl true,H,I,rfl,q⟩
theorem zS(m:X.K=K)(p:X.A.units+100<cLine):OpR X (compareOp .NotEq) (qep K true):=by
 subst m;intro pins s σ H x y u v Q I c f h;rcases h with⟨j,l,q⟩ | ⟨a,b,k,n,rfl,rfl,o,e,q⟩ | ⟨a,kvs,rfl,rfl,i,q⟩
 .show(qeK c f j l).2 _ _ _ _ ⟨.bl _,H,I,rfl,q⟩
 .cases c;cases f;show ne_refs I e (by lk) _ _ _ _ ⟨.bl _,H,I,rfl,q⟩
 .cases c;cases f;obtain⟨_,g,vs,r,d⟩:=(show ObjOk X.prog X.w H s.heap a (.dK kvs) from I.hok a _ i);obtain⟨_,_,_,_,_,_,_,_,nd⟩:=id d;show PySem.W.keq_ne g g d d (by lk) (fun _=>qcP vs nd vs fun _ h=>h) ?_;rw[Xd];show⟨.bl false,H,I,rfl,q⟩
end
section
variable{X:Cx}{K:yg}
def qfA(K:yg):R2:=fun x y H Q=>rIx K x y H Q\/∃ a v,x=.ref a/\DGet H a y (some v)/\Q v H
theorem qx(f:X.K=K)(m:X.A.units+100<cLine):IxR X (qfA K):=by
 subst f;show IxR.or ix_seq ?_;intro d c pins s σ H x y v u Q I j l h i;obtain⟨a,z,rfl,g,q⟩:=h;cases j;show tail_any (dict_typeIs I g) PySem.F.slot_dict_getitem.lookup (d_getItem (by lk) I g l fun o n e b=>⟨z,H,e,b,q⟩) i
def rSetU:qfo:=fun o i v H Q=>rSetL o i v H Q\/∃ a H',o=.ref a/\DPut H a i v H'/\Q H'
theorem zr(l:X.A.units+100<cLine):qfS X rSetU:=by
 intro pins s σ H o i v j f u Q I c b d h;rcases h with h | ⟨a,H',rfl,g,q⟩
 .show set_list pins s σ H o i v j f u Q I c b d h
 .cases c;show d_setItem (by lk) I g b d fun s' e=>⟨H',e,q⟩
def qeg(K:yg)(b:Bool):R2:=fun x y H Q=>rIn K b x y H Q\/(∃ a o,y=.ref a/\DGet H a x o/\Q (.bl (if b then !o.isSome else o.isSome)) H) \/
 (∃ p xs e n,y=.ref p/\SqL K H p xs/\n<=60/\(∀ z∈xs,EqD K H n z x (e z))/\Q (.bl (if b then !xs.any e else xs.any e)) H)
theorem qeL{pins:List (Addr×Obj)}{σ:St}{H:Hp}{s:Shared}{xs:List V}{its:List Value}{x:V}{u:Value}{e:V->Bool}{n:Nat}{A:Around}(I:Inv X pins σ H s)(r:Vals xs its)(p:RelV x u)(o:A.units+n<cLine)(m:∀ z∈xs,EqD X.K H n z x (e z)) :
  ∃ g:Value->Bool,(∀ w,w∈its.toArray->SeqAt.EqAt A s w u (g w))/\its.toArray.any g=xs.any e:=by
 classical
 show⟨fun w=>decide (∃ z∈xs,RelV z w/\e z=true),fun w hw=>?_,?_⟩
 .have d:w∈its:=by simpa using hw
  obtain⟨j,c⟩:=xN.mp d;obtain⟨z,hz,a⟩:=jC r c;have i:=ye hz
  have eq:decide (∃ z∈xs,RelV z w/\e z=true)=e z:=by
   cases q:e z with
   | true=>show yL ⟨z,i,a,q⟩
   | false =>
    show yl fun⟨t,_,f,l⟩=>?_;rw[RelV.inj f a,q] at l;cases l
  show SeqAt.EqAt A s w u (decide (∃ z∈xs,RelV z w/\e z=true));rw[eq];show(qcO I n).1 A z x (e z) w u (m z i) a p o
 .rw [xk,Xe];constructor
  .intro h;have h':its.any (fun w=>decide (∃ z∈xs,RelV z w/\e z=true))=true:=by simpa using h
   obtain⟨w,_,q⟩:=Xe.mp h';obtain⟨z,hz,_,b⟩:=yk q;show⟨z,hz,b⟩
  .rintro ⟨z,hz,b⟩;obtain⟨j,c⟩:=xN.mp hz;obtain⟨w,hw,a⟩:=r.get c;have:its.any (fun w=>decide (∃ z∈xs,RelV z w/\e z=true))=true:=Xe.mpr ⟨w,ye hw,yL ⟨z,hz,a,b⟩⟩;simpa using this
theorem zT(j:X.K=K)(l:X.A.units+100<cLine):OpR X (compareOp .In) (qeg K false):=by
 subst j;intro pins s σ H x y u v Q I b c h;rcases h with h | ⟨a,o,rfl,g,q⟩ | ⟨p,xs,e,n,rfl,hl,hn,he,q⟩
 .show op_in_seq pins s σ H x y u v Q I b c h
 .cases c;show d_in (by lk) I g b fun s' d=>⟨.bl _,H,d,rfl,q⟩
 .cases c;obtain⟨its,r,pl,hz⟩:=I.list hl;obtain⟨f,h1,i⟩:=qeL (A:=X.A.in1) I r b (by show X.A.units+1+n<cLine;lk) he;show SeqAt.in_listAt f pl.isList h1 (by rw[i];show⟨.bl _,H,I,rfl,q⟩)
theorem jL(j:X.K=K)(l:X.A.units+100<cLine):OpR X (compareOp .NotIn) (qeg K true):=by
 subst j;intro pins s σ H x y u v Q I b c h;rcases h with h | ⟨a,o,rfl,g,q⟩ | ⟨p,xs,e,n,rfl,hl,hn,he,q⟩
 .show op_notIn_seq pins s σ H x y u v Q I b c h
 .cases c;show d_notIn (by lk) I g b fun s' d=>⟨.bl _,H,d,rfl,q⟩
 .cases c;obtain⟨its,r,pl,hz⟩:=I.list hl;obtain⟨f,h1,i⟩:=qeL (A:=X.A.in1) I r b (by show X.A.units+1+n<cLine;lk) he;show SeqAt.notIn_listAt f pl.isList h1 (by rw[i];show⟨.bl _,H,I,rfl,q⟩)
def rListU(K:yg):List V->Hp->VK->Prop:=fun xs H Q=>(∃ p ys,xs=[.ref p]/\(SqL K H p ys\/SqT K H p ys)/\∀ l,H l=none->Q (.ref l) (upd H l (.lst ys))) \/
 (∃ p kvs,xs=[.ref p]/\H p=some (.dK kvs)/\∀ l,H l=none->Q (.ref l) (upd H l (.lst (kvs.map fun a=>kV a.1)))) \/
 (∃ x,xs=[.str x]/\x.length<=1000/\∀ l,H l=none->Q (.ref l) (upd H l (.lst (x.cps.toList.map fun c=>.str ⟨#[c]⟩))))
theorem qbP{α c:Type}{F:α->c->Prop}:∀{l:List α} {m:List c} {j:Nat} {a:α},Paired F l m->l[j]?=some a->∃ b,m[j]?=some b/\F a b
 | _,_,_,_,.nil,e=>by simp at e
 | _,_,0,_,.cons r _,e=>by simp at e;subst e;show⟨_,rfl,r⟩
 | _,_,j+1,a,.cons _ t,e=>by
  obtain⟨b,h1,d⟩:=qbP (j:=j) (a:=a) t (by simpa using e);show⟨b,by simpa using h1,d⟩
theorem qat:∀{ys:List V} {us:List Value},ys.length=us.length->(∀(j:Nat) y u,ys[j]?=some y->us[j]?=some u->RelV y u)->Vals ys us
 | [],[],_,_=>.nil
 | [],_::_,h,_=>by cases h
 | _::_,[],h,_=>by cases h
 | y::ys,u::us,h,q=>.cons (q 0 y u rfl rfl) (qat (Nat.succ.inj h) fun j c b h1 a=>q (j+1) c b (by simpa using h1) (by simpa using a))
theorem qbu(J:X.K=K)(hc:X.calm=true):qae X (.type "list") (rListU K):=by
 subst J;intro pins s σ H xs us Q I r h;rcases h with h | ⟨p,kvs,rfl,ea,q⟩ | ⟨x,rfl,hx,q⟩
 .show call_list_of pins s σ H xs us Q I r h
 .obtain⟨u,rfl,M⟩:=qbm r;cases M;obtain⟨hz,L,vs,D,d⟩:=(show ObjOk X.prog X.w H s.heap p (.dK kvs) from I.hok p _ ea);obtain⟨ep,n⟩:=d.dictAt;have hl:kvs.length=vs.length:=D.length;show PySem.W.kdl_call (PySem.W.kdl_dict (knd:=jA X.prog X.w) (kvs:=vs) (ep:=ep) L) (I.ok.hd hc) n (by rw[<- hl];show hz) fun h' tk a f A e it=>?_;obtain⟨o,v⟩:=it
  have hv:Vals (kvs.map fun b=>kV b.1) a.toList:=by
   show qat (by rw[ya,hl,<- o];simp) fun j y u h1 g=>?_;obtain⟨k,x,l,F⟩:=v j u (by simpa using g);rw[yd] at h1
   cases B:kvs[j]? with
   | none=>rw[B] at h1;cases h1
   | some b =>
    rw[B] at h1;cases h1;obtain⟨O,C,G,N⟩:=qbP D B;rw[l] at C;cases C;have E:b.1=k:=G;show RelV (kV b.1) u;rw[E];rcases qZ (show qcI k u=true from F) with⟨i,t,rfl,rfl⟩ | ⟨z,t,rfl,rfl⟩
    .show⟨t,rfl⟩
    .show⟨t,rfl⟩
  show⟨.ref s.heap.objs.size,_,I.laid (t':=tk) A (yh _) (show ObjOk X.prog X.w _ h' _ (.lst (kvs.map fun b=>kV b.1)) from⟨by rw[ya];show hz,a.toList,f,hv,by simpa using e⟩),rfl,q _ (I.hok.fresh (yh _))⟩
 .obtain⟨u,rfl,t,rfl⟩:=qbm r;have hsz:x.cps.size<=sizeLine:=yR (qh hx);show call_list_str (I.ok.hd hc) x t (fun h' tk a f A e it=>?_) hsz;obtain⟨o,v⟩:=it
  have hv:Vals (x.cps.toList.map fun c=>V.str ⟨#[c]⟩) a.toList:=by
   show qat (by rw[ya];simp[o]) fun j y u h1 g=>?_;obtain⟨c,t',l,rfl⟩:=v j u (by simpa using g);rw[yd] at h1;have m:x.cps.toList[j]?=some c:=by simpa using l
   rw[m] at h1;cases h1;show⟨t',rfl⟩
  show⟨.ref s.heap.objs.size,_,I.laid (t':=tk) A (yh _) (show ObjOk X.prog X.w _ h' _ (.lst (x.cps.toList.map fun c=>V.str ⟨#[c]⟩)) from⟨by rw[ya];simpa using hsz,a.toList,f,hv,by simpa using e⟩),rfl,q _ (I.hok.fresh (yh _))⟩
end
structure CMethOk(P:Program)(w:World)(K:yg)(mg:Str->Option Value)(base:Heap)(CX:CXT)(k:Nat)(C:Addr)(x m:Str)(ps:LS)(sp:Sp):Prop where
 ex:∃ f fd,FnOk P w K mg base CX k f fd ps sp/\CMeth K C m f/\Binds K fd ps []
 mg_:mg x=some (.ref C)
section
variable{X:Cx}{k:Nat}{C:Addr}{ps:LS}{sp:Sp}{x m:Str}{p pos apos:Pos}{e:Expr}{es:List Expr}{t:TA}
theorem zt(D:MakeOk X.prog X.w X.K X.mg X.base CX0 k C x ps sp)(h:Room (k+1) X.A)(c:PA X (e::es) t)(g:Gl X x:=by rfl)(a:(x==("__debug__":Str))=false:=by decide)
  (d:starEach (e::es) X.env=(false,eval e X.env)::starEach es X.env:=by rfl) (b:(backTo pos (starEach es X.env)).any (·.1)=false:=by rfl):PE X (.Call (.Name x p) (e::es) [] pos) (qek C sp [] E0 t):=by
 obtain⟨f,i,F,M,hb⟩:=D.ex;show pe_make M F h g D.mg_ hb .nil qz c a d b
theorem pe_clsmQ{pl:Sem Bool}(D:CMethOk X.prog X.w X.K X.mg X.base CX0 k C x m ps sp)(h:Room k X.A)(d:PA X (e::es) t)(g:Gl X x:=by rfl)(a:(x==("__debug__":Str))=false:=by decide)
  (c:starEach (e::es) X.env=(false,eval e X.env)::starEach es X.env:=by rfl) (b:(backTo pos (starEach es X.env)).any (·.1)=false:=by rfl)
  (i:eval (.Call (.Attribute (.Name x p) m apos) (e::es) [] pos) X.env=(do
   let ov <- eval (.Name x p) X.env
   standAt apos.atName
   let (f,first) <- holding [ov] (getMethod ov m pl)
   callWith pos f first (backTo pos (starEach (e::es) X.env)) (backToKw pos (keywordEach [] X.env))):=by rfl) :
  PE X (.Call (.Attribute (.Name x p) m apos) (e::es) [] pos) (qdP sp [] E0 t):=by
 obtain⟨f,j,F,M,hb⟩:=D.ex;show pe_clsm (pl:=pl) M F h g D.mg_ hb qz d a c b i
end
theorem own_eq_same{prog:Program}{w:World}{A:Around}{E:Value->Shared->Prop}{s:Shared}{K:yg}{x C:Addr}{ox:Obj}{od:Option Obj}{Q:Value->Shared->Prop}(j:A.units<cLine)(X:K.In s.heap)(I:PySem.W.InstAt s.heap x ox C od)
  (i:PySem.W.findIn K (.ref C) "__eq__"=some (some (.builtin "object.__eq__"))) (f:PySem.W.mroIn K C (.type "object")=some true) (h:Q (.bool true) s):wpAny (model prog w) A (richCompare .Eq (.ref x) (.ref x)) Q E s:=by
 have a:∀{d:Around} {c:Value->Shared->Prop},c (.bool true) s->wpAny (model prog w) d (call (.builtin "object.__eq__") [.ref x,.ref x]) c E s:=fun{d c} q=>by
  show Xl (xW PySem.F.slot_object_eq.plain PySem.F.entry_object_eq (@PySem.W.check_slot (model prog w) _ _ s "object.__eq__" "object" "__eq__" (.ref x) [.ref x] [] _ (by room) (by room) (I.type.andThen (xB X f)) (PySem.F.args_object_eq_2 _ _) ?_));show yr (yu (yr (wpAny_isSame_ref_self ?_)));show yu q
 have one:wpAny (model prog w) A (tryCompare (.ref x) "__eq__" (.ref x)) (fun r s'=>∃ v,r=some v/\Q v s') E s:=by
  unfold tryCompare;show yr ?_;simp only[callSpecialIfBound?,bindSpecialIfBound?];show Yr (yr (yr (yr (I.type.here ((YT X i).here ?_)))));show yr (kP (wpAny_ite ?_));have b:=PySem.F.slot_object_eq.bind (.ref x)
  have fin:wpAny (model prog w) A (call (.builtin "object.__eq__") ([.ref x]++[.ref x])>>=fun v=>pure (some v)) (fun r s'=>wpAny (model prog w) A (match r with | some .notImplemented | none=>pure none | some v=>pure (some v)) (fun r s'=>∃ v,r=some v/\Q v s') E s') E s:=
   yr (a (yu (yu ⟨_,rfl,h⟩)))
  split
  .show yr (xm b (yu fin))
  .show wpAny_tryCatch (yr (xm b (yu fin)))
 unfold richCompare;simp only[oneThing_ref];show Yr (yr (wpAny_cRoomFor j ?_));show yr (I.type.here (yr (I.type.here ?_)));rw[yF (by simp)];show yr (yu ?_);simp only[xK,XU];show yr (YL one (fun r s' z=>?_) fun _ _ e=>e);obtain⟨v,rfl,g⟩:=z;show yu g
structure OEq(K:yg)(C:Addr):Prop where
 eq:PySem.W.findIn K (.ref C) "__eq__"=some (some (.builtin "object.__eq__"))
 ob:PySem.W.mroIn K C (.type "object")=some true
def qgd(K:yg):R2:=fun x y H Q=>qep K false x y H Q\/∃ a C dx fs,x=.ref a/\y=.ref a/\H a=some (.ins C dx fs)/\OEq K C/\Q (.bl true) H
theorem k_eqW{X:Cx}{K:yg}(d:X.K=K)(e:X.A.units+100<cLine):OpR X (compareOp .Eq) (qgd K):=by
 subst d;intro pins s σ H x y u v Q I b c h;rcases h with h | ⟨a,C,dx,fs,rfl,rfl,ea,oe,q⟩
 .show k_eqU rfl e pins s σ H x y u v Q I b c h
 .cases b;cases c;obtain⟨f,O,_⟩:=qa1 I.hok ea;obtain⟨od,J,_⟩:=O.look;show own_eq_same (by lk) I.kIn J oe.eq oe.ob ⟨.bl true,H,I,rfl,q⟩
theorem jj{X:Cx}:MtR X "list.append" rAppend:=mt_append
theorem qbQ{X:Cx}:MtR X "list.extend" rExtend:=mt_extend
theorem mtR_pop{X:Cx}:MtR X "list.pop" rPop:=mt_pop
theorem qbv{X:Cx}:MtR X "list.pop" rPopAt:=mt_popAt
theorem boot_ValueError:bootBuiltins "ValueError"=some (.type "ValueError"):=by room
section
variable{D:Ends}{σ:St}{H:Hp}{Q:VK}{t u:TS}{te ta tb tc:TE}{tas:TA}{K:yg}{sp:Sp}{E:XK}{EK:St->XK}{C:Addr}{f m:Str}
theorem vFldU(h:ta σ H fun x a=>FlUR K f x a Q):qfx K ta f σ H Q:=h
theorem vSFldU(h:te σ H fun y a=>ta σ a fun x b=>SFUR K f x y b (D.nx σ)):qfy K ta te f D σ H:=h
theorem vXMake(h:tas σ H fun vs a=>vs.length<=1000/\∀ x,a x=none->sp (.ref x::vs) (upd a x (XN x C none)) (fun v b=>v=.non/\Q (.ref x) b) E):qdZ C sp E tas σ H Q:=h
theorem vMake(h:tas σ H fun vs a=>∀ x dx,a x=none->a dx=none->dx≠x->sp (.ref x::(vs++[])) (upd (upd a dx (.own x)) x (.ins C dx [])) (fun v b=>v=.non/\Q (.ref x) b) E):qek C sp [] E tas σ H Q:=h
theorem vMeth(h:ta σ H fun x a=>MeR C m x a (tas σ a fun vs b=>sp (x::(vs++[])) b Q E)):qdA C m sp [] E ta tas σ H Q:=h
theorem vVinit(h:tas σ H fun vs b=>∃ a C y,vs=[.ref a,y]/\b a=some (XN a C none)/\XAt K C/\Q .non b):qeE K tas σ H Q:=h
theorem vCallS(h:tas σ H fun vs a=>sp vs a Q (EK σ)):tCallS sp EK tas σ H Q:=h
theorem vMethS(h:ta σ H fun x a=>MeR C m x a (tas σ a fun vs b=>sp (x::vs) b Q (EK σ))):qeI C m sp EK ta tas σ H Q:=h
theorem vMakeS(h:tas σ H fun vs a=>∀ x dx,a x=none->a dx=none->dx≠x->sp (.ref x::vs) (upd (upd a dx (.own x)) x (.ins C dx [])) (fun v b=>v=.non/\Q (.ref x) b) (EK σ)):tMakeS C sp EK tas σ H Q:=h
theorem vRaise(h:te σ H fun x b=>∃ a C dx,x=.ref a/\b a=some (XN a C dx)/\XAt K C/\EK σ (.ref C) dx (upd b a (XO a C dx))):qeH K EK te D σ H:=h
theorem qbw{x y:V}{t a:Value}{b:Bool}(ty:TyX K H x t)(c:qcs y=some a)(hb:PySem.W.kitOne K t a=some b)(h:Q (.bl b) H):qfz K [x,y] H Q:=⟨x,y,t,a,b,rfl,ty,c,hb,h⟩
end
section
variable{prog:Program}{w:World}{A:Around}{E:Value->Shared->Prop}{s:Shared}
theorem none_dict{a:Addr}{Q:Value->Shared->Prop}(d:s.TypeIs (.ref a) "dict")(e:A.units<cLine)(h:Q (.bool false) s):wpAny (model prog w) A (richCompare .Eq .none (.ref a)) Q E s:=by
 show SeqAt.rc_eq_decline_or (k:=false) rfl d (by decide) PySem.F.sub_dict_NoneType Y2 PySem.F.slot_dict_eq_refl
  (fun _ c=>call_gives Y2 rfl PySem.F.entry_NoneType_eq (PySem.F.args_NoneType_eq_2 _ _) (SeqAt.NoneType___eq___none_ref_0 a) c) (fun f c=>?_) (fun _ c=>xm (rfl:isSame .none (.ref a)=pure false) c) (.inr e) h
 show Xc PySem.F.slot_dict_eq_refl d PySem.F.entry_dict_eq ?_ (PySem.F.args_dict_eq_2 _ _);show wpAny _ _ (Builtin.Dict.dictSlotArgs "__eq__" ⟨[.ref a,.none],[]⟩>>=_) _ _ s;show yr ?_;unfold Builtin.Dict.dictSlotArgs;show yr (wpAny_notOrdered_dict d ?_);show wpAny _ _ (pure (Value.ref a,Value.none)) _ _ s;show yu ?_;show yr (wpAny_isInstance (T:="NoneType") (b:=false) rfl PySem.F.sub_NoneType_dict ?_);simp only[Bool.not_false,X5];show yr (wpAny_rule (yu ⟨_,rfl,c⟩))
theorem none_own{K:yg}{x C:Addr}{ox:Obj}{od:Option Obj}{Q:Value->Shared->Prop}(g:A.units<cLine)(X:K.In s.heap)(I:PySem.W.InstAt s.heap x ox C od)(d:OEq K C)(f:PySem.W.mroIn K C (.type "NoneType")=some false)
  (h:Q (.bool false) s):wpAny (model prog w) A (richCompare .Eq .none (.ref x)) Q E s:=by
 have i:wpAny (model prog w) A (tryCompare .none "__eq__" (.ref x)) (fun r s'=>r=none/\s'=s) E s:=by
  unfold tryCompare;show yr ?_;simp only[callSpecialIfBound?,bindSpecialIfBound?];show Yr (yr (yr ?_));show yr (xm (rfl:typeOf .none=pure (.type "NoneType")) ?_);show xm Y2.lookup ?_;show yr (kP (wpAny_ite ?_))
  have fin:wpAny (model prog w) A (call (.builtin "NoneType.__eq__") ([.none]++[.ref x])>>=fun v=>pure (some v)) (fun r s'=>wpAny (model prog w) A (match r with | some .notImplemented | none=>pure none | some v=>pure (some v)) (fun r s'=>r=none/\s'=s) E s') E s:=
   yr (call_gives Y2 rfl PySem.F.entry_NoneType_eq (PySem.F.args_NoneType_eq_2 _ _) (SeqAt.NoneType___eq___none_ref_0 x) (yu (yu ⟨rfl,rfl⟩)))
  split
  .show yr (xm (Y2.bind .none) (yu fin))
  .show wpAny_tryCatch (yr (xm (Y2.bind .none) (yu fin)))
 have j:wpAny (model prog w) A (tryCompare (.ref x) "__eq__" .none) (fun r s'=>r=none/\s'=s) E s:=by
  unfold tryCompare;show yr ?_;simp only[callSpecialIfBound?,bindSpecialIfBound?];show Yr (yr (yr (yr (I.type.here ((YT X d.eq).here ?_)))));show yr (kP (wpAny_ite ?_));have b:=PySem.F.slot_object_eq.bind (.ref x)
  have c:∀{a:Value->Shared->Prop},a .notImplemented s->wpAny (model prog w) A (call (.builtin "object.__eq__") [.ref x,.none]) a E s:=fun{a} q=>by
   show Xl (xW PySem.F.slot_object_eq.plain PySem.F.entry_object_eq (@PySem.W.check_slot (model prog w) _ _ s "object.__eq__" "object" "__eq__" (.ref x) [.none] [] _ (by room) (by room) (I.type.andThen (xB X d.ob)) (PySem.F.args_object_eq_2 _ _) ?_));show yr (yu (yr (xm (rfl:isSame (.ref x) .none=pure false) ?_)));show yu q
  have fin:wpAny (model prog w) A (call (.builtin "object.__eq__") ([.ref x]++[.none])>>=fun v=>pure (some v)) (fun r s'=>wpAny (model prog w) A (match r with | some .notImplemented | none=>pure none | some v=>pure (some v)) (fun r s'=>r=none/\s'=s) E s') E s:=
   yr (c (yu (yu ⟨rfl,rfl⟩)))
  split
  .show yr (xm b (yu fin))
  .show wpAny_tryCatch (yr (xm b (yu fin)))
 unfold richCompare;show Yr (yr (wpAny_cRoomFor g ?_));show wpAny _ _ (typeOf .none>>=_) _ _ _;show yr (xm (rfl:typeOf .none=pure (.type "NoneType")) (yr (I.type.here ?_)));rw[yI (by rfl)];show yr ((xB X f).here ?_);simp only[xK,XU];show yr (YL i (fun r s' z=>?_) fun _ _ e=>e);obtain⟨rfl,rfl⟩:=z;simp only[Bool.not_false,X5];show yr (YL j (fun r s' z=>?_) fun _ _ e=>e);obtain⟨rfl,rfl⟩:=z;show yr (wpAny_rule (yr (xm (rfl:isSame .none (.ref x)=pure false) (yu h))))
end
def rNoneRef(K:yg):R2:=fun x y H Q=>∃ a,x=.non/\y=.ref a/\((∃ xs,SqL K H a xs\/SqT K H a xs)\/(∃ kvs,H a=some (.dK kvs))\/∃ C dx fs,H a=some (.ins C dx fs)/\OEq K C/\PySem.W.mroIn K C (.type "NoneType")=some false)/\Q (.bl false) H
def qfg(K:yg):R2:=fun x y H Q=>qgd K x y H Q\/rNoneRef K x y H Q
theorem zl{X:Cx}{K:yg}(c:X.K=K)(i:X.A.units+100<cLine):OpR X (compareOp .Eq) (qfg K):=by
 intro pins s σ H x y u v Q I e f h;rcases h with h | ⟨a,rfl,rfl,h,q⟩
 .show k_eqW c i pins s σ H x y u v Q I e f h
 .subst c;cases e;cases f;have fin:EP X pins σ Q (.bool false) s:=⟨.bl false,H,I,rfl,q⟩;rcases h with⟨xs,hl | hl⟩ | ⟨kvs,b⟩ | ⟨C,dx,fs,b,j,g⟩
  .obtain⟨its,r,pl,_⟩:=I.list hl;show SeqAt.RcAt.none_list pl.isList (by lk) _ _ _ _ fin
  .obtain⟨its,r,pl,_⟩:=I.tuple hl;show SeqAt.RcAt.none_tuple pl (by lk) _ _ _ _ fin
  .obtain⟨_,_,vs,_,d⟩:=(show ObjOk X.prog X.w H s.heap a (.dK kvs) from I.hok a _ b);show none_dict d.typeIs (by lk) fin
  .obtain⟨l,O,_⟩:=qa1 I.hok b;obtain⟨od,J,_⟩:=O.look;show none_own (by lk) I.kIn J j g fin
def XL(K:yg)(C:Addr)(c:List Value):Prop:=∃ j l N bs a sn sub ab b d e f g h i,K.lookup C=some (excClassObj j l C N bs c a sn sub ab b d e f g h i "ValueError.__new__")
section
variable{K:yg}{C D:Addr}{bm bn:List Value}
theorem XL.xat(x:XL K C bm)(hb:qcb bm=true)
  (g:PySem.W.findIn K (.ref C) "__getattribute__"=some (some (.builtin "BaseException.__getattribute__"))) (h:PySem.W.findIn K (.ref C) "__getattr__"=some none)
  (b:PySem.W.mroIn K C (.type "BaseException")=some true) (j:PySem.W.mroIn K C (.type "object")=some true) (i:PySem.W.hasDictIn K C=true) (d:PySem.W.findIn K (.ref C) "__class__"=some (some (.builtin "object.__class__")))
  (c:PySem.W.specialIn K (.builtin "object.__class__") "__get__"=some (some (.builtin "getset_descriptor.__get__"))) (ct:PySem.W.takesIn K (.builtin "object.__class__")=some true)
  (l:PySem.W.findIn K (.ref C) "__setattr__"=some (some (.builtin "object.__setattr__"))):XAt K C:=by
 obtain⟨s,t,N,bs,a,sn,sub,ab,f,m,n,o,p,q,r,e⟩:=x;show⟨g,h,b,j,i,d,c,ct,l,?_,?_⟩
 .unfold PySem.W.clsIn;rw[e];show hb
 .unfold qfP;rw[e];simp[hb]
theorem XL.kit(x:XL K C bm)(y:XL K D bn):PySem.W.kitOne K (.ref C) (.ref D)=some ((Value.ref C::bm).contains (.ref D)):=by
 obtain⟨H,I,N,bs,d,sn,sub,ab,i,w,A,B,E,F,G,e⟩:=x;obtain⟨q,t,v,h,a,u,f,g,b,j,l,m,n,o,p,c⟩:=y;unfold PySem.W.kitOne PySem.W.kitCls;split
 .rename_i z
  have z:C=D:=X9 (Ym.mp z);subst z;simp
 .dsimp only;have r:(PySem.W.clsIn K D).isSome=true:=by unfold PySem.W.clsIn;rw[c];rfl
  have s:(PySem.W.typeIn K (.ref D)==some (.type "type"))=true:=by show((K.lookup D).map (·.cls)==_)=true;rw[c];rfl
  rw[yI (by rw[r,s];rfl)];unfold PySem.W.subIn PySem.W.mroIn PySem.W.clsIn;dsimp only;rw[e];rfl
theorem XL.kitT(x:XL K C bm){T:String}(h:PySem.W.kitMeta T=true):PySem.W.kitOne K (.ref C) (.type T)=some (bm.contains (.type T)):=by
 obtain⟨l,m,N,bs,a,sn,sub,ab,b,c,d,f,g,i,j,e⟩:=x;unfold PySem.W.kitOne PySem.W.kitCls;split
 .rename_i z
  show absurd (Ym.mp z) nofun
 .dsimp only;rw[yI h];unfold PySem.W.subIn PySem.W.mroIn PySem.W.clsIn;dsimp only;rw[e];show some ((Value.ref C::bm).contains _)=_;rw[Yu];rfl
noncomputable abbrev qcQ:List Value:=[.type "ValueError",.type "Exception",.type "BaseException",.type "object"]
theorem qd1:qcb qcQ=true:=by decide
theorem xmro_on{c:Addr}:qcb (.ref c::qcQ)=true:=qd1
theorem kits{K:yg}{a:LQ}{c:Addr}(n:(a++[c]).Nodup)(h:∀ i,i<a.length->XL K (a.getD i c) (.ref c::qcQ))(hc:XL K c qcQ) :
  (∀ i j,i<a.length->j<a.length->PySem.W.kitOne K (.ref (a.getD i c)) (.ref (a.getD j c))=some (decide (i=j)))/\(∀ i,i<a.length+1->PySem.W.kitOne K (.ref (a.getD i c)) (.ref c)=some true) /\
  (∀ i,i<a.length+1->PySem.W.kitOne K (.ref (a.getD i c)) (.type "ValueError")=some true)/\∀ j,j<a.length->PySem.W.kitOne K (.ref c) (.ref (a.getD j c))=some false:=by
 have m:∀(j:Nat) (b:j<a.length),a.getD j c=a[j]:=fun j b=>by simp[List.getD,b]
 have hl:a.getD a.length c=c:=by simp
 have g:∀ j,j<a.length->c≠a.getD j c:=fun j b e=>by
  have s:=(Yb.mp n).2.2 (a.getD j c) (by rw[m j b];show Xx b) c (by simp);show s e.symm
 show⟨fun i j f b=>?_,fun i f=>?_,fun i f=>?_,fun j b=>?_⟩
 .rw [(h i f).kit (h j b)]
  congr 1
  rw[Yu,Yu];have l:((Value.ref (a.getD j c))==Value.ref c)=false:=Yx.mpr fun e=>g j b (X9 e).symm;have p:List.contains qcQ (Value.ref (a.getD j c))=false:=rfl;rw[l,p];by_cases d:i=j
  .subst d;simp
  .have r:((Value.ref (a.getD j c))==Value.ref (a.getD i c))=false:=Yx.mpr fun e=>by
    have e:=X9 e;rw[m i f,m j b] at e;have o:=Yz.mp (Yb.mp n).1;rcases Nat.lt_or_gt_of_ne d with q | q
    .show o i j f b q e.symm
    .show o j i b f q e
   rw[r];simp[d]
 .rcases Ke i a.length with hi' | hi'
  .rw [(h i hi').kit hc,Yu,Yu];simp
  .have:i=a.length:=by lk
   subst this;rw[hl,hc.kit hc];simp
 .rcases Ke i a.length with hi' | hi'
  .rw [(h i hi').kitT (by room)];rfl
  .have:i=a.length:=by lk
   subst this;rw[hl,hc.kitT (by room)];rfl
 .rw [hc.kit (h j b),Yu];have l:((Value.ref (a.getD j c))==Value.ref c)=false:=Yx.mpr fun e=>g j b (X9 e).symm;rw[l];rfl
end
end L2
namespace HT
open PySem PySem.Spec PyProof.Rows
variable{sl:Addr}{vs:Value}
section
variable{prog:Program}{w:World}{A:Around}{E:Value->Shared->Prop}{s:Shared}
theorem sliceApplied_rev{Q:Int×Int×Nat->Shared->Prop}(d:s.heap.IsSliceOf sl .none .none vs)(e:IsPart vs (some (-1)))
  (h:Q (1,-1,2) s):wpAny (model prog w) A (Builtin.Slice.sliceApplied (.ref sl) (pure ((2:Nat):Int))) Q E s:=by
 obtain⟨f,b,c,a⟩:=id d;unfold Builtin.Slice.sliceApplied Builtin.Slice.sliceFields;show yr (yr (YD b a (x:=.none) rfl (yr (YD b a (x:=.none) rfl (yr (YD b a (x:=vs) rfl (yu ?_)))))));show yr (qaq e ?_);show wpAny _ _ (if ((-1:Int)==0)=true then _ else _) _ _ s;rw[yF (by decide)];show yr (Xw (yr (Xw (yr (yu ?_)))));show yu h
theorem getItem_pair_rev{t:Addr}{x y:Value}{Q:Value->Shared->Prop}(b:IsTup s.heap t #[x,y])(f:s.heap.IsSliceOf sl .none .none vs)(j:IsPart vs (some (-1)))
  (h:Q (.ref s.heap.objs.size) { s with heap:=s.heap.push { cls:=.type "tuple",data:=.seq #[y,x] } }):wpAny (model prog w) A (getItem (.ref t) (.ref sl)) Q E s:=by
 have a:sizeOk (.seq #[y,x]):=by
  show 2<=sizeLine
  decide
 obtain⟨i,e,d,g⟩:=id f;have c:s.TypeIs (.ref sl) "slice":=⟨i,e,d⟩;unfold getItem
 try with_reducible show Yr ?_
 first | show yr (yu ?_) | skip
 show yr (kF b.typeIs (by decide) ?_);show yr (xx (name:=Str.ofString "__getitem__") b.typeIs Ye
  (Xc Ye b.typeIs kt ?_ (args_tuple_getitem _ _)))
 show wpAny _ _ (Builtin.Tuple.tupleItemsOf (.ref t)>>=_) _ _ s;show yr (tupleItemsOf_ b ?_);show yr (kW c ?_);rw[yI (by decide)];show yr (sliceApplied_rev f j ?_);show wpAny _ _ (if ((1:Int)==0&&(-1:Int)==1&&2==2)=true then _ else _) _ _ s;rw[yF (by decide)]
 first
  | show yr (m:=Builtin.Tuple.tupleExact _) (Ys (yu ⟨_,rfl,yu h⟩) a)
  | show yr (m:=Builtin.Tuple.tupleExact _) (Ys (yr (yu (yu ⟨_,rfl,yu h⟩))) a)
  | show yr (yr (m:=Builtin.Tuple.tupleExact _) (Ys (yu (yu ⟨_,rfl,yu h⟩)) a))
  | show yr (yr (m:=Builtin.Tuple.tupleExact _) (Ys (yu ⟨_,rfl,yu h⟩) a))
end
end HT
namespace L2
open PySem PySem.Spec PyProof.Rows
variable{H:Hp}{σ:St}
def qge(K:yg)(d:TE)(e:TO):TE:=fun σ H Q=>d σ H fun x c=>e σ c fun o b=>o=some (-1)/\∃ a y z,x=.ref a/\SqT K b a [y,z]/\∀ p,b p=none->Q (.ref p) (upd b p (.tup [z,y]))
theorem vRev{K:yg}{c:TE}{d:TO}{Q:VK}(h:c σ H fun x e=>d σ e fun o b=>o=some (-1)/\∃ a y z,x=.ref a/\SqT K b a [y,z]/\∀ p,b p=none->Q (.ref p) (upd b p (.tup [z,y]))):qge K c d σ H Q:=h
section
variable{X:Cx}{K:yg}{e st:Expr}{te:TE}{ts:TO}{p2 pos:Pos}
theorem qeM(B:X.K=K)(C:PE X e te)(D:PO X (some st) ts):PE X (.Subscript e (.Slice none none (some st) p2) pos) (qge K te ts):=by
 subst B;intro c s σ H Q I h;show Subscript_ (thn (C c s σ H _ I h) fun v M ⟨x,m,p,L,J⟩=>?_);show Ka ?_;rw[X6];show yu ?_;show yu ?_;show thn (D c M σ m _ p J) fun l d ⟨o,n,t,pt,u,a,y,z,ex,E,q⟩=>?_;subst u ex;cases L;have f:Inv X c σ n { d with heap:=d.heap.push { cls:=.type "slice",data:=.fields #[.none,.none,l] } }:=t.kept (t':=d.toks) fun b G q=>yv _ q;obtain⟨F,r,j,hz⟩:=f.tuple E;obtain⟨N,O,rfl,g,i⟩:=qdz r;show wpAny (model X.prog X.w) X.A (subscriptTail e (.Slice none none (some st) p2) (.ref a) (.ref d.heap.objs.size)) (EP X c σ Q) X.xe { d with heap:=d.heap.push { cls:=.type "slice",data:=.fields #[.none,.none,l] } };show tail_any (ops:=[.ref a,.ref d.heap.objs.size]) j.typeIs Ye.lookup (HT.getItem_pair_rev j (XH ..) pt ?_) (by with_unfolding_all rfl);show⟨.ref _,_,f.laid (t':=d.toks) (o:=.tup [z,y]) (fun b G q=>yv _ q) (yh _) ?_,rfl,q _ (f.hok.fresh (yh _))⟩;show⟨by show 2<=sizeLine;decide,_,.cons i (.cons g .nil),IsTup.new _ _⟩
end
theorem Inv.turnedL{X:Cx}{a:List (Addr×Obj)}{s:Shared}{h':Heap}{t':Nat}{fp:LQ}(I:Inv X a σ H s)(k:∀ b o,b∉fp->s.heap.get? b=some o->h'.get? b=some o)(f:∀ b∈fp,qcK X a H b):Inv X a σ H { s with heap:=h',toks:=t' }:=by
 have d:∀ b u,H b=some u->b∉fp:=fun b u e z=>by rw[(f b z).1] at e;cases e
 have p:X.env.locals∉fp:=fun z=>(f _ z).2.1 rfl;show I.step (g':=s.gens) (d':=s.drawn) (ch:=fp) (fun b hb=>?_) (fun b o _ _ hc e _=>k b o hc e) (fun b o _ _ hc e _=>⟨o.slots,k b o hc e⟩) (fun _ _ _ _ n=>n)
  (fun b o hc e=>⟨o,k b o hc e⟩) (fun _ _ e=>e) (fun _ _ _ e=>e) (fun b A e=>⟨#[],by rw[e];simp⟩) (fun m t=>?_) (fun b u e=>?_) I.bare
 .obtain⟨x,h,y,i,j,l⟩:=f b hb;show⟨i,h,j,l⟩
 .obtain⟨o,g,ep,w,r⟩:=t;show⟨o,g,ep,k _ o p w,r⟩
 .show(I.hok b u e).stay (fun c v hc q=>k c v ?_ q) (fun _ q=>q) fun _ _ q=>q;rcases hc with z | z
  .rw [z];show d b u e
  .show d c _ z
noncomputable def Ite(K:yg)(a:Addr):It:=
 ⟨fun i H=>∃ xs x,SqL K H a xs/\xs[i]?=some x,fun i H x H'=>∃ t y,x=.ref t/\H t=none/\H'=upd H t (.tup [.int i,y])/\∀ xs,SqL K H a xs->xs[i]?=some y,fun i H=>∃ xs,SqL K H a xs/\xs.length<=i⟩
theorem push_some{h:Heap}{o v:Obj}{b:Addr}(e:(h.push o).get? b=some v)(ne:b≠h.objs.size):h.get? b=some v:=(Heap.get?_push_cases e).elim (fun z=>absurd z.1 ne) fun z=>z
def iEnum(K:yg)(c:TA):TI:=fun σ H R=>c σ H fun vs b=>∃ a xs,vs=[.ref a]/\SqL K b a xs/\R (Ite K a) b
theorem vEnum{K:yg}{b:TA}{R:It->Hp->Prop}(h:b σ H fun vs c=>∃ a xs,vs=[.ref a]/\SqL K c a xs/\R (Ite K a) c):iEnum K b σ H R:=h
section
variable{X:Cx}
end
end L2
namespace L2
open PySem PySem.Spec PyProof.Rows PySem.Builtin PySem.Builtin.Str
theorem qfB{a c:Nat}(h:a+100<c):a+1<c:=by lk
theorem vDGet2{e ty f:TE}{b:St}{H:Hp}{Q:VK}(h:e b H fun x c=>∃ a,x=.ref a/\IsD c a/\ty b c fun y g=>f b g fun z d=>∃ o,DGet d a y o/\Q (o.getD z) d):tDGet2 e ty f b H Q:=h
end L2
namespace L2
open PySem PySem.Spec PyProof.Rows
theorem eqV_strD(a b:Str):eqV (.str a) (.str b)=decide (a=b):=by
 have e:eqV (.str a) (.str b)=(a==b):=by simp[eqV]
 rw[e,xk,Ym,Yg]
theorem qcv:∀(ys:LS) (y:Str) (m:Nat) (b:m<ys.length),m<ys.idxOf y->ys[m]≠y
 | [],_,_,b,_=>by simp at b
 | a::r,y,m,b,h=>by
  rw[List.idxOf_cons] at h;by_cases e:a=y
  .subst e;simp at h
  .have hb:(a==y)=false:=Yx.mpr e;rw[hb] at h
   cases m with
   | zero=>show e
   | succ k =>
    have c:k<r.idxOf y:=by
     have h:k+1<r.idxOf y+1:=h;lk
    show qcv r y k (by simpa using b) c
section
variable{X:Cx}{K:yg}
def rIndex(K:yg):V->List V->Hp->VK->Prop:=fun x vs H Q=>∃(p:Addr) (ys:LS) (y:Str),x=.ref p/\vs=[.str y]/\SqL K H p (ys.map V.str)/\y∈ys/\Q (.int (ys.idxOf y:Nat)) H
theorem qcR(A:X.K=K):MtR X "list.index" (rIndex K):=by
 subst A;intro t s N H x vs v us Q I J G h;obtain⟨p,ys,y,rfl,rfl,B,D,q⟩:=h;cases J;obtain⟨u,rfl,E⟩:=G.one;obtain⟨a,r,pl,hz⟩:=I.list B;obtain⟨⟨cls,z,data,L⟩,o,hc,n,l⟩:=id pl.isList;simp only at hc l;subst hc l;have fs:(ys.map V.str).all zM=true:=by rw[ky];show YM.mpr fun _ _=>rfl
 have b:(ys.map V.str).length=a.length:=r.length;rw[ya] at b;have d:ys.idxOf y<ys.length:=List.idxOf_lt_length_iff.mpr D
 have at_:∀(m:Nat) (i:m<ys.length) (c:m<a.toArray.size),eqU (.str y) a.toArray[m]=decide (ys[m]=y):=fun m i c=>by
  have g:(ys.map V.str)[m]?=some (.str ys[m]):=by rw[yd,yb i];rfl
  obtain⟨w,hw,j⟩:=r.get g
  have e:a.toArray[m]=w:=by
   have:a.toArray[m]?=some w:=by simpa using hw
   rw[xO c] at this;show ym this
  rw[e,qdT j rfl,eqV_strD]
 have M:ys.length<=sizeLine:=by rw[ya] at hz;show hz
 have C:sizeLine<2 ^ 63-1:=by decide
 show X4 Xg ⟨_,o,rfl⟩ PySem.F.entry_list_index (PySem.F.args_list_index_2 _ _)
  (SeqAt.list_indexAt p a.toArray n z L u (eqU (.str y)) (ys.idxOf y) (by simpa [<- b] using d) (by lk) ?_ ?_) ⟨o,fun w hw=>qar E rfl r fs w (by simpa using hw),.int _,H,I.tok _,⟨_,rfl⟩,q⟩
 .rw [at_ _ d];show yL (xp d)
 .intro m i f;rw[at_ m (by lk)];show yl fun e=>qcv ys y m (by lk) f e
end
theorem qaR(xs:List V)(k:Nat):qc5 xs none (some (k:Int))=xs.take k:=by
 unfold qc5;rw[HT.sIx_none,HT.sIx_nat,List.drop_zero,Kg];by_cases h:k<=xs.length
 .rw [k9 h]
 .rw [kQ (by lk),xi (yh _),xi (by lk)]
theorem qbx(xs:List V)(k:Nat):qc5 xs (some (k:Int)) none=xs.drop k:=by
 unfold qc5;rw[HT.sIx_none,HT.sIx_nat];by_cases h:k<=xs.length
 .rw [k9 h,xi (by rw[Xb];lk)]
 .rw [kQ (by lk),List.drop_length,List.drop_of_length_le (by lk)];simp
section
variable{X:Cx}{K:yg}
end
end L2
namespace HT
open PySem PySem.Spec PyProof.Rows
section
variable{prog:Program}{w:World}{A:Around}{E:Value->Shared->Prop}{s:Shared}
end
end HT
namespace L2
open PySem PySem.Spec PyProof.Rows
def tStep(K:yg)(e:TE)(f:TO):TE:=fun c H Q=>e c H fun x d=>f c d fun o b=>∃ a y z,x=.ref a/\SqT K b a [y,z]/\((o=some (-1)/\∀ p,b p=none->Q (.ref p) (upd b p (.tup [z,y])))\/(o=some 1/\Q (.ref a) b))
theorem vStep{K:yg}{d:TE}{e:TO}{c:St}{H:Hp}{Q:VK}(h:d c H fun x f=>e c f fun o b=>∃ a y z,x=.ref a/\SqT K b a [y,z]/\((o=some (-1)/\∀ p,b p=none->Q (.ref p) (upd b p (.tup [z,y])))\/(o=some 1/\Q (.ref a) b))):tStep K d e c H Q:=h
section
variable{X:Cx}{K:yg}{e st:Expr}{te:TE}{ts:TO}{p2 pos:Pos}
end
def FG(K:yg)(a:Str)(st:Stmt):Prop:=∃ f b,PySem.W.nsIn K mainGlobals a=some (some (.ref f))/\Fun K a a st f b
def FM(K:yg)(C:Addr)(m b:Str)(st:Stmt):Prop:=∃ f a,PySem.W.findIn K (.ref C) m=some (some (.ref f))/\PySem.W.isFn K (.ref f)=true/\Fun K m b st f a
def FC(K:yg)(C:Addr)(m b:Str)(st:Stmt):Prop:=∃ f a,PySem.W.findCls K (.ref C) (.type "type") m=some (.val (.ref f))/\Fun K m b st f a
structure XQ(K:yg)(C:Addr):Prop where
 xa:PySem.W.findIn K (.ref C) "__getattribute__"=some (some (.builtin "BaseException.__getattribute__"))
 xb:PySem.W.findIn K (.ref C) "__getattr__"=some none
 xd:PySem.W.mroIn K C (.type "BaseException")=some true
 xe:PySem.W.mroIn K C (.type "object")=some true
 xf:PySem.W.hasDictIn K C=true
 xg:PySem.W.findIn K (.ref C) "__class__"=some (some (.builtin "object.__class__"))
 xh:PySem.W.findIn K (.ref C) "__setattr__"=some (some (.builtin "object.__setattr__"))
 p:PySem.W.keepIn K (.ref C)=true
section
variable{P:Program}{w:World}{K:yg}{mg:Str->Option Value}{base h:Heap}{CX:CXT}{k:Nat}{sp:Sp}{st:Stmt}{f:Addr}{fd:FuncData}{ps:LS}{nm m ql x:Str}{C:Addr}
theorem lN0{P:List Value->Prop}(h:P []):∀ us:List Value,us.length=0->P us:=fun us e=>by rw[List.eq_nil_of_length_eq_zero e];show h
theorem lNs{P:List Value->Prop}{n:Nat}(h:∀ a r,r.length=n->P (a::r)):∀ us:List Value,us.length=n+1->P us:=fun us e=>by
 cases us with
 |nil=>cases e
 |cons a r=>show h a r (Nat.succ.inj e)
theorem lN1{P:List Value->Prop}(h:∀ a,P [a]):∀ us:List Value,us.length=1->P us:=lNs fun a=>lN0 (h a)
theorem lN2{P:List Value->Prop}(h:∀ a b,P [a,b]):∀ us:List Value,us.length=2->P us:=lNs fun a=>lN1 (h a)
theorem lN3{P:List Value->Prop}(h:∀ a b c,P [a,b,c]):∀ us:List Value,us.length=3->P us:=lNs fun a=>lN2 (h a)
theorem lN4{P:List Value->Prop}(h:∀ a b c d,P [a,b,c,d]):∀ us:List Value,us.length=4->P us:=lNs fun a=>lN3 (h a)
theorem lN5{P:List Value->Prop}(h:∀ a b c d e,P [a,b,c,d,e]):∀ us:List Value,us.length=5->P us:=lNs fun a=>lN4 (h a)
abbrev BA(x ql:Str)(st:Stmt)(ps:LS):Prop:=∀(kV b d:Value) (c:Option Addr) (a ct:Value) (us:List Value),us.length=ps.length->bindArgs (PySem.W.fnOf x ql (qaF st) (zy st) (qg st) .none kV b d c a ct) ⟨us,[]⟩=pure (ps.zip us)
theorem fg_mk(X:K.In h)(G:h.Ns mainGlobals mg)(a:PySem.W.nsIn K mainGlobals nm=some (some (.ref f)))(F:Fun K nm nm st f fd)(o:FnOk P w K mg base CX k f fd ps sp)
  (hb:BA nm nm st ps:=by first | (show fun _ _ _ _ _ _=>lN1 fun _=>rfl) | (show fun _ _ _ _ _ _=>lN2 fun _ _=>rfl) | (show fun _ _ _ _ _ _=>lN3 fun _ _ _=>rfl) | (show fun _ _ _ _ _ _=>lN4 fun _ _ _ _=>rfl)) :
  DefOk P w K mg base CX k nm ps sp:=⟨_,_,o,kM X G a,F.kp,F.binds hb⟩
theorem fm_mk(b:Cls K C)(a:PySem.W.findIn K (.ref C) m=some (some (.ref f)))(n:PySem.W.isFn K (.ref f)=true)(F:Fun K m ql st f fd)(o:FnOk P w K mg base CX k f fd ps sp)
  (hb:BA m ql st ps:=by first | (show fun _ _ _ _ _ _=>lN1 fun _=>rfl) | (show fun _ _ _ _ _ _=>lN2 fun _ _=>rfl) | (show fun _ _ _ _ _ _=>lN3 fun _ _ _=>rfl) | (show fun _ _ _ _ _ _=>lN4 fun _ _ _ _=>rfl)) :
  MethOk P w K mg base CX k C m ps sp:=⟨⟨_,_,o,⟨a,n,F.kp⟩,F.binds hb⟩,b⟩
theorem fw_mk(X:K.In h)(G:h.Ns mainGlobals mg)(c:PySem.W.nsIn K mainGlobals x=some (some (.ref C)))(b:PySem.W.makesIn K C=true)(d:PySem.W.keepIn K (.ref C)=true)(a:PySem.W.findIn K (.ref C) "__init__"=some (some (.ref f)))(n:PySem.W.isFn K (.ref f)=true)(F:Fun K "__init__" ql st f fd)(o:FnOk P w K mg base CX k f fd ps sp)
  (hb:BA "__init__" ql st ps:=by first | (show fun _ _ _ _ _ _=>lN1 fun _=>rfl) | (show fun _ _ _ _ _ _=>lN2 fun _ _=>rfl) | (show fun _ _ _ _ _ _=>lN3 fun _ _ _=>rfl)) :
  MakeOk P w K mg base CX k C x ps sp:=⟨⟨_,_,o,⟨b,a,n,d⟩,F.binds hb⟩,kM X G c⟩
theorem fx_mk(X:K.In h)(G:h.Ns mainGlobals mg)(c:PySem.W.nsIn K mainGlobals x=some (some (.ref C)))(Y:XAt K C)(q:XQ K C)(a:PySem.W.findIn K (.ref C) "__init__"=some (some (.ref f)))(n:PySem.W.isFn K (.ref f)=true)(F:Fun K "__init__" ql st f fd)(o:FnOk P w K mg base CX0 k f fd ps sp)
  (hb:BA "__init__" ql st ps:=by first | (show fun _ _ _ _ _ _=>lN1 fun _=>rfl) | (show fun _ _ _ _ _ _=>lN2 fun _ _=>rfl)) :
  XMakeOk P w K mg base k C x ps sp:=⟨⟨_,_,o,⟨Y,a,n,q.p⟩,F.binds hb⟩,kM X G c⟩
theorem fc_mk(X:K.In h)(G:h.Ns mainGlobals mg)(c:PySem.W.nsIn K mainGlobals x=some (some (.ref C)))(a:PySem.W.readsIn K C (.type "type")=true)(b:PySem.W.findCls K (.ref C) (.type "type") m=some (.val (.ref f)))(d:PySem.W.specialIn K (.ref C) "__getattribute__"=some (some (.builtin "type.__getattribute__")))(F:Fun K m ql st f fd)(o:FnOk P w K mg base CX k f fd ps sp)
  (hb:BA m ql st ps:=by(show fun _ _ _ _ _ _=>lN2 fun _ _=>rfl)) :
  CMethOk P w K mg base CX k C x m ps sp:=⟨⟨_,_,o,⟨a,b,d,F.kp⟩,F.binds hb⟩,kM X G c⟩
theorem qfC{c:List Value}(x:XL K C c)(hb:qcb c=true)(q:XQ K C)(a:PySem.W.specialIn K (.builtin "object.__class__") "__get__"=some (some (.builtin "getset_descriptor.__get__")))(b:PySem.W.takesIn K (.builtin "object.__class__")=some true):XAt K C:=x.xat hb q.xa q.xb q.xd q.xe q.xf q.xg a b q.xh
end
end L2
namespace HT
open PySem PySem.Spec PyProof.Rows
section
variable{prog:Program}{w:World}{A:Around}{E:Value->Shared->Prop}{s:Shared}
end
end HT
namespace L2
open PySem PySem.Spec PyProof.Rows
variable{H:Hp}{R:It->Hp->Prop}{es:List Expr}{pos:Pos}{te:TE}{σ:St}
section
variable{X:Cx}{K:yg}{pos p:Pos}{x:Str}
end
section
variable{X:Cx}{K:yg}{e lo st:Expr}{te:TE}{tl ts:TO}{p2 pos:Pos}
def qgf(K:yg)(te:TE):TI:=fun σ H R=>te σ H fun v b=>∃ a xs,v=.ref a/\SqL K b a xs/\R (Itl K a) b
theorem viLst{K:yg}(h:te σ H fun v b=>∃ a xs,v=.ref a/\SqL K b a xs/\R (Itl K a) b):qgf K te σ H R:=h
theorem ki_lst{t:Expr}(j:X.K=K)(l:PE X e te):PI X t e (qgf K te):=by
 subst j;intro c s σ H R I h;show thn (l c s σ H _ I h) fun v d ⟨y,g,f,r,a,xs,i,m,q⟩=>?_;subst i;cases r
 have fp:∀ b∈[d.heap.objs.size],qcK X c g b:=fun b hb=>by
  have e:b=d.heap.objs.size:=by simpa using hb
  subst e;show f.fpOk (yh _) (f.hok.fresh (yh _))
 obtain⟨n,u,p,hz⟩:=f.list m;show kH p.isList ⟨d.heap.objs.size,[d.heap.objs.size],_,_,g,rfl,f.kept (t':=d.toks) fun b o e=>yv _ e,qcd a _,⟨_,yX _ rfl,rfl,rfl⟩,fp,q⟩
end
noncomputable def Itz(K:yg)(a b:Addr):It:=
 ⟨fun i H=>∃ xs ys x y,SqL K H a xs/\SqL K H b ys/\xs[i]?=some x/\ys[i]?=some y,fun i H v H'=>∃ t x y,v=.ref t/\H t=none/\H'=upd H t (.tup [x,y])/\(∀ xs,SqL K H a xs->xs[i]?=some x)/\∀ ys,SqL K H b ys->ys[i]?=some y,fun i H=>∃ xs ys,SqL K H a xs/\SqL K H b ys/\(xs.length<=i\/ys.length<=i)⟩
def tnZ(z TI TO c d a b:Addr)(i:Nat)(h:Heap):Prop:=IsZip h z TI TO .none/\IsPair h TI (.ref c) (.ref d)/\(∃ u v,IsPair h TO u v)/\h.IsListIter c a i/\h.IsListIter d b i
theorem turn_zip{P:Program}{w:World}{K:yg}{x1}(a b z TI TO n q:Addr)(D:ZipApart z TI TO n q a b):Turn P w K (.Tuple es x1 pos) (Itz K a b) [z,TI,TO,n,q] z (tnZ z TI TO n q a b) where
 mem:=by simp
 obj:=fun i h st c hc=>by
  obtain⟨hz,d,⟨u,v,g⟩,⟨o1,e1,c1,d1⟩,⟨o2,e2,c2,d2⟩⟩:=st;simp only[yx,yQ,Yv] at hc;rcases hc with rfl | rfl | rfl | rfl | rfl
  .show⟨_,hz,fun v z=>by have F:Data.fields _=Data.cell v:=z;cases F⟩
  .show⟨_,d,fun v z=>by have F:Data.seq _ _=Data.cell v:=z;cases F⟩
  .show⟨_,g,fun v z=>by have F:Data.seq _ _=Data.cell v:=z;cases F⟩
  .show⟨o1,e1,fun v z=>by rw[d1] at z;cases z⟩
  .show⟨o2,e2,fun v z=>by rw[d2] at z;cases z⟩
 keep:=fun i h h' st k=>by
  obtain⟨hz,d,⟨u,v,g⟩,h1,t⟩:=st;show⟨k z (by simp) _ hz,k TI (by simp) _ d,⟨u,v,k TO (by simp) _ g⟩,h1.at fun o x=>k n (by simp) o x,t.at fun o x=>k q (by simp) o x⟩
 item:=by
  intro X S hw R hc i l s σ H E I T st U;subst S hw R;obtain⟨hz,d,⟨u,v,g⟩,h1,t⟩:=st;obtain⟨xs,ys,x,y,J,m,hx,hy⟩:=U;obtain⟨ad,rv,p,_⟩:=I.list J;obtain⟨C,r,p2,_⟩:=I.list m;obtain⟨L,W,ag⟩:=rv.get hx;obtain⟨M,Y,ah⟩:=r.get hy;show wpAny_pyNext_zip_item D hz d g h1 t p.isList p2.isList (x:=L) (y:=M) (by simpa using W) (by simpa using Y) fun h' ab A N O hT hsz G=>?_;show⟨_,rfl,wpAny_letOwnedTupleGo_zip ab fun h3 ac j=>?_⟩;have fre:H s.heap.objs.size=none:=I.hok.fresh (yh _);have lt:∀{c o},s.heap.get? c=some o->s.heap.objs.size≠c:=fun e=>Yi (yN e);have nz:=lt hz;have ae:=lt d;have af:=lt g;have n1:s.heap.objs.size≠n:=by obtain⟨_,e,_⟩:=h1;show lt e
  have n2:s.heap.objs.size≠q:=by obtain⟨_,e,_⟩:=t;show lt e
  have I1:Inv X l σ (upd H s.heap.objs.size (.tup [x,y])) { s with heap:=s.heap.push { cls:=.type "tuple",data:=.seq #[L,M] },toks:=s.toks }:=
   I.laid (fun b u e=>yv _ e) (yh _) ⟨by show 2<=sizeLine;decide,[L,M],.cons ag (.cons ah .nil),⟨_,yX _ rfl,rfl,_,rfl⟩⟩
  have B:∀ c∈[z,TI,TO,n,q],qcK X l (upd H s.heap.objs.size (.tup [x,y])) c:=fun c hc=>by
   obtain⟨f0,f⟩:=T c hc;show⟨?_,f⟩;rw[qf]
   .show f0
   .simp only[yx,yQ,Yv] at hc;rcases hc with rfl | rfl | rfl | rfl | rfl
    .show nz.symm
    .show ae.symm
    .show af.symm
    .show n1.symm
    .show n2.symm
  have kk:∀ c o,c∉[z,TI,TO,n,q]->(s.heap.push { cls:=.type "tuple",data:=.seq #[L,M] }).get? c=some o->h3.get? c=some o:=fun c o hc e=>by
   simp only[yx,yQ,Yv,Kh] at hc;show j.extBut _ _ hc.1 ?_;by_cases hz:c=s.heap.objs.size
   .subst hz;rw[yX _ rfl] at e;cases e;show hT
   .show G c o hc.1 hc.2.2.1 hc.2.2.2.1 hc.2.2.2.2 (push_some e hz)
  have I2:=I1.turnedL (h':=h3) (t':=s.toks) (fp:=[z,TI,TO,n,q]) kk B;show⟨.ref s.heap.objs.size,_,I2,rfl,⟨_,x,y,rfl,fre,rfl,fun ai Z=>by rw[I.list_inj Z J];show hx,fun ys' aa=>by rw[I.list_inj aa m];show hy⟩,⟨ac,?_,⟨_,_,j.extBut _ _ D.TOz A⟩,N.extBut j.extBut D.i1z,O.extBut j.extBut D.i2z⟩,fun c hc=>(B c hc).1⟩;show j.extBut _ _ D.TIz (G _ _ D.TIz D.TITO D.TIi1 D.TIi2 d)
 done:=by
  intro X S hw R hc i l s σ H E I T st U;subst S hw R;obtain⟨hz,d,⟨u,v,g⟩,h1,t⟩:=st;obtain⟨xs,ys,J,m,he⟩:=U;obtain⟨ad,rv,p,_⟩:=I.list J;obtain⟨C,r,p2,_⟩:=I.list m;have l1:=rv.length;have l2:=r.length;show wpAny_pyNext_zip_end (I.ok.hd hc) D hz d g h1 t p.isList p2.isList (he.imp (fun e=>Xp (by simp;lk)) fun e=>Xp (by simp;lk)) fun h' G=>⟨rfl,I.turnedL (t':=s.toks) (fp:=[z,TI,TO,n,q]) (fun c o hc e=>?_) T⟩;simp only[yx,yQ,Yv,Kh] at hc;show G c o hc.1 hc.2.2.1 hc.2.2.2.1 hc.2.2.2.2 e
 self:=fun _ _ _ _ _ st h=>kR st.1 h
theorem qdj:bootBuiltins "zip"=some (.type "zip"):=by room
def qgg(K:yg)(d:TA):TI:=fun σ H R=>d σ H fun vs c=>∃ a b xs ys,vs=[.ref a,.ref b]/\SqL K c a xs/\SqL K c b ys/\R (Itz K a b) c
theorem vZip{K:yg}{c:TA}(h:c σ H fun vs d=>∃ a b xs ys,vs=[.ref a,.ref b]/\SqL K d a xs/\SqL K d b ys/\R (Itz K a b) d):qgg K c σ H R:=h
theorem pi_zip{X:Cx}{K:yg}{a b:Expr}{x:TA}{x1}{N p:Pos}(z:X.K=K)(B:Gl X "zip")(D:X.mg "zip"=none)(A:PA X [a,b] x)(F:starEach [a,b] X.env=[(false,eval a X.env),(false,eval b X.env)]:=by rfl)(g:starEach [b] X.env=[(false,eval b X.env)]:=by rfl):PI X (.Tuple es x1 N) (.Call (.Name "zip" p) [a,b] [] pos) (qgg K x):=by
 subst z;intro i s σ H R I h;show Call_ (qa7 I B D qdj (Y7 (thn (A pos i s σ H _ I h) fun us f ⟨vs,y,d,L,J⟩=>?_) (by rw[F,g]) (by rw[g];rfl)));obtain⟨a,b,xs,ys,e,E,t,q⟩:=J;subst e
 cases L with
 | cons r rr =>
  cases rr with
  | cons r2 rr =>
   cases rr;cases r;cases r2;obtain⟨G,O,pl,_⟩:=d.list E;obtain⟨w,M,j,_⟩:=d.list t;have u:a<f.heap.objs.size:=by obtain⟨_,e,_⟩:=pl.isList;show yN e
   have v:b<f.heap.objs.size:=by obtain⟨_,e,_⟩:=j.isList;show yN e
   show call_zip_2 pl.isList j.isList fun h' hz l m n o hsz C=>kR hz ?_;show⟨_,[f.heap.objs.size+4,f.heap.objs.size+2,f.heap.objs.size+3,f.heap.objs.size,f.heap.objs.size+1],_,_,y,rfl,d.kept (t':=f.toks) C,turn_zip a b _ _ _ _ _ (PySem.W.ktu_apart _ _ _ u v),⟨hz,l,⟨_,_,m⟩,n,o⟩,fun c hc=>?_,q⟩;simp only[yx,yQ,Yv] at hc;rcases hc with rfl | rfl | rfl | rfl | rfl
   .show d.fpOk (Xh _ _) (d.hok.fresh (Xh _ _))
   .show d.fpOk (Xh _ _) (d.hok.fresh (Xh _ _))
   .show d.fpOk (Xh _ _) (d.hok.fresh (Xh _ _))
   .show d.fpOk (yh _) (d.hok.fresh (yh _))
   .show d.fpOk (xT _) (d.hok.fresh (xT _))
def qgh(K:yg)(te:TE)(d:TO):TE:=fun σ H Q=>te σ H fun x c=>d σ c fun o b=>o=some (-1)/\∃ a xs,x=.ref a/\SqL K b a xs/\∀ p,b p=none->Q (.ref p) (upd b p (.lst xs.reverse))
theorem qgi{K:yg}{c:TO}{Q:VK}(h:te σ H fun x d=>c σ d fun o b=>o=some (-1)/\∃ a xs,x=.ref a/\SqL K b a xs/\∀ p,b p=none->Q (.ref p) (upd b p (.lst xs.reverse))):qgh K te c σ H Q:=h
theorem qdk:∀{xs:List V} {us:List Value},Vals xs us->Vals xs.reverse us.reverse
 | _,_,.nil=>.nil
 | _,_,.cons r t=>by
  rw[List.reverse_cons,List.reverse_cons];show(qdk t).append (.cons r .nil)
section
variable{X:Cx}{K:yg}{e st:Expr}{te:TE}{ts:TO}{p2 pos:Pos}
theorem qeN(u:X.K=K)(y:PE X e te)(z:PO X (some st) ts):PE X (.Subscript e (.Slice none none (some st) p2) pos) (qgh K te ts):=by
 subst u;intro c s σ H Q I h;show Subscript_ (thn (y c s σ H _ I h) fun v G ⟨x,l,n,F,E⟩=>?_);show Ka ?_;rw[X6];show yu ?_;show yu ?_;show thn (z c G σ l _ n E) fun j d ⟨o,m,p,pt,t,a,xs,ex,B,q⟩=>?_;subst t ex;cases F;have f:Inv X c σ m { d with heap:=d.heap.push { cls:=.type "slice",data:=.fields #[.none,.none,j] } }:=p.kept (t':=d.toks) fun b D q=>yv _ q;obtain⟨C,r,i,hz⟩:=f.list B;have g:=r.length;show wpAny (model X.prog X.w) X.A (subscriptTail e (.Slice none none (some st) p2) (.ref a) (.ref d.heap.objs.size)) (EP X c σ Q) X.xe { d with heap:=d.heap.push { cls:=.type "slice",data:=.fields #[.none,.none,j] } };show tail_any (ops:=[.ref a,.ref d.heap.objs.size]) i.isList.typeIs kG.lookup (wpAny_getItem_list_slice i.isList (XH ..) .none .none pt (by decide) ?_ (by rw[yy]<;>lk)) (by with_unfolding_all rfl);rw[PySem.W.krv_pick];show⟨.ref _,_,f.laid (t':=d.toks) (o:=.lst xs.reverse) (fun b D q=>yv _ q) (yh _) ?_,rfl,q _ (f.hok.fresh (yh _))⟩;show⟨by rw[YG];show hz,_,0,qdk r,yX _ rfl⟩
end
section
variable{X:Cx}{a:Expr}{ta:TA}{p p2 pos pos2:Pos}
end
end L2
namespace L2
structure Sb(V:Nat->Prop):Prop where
 z:V 0
 a:∀ x y,V x->V y->V (x ^^^ y)
def jn(V:Nat->Prop)(x:Nat):Nat->Prop:=fun y=>V y\/V (y ^^^ x)
def Spn:LN->Nat->Prop
 | []=>fun y=>y=0
 | a::L=>jn (Spn L) a
open Classical in
def Bnd(b n v:Nat):Prop:=∀ i,v.testBit i=true->b<=i/\i<b+n
open Classical in
noncomputable def swp:Nat->Nat->LN->Nat
 | 0,_,_=>0
 | n+1,b,L=>match L.filter (fun v=>v.testBit b) with
  | []=>swp n (b+1) L
  | p::t=>1+swp n (b+1) (L.filter (fun v=>!v.testBit b)++t.map fun v=>v ^^^ p)
open Classical in
noncomputable def rk(L:LN):Nat:=swp 30 0 L
open Classical in
noncomputable def les:Nat×Nat->List (Nat×Nat)->Nat×Nat
 | s,[]=>s
 | s,o::os=>if s.1 ^^^ o.1<s.1 then les (s.1 ^^^ o.1,s.2 ^^^ o.2) os else les s os
structure Ech(os:List (Nat×Nat)):Prop where
 nz:∀ o∈os,o.1≠0
 pw:os.Pairwise fun a b=>b.1.testBit a.1.log2=false
noncomputable def csm:LN->Nat->Nat->Nat
 | [],_,_=>0
 | a::L,k,c=>(if c.testBit k then a else 0) ^^^ csm L (k+1) c
noncomputable def stp(st:List (Nat×Nat))(n v:Nat):List (Nat×Nat):=if (les (v,1 <<< n) st).1=0 then st else st++[les (v,1 <<< n) st]
structure Stp(L:LN)(n:Nat)(st:List (Nat×Nat)):Prop where
 ech:Ech st
 sum:∀ o∈st,csm L 0 o.2=o.1
 low:∀ o∈st,o.2<2 ^ n
 lt:∀ o∈st,o.1<2 ^ 30
 spn:∀ v,Spn (st.map (·.1)) v↔Spn (L.take n) v
 free:st.map (fun o=>o.2.log2)=(List.range n).filter fun i=>decide (rk (L.take i)<rk (L.take (i+1)))
 len:st.length<=n
end L2
namespace L2
open PySem PySem.Spec PyProof.Rows
variable{i j:Nat}
section
variable{X:Cx}
end
def Fl:V->Prop
 | .non=>True
 | .bl _=>True
 | .int i=>-999999999999<=i/\i<=999999999999
 | _=>False
noncomputable def fD:V->PyData
 | .non=>.none
 | .bl b=>.bool b
 | .int i=>.int i
 | .str x=>.str x
 | _=>.none
def FlS(xs:List V):Prop:=xs.length<=1000/\∀ x∈xs,Fl x
def ShwT(H:Hp)(v:V)(t:Str):Prop:=match v with
 | .non=>t="None"
 | .bl b=>t=if b then Str.ofString "True" else Str.ofString "False"
 | .int i=>i.natAbs.log2<1920/\t=toString i
 | .str x=>(reprText x).length<=sizeLine/\t=reprText x
 | .ref p=>(∃ xs,H p=some (.lst xs)/\FlS xs/\t=(PyData.list (xs.map fD)).shown)\/∃ xs,H p=some (.tup xs)/\FlS xs/\t=(PyData.tuple (xs.map fD)).shown
 | _=>False
section
variable{X:Cx}{K:yg}
end
theorem gk_two{b n:Nat}{K:yg}(o:i<b:=by decide)(p:j<b:=by decide):qdC b (qfJ K n (qe1 (qbV i) (qe1 (qbV j) qf5))):=by
 intro x t H Q ⟨a,xs,e,h,g,v,r,c,m,l,d,q⟩;obtain⟨f,q⟩:=q;show⟨a,xs,e,h,g,v,r,c,m,l,d,f,q,?_,fun k s=>?_⟩
 .rw [kf,kf]
 .rw [xu (by lk),xu (by lk)]
section
variable{K:yg}{a:Addr}{xs:List V}{g:TG}{tc:TT}{te:TE}{σ':St}{H1:Hp}{Q:V->Hp->Prop}
end
section
variable{K:yg}{a b:Addr}{xs ys:List V}{g:TG}{tc:TT}{te:TE}{σ':St}{H1:Hp}{Q:V->Hp->Prop}
theorem comp_zip(E:ys.length<=xs.length)(d:Nat->List V->Hp->Prop)(s:d 0 [] H1)(hl:∀ i c H,i<=ys.length->d i c H->SqL K H a xs/\SqL K H b ys)
  (A:∀ i x y t c H,xs[i]?=some x->ys[i]?=some y->H t=none->d i c H->g (.ref t) σ' (upd H t (.tup [x,y])) fun h o=>tc h o fun b n=>if b=true then te h n fun v r=>c.length<sizeLine/\d (i+1) (c++[v]) r else d (i+1) c n)
  (w:∀ c H,d ys.length c H->c.length<=sizeLine/\∀ p,H p=none->Q (.ref p) (upd H p (.lst c))):qdX (Itz K a b) g tc te σ' H1 Q:=by
 show⟨fun i m c H=>m=ys.length-i/\i<=ys.length/\d i c H,⟨ys.length,by simp,xv _,s⟩,?_⟩;rintro i m c H ⟨rfl,z,p⟩;obtain⟨q,l⟩:=hl i c H z p;by_cases f:i<ys.length
 .have j:i<xs.length:=by lk
  show .inr ⟨⟨xs,ys,xs[i],ys[i],q,l,by simp[j],by simp[f]⟩,d (i+1),fun ys' H' C=>⟨ys.length-(i+1),by lk,rfl,f,C⟩,fun x H' y=>?_⟩;obtain⟨t,v,u,rfl,B,rfl,y,D⟩:=y;show A i v u t c _ (y xs q) (D ys l) B p
 .have e:i=ys.length:=by lk
  subst e;show .inl ⟨⟨xs,ys,q,l,.inr (yh _)⟩,w c H p⟩
end
section
variable{X:Cx}{K:yg}
end
section
variable{X:Cx}{K:yg}{e st:Expr}{te:TE}{ts:TO}{p2 pos:Pos}
end
mutual
inductive Dat(H:Hp):V->PyData->Prop
 | non:Dat H .non .none
 | bl (b:Bool):Dat H (.bl b) (.bool b)
 | int (i:Int):Dat H (.int i) (.int i)
 | str (x:Str):Dat H (.str x) (.str x)
 | lst {a:Addr} {xs:List V} {ds:List PyData}:H a=some (.lst xs)->DatS H xs ds->Dat H (.ref a) (.list ds)
 | tup {a:Addr} {xs:List V} {ds:List PyData}:H a=some (.tup xs)->DatS H xs ds->Dat H (.ref a) (.tuple ds)
 | dnil {a:Addr}:H a=some (.dK [])->Dat H (.ref a) (.dict [])
inductive DatS(H:Hp):List V->List PyData->Prop
 | nil:DatS H [] []
 | cons {v:V} {vs:List V} {d:PyData} {ds:List PyData}:Dat H v d->DatS H vs ds->DatS H (v::vs) (d::ds)
end
structure Shw(d:PyData)(n m:Nat):Prop where
 s:d.showable=true
 l:d.leavesShort 13=true
 b:d.bulk<=n
 p:d.depth<=m
structure ShwS(ds:List PyData)(n m:Nat):Prop where
 s:PyData.showableAll ds=true
 l:PyData.leavesShortAll 13 ds=true
 b:PyData.bulkAll ds<=n
 p:PyData.depthAll ds<=m
section
variable{X:Cx}{K:yg}{pins:List (Addr×Obj)}{σ:List (Option V)}{H:Hp}{s:Shared}
end
theorem qdl{f:Str×NameKind->Str×NameKind}(a:∀ y,(f y).1=y.1)(b:∀ y,(f y).2=y.2\/(f y).2=.cell):∀{ns:List (Str×NameKind)} {x:Str},(ns.lookup x=some .cell\/ns.lookup x=some .free)->((ns.map f).lookup x=some .cell\/(ns.map f).lookup x=some .free)
 | [],x,h=>by simp at h
 | y::r,x,h=>by
  have e:((y::r).map f)=((f y).1,(f y).2)::r.map f:=rfl;have c:y::r=(y.1,y.2)::r:=rfl;rw[c,xo] at h;rw[e,xo,a y]
  cases hb:x==y.1 with
  | false=>rw[hb] at h;show qdl a b h
  | true =>
   rw[hb] at h;rcases b y with z | z
   .rw [z];show h
   .rw [z];show .inl rfl
theorem compB_re{sc scope:Scope}{env:Env}(h:qcr sc scope=true):qcr (relabel sc env) scope=true:=by
 unfold qcr at h ⊢;rw[yY] at h ⊢;show⟨h.1,YM.mpr fun y b=>?_⟩;have:=YM.mp h.2 y b
 cases a:y.2 with
 | free =>
  rw[a] at this;simp only[yY,ki,Ym] at this ⊢;show⟨?_,this.2⟩;show qdl (fun y=>by dsimp only;split<;>rfl) (fun y=>by dsimp only;split<;>simp) this.1
 | _=>rw[a] at this;first | done | show this | cases this
section
variable{X:Cx}{tg elt iter:Expr}{ifs:List Expr}{scope sc1:Scope}{pos:Pos}{N N1:LS}{nl:Nat}{ixs:LN}{wi:TI}{g:TG}{tc:TT}{te:TE}{C1:Addr}{s1:Shared}{H1:Hp}{ex1:LQ}
theorem pe_compIn(N:LS)(nl:Nat)(ixs:LN)(hc:X.calm=true)(d:qcr sc1 scope=true)(f:N.length=nl+ixs.length)(a:qfO nl ixs N N1 scope.names=true)
  (j:PI (X.comp N1 sc1 C1 s1 H1 ex1) tg iter wi) (i:∀ C c b ex,PG ((X.comp N1 sc1 C1 s1 H1 ex1).comp N scope C c b ex) tg g) (e:qdC nl g) (m:∀ C c b ex,qfe ((X.comp N1 sc1 C1 s1 H1 ex1).comp N scope C c b ex) ifs tc) (h:∀ C c b ex,PE ((X.comp N1 sc1 C1 s1 H1 ex1).comp N scope C c b ex) elt te)
  (l:∀ x,foldedSetIterable iter (X.comp N1 sc1 C1 s1 H1 ex1).env x=pure x:=by intro _;rfl):PE (X.comp N1 sc1 C1 s1 H1 ex1) (.ListComp elt [⟨tg,iter,ifs,0⟩] scope pos) (qem wi g tc te nl ixs):=
 jh (sc:=relabel sc1 X.env) (XN:=N1) N nl ixs rfl rfl hc (compB_re d) f a j i e m h l
end
section
variable{X:Cx}{K:yg}
theorem qcw{e ty:TE}{b:St}{H:Hp}{Q:VK}(h:e b H fun x c=>∃ a,x=.ref a/\IsD c a/\ty b c fun y d=>∃ o,DGet d a y o/\Q (o.getD .non) d):qeA e ty b H Q:=h
end
noncomputable abbrev Cx.soft(X:Cx):Cx:={ X with calm:=false }
structure RoomW(k:Nat)(A:Around):Prop where
 dp:A.depth+3*k+5<recursionLimit
 un:A.units+16*k+200<cLine
 gd:A.guards=some []
theorem RoomW.deeper{k:Nat}{A:Around}(r:RoomW (k+1) A)(env:Env):RoomW k (A.deeper env):=
 ⟨by have:=r.dp;show A.depth+1+3*k+5<_;lk,by have:=r.un;show A.units+3+16*k+200<_;lk,r.gd⟩
theorem Room.soft{j k:Nat}{A:Around}{h:Option Value}(r:Room k A)(l:j<=k):RoomW j (A.mark h):=⟨by have:=r.dp;show A.depth+3*j+5<_;lk,by have:=r.un;show A.units+16*j+200<_;lk,r.gd⟩
structure FnOkW(P:Program)(w:World)(K:yg)(mg:Str->Option Value)(base:Heap)(k:Nat)(f:Addr)(fd:FuncData)(ps:LS)(sp:Sp):Prop where
 len:∀ vs H Q E,sp vs H Q E->vs.length=ps.length
 run:∀(A:Around) (outer:List Env) (s:Shared) (H:Hp) (args:Args) (us:List Value) (vs:List V) (Q:VK) (E:XK),RoomW k A->Env0 P w K mg base A outer s H->BindsTo s fd args (ps.zip us)->Vals vs us->sp vs H Q E ->
  codeAny (model P w) A (.call (.ref f) args) (CR CX0 outer P w H s Q E) s
structure DefOkW(P:Program)(w:World)(K:yg)(mg:Str->Option Value)(base:Heap)(k:Nat)(x:Str)(ps:LS)(sp:Sp):Prop where
 ex:∃ f fd,FnOkW P w K mg base k f fd ps sp/\mg x=some (.ref f)/\PySem.W.keepIn K (.ref f)=true/\Binds K fd ps []
section
variable{X:Cx}{k:Nat}{f C:Addr}{fd:FuncData}{ps:LS}{sp:Sp}{x m:Str}{p pos apos:Pos}{e o:Expr}{es:List Expr}{ta:TE}{t:TA}
end
section
variable{P:Program}{w:World}{K:yg}{mg:Str->Option Value}{base:Heap}
end
theorem Inv.laidM{X:Cx}{a:List (Addr×Obj)}{f:St}{H H':Hp}{s:Shared}{h':Heap}{t':Nat}(I:Inv X a f H s)(k:∀ b u,s.heap.get? b=some u->h'.get? b=some u)
  (d:∀ b,b<s.heap.objs.size->H' b=H b) (new:∀ b u,s.heap.objs.size<=b->H' b=some u->ObjOk X.prog X.w H' h' b u):Inv X a f H' { s with heap:=h',toks:=t' }:=by
 have lt:∀ b u,H b=some u->b<s.heap.objs.size:=fun b u e=>kS fun z=>by rw[I.hok.fresh z] at e;cases e
 have up:∀ b u,H b=some u->H' b=some u:=fun b u e=>(d b (lt b u e)).trans e;show I.step (g':=s.gens) (d':=s.drawn) (ch:=[]) (fun b hb=>by simp at hb) (fun b o _ _ _ e _=>k b o e) (fun b o _ _ _ e _=>⟨o.slots,k b o e⟩) (fun b o _ e n=>(d b (yN e)).trans n)
  (fun b o _ e=>⟨o,k b o e⟩) (fun b xs e=>up b _ e) (fun b _ _ e=>up b _ e) (fun b i e=>⟨#[],by rw[up b _ e];simp⟩) (fun m ⟨o,g,ep,h,r⟩=>⟨o,g,ep,k _ o h,r⟩) (fun b u e=>?_) I.bare
 by_cases hb:s.heap.objs.size<=b
 .show new b u hb e
 .rw [d b (kS hb)] at e;show(I.hok b u e).stay (fun c v _ q=>k c v q) (fun c q=>up c _ q) fun c xs q=>up c _ q
section
variable{prog:Program}{w:World}{A:Around}{E:Value->Shared->Prop}{s:Shared}
theorem alive_{a:Addr}{Q:Option Obj->Shared->Prop}(h:Q (s.heap.get? a) s):wpAny (model prog w) A (loadIfAlive a) Q E s:=fun b p _=>by
 show Sem.wp _ _ (.loadIfAlive a .pure) _ _ _ _;rw[Sem.wp_loadIfAlive];simpa using h
abbrev qfh(h:Heap)(z TI TO:Addr)(b:Value)(a:Bool):Prop:=h.get? z=some { cls:=.type "zip",dict:=none,data:=.fields #[b,.bool a,.bool false,.ref TI,.ref TO],slots:=#[] }
theorem qfD{z TI TO T:Addr}{a:Bool}{f:Obj}{Q:Bool->Shared->Prop}(hz:qfh s.heap z TI TO (rawInt T) a)(d:s.heap.get? T=some f)
  (b:∀ h',qfh h' z TI TO (rawInt T) true->Heap.SameBut z s.heap h'->Q false { s with heap:=h' }):wpAny (model prog w) A (Builtin.SmallTypes.ownedTupleIsFree (.ref z)) Q E s:=by
 unfold Builtin.SmallTypes.ownedTupleIsFree;show yr (YD hz rfl (x:=rawInt T) rfl ?_);show wpAny _ _ (loadIfAlive T>>=_) _ _ _;show yr (alive_ ?_);rw[d];show wpAny _ _ (field (.ref z) 1>>=_) _ _ _;show yr (YD hz rfl (x:=.bool a) rfl ?_)
 cases a with
 | true=>show yu (b _ hz ⟨rfl,fun _ _=>rfl⟩)
 | false =>
  show wpAny _ _ (setField (.ref z) 1 (.bool true)>>=_) _ _ _;show yr (wpAny_setField_rec hz (by simp) fun h1 c e=>yu (b h1 c e))
theorem znx{z TI TO d f a b T:Addr}{C:Bool}{L:Obj}{q r:Nat}{xs ys:Array Value}{x y:Value}{Q:Value->Shared->Prop}(D:ZipApart z TI TO d f a b)
  (hz:qfh s.heap z TI TO (rawInt T) C) (H:s.heap.get? T=some L) (m:IsPair s.heap TI (.ref d) (.ref f))
  (h1:s.heap.IsListIter d a q) (F:s.heap.IsListIter f b r) (n:s.heap.IsList a xs) (p:s.heap.IsList b ys) (I:xs[q]?=some x) (J:ys[r]?=some y)
  (G:∀ h',qfh h' z TI TO (rawInt T) true->h'.IsListIter d a (q+1)->h'.IsListIter f b (r+1)->IsPair h' s.heap.objs.size x y->h'.objs.size=s.heap.objs.size+1 ->
   (∀ c o,c≠z->c≠d->c≠f->s.heap.get? c=some o->h'.get? c=some o)->Q (.ref s.heap.objs.size) { s with heap:=h' }) :
  wpAny (model prog w) A (Builtin.«zip.__next__» ⟨[.ref z],[]⟩) (fun fin s'=>∃ v,fin=.done (.ret v)/\Q v s') E s:=by
 show wpAny _ _ (field (.ref z) 2>>=_) _ _ _;show yr <| YD hz rfl (x:=.bool false) rfl ?_;show wpAny _ _ (field (.ref z) 3>>=_) _ _ _;show yr <| YD hz rfl (x:=.ref TI) rfl ?_;show yr <| wpAny_seqItems m rfl ?_;show wpAny _ _ (Builtin.SmallTypes.ownedTupleIsFree _>>=_) _ _ _;show yr <| qfD hz H fun P O g=>?_;simp only[xK,XU];show yr ?_;rw[<- Array.forIn_toList];simp only[k8,Kb];show yr (yr (Yr ?_));show wpAny _ _ (Builtin.SmallTypes.nextOf (.ref d)>>=_) _ _ _;show yr <| XY (h1.extBut g.extBut D.i1z) (n.extBut g.extBut D.l1z) I fun R M h=>yu (yu ?_);show yr (yr (Yr ?_));show wpAny _ _ (Builtin.SmallTypes.nextOf (.ref f)>>=_) _ _ _;show yr <| XY ((F.extBut g.extBut D.i2z).extBut h.extBut D.i12.symm) ((p.extBut g.extBut D.l2z).extBut h.extBut D.l2i1) J fun l N i=>yu (yu (yu ?_));show yr (wpAny_newTuple (yu ⟨_,rfl,?_⟩) (by show 2<=sizeLine;decide));have j:l.objs.size=s.heap.objs.size:=by rw[i.1,h.1,g.1]
 have K:∀ c o,c≠z->c≠d->c≠f->s.heap.get? c=some o->l.get? c=some o:=fun c o t u B e=>i.extBut _ _ B (h.extBut _ _ u (g.extBut _ _ t e));rw[show(Value.ref l.objs.size)=.ref s.heap.objs.size by rw[j]];show G _ (yv _ (i.extBut _ _ D.i2z.symm (h.extBut _ _ D.i1z.symm O))) ((M.extBut i.extBut D.i12).at fun o e=>yv _ e) (N.at fun o e=>yv _ e) ?_ (by rw[YZ,j]) fun c o t u B e=>yv _ (K c o t u B e);rw[<- j];show yX _ rfl
theorem zne{z TI TO h i a b T:Addr}{F:Bool}{L:Obj}{r t:Nat}{xs ys:Array Value}{Q:Fin->Shared->Prop}(C:A.handled=none)(D:ZipApart z TI TO h i a b)
  (hz:qfh s.heap z TI TO (rawInt T) F) (I:s.heap.get? T=some L) (l:IsPair s.heap TI (.ref h) (.ref i))
  (h1:s.heap.IsListIter h a r) (H:s.heap.IsListIter i b t) (g:s.heap.IsList a xs) (n:s.heap.IsList b ys) (f:xs[r]?=none\/ys[t]?=none)
  (B:∀ h' e,(∀ c o,c≠z->c≠h->c≠i->s.heap.get? c=some o->h'.get? c=some o)->(∃ o,h'.get? e=some o/\o.cls=.type "StopIteration")->E (.ref e) { s with heap:=h' }) :
  wpAny (model prog w) A (Builtin.«zip.__next__» ⟨[.ref z],[]⟩) Q E s:=by
 show wpAny _ _ (field (.ref z) 2>>=_) _ _ _;show yr <| YD hz rfl (x:=.bool false) rfl ?_;show wpAny _ _ (field (.ref z) 3>>=_) _ _ _;show yr <| YD hz rfl (x:=.ref TI) rfl ?_;show yr <| wpAny_seqItems l rfl ?_;show wpAny _ _ (Builtin.SmallTypes.ownedTupleIsFree _>>=_) _ _ _;show yr <| qfD hz I fun N P d=>?_;simp only[xK,XU];show yr ?_;rw[<- Array.forIn_toList];simp only[k8,Kb];show yr (yr (Yr ?_));show wpAny _ _ (Builtin.SmallTypes.nextOf (.ref h)>>=_) _ _ _
 cases p:xs[r]? with
 | none=>show yr <| wpAny_nextOf_list_end C (h1.extBut d.extBut D.i1z) (g.extBut d.extBut D.l1z) p fun y e j m=>B y e (fun c o u v _ q=>j _ _ v (d.extBut _ _ u q)) m
 | some x =>
  have J:ys[t]?=none:=f.elim (fun z=>by rw[p] at z;cases z) id;show yr <| XY (h1.extBut d.extBut D.i1z) (g.extBut d.extBut D.l1z) p fun y O j=>yu (yu ?_);show yr (yr (Yr ?_));show wpAny _ _ (Builtin.SmallTypes.nextOf (.ref i)>>=_) _ _ _;show yr <| wpAny_nextOf_list_end C ((H.extBut d.extBut D.i2z).extBut j.extBut D.i12.symm) ((n.extBut d.extBut D.l2z).extBut j.extBut D.l2i1) J fun G e M m=>B G e (fun c o u v K q=>M _ _ K (j.extBut _ _ v (d.extBut _ _ u q))) m
def ZAt(z TI TO N:Nat)(h:Heap):Prop:=IsZip h z TI TO .none\/∃ T a o,N<=T/\qfh h z TI TO (rawInt (T:Nat)) a/\h.get? T=some o
theorem ZAt.typ{z TI TO N:Nat}(h:ZAt z TI TO N s.heap):s.TypeIs (.ref z) "zip":=by
 rcases h with e | ⟨_,_,_,_,e,_⟩<;>show⟨_,e,rfl⟩
theorem znx_any{z TI TO h i a b N:Addr}{G H:Nat}{xs ys:Array Value}{x y:Value}{Q:Option Value->Shared->Prop}(D:ZipApart z TI TO h i a b)(O:N<=s.heap.objs.size)
  (hz:ZAt z TI TO N s.heap) (l:IsPair s.heap TI (.ref h) (.ref i)) (d:∃ u v,IsPair s.heap TO u v)
  (h1:s.heap.IsListIter h a G) (I:s.heap.IsListIter i b H) (m:s.heap.IsList a xs) (n:s.heap.IsList b ys) (K:xs[G]?=some x) (L:ys[H]?=some y) (f:z<N/\h<N/\i<N)
  (J:∀ h',ZAt z TI TO N h'->(∃ u v,IsPair h' TO u v)->h'.IsListIter h a (G+1)->h'.IsListIter i b (H+1)->IsPair h' s.heap.objs.size x y->h'.objs.size=s.heap.objs.size+1 ->
   (∀ c o,c≠z->c≠TO->c≠h->c≠i->s.heap.get? c=some o->h'.get? c=some o)->Q (some (.ref s.heap.objs.size)) { s with heap:=h' }) :
  wpAny (model prog w) A (pyNext (.ref z)) Q E s:=by
 obtain⟨u,v,d⟩:=d;have typ:=hz.typ;rcases hz with hz | ⟨T,b1,o,hT,hz,ho⟩
 .show wpAny_pyNext_zip_item D hz l d h1 I m n K L fun g r M t B p C j=>J g (.inr ⟨s.heap.objs.size,false,_,O,r,p⟩) ⟨_,_,M⟩ t B p C j
 .unfold pyNext;show yr (X8 (xx (name:=Str.ofString "__next__") typ kl (Xc kl typ F.entry_zip_next (znx D hz ho l h1 I m n K L fun g r t B p C j=>yu ?_) (F.args_zip_next_1 _))));show J g (.inr ⟨T,true,o,hT,r,j _ _ (Yi (yj f.1 hT)) (Yi (yj f.2.1 hT)) (Yi (yj f.2.2 hT)) ho⟩) ⟨_,_,j _ _ D.TOz D.TOi1 D.TOi2 d⟩ t B p C fun c q P _ R S e=>j c q P R S e
theorem zne_any{z TI TO l m a b N:Addr}{t x:Nat}{xs ys:Array Value}{Q:Option Value->Shared->Prop}(r:A.handled=none)(D:ZipApart z TI TO l m a b)
  (hz:ZAt z TI TO N s.heap) (h:IsPair s.heap TI (.ref l) (.ref m)) (f:∃ u v,IsPair s.heap TO u v)
  (h1:s.heap.IsListIter l a t) (n:s.heap.IsListIter m b x) (i:s.heap.IsList a xs) (j:s.heap.IsList b ys) (d:xs[t]?=none\/ys[x]?=none)
  (p:∀ h',(∀ c o,c≠z->c≠TO->c≠l->c≠m->s.heap.get? c=some o->h'.get? c=some o)->Q none { s with heap:=h' }):wpAny (model prog w) A (pyNext (.ref z)) Q E s:=by
 obtain⟨u,v,f⟩:=f;have typ:=hz.typ;rcases hz with hz | ⟨T,b1,o,hT,hz,ho⟩
 .show wpAny_pyNext_zip_end r D hz h f h1 n i j d p
 .unfold pyNext;show yr (X8 (xx (name:=Str.ofString "__next__") typ kl (Xc kl typ F.entry_zip_next (zne r D hz ho h h1 n i j d fun g e k y=>?_) (F.args_zip_next_1 _))));obtain⟨q,B,hc⟩:=y;show yr (wpAny_isInstance (T:="StopIteration") (b:=true) ⟨q,B,hc⟩ isSubtype_stop ?_);show yu (p _ fun c o C _ G H e=>k c o C G H e)
end
structure LZ(z TI TO i1 i2 a b S N:Nat)(xs ys:Array Value)(h0:Heap)(i:Nat)(acc:Array Value)(c:Nat)(h:Heap):Prop where
 zp:ZAt z TI TO N h
 ti:IsPair h TI (.ref i1) (.ref i2)
 tO:∃ u v,IsPair h TO u v
 j1:h.IsListIter i1 a i
 j2:h.IsListIter i2 b i
 la:h.IsList a xs
 lb:h.IsList b ys
 ls:h.get? S=some { cls:=.type "list",dict:=none,data:=.seq acc c,slots:=#[] }
 sz:N<=h.objs.size
 len:acc.size=i
 its:∀(j:Nat) v,acc[j]?=some v->∃ t x y,v=.ref t/\N<=t/\IsPair h t x y/\xs[j]?=some x/\ys[j]?=some y
 nd:∀(j k:Nat) v,acc[j]?=some v->acc[k]?=some v->j=k
 kp:∀ q o,q<N->q≠z->q≠TO->q≠i1->q≠i2->q≠S->h0.get? q=some o->h.get? q=some o
structure LE(z TO i1 i2 S N:Nat)(xs ys:Array Value)(h0:Heap)(n:Nat)(acc:Array Value)(c:Nat)(h:Heap):Prop where
 ls:h.get? S=some { cls:=.type "list",dict:=none,data:=.seq acc c,slots:=#[] }
 len:acc.size=n
 its:∀(j:Nat) v,acc[j]?=some v->∃ t x y,v=.ref t/\N<=t/\IsPair h t x y/\xs[j]?=some x/\ys[j]?=some y
 nd:∀(j k:Nat) v,acc[j]?=some v->acc[k]?=some v->j=k
 kp:∀ q o,q<N->q≠z->q≠TO->q≠i1->q≠i2->q≠S->h0.get? q=some o->h.get? q=some o
structure LA(z TI TO i1 i2 a b S N:Nat):Prop where
 D:ZipApart z TI TO i1 i2 a b
 lt:z<S/\TI<S/\TO<S/\i1<S/\i2<S/\a<S/\b<S
 S:S<N
theorem LZ.at{z TI TO g l a b S N:Nat}{xs ys:Array Value}{w h h':Heap}{i c r:Nat}{acc d:Array Value}(L:LA z TI TO g l a b S N)(x:LZ z TI TO g l a b S N xs ys w i acc c h)
  (k:Heap.SameBut S h h') (R:h'.get? S=some { cls:=.type "list",dict:=none,data:=.seq d r,slots:=#[] }) (len:d.size=i) (m:∀(j:Nat) v,d[j]?=some v->∃ t x y,v=.ref t/\N<=t/\IsPair h t x y/\xs[j]?=some x/\ys[j]?=some y) (nd:∀(j k:Nat) v,d[j]?=some v->d[k]?=some v->j=k):LZ z TI TO g l a b S N xs ys w i d r h':=by
 obtain⟨l1,l2,J,K,M,O,P⟩:=L.lt;have A:=L.S;have f:∀{q o},q≠S->h.get? q=some o->h'.get? q=some o:=fun n e=>k.extBut _ _ n e;show⟨?_,f (yO l2) x.ti,?_,x.j1.at fun o e=>f (yO K) e,x.j2.at fun o e=>f (yO M) e,x.la.extBut k.extBut (yO O),x.lb.extBut k.extBut (yO P),R,by rw[k.1];show x.sz,len,fun j v e=>?_,nd,fun q o B C D E F p e=>f p (x.kp q o B C D E F p e)⟩
 .rcases x.zp with e | ⟨T,b1,o,hT,e,eo⟩
  .show .inl (f (yO l1) e)
  .show .inr ⟨T,b1,o,hT,f (yO l1) e,f (Yi (yj A hT)) eo⟩
 .obtain⟨u,v,e⟩:=x.tO;show⟨u,v,f (yO J) e⟩
 .obtain⟨t,u,v,G,s,H,I⟩:=m j v e;show⟨t,u,v,G,s,f (Yi (yj A s)) H,I⟩
section
variable{prog:Program}{w:World}{A:Around}{R:Result->Shared->Prop}{z TI TO i1 i2 a b S N:Nat}{xs ys:Array Value}{h0:Heap}
theorem zloop(hh:A.handled=none)(L:LA z TI TO i1 i2 a b S N)(hn:min xs.size ys.size<=2 ^ 24)(res:Value):∀(k i:Nat) (s:Shared) (acc:Array Value) (c:Nat),min xs.size ys.size-i=k->i<=min xs.size ys.size->LZ z TI TO i1 i2 a b S N xs ys h0 i acc c s.heap ->
  (∀ h' M O,LE z TO i1 i2 S N xs ys h0 (min xs.size ys.size) M O h'->R (.ok (.ret res)) { s with heap:=h' })->codeAny (model prog w) A (.builtin "list.extend.loop" ⟨[.ref S,.ref z,res],[]⟩) R s:=by
 have C:=L.S;obtain⟨l1,l2,U,E,G,l6,l7⟩:=L.lt;have p:∀{t q:Nat},N<=t->q<S->t≠q:=fun h1 h2=>by lk
 intro k
 induction k with
 | zero =>
  intro i s acc c hk hi x hR;show codeAny_builtin F.entry_extend_loop ?_;rw[Around.under_plainId XC _];show wpAny _ A.in1 (pyNext _>>=_) _ _ s
  have he:xs[i]?=none\/ys[i]?=none:=by
   rcases Nat.le_total xs.size ys.size with q | q
   .show .inl (Xp (by lk))
   .show .inr (Xp (by lk))
  show yr (zne_any hh L.D x.zp x.ti x.tO x.j1 x.j2 x.la x.lb he fun h' l=>yu (hR h' acc c ⟨?_,by rw[x.len];lk,fun j v e=>?_,x.nd,fun q o H y I J K X e=>l q o y I J K (x.kp q o H y I J K X e)⟩))
  .show l S _ (Yi l1) (Yi U) (Yi E) (Yi G) x.ls
  .obtain⟨t,u,v,m,g,e3,e4⟩:=x.its j v e;show⟨t,u,v,m,g,l t _ (p g l1) (p g U) (p g E) (p g G) e3,e4⟩
 | succ k ih =>
  intro i s acc c hk hi x hR;show codeAny_builtin F.entry_extend_loop ?_;rw[Around.under_plainId XC _];show wpAny _ A.in1 (pyNext _>>=_) _ _ s;obtain⟨u,hu⟩:∃ u,xs[i]?=some u:=⟨_,xO (by lk)⟩;obtain⟨v,hv⟩:∃ v,ys[i]?=some v:=⟨_,xO (by lk)⟩;show yr (znx_any L.D x.sz x.zp x.ti x.tO x.j1 x.j2 x.la x.lb hu hv ⟨kX l1 C,kX E C,kX G C⟩ fun h1 z1 ab m g eP Z l=>?_);have P:=l S _ (Yi l1) (Yi U) (Yi E) (Yi G) x.ls;show wpAny _ A.in1 (updateSeq S (·.push (.ref s.heap.objs.size))>>=_) _ _ _;have f:=x.len;have hN:=x.sz
  have W:∀ j:Nat,acc[j]?≠some (.ref s.heap.objs.size):=fun j e=>by
   obtain⟨t,Y,w',q1,B,q3,_⟩:=x.its j _ e;cases q1;show absurd (yN q3) (Yy _)
  have aa:∀(j k:Nat) r,(acc.push (.ref s.heap.objs.size))[j]?=some r->(acc.push (.ref s.heap.objs.size))[k]?=some r->j=k:=fun j k r m g=>by
   rw[Array.getElem?_push] at m g;split at m<;>split at g
   .rename_i H y;rw[H,y]
   .cases m;show absurd g (W k)
   .cases g;show absurd m (W j)
   .show x.nd j k r m g
  obtain⟨O,ac⟩:∃ O,(h1.update S (Obj.mapSeq (·.push (.ref s.heap.objs.size)))).get? S=some { cls:=.type "list",dict:=none,data:=.seq (acc.push (.ref s.heap.objs.size)) O,slots:=#[] }:=⟨_,YE (Obj.mapSeq (·.push (.ref s.heap.objs.size))) P rfl⟩;show yr (km P rfl (yu ⟨plainId_quiet XC _,ih (i+1) _ (acc.push (.ref s.heap.objs.size)) O (by lk) (by lk) ?_ hR⟩) ?_ ?_)
  .have sb:Heap.SameBut S h1 (h1.update S (Obj.mapSeq (·.push (.ref s.heap.objs.size)))):=XD ..;have h:∀{q o},q≠S->h1.get? q=some o->(h1.update S (Obj.mapSeq (·.push (.ref s.heap.objs.size)))).get? q=some o:=fun n e=>sb.extBut _ _ n e;show⟨?_,h (yO l2) (l _ _ L.D.TIz L.D.TITO L.D.TIi1 L.D.TIi2 x.ti),?_,m.at fun o e=>h (yO E) e,g.at fun o e=>h (yO G) e,?_,?_,ac,by rw[sb.1,Z];lk,by rw[Array.size_push,f],fun j r e=>?_,aa,fun q o H y I J K X e=>h X (l q o y I J K (x.kp q o H y I J K X e))⟩
   .rcases z1 with e | ⟨T,b1,o,hT,e,eo⟩
    .show .inl (h (yO l1) e)
    .show .inr ⟨T,b1,o,hT,h (yO l1) e,h (Yi (yj C hT)) eo⟩
   .obtain⟨Y,r,e⟩:=ab;show⟨Y,r,h (yO U) e⟩
   .obtain⟨o,e,d⟩:=x.la;show⟨o,h (yO l6) (l _ _ L.D.l1z L.D.l1TO L.D.l1i1 L.D.l1i2 e),d⟩
   .obtain⟨o,e,d⟩:=x.lb;show⟨o,h (yO l7) (l _ _ L.D.l2z L.D.l2TO L.D.l2i1 L.D.l2i2 e),d⟩
   .rw [Array.getElem?_push] at e;split at e
    .rename_i ej
     cases e;rw[ej,f];show⟨_,u,v,rfl,hN,h (Yi (yj C hN)) eP,hu,hv⟩
    .obtain⟨t,Y,w',q1,B,q3,q4⟩:=x.its j r e;show⟨t,Y,w',q1,B,h (Yi (yj C B)) (l t _ (p B l1) (p B U) (p B E) (p B G) q3),q4⟩
  .rw [f,YO];lk
  .show(acc.push _).size<=sizeLine+1;rw[Array.size_push,f,YO];lk
theorem zip_len0:typeLookup (.type "zip") "__len__"=pure none:=by rw[typeLookup_type,builtinLookup_eq_fast];kernel_rfl
theorem zip_hint0:typeLookup (.type "zip") "__length_hint__"=pure none:=by rw[typeLookup_type,builtinLookup_eq_fast];kernel_rfl
theorem zext{s:Shared}{m:Nat}(r:A.handled=none)(L:LA z TI TO i1 i2 a b S N)(t:min xs.size ys.size<=2 ^ 24)(res:Value)(hz:IsZip s.heap z TI TO .none)(x:LZ z TI TO i1 i2 a b S N xs ys h0 0 #[] m s.heap)
  (p:∀ h' c d,LE z TO i1 i2 S N xs ys h0 (min xs.size ys.size) c d h'->R (.ok (.ret res)) { s with heap:=h' }) :
  wpAny (model prog w) A.in1 (Builtin.List.listExtendWith (.ref S) (.ref z) res) (fun fin s'=>match fin with | .done f=>R (.ok f) s' | .again d=>d.quiet=true/\codeAny (model prog w) A d R s') (fun e s'=>R (.error e) s') s:=by
 obtain⟨l1,_⟩:=L.lt;have typ:s.TypeIs (.ref z) "zip":=⟨_,hz,rfl⟩;unfold Builtin.List.listExtendWith;show yr <| kW typ ?_;have u:Builtin.List.listSameRef (.ref S) (.ref z)=false:=by simp[Builtin.List.listSameRef,Yi l1]
 have l:(Value.type "zip"==.type "list")=false/\(Value.type "zip"==.type "tuple")=false:=by decide
 simp only[u,l.1,l.2,kL,xK,XU];show yr <| kR hz <| yr <| Yr ?_;unfold Builtin.List.listLengthHint;show yr <| wpAny_specialOf typ zip_len0 ?_;show wpAny _ _ (specialOf (Value.ref z) (Str.ofString "__length_hint__")>>=_) _ _ _;show yr <| wpAny_specialOf typ zip_hint0 <| yu ?_;show wpAny _ _ (rule "list.extend.makes-room">>=fun _=>Builtin.List.listTouch (.ref S)>>=fun _=>again (.builtin "list.extend.loop" ⟨[.ref S,.ref z,res],[]⟩)) _ _ _;show yr <| wpAny_rule <| yr ?_;show wpAny _ _ (updateSeq S (·.push .none)>>=fun _=>updateSeq S (·.pop)) _ _ _;show yr <| km x.ls rfl ?_;have g:=YE (Obj.mapSeq (·.push Value.none)) x.ls rfl;show km (hz:=by seq_fits) g rfl ?_;have o:=YE (Obj.mapSeq (·.pop)) g rfl
 have y:Heap.SameBut S s.heap ((s.heap.update S (Obj.mapSeq (·.push Value.none))).update S (Obj.mapSeq (·.pop))):=by
  have h:Heap.SameBut S s.heap (s.heap.update S (Obj.mapSeq (·.push Value.none))):=XD ..;have i:Heap.SameBut S (s.heap.update S (Obj.mapSeq (·.push Value.none))) ((s.heap.update S (Obj.mapSeq (·.push Value.none))).update S (Obj.mapSeq (·.pop))):=XD ..;show⟨i.1.trans h.1,fun q n=>(i.2 q n).trans (h.2 q n)⟩
 show yu ⟨plainId_quiet XC _,zloop r L t res _ 0 _ #[] _ rfl (xv _) (x.at L y o rfl (fun j v e=>by simp at e) fun j k v e=>by simp at e) p⟩
theorem zinit{s:Shared}{h:Nat}(m:A.handled=none)(L:LA z TI TO i1 i2 a b S N)(n:min xs.size ys.size<=2 ^ 24)(hz:IsZip s.heap z TI TO .none)(x:LZ z TI TO i1 i2 a b S N xs ys h0 0 #[] h s.heap)
  (l:∀ h' c d,LE z TO i1 i2 S N xs ys h0 (min xs.size ys.size) c d h'->R (.ok (.ret .none)) { s with heap:=h' }) :
  wpAny (model prog w) A.in1 (Builtin.«list.__init__» ⟨[.ref S,.ref z],[]⟩) (fun fin s'=>match fin with | .done f=>R (.ok f) s' | .again d=>d.quiet=true/\codeAny (model prog w) A d R s') (fun e s'=>R (.error e) s') s:=by
 obtain⟨l1,_⟩:=L.lt;show wpAny _ _ (do let old <- Builtin.List.listItems (.ref S);Builtin.List.listUpdate (.ref S) (fun _=>#[]);letGo old.toList.reverse;Builtin.List.listExtendWith (.ref S) (.ref z) .none) _ _ s;show yr ?_;unfold Builtin.List.listItems;show yr <| wpAny_seqItems x.ls rfl <| yu ?_;show wpAny _ _ (updateSeq S (fun _=>#[])>>=fun _=>letGo _>>=fun _=>Builtin.List.listExtendWith (.ref S) (.ref z) .none) _ _ s;show yr <| km x.ls rfl ?_;have i:=YE (Obj.mapSeq (fun _=>(#[]:Array Value))) x.ls rfl;have g:Heap.SameBut S s.heap (s.heap.update S (Obj.mapSeq (fun _=>(#[]:Array Value)))):=XD ..;show yr <| wpAny_letGo ?_;show zext m L n .none (g.extBut _ _ (yO l1) hz) (x.at L g i rfl (fun j v e=>by simp at e) fun j k v e=>by simp at e) l
end
section
variable{prog:Program}{w:World}{A:Around}{E:Value->Shared->Prop}{s:Shared}
theorem call_list_zip{z TI TO h i a b:Nat}{xs ys:Array Value}{Q:Value->Shared->Prop}(H:A.handled=none)(D:ZipApart z TI TO h i a b)(I:min xs.size ys.size<=2 ^ 24)(hz:IsZip s.heap z TI TO .none)(l:IsPair s.heap TI (.ref h) (.ref i))(f:∃ u v,IsPair s.heap TO u v)
  (h1:s.heap.IsListIter h a 0) (y:s.heap.IsListIter i b 0) (m:s.heap.IsList a xs) (n:s.heap.IsList b ys)
  (G:∀ h' c t,LE z TO h i s.heap.objs.size (s.heap.objs.size+1) xs ys s.heap (min xs.size ys.size) c t h'->Q (.ref s.heap.objs.size) { s with heap:=h' }):wpAny (model prog w) A (call (.type "list") [.ref z]) Q E s:=by
 show callType_codes (Q₁:=fun r g=>r=.ref s.heap.objs.size/\g={ s with heap:=s.heap.push { cls:=.type "list",data:=.seq #[] } }) F.called_list (F.typeCall_list_1 _) F.entry_list_init (code_list_new _ ⟨rfl,rfl⟩) fun r g p=>?_;obtain⟨rfl,rfl⟩:=p;have B:(s.heap.push { cls:=.type "list",data:=.seq #[] }).get? s.heap.objs.size=some { cls:=.type "list",data:=.seq #[] }:=yX _ rfl;have up:∀{q o},s.heap.get? q=some o->(s.heap.push { cls:=.type "list",data:=.seq #[] }).get? q=some o:=fun e=>yv _ e;have lt:∀{q o},s.heap.get? q=some o->q<s.heap.objs.size:=fun e=>yN e;obtain⟨u,v,f⟩:=f
 have L:LA z TI TO h i a b s.heap.objs.size (s.heap.objs.size+1):=by
  show⟨D,⟨lt hz,lt l,lt f,?_,?_,?_,?_⟩,Xa _⟩
  .obtain⟨_,e,_⟩:=h1;show lt e
  .obtain⟨_,e,_⟩:=y;show lt e
  .obtain⟨_,e,_⟩:=m;show lt e
  .obtain⟨_,e,_⟩:=n;show lt e
 have x:LZ z TI TO h i a b s.heap.objs.size (s.heap.objs.size+1) xs ys s.heap 0 #[] 0 (s.heap.push { cls:=.type "list",data:=.seq #[] }):=by
  show⟨.inl (up hz),up l,⟨u,v,up f⟩,h1.at fun o e=>up e,y.at fun o e=>up e,?_,?_,B,by rw[YZ];show yh _,rfl,fun j v e=>by simp at e,fun j k v e=>by simp at e,fun q o _ _ _ _ _ _ e=>up e⟩
  .obtain⟨o,e,d⟩:=m;show⟨o,up e,d⟩
  .obtain⟨o,e,d⟩:=n;show⟨o,up e,d⟩
 show⟨⟨_,B,rfl⟩,F.args_list_init_2 _ _,zinit (A:=A.in1) H L I (up hz) x fun h' c t C=>⟨rfl,G h' c t C⟩⟩
end
structure Zl(H H':Hp)(l:Addr)(ts:LQ)(xs ys:List V):Prop where
 sm:L2.Same H H'
 fl:H l=none
 ls:H' l=some (.lst (ts.map V.ref))
 len:ts.length=min xs.length ys.length
 tp:∀(j:Nat) t,ts[j]?=some t->H t=none/\∃ x y,xs[j]?=some x/\ys[j]?=some y/\H' t=some (.tup [x,y])
theorem qfE(H:Hp):∀(a:LQ) (xs ys:List V),a.Nodup->a.length<=xs.length->a.length<=ys.length->∃ G:Hp,(∀(j:Nat) t x y,a[j]?=some t->xs[j]?=some x->ys[j]?=some y->G t=some (.tup [x,y]))/\∀ q,q∉a->G q=H q
 | [],_,_,_,_,_=>⟨H,fun j t x y e=>by simp at e,fun _ _=>rfl⟩
 | t::a,[],_,_,h,_=>by simp at h
 | t::a,_::_,[],_,_,h=>by simp at h
 | t::a,x::xs,y::ys,nd,h1,h2=>by
  obtain⟨m,n⟩:=yo.mp nd;obtain⟨G,i,l⟩:=qfE H a xs ys n (by simpa using h1) (by simpa using h2);show⟨upd G t (.tup [x,y]),fun j t' o p c d f=>?_,fun q g=>?_⟩
  .cases j with
   | zero=>simp at c d f;subst c d f;show qb
   | succ j =>
    have b:a[j]?=some t':=by simpa using c
    rw[qf fun z=>m (by rw[<- z];show ye b)];show i j t' o p b (by simpa using d) (by simpa using f)
  .rw [qf fun z=>g (by rw[z];show yU)];show l q fun z=>g (yJ _ z)
noncomputable def refN:Value->Nat
 | .ref a=>a
 | _=>0
def tLZ(K:yg)(d:TA):TE:=fun f H Q=>d f H fun vs c=>∃ a b xs ys,vs=[.ref a,.ref b]/\SqL K c a xs/\SqL K c b ys/\xs.length<=1000/\∀ l e H',Zl c H' l e xs ys->Q (.ref l) H'
theorem vLZ{K:yg}{d:TA}{e:St}{H:Hp}{Q:VK}(h:d e H fun vs c=>∃ a b xs ys,vs=[.ref a,.ref b]/\SqL K c a xs/\SqL K c b ys/\xs.length<=1000/\∀ l f H',Zl c H' l f xs ys->Q (.ref l) H'):tLZ K d e H Q:=h
theorem qcS{X:Cx}{K:yg}{a b:Expr}{ta:TA}{p p2 ao f:Pos}(hK:X.K=K)(hc:X.calm=true)(hg:Gl X "list")(ag:Gl X "zip")(F:X.mg "list"=none)(ak:X.mg "zip"=none)(ha:PA X [a,b] ta)(hs:starEach [a,b] X.env=[(false,eval a X.env),(false,eval b X.env)]:=by rfl)(P:starEach [b] X.env=[(false,eval b X.env)]:=by rfl)
  (he:starEach [.Call (.Name "zip" p2) [a,b] [] f] X.env=[(false,eval (.Call (.Name "zip" p2) [a,b] [] f) X.env)]:=by rfl):PE X (.Call (.Name "list" p) [.Call (.Name "zip" p2) [a,b] [] f] [] ao) (tLZ K ta):=by
 subst hK;intro Z s σ H Q I h;show Call_ (qa7 I hg F Xi (Y7 (T:="list") ?_ he rfl));rw[he];show wpAny _ _ (spliced ((false,eval (.Call (.Name "zip" p2) [a,b] [] f) X.env)::[])) _ _ s;show kB ?_;show Call_ (qa7 I ag ak qdj (Y7 (thn (ha f Z s σ H _ I h) fun us w ⟨vs,H1,A,r1,q1⟩=>?_) (by rw[hs,P]) (by rw[P];rfl)));obtain⟨a,b,xs,ys,e,hq,al,hx,q⟩:=q1;subst e
 cases r1 with
 | cons r rr =>
  cases rr with
  | cons r2 rr =>
   cases rr;cases r;cases r2;obtain⟨C,rv,pl,_⟩:=A.list hq;obtain⟨l,aa,D,_⟩:=A.list al;have am:a<w.heap.objs.size:=by obtain⟨_,e,_⟩:=pl.isList;show yN e
   have an:b<w.heap.objs.size:=by obtain⟨_,e,_⟩:=D.isList;show yN e
   have l1:=rv.length;have l2:=aa.length;show call_zip_2 pl.isList D.isList fun h1 hz ae af ah ai hsz hk=>kE ?_;have la:h1.IsList a C.toArray:=by obtain⟨o,e,d⟩:=pl.isList;show⟨o,hk _ _ e,d⟩
   have B:h1.IsList b l.toArray:=by obtain⟨o,e,d⟩:=D.isList;show⟨o,hk _ _ e,d⟩
   show call_list_zip (A.ok.hd hc) (PySem.W.ktu_apart _ _ _ am an) (by simp only[yy];lk) hz ae ⟨_,_,af⟩ ah ai la B fun h2 acc c L=>?_;have L:LE (w.heap.objs.size+4) (w.heap.objs.size+3) w.heap.objs.size (w.heap.objs.size+1) h1.objs.size (h1.objs.size+1) C.toArray l.toArray h1 (min C.toArray.size l.toArray.size) acc c h2:=L;have O:acc.size=min xs.length ys.length:=by rw[L.len,l1,l2,yy,yy]
   obtain⟨g,R⟩:∃ g,g=acc.toList.map refN:=⟨_,rfl⟩;have n:g.length=min xs.length ys.length:=by rw[R,ya,xz,O]
   have J:∀(j:Nat) t,g[j]?=some t->acc[j]?=some (.ref t)/\h1.objs.size+1<=t/\∃ x y,xs[j]?=some x/\ys[j]?=some y/\∃ u v,RelV x u/\RelV y v/\IsPair h2 t u v:=fun j t e=>by
    rw[R,yd,xM] at e;obtain⟨v,ev,et⟩:=yn.mp e;obtain⟨t',u1,u2,q1,q2,q3,q4,q5⟩:=L.its j v ev;subst q1;have ad:t'=t:=et;subst ad;have hj:j<acc.size:=(Y9.mp ev).1;obtain⟨x,S⟩:∃ x,xs[j]?=some x:=⟨_,yb (by lk)⟩;obtain⟨y,U⟩:∃ y,ys[j]?=some y:=⟨_,yb (by lk)⟩;obtain⟨a1,ab,ap⟩:=rv.get S;obtain⟨a2,ac,aq⟩:=aa.get U;have b1:a1=u1:=by rw[List.getElem?_toArray,ab] at q4;cases q4;rfl
    have b2:a2=u2:=by rw[List.getElem?_toArray,ac] at q5;cases q5;rfl
    subst b1 b2;show⟨ev,q2,x,y,S,U,a1,a2,ap,aq,q3⟩
   have nd:g.Nodup:=by
    show Yz.mpr fun i j hi hj aj e=>?_;have M:=(J i g[i] (yb hi)).1;have N:=(J j g[j] (yb hj)).1;rw[e] at M;show absurd (L.nd i j _ M N) (yO aj)
   have mem:∀ t∈g,h1.objs.size+1<=t:=fun t ht=>by
    obtain⟨j,e⟩:=xN.mp ht;show(J j t e).2.1
   obtain⟨G,g1,g2⟩:=qfE H1 g xs ys nd (by lk) (by lk)
   have Y:∀ q,q<w.heap.objs.size->upd G h1.objs.size (.lst (g.map V.ref)) q=H1 q:=fun q hq=>by
    rw[qf (yO (by lk))];show g2 q fun z=>by have:=mem q z;lk
   have tl:∀ t∈g,t≠h1.objs.size:=fun t ht=>by have:=mem t ht;show Yi this
   show⟨.ref _,_,A.laidM (t':=w.toks) (H':=upd G h1.objs.size (.lst (g.map V.ref))) (fun b u e=>?_) Y fun b u hb e=>?_,rfl,q _ g _ ⟨fun b o e=>?_,A.hok.fresh (by show(w.heap.objs.size:Nat)<=h1.objs.size;lk),qb,n,fun j t e=>?_⟩⟩
   .have B:∀ m:Nat,w.heap.objs.size<=m->b<m:=fun m F=>yj (yN e) F;show L.kp b u (B _ (by lk)) (yO (B _ (by lk))) (yO (B _ (by lk))) (yO (B _ (by lk))) (yO (B _ (by lk))) (yO (B _ (by lk))) (hk b u e)
   .by_cases hl:b=h1.objs.size
    .subst hl;rw[qb] at e;cases e;show⟨by rw[ya,n,YO];lk,acc.toList,c,qat (by rw[ya,n];show O.symm) fun j y u M N=>?_,by rw[Array.toArray_toList];show L.ls⟩;rw[yd] at M;obtain⟨t,et,E⟩:=yn.mp M;subst E;rw[xM,(J j t et).1] at N;cases N;rfl
    .rw [qf hl] at e;by_cases F:b∈g
     .obtain⟨j,ej⟩:=xN.mp F;obtain⟨_,_,x,y,ex,E,u1,u2,r1,r2,ep⟩:=J j b ej;rw[g1 j b x y ej ex E] at e;cases e;show⟨by show 2<=sizeLine;decide,[u1,u2],.cons r1 (.cons r2 .nil),⟨_,ep,rfl,_,rfl⟩⟩
     .rw [g2 b F,A.hok.fresh hb] at e;cases e
   .rw [Y b (kS fun z=>by rw[A.hok.fresh z] at e;cases e)];show e
   .obtain⟨_,N,x,y,ex,E,_⟩:=J j t e;show⟨A.hok.fresh (by lk),x,y,ex,E,?_⟩;rw[qf (tl t (ye e))];show g1 j t x y e ex E
section
variable{X:Cx}
end
section
variable{prog:Program}{w:World}{A:Around}{E:Value->Shared->Prop}{s:Shared}{a:Addr}
def TxS(w:World)(h:Heap)(a:Addr)(ss:LS):Prop:=
 ∃(b:Array (Int×Value)) (ep:Nat) (t:SetTable),h.get? a=some { cls:=.type "set",dict:=none,data:=.set b ep t } /\
  (∀ e∈b.toList,∃ k u,e=(hashStr w k,Value.str k u))/\(b.toList.map fun e=>strOf e.2).Perm ss/\t.fits b.size=true/\(b.size=0\/t.plain=false)/\b.size<scanBound
end
section
variable{prog:Program}{w:World}{A:Around}{E:Value->Shared->Prop}{s:Shared}{a:Addr}
end
section
variable{prog:Program}{w:World}{A:Around}{E:Value->Shared->Prop}{s:Shared}{a I T:Addr}{es:Array (Int×Value)}{ep i:Nat}{t:SetTable}{f:Value}{Q:Option Value->Shared->Prop}
end
section
variable{prog:Program}{w:World}{A:Around}{E:Value->Shared->Prop}{s:Shared}{a I T:Addr}{es:Array (Int×Value)}{ep i:Nat}{t:SetTable}{f:Value}{Q:Option Value->Shared->Prop}{js:LN}
end
section
variable{prog:Program}{w:World}{A:Around}{E:Value->Shared->Prop}{s:Shared}{a I T:Addr}{es:Array (Int×Value)}{ep i:Nat}{t:SetTable}
end
section
variable{prog:Program}{w:World}{A:Around}{E:Value->Shared->Prop}{s:Shared}{a:Addr}{ss:LS}{w₁:World}
end
section
variable{prog:Program}{w:World}{A:Around}{E:Value->Shared->Prop}{s:Shared}{a:Addr}{ss:LS}{w₁:World}
end
section
variable{X:Cx}{K:yg}
theorem qd2:∀{ys:LS} {us:List Value},StrsAre us ys->Vals (ys.map V.str) us
 | [],_,.nil=>.nil
 | y::ys,_,.cons _ tk r=>.cons ⟨tk,rfl⟩ (qd2 r)
def rSortX(K:yg):List V->Hp->VK->Prop:=fun xs H Q=>∃(p:Addr) (ss:LS),xs=[.ref p]/\SqL K H p (ss.map V.str)/\ss.length<64/\∀(l:Addr) (us:LS),H l=none->us.Perm ss->sortedS us=true->Q (.ref l) (upd H l (.lst (us.map V.str)))
theorem qb2(l:X.K=K):qae X (.builtin "sorted") (rSortX K):=by
 subst l;intro f s x H xs us Q I r h;obtain⟨p,ss,rfl,t,j,q⟩:=h;obtain⟨u,rfl,v⟩:=qbm r;cases v;obtain⟨a,g,pl,hz⟩:=I.list t;have hl:a.length<64:=by have:=g.length;rw[ya] at this;lk
 show PyProof.Rows.sorted_strs (vs:=a) pl.isList (qcN g) hl fun out c h1 d i=>?_;obtain⟨e,m⟩:=PyProof.Rows.sortedAll_at s.heap a out;have n:H (s.heap.objs.size+1)=none:=I.hok.fresh (xT _)
 have new:ObjOk X.prog X.w (upd H (s.heap.objs.size+1) (.lst (c.map V.str))) (PyProof.Rows.sortedAll s.heap a out) (s.heap.objs.size+1) (.lst (c.map V.str)):=by
  show⟨?_,out.toList,e,qd2 h1,?_⟩
  .rw [ya,d.length_eq];show yR (qh (by lk))
  .rw [m]
 show⟨.ref (s.heap.objs.size+1),_,I.laid (t':=s.toks) (fun b o e=>PyProof.Rows.sortedAll_old e) (xT _) new,rfl,q _ c n d i⟩
def LeS(a b:Str):Prop:=a.cps.toList<=b.cps.toList
theorem qd3:∀(l:LS) (p:Str),risingS p l=true->(p::l).Pairwise LeS
 | [],p,_=>XJ _ _
 | x::r,p,h=>by
  have h:(!ltCps x.cps.toList p.cps.toList&&risingS x r)=true:=h;rw[yY,ltCps_eq,YB,Yw] at h;have h1:LeS p x:=h.1;have a:=qd3 r x h.2;show kD.mpr ⟨fun y hy=>?_,a⟩;rcases yx.mp hy with rfl | hy
  .show h1
  .show List.le_trans h1 (List.rel_of_pairwise_cons a hy)
theorem qcx{l:LS}(h:sortedS l=true):l.Pairwise LeS:=by
 cases l with
 | nil=>show .nil
 | cons x r=>show qd3 r x h
theorem qcy{l m:LS}(h:sortedS l=true)(h':sortedS m=true)(p:l.Perm m):l=m:=by
 show List.Perm.eq_of_pairwise (le:=LeS) (fun a b _ _ h1 c=>?_) (qcx h) (qcx h') p;have e:=List.le_antisymm h1 c
 cases a with | mk a=>cases b with | mk b =>
 show congrArg _ (Array.toList_inj.mp e)
end
end L2
namespace HT
open PySem PySem.Spec PyProof.Rows
variable{sl:Addr}{vs:Value}
section
variable{prog:Program}{w:World}{A:Around}{E:Value->Shared->Prop}{s:Shared}
theorem sliceApplied_rev1{Q:Int×Int×Nat->Shared->Prop}(d:s.heap.IsSliceOf sl .none .none vs)(e:IsPart vs (some (-1)))
  (h:Q (0,-1,1) s):wpAny (model prog w) A (Builtin.Slice.sliceApplied (.ref sl) (pure ((1:Nat):Int))) Q E s:=by
 obtain⟨f,b,c,a⟩:=id d;unfold Builtin.Slice.sliceApplied Builtin.Slice.sliceFields;show yr (yr (YD b a (x:=.none) rfl (yr (YD b a (x:=.none) rfl (yr (YD b a (x:=vs) rfl (yu ?_)))))));show yr (qaq e ?_);show wpAny _ _ (if ((-1:Int)==0)=true then _ else _) _ _ s;rw[yF (by decide)];show yr (Xw (yr (Xw (yr (yu ?_)))));show yu h
theorem getItem_one_rev{t:Addr}{x:Value}{Q:Value->Shared->Prop}(b:IsTup s.heap t #[x])(f:s.heap.IsSliceOf sl .none .none vs)(j:IsPart vs (some (-1)))
  (h:Q (.ref s.heap.objs.size) { s with heap:=s.heap.push { cls:=.type "tuple",data:=.seq #[x] } }):wpAny (model prog w) A (getItem (.ref t) (.ref sl)) Q E s:=by
 have a:sizeOk (.seq #[x]):=by
  show 1<=sizeLine
  decide
 obtain⟨i,e,d,g⟩:=id f;have c:s.TypeIs (.ref sl) "slice":=⟨i,e,d⟩;unfold getItem
 try with_reducible show Yr ?_
 first | show yr (yu ?_) | skip
 show yr (kF b.typeIs (by decide) ?_);show yr (xx (name:=Str.ofString "__getitem__") b.typeIs Ye
  (Xc Ye b.typeIs kt ?_ (args_tuple_getitem _ _)))
 show wpAny _ _ (Builtin.Tuple.tupleItemsOf (.ref t)>>=_) _ _ s;show yr (tupleItemsOf_ b ?_);show yr (kW c ?_);rw[yI (by decide)];show yr (sliceApplied_rev1 f j ?_);show wpAny _ _ (if ((0:Int)==0&&(-1:Int)==1&&1==1)=true then _ else _) _ _ s;rw[yF (by decide)]
 first
  | show yr (m:=Builtin.Tuple.tupleExact _) (Ys (yu ⟨_,rfl,yu h⟩) a)
  | show yr (m:=Builtin.Tuple.tupleExact _) (Ys (yr (yu (yu ⟨_,rfl,yu h⟩))) a)
  | show yr (yr (m:=Builtin.Tuple.tupleExact _) (Ys (yu (yu ⟨_,rfl,yu h⟩)) a))
  | show yr (yr (m:=Builtin.Tuple.tupleExact _) (Ys (yu ⟨_,rfl,yu h⟩) a))
end
end HT
namespace L2
open PySem PySem.Spec PyProof.Rows
def qfF(K:yg)(e:TE)(f:TO):TE:=fun c H Q=>e c H fun x d=>f c d fun o b=>o=some (-1)/\∃ a y,x=.ref a/\SqT K b a [y]/\∀ p,b p=none->Q (.ref p) (upd b p (.tup [y]))
theorem vRev1{K:yg}{d:TE}{e:TO}{c:St}{H:Hp}{Q:VK}(h:d c H fun x f=>e c f fun o b=>o=some (-1)/\∃ a y,x=.ref a/\SqT K b a [y]/\∀ p,b p=none->Q (.ref p) (upd b p (.tup [y]))):qfF K d e c H Q:=h
section
variable{X:Cx}{K:yg}{e st:Expr}{te:TE}{ts:TO}{p2 pos:Pos}
theorem pe_rev1(z:X.K=K)(B:PE X e te)(C:PO X (some st) ts):PE X (.Subscript e (.Slice none none (some st) p2) pos) (qfF K te ts):=by
 subst z;intro c s f H Q I h;show Subscript_ (thn (B c s f H _ I h) fun v L ⟨x,m,p,J,G⟩=>?_);show Ka ?_;rw[X6];show yu ?_;show yu ?_;show thn (C c L f m _ p G) fun l d ⟨o,n,t,pt,u,a,y,ex,D,q⟩=>?_;subst u ex;cases J;have g:Inv X c f n { d with heap:=d.heap.push { cls:=.type "slice",data:=.fields #[.none,.none,l] } }:=t.kept (t':=d.toks) fun b F q=>yv _ q;obtain⟨E,r,j,hz⟩:=g.tuple D;obtain⟨M,rfl,i⟩:=qbm r;show wpAny (model X.prog X.w) X.A (subscriptTail e (.Slice none none (some st) p2) (.ref a) (.ref d.heap.objs.size)) (EP X c f Q) X.xe { d with heap:=d.heap.push { cls:=.type "slice",data:=.fields #[.none,.none,l] } };show tail_any (ops:=[.ref a,.ref d.heap.objs.size]) j.typeIs Ye.lookup (HT.getItem_one_rev j (XH ..) pt ?_) (by with_unfolding_all rfl);show⟨.ref _,_,g.laid (t':=d.toks) (o:=.tup [y]) (fun b F q=>yv _ q) (yh _) ?_,rfl,q _ (g.hok.fresh (yh _))⟩;show⟨by show 1<=sizeLine;decide,_,.cons i .nil,IsTup.new _ _⟩
end
end L2
namespace K32
open PySem L2 PyProof.Rows
variable{A:Str->Str->Prop}{C cf cw dx l n p x:Addr}{E:XK}{G H H' H0 H1 H2:Hp}{K:W.Frag}{Pd:Str->Prop}{S S':FS}{a b c m s t u v y z:Str}{ab q:Str×Str}{as dn l' l1 l2 m1 ps r rs rv rw rz ss:LS}{d lo ol:V}{g:Str->Option Str}{i j:Nat}{kps qs tps ups:LP}{kvs:List (Key×V)}{lr:Option (LS)}{ns:LN}{o:HO}{pss:List (LS)}{ts us:LQ}{xs ys:List V}{α β:Type}
theorem Sr(H:Hp):L2.Same H H:=L2.Same.refl H
theorem jQ{k:Nat}{A:Around}(a:Room k A):A.units+100<cLine:=by have:=a.un;lk
theorem hmR{k:Nat}{A:Around}(a:Room k A)(h:j<=k:=by decide):Room j A:=a.mono h
theorem uu:FnScope ["self","text"] ["self","text"] (qg jE):=fS
theorem uD:FnScope ["self","found"] ["self","found"] (qg j6):=fS
local macro_rules | `(tactic| walk_at "w")=>`(tactic| first
 | with_reducible refine vSeq ?_ | with_reducible refine vAsg ?_ | with_reducible refine vAsgS ?_ | with_reducible refine vIfS ?_ | with_reducible refine vRet ?_ | with_reducible refine vNext ?_ | with_reducible refine vC ?_
 | ((with_reducible refine' vVar ?hv ?_);(case hv=>rfl)) | with_reducible refine vOp ?_ | with_reducible refine vChain ?_ | with_reducible refine vNil ?_ | with_reducible refine vCons ?_ | with_reducible refine vCB ?_ | with_reducible refine vCall ?_
 | with_reducible refine vLst ?_ | with_reducible refine vTup ?_ | with_reducible refine vTest ?_ | with_reducible refine vB ?_ | with_reducible refine vNot ?_ | with_reducible refine vAnd ?_ | with_reducible refine vOr ?_
 | with_reducible refine vAndV ?_ | with_reducible refine vOrV ?_ | with_reducible refine vNotV ?_ | with_reducible refine vYes ?_ | with_reducible refine vLeI ?_ | with_reducible refine vLeS ?_ | with_reducible refine vIsB ?_ | with_reducible refine vAddI ?_ | with_reducible refine vSl ?_ | with_reducible refine vNoPart ?_ | with_reducible refine vPart ?_ | with_reducible refine vExI ?_ | with_reducible refine vBM ?_ | with_reducible refine vBM0 ?_ | with_reducible refine vComp ?_ | with_reducible refine vFor ?_ | with_reducible refine vRng1 ?_ | with_reducible refine vAny ?_ | with_reducible refine vGN ?_ | with_reducible refine vI0 ?_ | with_reducible refine vEqI ?_ | with_reducible refine vEqB ?_ | with_reducible refine vEx ?_ | with_reducible refine vDrop ?_ | with_reducible refine vRetN ?_ | with_reducible refine vFldU ?_ | with_reducible refine vSFldU ?_ | with_reducible refine vXMake ?_ | with_reducible refine vMake ?_ | with_reducible refine vMeth ?_ | with_reducible refine vVinit ?_ | with_reducible refine vCallS ?_ | with_reducible refine vRaise ?_ | with_reducible refine vMethS ?_ | with_reducible refine vMakeS ?_ | with_reducible refine vUn ?_ | with_reducible refine vIf ?_ | with_reducible refine vRev ?_ | with_reducible refine vEnum ?_ | with_reducible refine vDGet2 ?_ | with_reducible refine vStep ?_)
local macro_rules | `(tactic| walk_at "v")=>`(tactic| repeat walk_at "w")
local macro_rules | `(tactic| ext)=>`(tactic| walk_at "v")
local macro_rules | `(tactic| apply $e)=>`(tactic| (ext;refine $e))
noncomputable def fAtt:LS:=["board","partners","rows","parents","bases","rings","waiting","longer"]
noncomputable def qfi(_:Nat):Str:="found"
structure Txt(K:W.Frag)(mg:Str->Option Value)(cc:Nat->Addr)(cw:Addr):Prop where
 b_len:mg "len"=none
 b_int:mg "int"=none
 b_enumerate:mg "enumerate"=none
 b_all:mg "all"=none
 b_max:mg "max"=none
 b_min:mg "min"=none
 b_isinstance:mg "isinstance"=none
 b_bool:mg "bool"=none
 b_str:mg "str"=none
 b_range:mg "range"=none
 b_list:mg "list"=none
 b_tuple:mg "tuple"=none
 b_ValueError:mg "ValueError"=none
 g_LONGEST_NAME:∃ tk,mg "LONGEST_NAME"=some (.int 6 tk)
 g_MOST_PLACES:∃ tk,mg "MOST_PLACES"=some (.int 14 tk)
 g_MOST_TIES:∃ tk,mg "MOST_TIES"=some (.int 30 tk)
 m_NoPlace:mg "NoPlace"=some (.ref (cc 0))
 m_OnceError:mg "OnceError"=some (.ref (cc 1))
 vinit:VInit K
 xat:∀ i,i<1+1->XAt K (cc i)
 na:∀ i,i<1->NoAttr K (cc i) (qfi i)
 kit:∀ i j,i<1->j<1->W.kitOne K (.ref (cc i)) (.ref (cc j))=some (decide (i=j))
 kitV:∀ i,i<1+1->W.kitOne K (.ref (cc i)) (.type "ValueError")=some true
 mroO:∀ i,i<1->W.mroIn K (cc i) (.ref (cc 1))=some true
 wcl:Cls K cw
 wn:NoAttr K cw "numbers"
 wo:NoAttr K cw "order"
 wr:NoAttr K cw "near"
 m_Web:mg "Web"=some (.ref cw)
 m_Forest:mg "Forest"=some (.ref (cc 9))
 fcl:Cls K (cc 9)
 fa:∀ a∈fAtt,NoAttr K (cc 9) a
 b_zip:mg "zip"=none
 b_sorted:mg "sorted"=none
inductive spOnce(K:W.Frag)(vs:List V)(H:Hp)(Q:VK)(E:XK):Prop|mk (e C:Addr) (y:V) (_:vs=[.ref e,y]) (_:H e=some (XN e C none)) (_:XAt K C) (_:Q .non H)
inductive spX(C:Addr)(fl:Str)(vs:List V)(H:Hp)(Q:VK)(E:XK):Prop|mk (e:Addr) (v:V) (_:vs=[.ref e,v]) (_:H e=some (XN e C none)) (_:∀ dx,H dx=none->Q .non (upd (upd H dx (.xd [(fl,v)])) e (XN e C (some dx))))
theorem raise_done{g:Str}{y:V}(c:XAt K C)(q:∀ dx H',L2.Same H1 H'->H' dx=some (.xd [(g,y)])->E (.ref C) (some dx) H') :
  [y].length<=1000/\∀ x,H1 x=none->spX C g (.ref x::[y]) (upd H1 x (XN x C none)) (fun v H2=>v=.non/\∃ a f dx,(V.ref x)=.ref a/\H2 a=some (XN a f dx)/\XAt K f/\E (.ref f) dx (upd H2 a (XO a f dx))) E0:=by
 show⟨by show 1<=1000;decide,fun x h=>⟨x,y,rfl,qb,fun dx d=>⟨rfl,x,C,some dx,rfl,qb,c,q dx _ (fun b o e=>?_) ?_⟩⟩⟩
 .have nx:b≠x:=fun z=>by rw[z,h] at e;cases e
  have nd:b≠dx:=fun z=>by rw[<- z,qf nx,e] at d;cases d
  rw[qf nx,qf nx,qf nd,qf nx];show e
 .have nx:dx≠x:=fun z=>by rw[z,qb] at d;cases d
  rw[qf nx,qf nx,qb]
def Rz(a:Nat->Addr)(H:Hp)(E:XK)(r:Nat×V):Prop:=∀ dx H',L2.Same H H'->H' dx=some (.xd [(qfi r.1,r.2)])->E (.ref (a r.1)) (some dx) H'
theorem Rz.later{a:Nat->Addr}{r:Nat×V}(h:Rz a H E r)(s:L2.Same H H1):Rz a H1 E r:=fun dx H' t e=>h dx H' (s.trans t) e
section
variable{P:Program}{w:World}{K:W.Frag}{mg:Str->Option Value}{base:Heap}{cc:Nat->Addr}{cw:Addr}{f:Addr}{fd:FuncData}
theorem ok_once(F:Fun K "__init__" "OnceError.__init__" jE f fd)(T:Txt K mg cc cw):FnOk P w K mg base CX0 1 f fd ["self","text"] (spOnce K):=by
 show F.ok uu fun _ _ _ _ H vs Q E b h=>?_
 .obtain⟨e,C,y,rfl,a,c,q⟩:=h;show⟨_,(qe (qR (k_vinit (K:=K) rfl T.vinit rfl T.b_ValueError boot_ValueError (qa (pv 0) (qa (pv 1) qd))))),?_⟩;apply⟨e,C,y,rfl,a,c,q⟩
theorem ok_NoPlace(F:Fun K "__init__" "NoPlace.__init__" j6 f fd)(T:Txt K mg cc cw)(c:CMethOk P w K mg base CX0 1 (cc 1) "OnceError" "__init__" ["self","text"] (spOnce K)) :
  FnOk P w K mg base CX0 2 f fd ["self","found"] (spX (cc 0) (qfi 0)):=by
 show F.ok uD fun _ _ _ _ H vs Q E b h=>?_
 .obtain⟨e,v,rfl,a,q⟩:=h;show⟨_,(qc (qR (pe_clsmQ c (hmR b) (qa (pv 0) (qa qaE qd))))
 (qe (jV (K:=K) rfl (pv 0) (pv 1) rfl))),?_⟩
  apply⟨e,_,_,rfl,a,T.xat 0 (by decide),?_⟩;apply .inr ⟨e,_,rfl,a,T.xat 0 (by decide),T.na 0 (by decide),q⟩
theorem uE:FnScope ["thing"] ["thing"] (qg zi):=fS
theorem u9:FnScope ["bits","number"] ["bits","number"] (qg qaS):=fS
theorem uw:FnScope ["numbers","thing"] ["numbers","thing"] (qg zG):=fS
theorem K3:FnScope ["numbers","thing","both"] ["numbers","thing"] (qg jF):=fS
theorem qC(a:L2.Same H H1)(hl:H1 l=none):L2.Same H (upd H1 l o):=fun c u e=>by
 have q:=a c u e;rw[qf (qv q hl)];show q
theorem qaT(a:L2.Same H H1)(hl:H l=none):L2.Same H (upd H1 l o):=fun c u e=>by
 rw[qf (qv e hl)];show a c u e
noncomputable def sg(c:Nat):Bool:=if (!decide (([c]:LN)<("a":Str).cps.toList))=true then !decide (("z":Str).cps.toList < [c]) else false
noncomputable def jW(x:Str):Bool:=if 1<=x.length/\x.length<=6 then x.cps.toList.all sg else false
theorem qdm{x:Str}(h:jW x=true):1<=x.length/\x.length<=6/\x.cps.toList.all sg=true:=by
 unfold jW at h;split at h
 .rename_i z;show⟨z.1,z.2,h⟩
 .cases h
theorem nameS_len(h:jW s=true):s.length<=6:=(qdm h).2.1
structure All2{α β:Type}(R:α->β->Prop)(l:List α)(m:List β):Prop where
 len:l.length=m.length
 at_:∀(k:Nat) a b,l[k]?=some a->m[k]?=some b->R a b
theorem All2.nil{R:α->β->Prop}:All2 R [] []:=⟨rfl,fun k a b h=>by simp at h⟩
theorem All2.mono{R S:α->β->Prop}{l:List α}{m:List β}(h:All2 R l m)(f:∀ a b,R a b->S a b):All2 S l m:=⟨h.len,fun k a b x y=>f a b (h.at_ k a b x y)⟩
theorem All2.snoc{R:α->β->Prop}{l:List α}{m:List β}{x:α}{y:β}(h:All2 R l m)(r:R x y):All2 R (l++[x]) (m++[y]):=by
 show⟨by rw[yt,yt,h.len];rfl,fun k a b c hb=>?_⟩;by_cases d:k<l.length
 .rw [yW d] at c;rw[yW (by rw[<- h.len];show d)] at hb;show h.at_ k a b c hb
 .rw [yB (by lk)] at c;rw[yB (by rw[<- h.len];lk)] at hb
  have e:k-l.length=0:=by
   have:=(yc.mp c).1;simp at this;lk
  rw[<- h.len] at hb;rw[e] at c hb;cases c;cases hb;show r
theorem All2.mem{R:α->β->Prop}{l:List α}{m:List β}(h:All2 R l m){x:α}(c:x∈l):∃ y∈m,R x y:=by
 obtain⟨k,b,e⟩:=YX c;have a:k<m.length:=by rw[<- h.len];show b
 show⟨m[k],Xx a,h.at_ k x m[k] (by rw[yb b,e]) (yb a)⟩
def PL(H:Hp)(l:Addr)(ts:LQ)(tps:LP):Prop:=H l=some (.lst (ts.map V.ref))/\All2 (fun t ab=>H t=some (.tup [.str ab.1,.str ab.2])) ts tps
theorem PL.same(h:PL H l ts tps)(s:L2.Same H H'):PL H' l ts tps:=⟨s _ _ h.1,h.2.mono fun _ _ z=>s _ _ z⟩
inductive spName(vs:List V)(H:Hp)(Q:VK)(E:XK):Prop|mk (x:Str) (_:vs=[.str x]) (_:jW x=true) (_:∀ H',L2.Same H H'->Q (.bl true) H')
theorem ok_name(F:Fun K "is_name" "is_name" zi f fd)(T:Txt K mg cc cw):FnOk P w K mg base CX0 1 f fd ["thing"] spName:=by
 show F.ok uE fun _ _ _ _ H vs Q E s h=>?_
 .obtain⟨x,rfl,m,q⟩:=h;obtain⟨t,p,r⟩:=qdm m;show⟨_,(qc (qH (PW.pt (qad (qT (qP (qp (qah (K:=K) rfl) rfl T.b_isinstance YH (qa (pv 0) (qa (jH (v:=.ty "str") rfl T.b_str boot_str rfl) qd))))) (zm (qT (qc2 qeB qeB qi (qp (j9 (K:=K) rfl) rfl T.b_len YQ (qa (pv 0) qd)) (qbc rfl T.g_LONGEST_NAME)))))) (qe (qm jq)) qo)
 (qe (qm (qp (qeo (K:=K) rfl rfl) rfl T.b_all boot_all (qa (jh (sc:=qg zi) (XN:=["thing"]) ["sign"] 1 [] rfl rfl rfl (by room) rfl (by room)
  (qK (K:=K) rfl (pv 0)) (fun _ _ _ _=>(qt (i:=0) (show(["sign"]:LS).Nodup by room) rfl (yP rfl))) qN
  (fun _ _ _ _=>jK)
  (fun _ _ _ _=>(qc1 qeB qeB qaE (pv 0) qaE))) qd))))),?_⟩
  apply qbw (.inl (.str x)) rfl (zR K "str" (by simp) "str" (by simp)) ?_;apply yq ?_;apply qfw (yi p (by decide)) ?_;apply qF (fun h1=>?_) fun h1=>absurd (yL (by lk)) h1;apply qF (fun g=>by simp only[YB,Yw] at g;lk) fun g=>?_;apply qbX (fun i ys H'=>H'=H/\ys=((x.cps.toList.take i).map sg).map V.bl) ⟨rfl,by simp⟩ (fun i c ys H' hc e=>?_) fun ys H' e=>?_
  .obtain⟨rfl,rfl⟩:=e;apply jU ?_;ext
   have hl:(List.map V.bl (List.map sg (List.take i x.cps.toList))).length<sizeLine:=by
    rw[ya,ya,yK];show qh (yi (X3 _ _) (by simpa [Str.length] using(show x.length<=1000 by lk)))
   have a:∀ b,b=sg c->(List.map V.bl (List.map sg (List.take i x.cps.toList)))++[V.bl b]=List.map V.bl (List.map sg (List.take (i+1) x.cps.toList)):=by
    intro b hb;have j:x.cps.toList[i]?=some c:=by simpa using hc
    rw[hb,yD,j];simp
   show qF (fun d=>?_) fun d=>⟨hl,rfl,a _ (by unfold sg;rw[yF d])⟩;apply⟨hl,rfl,a _ (by unfold sg;rw[yI d])⟩
  .obtain⟨rfl,rfl⟩:=e;have n:x.cps.toList.take x.cps.size=x.cps.toList:=by rw[<- xz,yM]
   rw[n];show⟨?_,fun l hl=>?_⟩
   .rw [ya,ya];show yR (qh (by simpa [Str.length] using(show x.length<=1000 by lk)))
   .ext;show⟨l,x.cps.toList.map sg,rfl,SqL.of qb,?_⟩;have z:=q _ (qC (Sr H') (o:=.lst ((x.cps.toList.map sg).map V.bl)) hl);rw[ky];rw[<- r] at z;show z
inductive spBit(vs:List V)(H:Hp)(Q:VK)(E:XK):Prop|mk (b n:Int) (_:vs=[.int b,.int n]) (_:0<=n) (_:Q (.bl (decide (Builtin.bitAnd (b / 2 ^ n.toNat) 1=1))) H)
theorem ok_bit(F:Fun K "has_bit" "has_bit" qaS f fd):FnOk P w K mg base CX0 1 f fd ["bits","number"] spBit:=by
 show F.ok u9 fun _ _ _ _ H vs Q E c h=>?_
 .obtain⟨b,n,rfl,a,q⟩:=h;have d:=jQ c;show⟨_,(qe (qm (qS (zl (K:=K) rfl d) (qI op_and (qI op_shr (pv 0) (pv 1)) qi) qi (qu _)))),?_⟩;apply vI a ?_;apply .inl (.inl (.inl ⟨rfl,rfl,?_⟩));show q
noncomputable def qby:LS->Nat->List (Key×V)
 | [],_=>[]
 | s::r,i=>(.inr s,.int i)::qby r (i+1)
theorem qcz(y:Str):∀(ss:LS) (i:Nat),qby (ss++[y]) i=qby ss i++[(.inr y,.int (i+ss.length:Nat))]
 | [],i=>rfl
 | s::r,i=>by
  show(_::qby (r++[y]) (i+1))=_::(qby r (i+1)++_);rw[qcz y r (i+1)];have:i+1+r.length=i+(s::r).length:=by simp;lk
  rw[this]
theorem zU:∀(ss:LS) (i:Nat),(qby ss i).length=ss.length
 | [],_=>rfl
 | _::r,i=>congrArg (· + 1) (zU r (i+1))
theorem qbz:∀{ss:LS} {i:Nat},y∉ss->zh (qby ss i) (.inr y:Key)=none
 | [],_,_=>rfl
 | s::r,i,h=>by
  have h1:¬ s=y:=fun e=>h (by rw[e];show yU);show zh ((.inr s,V.int i)::qby r (i+1)) _=none;rw[je (p:=((.inr s:Key),V.int i)) (fun e=>h1 (xS e))];show qbz fun m=>h (yJ _ m)
theorem zj:∀{ss:LS} {i:Nat},y∈ss->∃ j,j<ss.length/\ss[j]?=some y/\zh (qby ss i) (.inr y:Key)=some (.int (i+j:Nat))
 | [],_,h=>by cases h
 | s::r,i,h=>by
  by_cases e:s=y
  .subst e;show⟨0,by simp,rfl,jp (p:=((.inr s:Key),V.int i)) rfl⟩
  .rcases yx.mp h with z | z
   .show absurd z.symm e
   .obtain⟨j,h1,b,c⟩:=zj (i:=i+1) z;show⟨j+1,by simp;lk,by simpa using b,?_⟩;show zh ((.inr s,V.int i)::qby r (i+1)) _=_;rw[je (p:=((.inr s:Key),V.int i)) (fun a=>e (xS a)),c];have:i+1+j=i+(j+1):=by lk
    rw[this]
theorem qaG(y:Str)(ss:LS)(i:Nat):(zh (qby ss i) (.inr y:Key)).isSome=decide (y∈ss):=by
 by_cases h:y∈ss
 .obtain⟨j,_,_,e⟩:=zj (i:=i) h;rw[e,yL h];rfl
 .rw [qbz h,yl h];rfl
inductive spPlace(vs:List V)(H:Hp)(Q:VK)(E:XK):Prop|mk (d:Addr) (ss:LS) (x:Str) (_:vs=[.ref d,.str x]) (_:H d=some (.dK (qby ss 0))) (_:jW x=true) (_:x∈ss) (_:∀ H',L2.Same H H'->Q (.bl true) H')
theorem ok_place(F:Fun K "is_place" "is_place" zG f fd)(c:DefOk P w K mg base CX0 1 "is_name" ["thing"] spName):FnOk P w K mg base CX0 2 f fd ["numbers","thing"] spPlace:=by
 show F.ok uw fun _ _ _ _ H vs Q E a h=>?_
 .obtain⟨d,ss,x,rfl,e,g,j,q⟩:=h;have i:=jQ a;show⟨_,(qe (qm (qa8 (qr c (hmR a) qz (qa (pv 1) qd)) (qaK (qS (zT (K:=K) rfl i) (pv 1) (pv 0) (by with_unfolding_all rfl)))))),?_⟩;apply⟨x,rfl,g,fun H1 b=>?_⟩;apply jU ?_;apply .inr (.inl ⟨d,_,rfl,DGet.k (k:=Sum.inr x) (b d _ e),?_⟩);rw[qaG,yL j];show q H1 b
inductive spTwo(vs:List V)(H:Hp)(Q:VK)(E:XK):Prop|mk (d t:Addr) (ss:LS) (a b:Str) (_:vs=[.ref d,.ref t]) (_:H d=some (.dK (qby ss 0))) (_:H t=some (.tup [.str a,.str b])) (_:jW a=true) (_:jW b=true) (_:a∈ss) (_:b∈ss) (_:a≠b) (_:∀ H',L2.Same H H'->Q (.bl true) H')
theorem ok_two(F:Fun K "are_two_places" "are_two_places" jF f fd)(T:Txt K mg cc cw)(o:DefOk P w K mg base CX0 2 "is_place" ["numbers","thing"] spPlace):FnOk P w K mg base CX0 3 f fd ["numbers","thing"] spTwo:=by
 show F.ok K3 fun _ _ _ _ H vs Q E m h=>?_
 .obtain⟨d,t,ss,a,b,rfl,p,c,s,u,r,hb,l,q⟩:=h;have g:=jQ m;show⟨_,(qc (qH (PW.pt (qad (qT (qP (qp (qah (K:=K) rfl) rfl T.b_isinstance YH (qa (pv 1) (qa (jH (v:=.ty "tuple") rfl T.b_tuple boot_tuple rfl) qd))))) (zm (qk (zS (K:=K) rfl g) (qp (j9 (K:=K) rfl) rfl T.b_len YQ (qa (pv 1) qd)) qi (qu _))))) (qe (qm jq)) qo)
 (qc (qq (i:=2) K3.nd rfl (yP rfl) (qa8 (qr o (hmR m) qz (qa (pv 0) (qa (qw (qx (K:=K) rfl g) (pv 1) qi (fun _ _=>rfl)) qd))) (qaK (qr o (hmR m) qz (qa (pv 0) (qa (qw (qx (K:=K) rfl g) (pv 1) qi (fun _ _=>rfl)) qd))))))
 (qe (qm (qa8 (pv 2) (qaK (qS (zS (K:=K) rfl g) (qw (qx (K:=K) rfl g) (pv 1) qi (fun _ _=>rfl)) (qw (qx (K:=K) rfl g) (pv 1) qi (fun _ _=>rfl)) (qu _)))))))),?_⟩
  apply qbw (.inl (.tup c)) rfl (zR K "tuple" (by simp) "tuple" (by simp)) ?_;apply yq ?_;apply vLenT c ?_;apply .inl ⟨rfl,rfl,?_⟩;apply yq ?_;apply .inl (qaD c rfl ?_);apply⟨d,ss,a,rfl,p,s,r,fun H1 j=>?_⟩;apply jU ?_;apply .inl (qaD (j _ _ c) rfl ?_);apply⟨d,ss,b,rfl,j _ _ p,u,hb,fun H2 n=>?_⟩;apply jU ?_;apply .inl (qaD (n _ _ (j _ _ c)) rfl ?_);apply .inl (qaD (n _ _ (j _ _ c)) rfl ?_);show .inl ⟨rfl,rfl,?_⟩;have z:=q H2 (j.trans n);have e:(if true=true then !eqV (V.str a) (V.str b) else eqV (V.str a) (V.str b))=true:=by simp[eqV,l]
  rw[e];show z
theorem K1:FnScope ["names","numbers","name"] ["names"] (qg zu):=fS
theorem qcT(m j:Nat):decide (Builtin.bitAnd ((m:Int) / 2 ^ (j:Int).toNat) 1=1)=m.testBit j:=by
 rw[PyProof.Rows.bitAnd_m1,Nat.testBit_eq_decide_div_mod_eq];rw[xU];have e:(m:Int) / 2 ^ j=((m / 2 ^ j:Nat):Int):=by rw[Int.natCast_ediv,Int.natCast_pow];rfl
 rw[e]
 congr 1
 apply propext;lk
theorem qeO(m j:Nat):Builtin.bitOr (m:Int) (1*2 ^ (j:Int).toNat)=((m ||| 2 ^ j:Nat):Int):=by
 have e:(1*2 ^ (j:Int).toNat:Int)=((2 ^ j:Nat):Int):=by rw[xU,Int.one_mul,Int.natCast_pow];rfl
 rw[e];generalize 2 ^ j=k;have c:Builtin.bitNot (m:Int)=-(m:Int)-1:=rfl;have d:Builtin.bitNot (k:Int)=-(k:Int)-1:=rfl;unfold Builtin.bitOr Builtin.bitAnd;rw[c,d,yl (by lk),yl (by lk)];dsimp only;unfold Builtin.bitNot;have a:(-(-(m:Int)-1)-1).toNat=m:=by lk
 have b:(-(-(k:Int)-1)-1).toNat=k:=by lk
 rw[a,b];lk
def But(x:Addr)(H H':Hp):Prop:=∀ b o,b≠x->H b=some o->H' b=some o
theorem But.refl(x:Addr)(H:Hp):But x H H:=fun _ _ _ e=>e
theorem But.same(a:But x H H1)(b:L2.Same H1 H2):But x H H2:=fun c o n e=>b c o (a c o n e)
theorem But.put(a:But x H H1):But x H (upd H1 x o):=fun c u n e=>by rw[qf n];show a c u n e
theorem But.new(a:But x H H1)(hl:H1 l=none):But x H (upd H1 l o):=a.same (qC (Sr H1) hl)
theorem qd4{a q:Addr}{Q:VK}(h:H a=some (.lst xs))(b:H q=some (.tup [.ty "list",.ty "tuple"]))(k:Q (.bl true) H):qeJ K [.ref a,.ref q] H Q:=
 ⟨_,q,_,_,[.type "list",.type "tuple"],true,rfl,.inl (.lst h),b,rfl,rfl,k⟩
inductive spNums(vs:List V)(H:Hp)(Q:VK)(E:XK):Prop|mk (a:Addr) (ss:LS) (_:vs=[.ref a]) (_:H a=some (.lst (ss.map V.str))) (_:ss.length<=14) (_:ss.Nodup) (_:(∀ s∈ss,jW s=true)) (_:∀ d H',L2.Same H H'->H d=none->H' d=some (.dK (qby ss 0))->Q (.ref d) H')
theorem ok_nums(F:Fun K "numbers_of" "numbers_of" zu f fd)(T:Txt K mg cc cw)(M:DefOk P w K mg base CX0 1 "is_name" ["thing"] spName) :
  FnOk P w K mg base CX0 4 f fd ["names"] spNums:=by
 show F.ok K1 fun _ _ _ _ H vs Q E G h=>?_
 .obtain⟨a,ss,rfl,l,N,r,s,q⟩:=h;have I:=jQ G;show⟨_,(qc (qH (qT (qP (qp (qd0 (K:=K) rfl) rfl T.b_isinstance YH (qa (pv 0) (qa (zE (qa (jH (v:=.ty "list") rfl T.b_list Xi rfl) (qa (jH (v:=.ty "tuple") rfl T.b_tuple boot_tuple rfl) qd))) qd))))) (qe jI) qo)
 (qc (qH (qk qdy (qp (j9 (K:=K) rfl) rfl T.b_len YQ (qa (pv 0) qd)) (qbc rfl T.g_MOST_PLACES) (qu _)) (qe jI) qo)
 (qc (qq (i:=1) K1.nd rfl (yP rfl) zo)
 (qc (jz yV rfl (qK (K:=K) rfl (pv 0)) (qt (i:=2) K1.nd rfl (yP rfl))
 (qc (qH (qT (qP (qr M (hmR G) qz (qa (pv 2) qd)))) (qe jI) qo)
 (qc (qH (qk (zT (K:=K) rfl I) (pv 2) (pv 1) (by with_unfolding_all rfl)) (qe jI) qo)
 (qe (zg (qp (j9 (K:=K) rfl) rfl T.b_len YQ (qa (pv 1) qd)) (zn (pv 1) (pv 2) (zr I)))))))
 (qe (qm (pv 1))))))),?_⟩
  apply⟨by show 2<=sizeLine;decide,fun g O=>?_⟩;have m:=qC (Sr H) (o:=.tup [.ty "list",.ty "tuple"]) O;apply qd4 (m _ _ l) qb ?_;apply yq ?_;apply qab (m _ _ l) ?_;rw[ya];apply qF (fun h=>by have:=yk h;lk) fun _=>?_;ext;intro d C;have L:=qC m (o:=.dK []) C;have c:H d=none:=m.free C;apply .inl ⟨⟨_,SqL.of (L _ _ l)⟩,jd (K:=K) (fun i p H'=>∃ A,p=[some (.ref a),some (.ref d),A]/\L2.Same H H'/\H' d=some (.dK (qby (ss.take i) 0))) ⟨none,rfl,L,qb⟩ (fun i p H' _ e=>by obtain⟨_,_,z,_⟩:=e;show SqL.of (z _ _ l)) (fun i y p H' J e=>?_) fun p H' e=>?_⟩
  .obtain⟨A,rfl,u,b⟩:=e;rw[yd] at J;obtain⟨x,t,rfl⟩:=yn.mp J;have R:i<ss.length:=(yc.mp t).1;have j:ss.take (i+1)=ss.take i++[x]:=by rw[yD,t];rfl
   have D:x∉ss.take i:=fun z=>by
    have B:(ss.take (i+1)).Nodup:=r.sublist (XT _ _);rw[j] at B;show(Yb.mp B).2.2 _ z x (by simp) rfl
   apply⟨x,rfl,s x (ye t),fun H1 n=>?_⟩;have S:=u.trans n;apply yq ?_;apply .inr (.inl ⟨d,_,rfl,DGet.k (k:=Sum.inr x) (n _ _ b),?_⟩);rw[qaG,yl D];apply yq ?_;apply .inr ⟨_,n _ _ b,?_⟩;apply .inr ⟨d,_,rfl,DPut.k (k:=Sum.inr x) (n _ _ b) (qh (by rw[zU,yK];lk)),?_⟩;show⟨_,rfl,qaT S c,?_⟩;rw[qb,qbb _ (qbz D),j,qcz,zU];simp only[Xq]
  .obtain⟨A,rfl,u,b⟩:=e;ext;rw[ya,yM] at b;show q d H' u c b
theorem uY:FnScope ["self","names","ties"] ["self","names","ties"] (qg qau):=fS
theorem KL:FnScope ["numbers","ties","near","tie","one","other"] ["numbers","ties"] (qg qaU):=fS
def qbA(ss:LS)(ns:LN)(c:LP):Prop:=ns.length=ss.length/\(∀ a,ns.getD a 0<2 ^ ss.length)/\∀ a b s t,ss[a]?=some s->ss[b]?=some t->(ns.getD a 0).testBit b=decide ((s,t)∈c\/(t,s)∈c)
theorem qA(h:ss.Nodup){a b:Nat}(i:ss[a]?=some s)(hb:ss[b]?=some s):a=b:=by
 have e:=Yz.mp h;obtain⟨f,c⟩:=yc.mp i;obtain⟨g,d⟩:=yc.mp hb;rcases kJ a b with q | q | q
 .show absurd (c.trans d.symm) (e a b f g q)
 .show q
 .show absurd (d.trans c.symm) (e b a g f q)
theorem bits_zero:qbA ss (List.replicate ss.length 0) []:=by
 have z:∀ a,(List.replicate ss.length 0).getD a 0=0:=fun a=>by
  simp only[List.getD,XI];split<;>rfl
 show⟨by simp,fun a=>by rw[z a];show Nat.two_pow_pos _,fun a b s t c hb=>?_⟩;rw[z a];simp
theorem qaV{v:Nat}(h:i<ns.length):(ns.set i v).getD j 0=if i=j then v else ns.getD j 0:=by
 simp only[List.getD,List.getElem?_set];by_cases e:i=j
 .subst e;simp[h]
 .simp [e]
theorem bits_step{f:LP}(hb:qbA ss ns f)(o:ss.Nodup)(d:ss[i]?=some s)(l:ss[j]?=some t)(n:s≠t) :
  qbA ss ((ns.set i (ns.getD i 0 ||| 2 ^ j)).set j (ns.getD j 0 ||| 2 ^ i)) (f++[(s,t)]):=by
 obtain⟨hl,m,h⟩:=hb;have B:i<ns.length:=by rw[hl];show(yc.mp d).1
 have C:j<ns.length:=by rw[hl];show(yc.mp l).1
 have E:i≠j:=fun e=>by rw[e,l] at d;cases d;show n rfl
 have y:i<ss.length:=(yc.mp d).1;have A:j<ss.length:=(yc.mp l).1;show⟨by simp[hl],fun a=>?_,fun a b u v g c=>?_⟩
 .rw [qaV (by simpa using C),qaV B];split
  .show Nat.or_lt_two_pow (m _) (Nat.pow_lt_pow_right (by decide) y)
  .split
   .show Nat.or_lt_two_pow (m _) (Nat.pow_lt_pow_right (by decide) A)
   .show m _
 rw[qaV (by simpa using C),qaV B];have p:=h a b u v g c;have D:∀ P Q:Prop,(P↔Q)->∀ [Decidable P] [Decidable Q],decide P=decide Q:=fun P Q e=>by intro _ _;show YN.mpr e
 by_cases w:j=a
 .subst w;rw[l] at g;cases g;rw[yI rfl,Nat.testBit_or,p,Nat.testBit_two_pow];by_cases r:i=b
  .subst r;rw[d] at c;cases c;simp
  .have vs:v≠s:=fun e=>by subst e;show r (qA o d c)
   simp only[r,Kd,kL];apply YN.mpr;simp only[yz,yA,XG];constructor
   .rintro (z | z)
    .show .inl (.inl z)
    .show .inr (.inl z)
   .rintro ((z | ⟨z,_⟩) | (z | ⟨z,_⟩))
    .show .inl z
    .show absurd z.symm n
    .show .inr z
    .show absurd z vs
 .rw [yF w];by_cases q:i=a
  .subst q;rw[d] at g;cases g;rw[yI rfl,Nat.testBit_or,p,Nat.testBit_two_pow];by_cases x:j=b
   .subst x;rw[l] at c;cases c;simp
   .have G:v≠t:=fun e=>by subst e;show x (qA o l c)
    simp only[x,Kd,kL];apply YN.mpr;simp only[yz,yA,XG];constructor
    .rintro (z | z)
     .show .inl (.inl z)
     .show .inr (.inl z)
    .rintro ((z | ⟨_,z⟩) | (z | ⟨_,z⟩))
     .show .inl z
     .show absurd z G
     .show .inr z
     .show absurd z n
  .rw [yF q,p];have us:u≠s:=fun e=>by subst e;show q (qA o d g)
   have F:u≠t:=fun e=>by subst e;show w (qA o l g)
   apply YN.mpr;simp only[yz,yA,XG];constructor
   .rintro (z | z)
    .show .inl (.inl z)
    .show .inr (.inl z)
   .rintro ((z | ⟨z,_⟩) | (z | ⟨_,z⟩))
    .show .inl z
    .show absurd z us
    .show .inr z
    .show absurd z F
noncomputable def qdn(ns:LN):List V:=ns.map fun(n:Nat)=>.int (n:Int)
theorem qbd(h:i<ns.length):(qdn ns)[i]?=some (.int (ns.getD i 0:Nat)):=by
 unfold qdn;rw[yd,yb h];simp[List.getD,h]
theorem qdo(ns:LN)(i m:Nat):(qdn ns).set i (.int m)=qdn (ns.set i m):=by
 unfold qdn;rw[List.map_set]
theorem natV_zero(k:Nat):(List.replicate k [V.int 0]).flatten=qdn (List.replicate k 0):=by
 induction k with
 | zero=>rfl
 | succ k ih=>rw[xA,xV,ih];rfl
theorem qb3{n:Nat}(h:j<n):ixN n (j:Int)=some j:=by
 unfold ixN;rw[yI (by lk),yI (by lk)];rfl
def UN(x y:Str×Str):Prop:=x≠y/\x≠(y.2,y.1)
structure TGo(ss:LS)(tps:LP):Prop where
 few:tps.length<=30
 inn:∀ ab∈tps,ab.1∈ss/\ab.2∈ss/\ab.1≠ab.2
 un:tps.Pairwise UN
structure WOk(ss:LS)(ns:LN):Prop where
 len:ns.length=ss.length
 few:ss.length<=14
 nd:ss.Nodup
 lt:∀ a,ns.getD a 0<2 ^ ss.length
 nm:∀ s∈ss,jW s=true
inductive WebAt(cw:Addr)(H:Hp)(x:Addr)(ss:LS)(ns:LN):Prop|mk (dx d ol n:_) (_:H x=some (.ins cw dx (qJ "near" (.ref n) (qJ "order" (.ref ol) (qJ "numbers" (.ref d) []))))) (_:H d=some (.dK (qby ss 0))) (_:H ol=some (.lst (ss.map V.str))) (_:H n=some (.lst (qdn ns))) (_:WOk ss ns)
theorem WebAt.same(h:WebAt cw H x ss ns)(s:L2.Same H H'):WebAt cw H' x ss ns:=by
 obtain⟨dx,d,ol,n,h1,a,b,c,e⟩:=h;show⟨dx,d,ol,n,s _ _ h1,s _ _ a,s _ _ b,s _ _ c,e⟩
inductive WebN(H0:Hp)(cw:Addr)(H:Hp)(x:Addr)(ss:LS)(ns:LN):Prop|mk (dx d ol n:_) (_:H x=some (.ins cw dx (qJ "near" (.ref n) (qJ "order" (.ref ol) (qJ "numbers" (.ref d) []))))) (_:H d=some (.dK (qby ss 0))) (_:H ol=some (.lst (ss.map V.str))) (_:H n=some (.lst (qdn ns))) (_:WOk ss ns) (_:H0 d=none) (_:H0 ol=none) (_:H0 n=none)
theorem WebN.web(h:WebN H0 cw H x ss ns):WebAt cw H x ss ns:=by
 obtain⟨dx,d,ol,n,h1,a,b,c,e,_⟩:=h;show⟨dx,d,ol,n,h1,a,b,c,e⟩
inductive WebP(A:Addr->Prop)(cw:Addr)(H:Hp)(x:Addr)(ss:LS)(ns:LN):Prop|mk (dx d ol n:_) (_:H x=some (.ins cw dx (qJ "near" (.ref n) (qJ "order" (.ref ol) (qJ "numbers" (.ref d) []))))) (_:H d=some (.dK (qby ss 0))) (_:H ol=some (.lst (ss.map V.str))) (_:H n=some (.lst (qdn ns))) (_:WOk ss ns) (_:¬ A x) (_:¬ A d) (_:¬ A ol) (_:¬ A n)
theorem WebP.web{A:Addr->Prop}(h:WebP A cw H x ss ns):WebAt cw H x ss ns:=by
 obtain⟨dx,d,ol,n,h1,a,b,c,e,_⟩:=h;show⟨dx,d,ol,n,h1,a,b,c,e⟩
theorem WebP.keep{A:Addr->Prop}(h:WebP A cw H x ss ns)(k:∀ b o,¬ A b->H b=some o->H' b=some o):WebP A cw H' x ss ns:=by
 obtain⟨dx,d,ol,n,h1,g,i,j,l,a,c,e,f⟩:=h;show⟨dx,d,ol,n,k _ _ a h1,k _ _ c g,k _ _ e i,k _ _ f j,l,a,c,e,f⟩
theorem WebN.apart{A:Addr->Prop}(h:WebN H0 cw H x ss ns)(m:¬ A x)(b:∀ a,A a->H0 a≠none):WebP A cw H x ss ns:=by
 obtain⟨dx,d,ol,n,h1,g,i,j,l,c,e,f⟩:=h;show⟨dx,d,ol,n,h1,g,i,j,l,m,fun z=>b _ z c,fun z=>b _ z e,fun z=>b _ z f⟩
theorem qcA:∀(ss:LS) (i:Nat),(qby ss i).map (fun a=>kV a.1)=ss.map V.str
 | [],_=>rfl
 | s::r,i=>congrArg (V.str s::·) (qcA r (i+1))
inductive spNear(vs:List V)(H:Hp)(Q:VK)(E:XK):Prop|mk (d l:Addr) (ss:LS) (ts:LQ) (tps:LP) (_:vs=[.ref d,.ref l]) (_:H d=some (.dK (qby ss 0))) (_:ss.length<=14) (_:ss.Nodup) (_:(∀ s∈ss,jW s=true)) (_:PL H l ts tps) (_:TGo ss tps) (_:∀ n ns H',L2.Same H H'->H n=none->H' n=some (.lst (qdn ns))->qbA ss ns tps->Q (.ref n) H')
theorem ok_near(F:Fun K "near_of" "near_of" qaU f fd)(T:Txt K mg cc cw)(KH:DefOk P w K mg base CX0 3 "are_two_places" ["numbers","thing"] spTwo)(KZ:DefOk P w K mg base CX0 1 "has_bit" ["bits","number"] spBit) :
  FnOk P w K mg base CX0 4 f fd ["numbers","ties"] spNear:=by
 show F.ok KL fun _ _ _ _ H vs Q E hr h=>?_
 .obtain⟨d,l,ss,ts,tps,rfl,W,aj,af,G,⟨hl,D⟩,Z,q⟩:=h;have j:=jQ hr;have L:=D.len;have few:=Z.few;show⟨_,(qc (qH (qT (qP (qp (qd0 (K:=K) rfl) rfl T.b_isinstance YH (qa (pv 1) (qa (zE (qa (jH (v:=.ty "list") rfl T.b_list Xi rfl) (qa (jH (v:=.ty "tuple") rfl T.b_tuple boot_tuple rfl) qd))) qd))))) (qe jI) qo)
 (qc (qH (qk qdy (qp (j9 (K:=K) rfl) rfl T.b_len YQ (qa (pv 1) qd)) (qbc rfl T.g_MOST_TIES) (qu _)) (qe jI) qo)
 (qc (qq (i:=2) KL.nd rfl (yP rfl) (qI qez (qM (qa qi qd)) (qp (j9 (K:=K) rfl) rfl T.b_len YQ (qa (pv 0) qd))))
 (qc (jz yV rfl (qK (K:=K) rfl (pv 1)) (qt (i:=3) KL.nd rfl (yP rfl))
 (qc (qH (qT (qP (qr KH (hmR hr) qz (qa (pv 0) (qa (pv 3) qd))))) (qe jI) qo)
 (qc (qq (i:=4) KL.nd rfl (yP rfl) (qw (qx (K:=K) rfl j) (pv 0) (qw (qx (K:=K) rfl j) (pv 3) qi (fun _ _=>rfl)) (fun _ _=>rfl)))
 (qc (qq (i:=5) KL.nd rfl (yP rfl) (qw (qx (K:=K) rfl j) (pv 0) (qw (qx (K:=K) rfl j) (pv 3) qi (fun _ _=>rfl)) (fun _ _=>rfl)))
 (qc (qH (qP (qr KZ (hmR hr) qz (qa (qw (qx (K:=K) rfl j) (pv 2) (pv 4) (fun _ _=>rfl)) (qa (pv 5) qd)))) (qe jI) qo)
 (qc (zg (qI qfq (qw (qx (K:=K) rfl j) (pv 2) (pv 4) (fun _ _=>rfl)) (qI qew qi (pv 5))) (zn (pv 2) (pv 4) (zr j)))
 (qe (zg (qI qfq (qw (qx (K:=K) rfl j) (pv 2) (pv 5) (fun _ _=>rfl)) (qI qew qi (pv 4))) (zn (pv 2) (pv 5) (zr j))))))))))
 (qe (qm (pv 2))))))),?_⟩
  apply⟨by show 2<=sizeLine;decide,fun g aa=>?_⟩;have s0:=qC (Sr H) (o:=.tup [.ty "list",.ty "tuple"]) aa;apply qd4 (s0 _ _ hl) qb ?_;apply yq ?_;apply qab (s0 _ _ hl) ?_;rw[ya];apply qF (fun h=>by have:=yk h;lk) fun _=>?_;apply⟨by show 1<=sizeLine;decide,fun z ah=>?_⟩;have s1:=qC s0 (o:=.lst [.int 0]) ah;apply .inr ⟨_,s1 _ _ W,?_⟩;ext;rw[zU];show⟨z,_,_,rfl,rfl,qb,by lk,by lk,by show 1*_<=sizeLine;rw[xU];show yR (qh (by lk)),fun n hn=>?_⟩;rw[xU,natV_zero];have s2:=qC s1 (o:=.lst (qdn (List.replicate ss.length 0))) hn;have n0:H n=none:=s1.free hn;apply .inl ⟨⟨_,SqL.of (s2 _ _ hl)⟩,jd (K:=K) (fun i Y H'=>∃ v3 v4 v5 ns,Y=[some (.ref d),some (.ref l),some (.ref n),v3,v4,v5]/\L2.Same H H'/\H' n=some (.lst (qdn ns))/\qbA ss ns (tps.take i))
   ⟨none,none,none,_,rfl,s2,qb,bits_zero⟩ (fun i Y H' _ I=>by obtain⟨_,_,_,_,_,z,_⟩:=I;show SqL.of (z _ _ hl)) (fun i y Y H' hy I=>?_) fun Y H' I=>?_⟩
  .obtain⟨v3,v4,v5,ns,rfl,N,A,a⟩:=I;rw[yd] at hy;obtain⟨t,ht,rfl⟩:=yn.mp hy;have ac:i<ts.length:=(yc.mp ht).1;obtain⟨⟨p,r⟩,u⟩:∃ ab,tps[i]?=some ab:=⟨_,yb (by rw[<- L];show ac)⟩;have U:=D.at_ i t _ ht u;obtain⟨m1,X,c⟩:=Z.inn _ (ye u);dsimp only at U m1 X c;have J:tps.take (i+1)=tps.take i++[(p,r)]:=by rw[yD,u];rfl
   have ag:¬ ((p,r)∈tps.take i\/(r,p)∈tps.take i):=fun z=>by
    have h3:(tps.take (i+1)).Pairwise UN:=Z.un.sublist (XT _ _);rw[J] at h3;have h4:=(List.pairwise_append.mp h3).2.2;rcases z with z | z
    .show(h4 _ z (p,r) (by simp)).1 rfl
    .show(h4 _ z (p,r) (by simp)).2 rfl
   obtain⟨C,ad,b,R⟩:=zj (i:=0) m1;obtain⟨B,ae,s,S⟩:=zj (i:=0) X;rw[Xq] at R S;have ai:C≠B:=fun e=>by rw[e,s] at b;cases b;show c rfl
   have m:C<ns.length:=by rw[a.1];show ad
   have M:B<ns.length:=by rw[a.1];show ae
   apply⟨d,t,ss,p,r,rfl,N _ _ W,N _ _ U,G _ m1,G _ X,m1,X,c,fun H1 t1=>?_⟩;have O:=N.trans t1;have x:=t1 _ _ A;apply yq ?_;apply .inl (qaD (O _ _ U) rfl ?_);show .inr ⟨d,.int C,rfl,?_,?_⟩
   .have:=DGet.k (k:=Sum.inr p) (O _ _ W);rw[R] at this;show this
   apply .inl (qaD (O _ _ U) rfl ?_);show .inr ⟨d,.int B,rfl,?_,?_⟩
   .have:=DGet.k (k:=Sum.inr r) (O _ _ W);rw[S] at this;show this
   apply .inl (qag x (qE (qbd m)) ?_);apply⟨_,_,rfl,by lk,?_⟩;rw[qcT,a.2.2 C B p r b s,yl ag];apply yq ?_;apply .inl (qag x (qE (qbd m)) ?_);apply vI ⟨by lk,by lk,by decide⟩ ?_;ext;rw[qeO];show .inl (qen x (qb3 (by unfold qdn;rw[ya];show m)) ?_);rw[qdo];ext;have e2:(ns.set C (ns.getD C 0 ||| 2 ^ B)).getD B 0=ns.getD B 0:=by rw[qaV m,yF ai]
   show .inl (qag qb (qE (qbd (by simpa using M))) ?_);apply vI ⟨by lk,by lk,by decide⟩ ?_;ext;rw[qeO,e2];show .inl (qen qb (qb3 (by unfold qdn;rw[ya];simpa using M)) ?_);rw[qdo];show⟨_,_,_,_,rfl,qaT (qaT O n0) n0,qb,?_⟩;rw[J];show bits_step a af b s c
  .obtain⟨v3,v4,v5,ns,rfl,N,A,a⟩:=I;ext;rw[ya,L,yM] at a;show q n _ H' N n0 A a
inductive spWeb(cw:Addr)(vs:List V)(H:Hp)(Q:VK)(E:XK):Prop|mk (x dx a l:Addr) (ss:LS) (ts:LQ) (tps:LP) (_:vs=[.ref x,.ref a,.ref l]) (_:H x=some (.ins cw dx [])) (_:H a=some (.lst (ss.map V.str))) (_:ss.length<=14) (_:ss.Nodup) (_:(∀ s∈ss,jW s=true)) (_:PL H l ts tps) (_:TGo ss tps) (_:∀ ns H',But x H H'->WebN H cw H' x ss ns->qbA ss ns tps->Q .non H')
theorem PL.but{fs:List (Str×V)}(h:PL H l ts tps)(a:H x=some (.ins C dx fs))(b:But x H H'):PL H' l ts tps:=
 ⟨b _ _ (qac h.1 a (by intro z;cases z)) h.1,h.2.mono fun t ab e=>b _ _ (qac e a (by intro z;cases z)) e⟩
theorem ok_web(F:Fun K "__init__" "Web.__init__" qau f fd)(T:Txt K mg cc cw)(uV:DefOk P w K mg base CX0 4 "numbers_of" ["names"] spNums)(Y:DefOk P w K mg base CX0 4 "near_of" ["numbers","ties"] spNear) :
  FnOk P w K mg base CX0 5 f fd ["self","names","ties"] (spWeb cw):=by
 show F.ok uY fun _ _ _ _ H vs Q E N h=>?_
 .obtain⟨x,dx,a,l,ss,ts,tps,rfl,W,ha,j,nd,p,M,hg,q⟩:=h;have hu:=jQ N;show⟨_,(qc (jV (K:=K) rfl (pv 0) (qr uV (hmR N) qz (qa (pv 1) qd)) rfl)
 (qc (jV (K:=K) rfl (pv 0) (zF (qbu (K:=K) rfl rfl) rfl T.b_list Xi (qa (qy (K:=K) rfl (pv 0) rfl) qd)) rfl)
 (qe (jV (K:=K) rfl (pv 0) (qr Y (hmR N) qz (qa (qy (K:=K) rfl (pv 0) rfl) (qa (pv 2) qd))) rfl)))),?_⟩
  apply⟨a,ss,rfl,ha,j,nd,p,fun d H1 X L S=>?_⟩;have Z:=(But.refl x H).same X;have A:=X _ _ W;have r:d≠x:=qac S A (by intro z;cases z);apply .inl ⟨x,cw,dx,[],rfl,A,T.wcl,T.wn,by decide,?_⟩;have J:=Z.put (o:=.ins cw dx (qJ "numbers" (.ref d) []));have g:upd H1 x (.ins cw dx (qJ "numbers" (.ref d) [])) d=some (.dK (qby ss 0)):=by rw[qf r];show S
  have c:upd H1 x (.ins cw dx (qJ "numbers" (.ref d) [])) x=_:=qb;generalize upd H1 x (.ins cw dx (qJ "numbers" (.ref d) []))=H2 at J g c;apply .inl ⟨x,cw,dx,_,.ref d,rfl,c,T.wcl,T.wn,by rw[qD,yI rfl],?_⟩;apply .inr (.inl ⟨d,_,rfl,g,fun ol s=>?_⟩);rw[qcA];have G:ol≠x:=fun e=>by subst e;rw[c] at s;cases s
  have b3:=J.new (o:=.lst (ss.map V.str)) s
  have y:H ol=none:=by
   cases R:H ol with
   | none=>rfl
   | some o'=>rw[J ol o' G R] at s;cases s
  have O:d≠ol:=qv g s;apply .inl ⟨x,cw,dx,_,rfl,(by rw[qf G.symm];show c),T.wcl,T.wo,YC (jG _ _ _) (by decide),?_⟩;have D:=b3.put (o:=.ins cw dx (qJ "order" (.ref ol) (qJ "numbers" (.ref d) [])));have m:upd (upd H2 ol (.lst (ss.map V.str))) x (.ins cw dx (qJ "order" (.ref ol) (qJ "numbers" (.ref d) []))) d=some (.dK (qby ss 0)):=by rw[qf r,qf O];show g
  have v:upd (upd H2 ol (.lst (ss.map V.str))) x (.ins cw dx (qJ "order" (.ref ol) (qJ "numbers" (.ref d) []))) ol=some (.lst (ss.map V.str)):=by rw[qf G];show qb
  have i:upd (upd H2 ol (.lst (ss.map V.str))) x (.ins cw dx (qJ "order" (.ref ol) (qJ "numbers" (.ref d) []))) x=_:=qb;generalize upd (upd H2 ol (.lst (ss.map V.str))) x (.ins cw dx (qJ "order" (.ref ol) (qJ "numbers" (.ref d) [])))=H3 at D m v i;apply .inl ⟨x,cw,dx,_,.ref d,rfl,i,T.wcl,T.wn,by rw[qD,yF (by room),qD,yI rfl],?_⟩;apply⟨d,l,ss,ts,tps,rfl,m,j,nd,p,M.but W D,hg,fun n ns H4 I t U b=>?_⟩;have B:=I _ _ i;have C:n≠x:=qac U B (by intro z;cases z);apply .inl ⟨x,cw,dx,_,rfl,B,T.wcl,T.wr,YC (jG _ _ _) (YC (Nat.succ_le_succ (jG _ _ _)) (by decide)),?_⟩
  have u:H n=none:=by
   cases R:H n with
   | none=>rfl
   | some o'=>rw[D n o' C R] at t;cases t
  show q ns _ (D.same I).put ⟨dx,d,ol,n,qb,by rw[qf r];show I _ _ m,by rw[qf G];show I _ _ v,by rw[qf C];show U,⟨b.1,j,nd,b.2.1,p⟩,L,y,u⟩ b
theorem uQ:FnScope ["self"] ["self"] (qg zv):=fS
theorem K5:FnScope ["self","thing"] ["self","thing"] (qg jr):=fS
theorem K6:FnScope ["self","place"] ["self","place"] (qg jt):=fS
theorem uR:FnScope ["self","place"] ["self","place"] (qg zw):=fS
theorem uo:FnScope ["self","place"] ["self","place"] (qg jy):=fS
theorem uz:FnScope ["self","one","other","bits"] ["self","one","other"] (qg qav):=fS
theorem uF:FnScope ["self","bits"] ["self","bits"] (qg jD):=fS
theorem jX{n:V}:(qJ "near" n (qJ "order" ol (qJ "numbers" d []))).lookup ("numbers":Str)=some d:=by
 rw[qD,yF (by room),qD,yF (by room),qD,yI rfl]
theorem qb4{n:V}:(qJ "near" n (qJ "order" ol (qJ "numbers" d []))).lookup ("order":Str)=some ol:=by
 rw[qD,yF (by room),qD,yI rfl]
theorem lk_near{n:V}:(qJ "near" n (qJ "order" ol (qJ "numbers" d []))).lookup ("near":Str)=some n:=by
 rw[qD,yI rfl]
theorem zH{f:Str}{n:V}(h:(f=="near"||f=="order"||f=="numbers")=false):(qJ "near" n (qJ "order" ol (qJ "numbers" d []))).lookup f=none:=by
 simp only[Bool.or_eq_false_iff,Yx] at h;rw[qD,yF h.1.1,qD,yF h.1.2,qD,yF h.2];rfl
noncomputable def inB:LS->Nat->Nat->LS
 | [],_,_=>[]
 | s::r,i,b=>if b.testBit i=true then s::inB r (i+1) b else inB r (i+1) b
theorem qbe(y:Str)(b:Nat):∀(l:LS) (k:Nat),inB (l++[y]) k b=inB l k b++(if b.testBit (k+l.length)=true then [y] else [])
 | [],k=>by simp[inB]
 | s::r,k=>by
  have a:=qbe y b r (k+1);have e:k+1+r.length=k+(s::r).length:=by simp;lk
  rw[e] at a;simp only[kO,inB,a];split<;>simp
theorem qbB(b:Nat):∀(l:LS) (k:Nat),(inB l k b).length<=l.length
 | [],_=>yh _
 | s::r,k=>by
  have a:=qbB b r (k+1);simp only[inB];split
  .simp;lk
  .simp;lk
inductive spHas(cw:Addr)(vs:List V)(H:Hp)(Q:VK)(E:XK):Prop|mk (x:Addr) (ss:LS) (ns:LN) (y:Str) (_:vs=[.ref x,.str y]) (_:WebAt cw H x ss ns) (_:y∈ss) (_:∀ H',L2.Same H H'->Q (.bl true) H')
inductive spNum(cw:Addr)(vs:List V)(H:Hp)(Q:VK)(E:XK):Prop|mk (x:Addr) (ss:LS) (ns:LN) (y:Str) (j:Nat) (_:vs=[.ref x,.str y]) (_:WebAt cw H x ss ns) (_:ss[j]?=some y) (_:∀ H',L2.Same H H'->Q (.int (j:Nat)) H')
inductive spBB(cw:Addr)(vs:List V)(H:Hp)(Q:VK)(E:XK):Prop|mk (x:Addr) (ss:LS) (ns:LN) (y:Str) (j:Nat) (_:vs=[.ref x,.str y]) (_:WebAt cw H x ss ns) (_:ss[j]?=some y) (_:∀ H',L2.Same H H'->Q (.int (ns.getD j 0:Nat)) H')
inductive spNIn(cw:Addr)(vs:List V)(H:Hp)(Q:VK)(E:XK):Prop|mk (x:Addr) (ss:LS) (ns:LN) (b:Nat) (_:vs=[.ref x,.int b]) (_:WebAt cw H x ss ns) (_:∀ l,H l=none->Q (.ref l) (upd H l (.lst ((inB ss 0 b).map V.str))))
inductive spBs(cw:Addr)(vs:List V)(H:Hp)(Q:VK)(E:XK):Prop|mk (x:Addr) (ss:LS) (ns:LN) (y:Str) (j:Nat) (_:vs=[.ref x,.str y]) (_:WebAt cw H x ss ns) (_:ss[j]?=some y) (_:∀ H',L2.Same H H'->∀ l,H' l=none->Q (.ref l) (upd H' l (.lst ((inB ss 0 (ns.getD j 0)).map V.str))))
inductive spTied(cw:Addr)(vs:List V)(H:Hp)(Q:VK)(E:XK):Prop|mk (x:Addr) (ss:LS) (ns:LN) (y z:Str) (j i:Nat) (_:vs=[.ref x,.str y,.str z]) (_:WebAt cw H x ss ns) (_:ss[j]?=some y) (_:ss[i]?=some z) (_:∀ H',L2.Same H H'->Q (.bl ((ns.getD j 0).testBit i)) H')
inductive spPls(cw:Addr)(vs:List V)(H:Hp)(Q:VK)(E:XK):Prop|mk (x:Addr) (ss:LS) (ns:LN) (_:vs=[.ref x]) (_:WebAt cw H x ss ns) (_:∀ l,H l=none->Q (.ref l) (upd H l (.lst (ss.map V.str))))
theorem ok_has(F:Fun K "has_place" "Web.has_place" jr f fd)(T:Txt K mg cc cw)(b:DefOk P w K mg base CX0 2 "is_place" ["numbers","thing"] spPlace):FnOk P w K mg base CX0 3 f fd ["self","thing"] (spHas cw):=by
 show F.ok K5 fun _ _ _ _ H vs Q E e h=>?_
 .obtain⟨x,ss,ns,y,rfl,⟨dx,d,ol,n,g,c,j,i,hw⟩,a,q⟩:=h;show⟨_,(qe (qm (qr b (hmR e) qz (qa (qy (K:=K) rfl (pv 0) rfl) (qa (pv 1) qd))))),?_⟩;apply .inl ⟨x,cw,dx,_,.ref d,rfl,g,T.wcl,T.wn,jX,?_⟩;apply⟨d,ss,y,rfl,c,hw.nm _ a,a,q⟩
theorem ok_num(F:Fun K "number_of" "Web.number_of" jt f fd)(T:Txt K mg cc cw)(o:MethOk P w K mg base CX0 3 cw "has_place" ["self","thing"] (spHas cw)):FnOk P w K mg base CX0 4 f fd ["self","place"] (spNum cw):=by
 show F.ok K6 fun _ _ _ _ H vs Q E e h=>?_
 .obtain⟨x,ss,ns,y,j,rfl,c,b,q⟩:=h;obtain⟨dx,d,ol,n,g,r,v,u,hw⟩:=id c;have l:=ye b;have s:=jQ e;show⟨_,(qc (qH (qT (qP (qB o (hmR e) (pv 0) (qa (pv 1) qd)))) (qe jI) qo)
 (qe (qm (qw (qx (K:=K) rfl s) (qy (K:=K) rfl (pv 0) rfl) (pv 1) (fun _ _=>rfl))))),?_⟩
  apply⟨x,dx,_,rfl,g,zH (by room),?_⟩;apply⟨x,ss,ns,y,rfl,c,l,fun H1 a=>?_⟩;apply yq ?_;obtain⟨i,t,p,m⟩:=zj (i:=0) l;rw[Xq,qA hw.nd p b] at m;apply .inl ⟨x,cw,dx,_,.ref d,rfl,a _ _ g,T.wcl,T.wn,jX,?_⟩;apply .inr ⟨d,.int j,rfl,?_,q H1 a⟩;have:=DGet.k (k:=Sum.inr y) (a _ _ r);rw[m] at this;show this
theorem ok_bb(F:Fun K "bits_beside" "Web.bits_beside" jy f fd)(T:Txt K mg cc cw)(i:MethOk P w K mg base CX0 4 cw "number_of" ["self","place"] (spNum cw)):FnOk P w K mg base CX0 5 f fd ["self","place"] (spBB cw):=by
 show F.ok uo fun _ _ _ _ H vs Q E c h=>?_
 .obtain⟨x,ss,ns,y,j,rfl,b,a,q⟩:=h;obtain⟨dx,d,ol,n,e,o,p,l,hw⟩:=id b;have m:=jQ c;show⟨_,(qe (qm (qw (qx (K:=K) rfl m) (qy (K:=K) rfl (pv 0) rfl) (qB i (hmR c) (pv 0) (qa (pv 1) qd)) (fun _ _=>rfl)))),?_⟩;apply .inl ⟨x,cw,dx,_,.ref n,rfl,e,T.wcl,T.wr,lk_near,?_⟩;apply⟨x,dx,_,rfl,e,zH (by room),?_⟩;apply⟨x,ss,ns,y,j,rfl,b,a,fun H1 g=>?_⟩;show .inl (qag (g _ _ l) (qE (qbd (by rw[hw.len];show(yc.mp a).1))) (q H1 g))
theorem ok_nin(F:Fun K "names_in" "Web.names_in" jD f fd)(T:Txt K mg cc cw)(z:DefOk P w K mg base CX0 1 "has_bit" ["bits","number"] spBit):FnOk P w K mg base CX0 2 f fd ["self","bits"] (spNIn cw):=by
 show F.ok uF fun _ _ _ _ H vs Q E t h=>?_
 .obtain⟨x,ss,ns,b,rfl,⟨dx,d,ol,n,u,C,s,J,hw⟩,q⟩:=h;have G:=jQ t;show⟨_,(qe (qm (jh (sc:=qg jD) (XN:=["self","bits"]) ["name","bits","self"] 1 [1,0] rfl rfl rfl (by room) rfl (by room)
  (qK (K:=K) rfl (qy (K:=K) rfl (pv 0) rfl)) (fun _ _ _ _=>(qt (i:=0) (show(["name","bits","self"]:LS).Nodup by room) rfl (yP rfl))) qN
  (fun _ _ _ _=>(qW (qP (qr z (hmR t) qz (qa (pv 1) (qa (qw (qx (K:=K) rfl G) (qy (K:=K) rfl (pv 2) rfl) (pv 0) (fun _ _=>rfl)) qd))))))
  (fun _ _ _ _=>(pv 0))))),?_⟩
  apply .inl ⟨x,cw,dx,_,.ref ol,rfl,u,T.wcl,T.wo,qb4,?_⟩;show .inl ⟨⟨_,SqL.of s⟩,qG (K:=K) (fun i ys H'=>H'=H/\ys=(inB (ss.take i) 0 b).map V.str) ⟨rfl,by simp[inB]⟩ (fun i ys H' _ e=>by rw[e.1];show SqL.of s) (fun i y ys H' p e=>?_) fun ys H' e=>?_⟩
  .obtain⟨rfl,rfl⟩:=e;have D:i<ss.length:=by simpa using(yc.mp p).1
   have c:ss[i]?=some ss[i]:=yb D;generalize ss[i]=r at c;have A:y=.str r:=by rw[yd,c] at p;cases p;rfl
   subst A;obtain⟨j,I,B,v⟩:=zj (i:=0) (ye c);rw[Xq] at v;have o:j=i:=qA hw.nd B c;subst o;have g:ss.take (j+1)=ss.take j++[r]:=by rw[yD,c];rfl
   have a:(ss.take j).length=j:=by rw[yK];lk
   apply .inl ⟨x,cw,dx,_,.ref d,rfl,u,T.wcl,T.wn,jX,?_⟩;apply .inr ⟨d,.int j,rfl,?_,?_⟩
   .have:=DGet.k (k:=Sum.inr r) C;rw[v] at this;show this
   apply⟨_,_,rfl,by lk,?_⟩;rw[qcT];ext
   have few:((inB (ss.take j) 0 b).map V.str).length<sizeLine:=by
    rw[ya];show qh (yi (qbB _ _ _) (by rw[a];have:=hw.few;lk))
   show qF (fun hb=>?_) fun hb=>?_
   .ext;show⟨few,rfl,?_⟩;rw[g,qbe,a,Xq,yI hb];simp
   .show⟨rfl,?_⟩;rw[g,qbe,a,Xq,yF hb];simp
  .obtain⟨rfl,rfl⟩:=e;have m:ss.take (ss.map V.str).length=ss:=by rw[ya,yM]
   rw[m];show⟨?_,fun l hl=>q l hl⟩;rw[ya];show yR (qh (yi (qbB _ _ _) (by have:=hw.few;lk)))
theorem ok_bs(F:Fun K "beside" "Web.beside" zw f fd)(T:Txt K mg cc cw)(g:MethOk P w K mg base CX0 5 cw "bits_beside" ["self","place"] (spBB cw))(l:MethOk P w K mg base CX0 2 cw "names_in" ["self","bits"] (spNIn cw)):FnOk P w K mg base CX0 6 f fd ["self","place"] (spBs cw):=by
 show F.ok uR fun _ _ _ _ H vs Q E b h=>?_
 .obtain⟨x,ss,ns,y,j,rfl,a,i,q⟩:=h;obtain⟨dx,d,ol,n,c,_⟩:=id a;show⟨_,(qe (qm (qB l (hmR b) (pv 0) (qa (qB g (hmR b) (pv 0) (qa (pv 1) qd)) qd)))),?_⟩;apply⟨x,dx,_,rfl,c,zH (by room),?_⟩;apply⟨x,dx,_,rfl,c,zH (by room),?_⟩;apply⟨x,ss,ns,y,j,rfl,a,i,fun H1 e=>?_⟩;apply⟨x,ss,ns,_,rfl,a.same e,q H1 e⟩
theorem ok_tied(F:Fun K "tied" "Web.tied" qav f fd)(T:Txt K mg cc cw)(g:MethOk P w K mg base CX0 5 cw "bits_beside" ["self","place"] (spBB cw))(m:MethOk P w K mg base CX0 4 cw "number_of" ["self","place"] (spNum cw))
  (l:DefOk P w K mg base CX0 1 "has_bit" ["bits","number"] spBit):FnOk P w K mg base CX0 6 f fd ["self","one","other"] (spTied cw):=by
 show F.ok uz fun _ _ _ _ H vs Q E b h=>?_
 .obtain⟨x,ss,ns,y,z,j,i,rfl,a,p,o,q⟩:=h;obtain⟨dx,d,ol,n,e,_⟩:=id a;show⟨_,(qc (qq (i:=3) uz.nd rfl (yP rfl) (qB g (hmR b) (pv 0) (qa (pv 1) qd)))
 (qe (qm (qr l (hmR b) qz (qa (pv 3) (qa (qB m (hmR b) (pv 0) (qa (pv 2) qd)) qd)))))),?_⟩
  apply⟨x,dx,_,rfl,e,zH (by room),?_⟩;apply⟨x,ss,ns,y,j,rfl,a,p,fun H1 c=>?_⟩;apply⟨x,dx,_,rfl,c _ _ e,zH (by room),?_⟩;apply⟨x,ss,ns,z,i,rfl,a.same c,o,fun H2 r=>?_⟩;apply⟨_,_,rfl,by lk,?_⟩;rw[qcT];show q H2 (c.trans r)
theorem ok_pls(F:Fun K "places" "Web.places" zv f fd)(T:Txt K mg cc cw):FnOk P w K mg base CX0 1 f fd ["self"] (spPls cw):=by
 show F.ok uQ fun _ _ _ _ H vs Q E g h=>?_
 .obtain⟨x,ss,ns,rfl,⟨dx,d,ol,n,b,c,a,e,hw⟩,q⟩:=h;show⟨_,(qe (qm (zF (qbu (K:=K) rfl rfl) rfl T.b_list Xi (qa (qy (K:=K) rfl (pv 0) rfl) qd)))),?_⟩;apply .inl ⟨x,cw,dx,_,.ref ol,rfl,b,T.wcl,T.wo,qb4,?_⟩;apply .inl ⟨ol,_,rfl,.inl (SqL.of a),q⟩
theorem qeP(b:ss.Nodup)(h:ss[i]?=some s):ss.idxOf s=i:=by
 have a:s∈ss:=ye h;have hl:ss.idxOf s<ss.length:=YR a;show qA b (by rw[yb hl,xp]) h
theorem qaw(f:ss.Nodup)(b:Nat):inB ss 0 b=ss.filter fun s=>b.testBit (ss.idxOf s):=by
 have e:∀ k,k<=ss.length->inB (ss.take k) 0 b=(ss.take k).filter fun s=>b.testBit (ss.idxOf s):=fun k=>by
  induction k with
  | zero=>intro _;simp[inB]
  | succ k ih =>
   intro h;have a:ss[k]?=some ss[k]:=yb (by lk);generalize ss[k]=g at a;have d:ss.take (k+1)=ss.take k++[g]:=by rw[yD,a];rfl
   have c:(ss.take k).length=k:=by rw[yK];lk
   rw[d,qbe,yZ,ih (by lk),c,Xq]
   congr 1
   rw[yS,Yq,qeP f a]
 have:=e ss.length (yh _)
 rwa[yM] at this
theorem KR:FnScope ["self","ties","one","other"] ["self"] (qg qax):=fS
theorem qd5(a:ss.Nodup){b:Nat}(h:s∈inB ss 0 b):s∈ss/\b.testBit (ss.idxOf s)=true:=by
 rw[qaw a] at h;show yp.mp h
noncomputable def qe6(ss:LS)(ns:LN)(i:Nat):LP:=((inB ss 0 (ns.getD i 0)).filter fun o=>decide (i<ss.idxOf o)).map fun o=>(ss.getD i "",o)
noncomputable def qX(ss:LS)(ns:LN)(i:Nat):LP:=(List.range i).flatMap (qe6 ss ns)
def PrAt(H H':Hp)(l:Addr)(t:Addr)(ab:Str×Str):Prop:=H t=none/\t≠l/\H' t=some (.tup [.str ab.1,.str ab.2])
theorem PrAt.same{t:Addr}(h:PrAt H H1 l t ab)(s:L2.Same H1 H2):PrAt H H2 l t ab:=⟨h.1,h.2.1,s _ _ h.2.2⟩
inductive spTs(cw:Addr)(vs:List V)(H:Hp)(Q:VK)(E:XK):Prop|mk (x:Addr) (ss:LS) (ns:LN) (_:vs=[.ref x]) (_:WebAt cw H x ss ns) (_:∀(l:Addr) (ts:LQ) (H':Hp),L2.Same H H'->H l=none->H' l=some (.lst (ts.map V.ref))->ts.length<=196->All2 (PrAt H H' l) ts (qX ss ns ss.length)->Q (.ref l) H')
theorem ok_ts(F:Fun K "ties" "Web.ties" qax f fd)(T:Txt K mg cc cw)(K7:MethOk P w K mg base CX0 6 cw "beside" ["self","place"] (spBs cw)):FnOk P w K mg base CX0 7 f fd ["self"] (spTs cw):=by
 show F.ok KR fun _ _ _ _ H vs Q E hr h=>?_
 .obtain⟨x,ss,ns,rfl,hW,q⟩:=h;have hu:=jQ hr;obtain⟨dx,d,ol,n,hx,hd,ho,hn,hw⟩:=id hW;have few:=hw.few
  have Y:∀(H1:Hp) (y:Str) (i:Nat),L2.Same H H1->ss[i]?=some y->DGet H1 d (.str y) (some (.int (i:Nat))):=fun H1 y i R D=>by
   obtain⟨j,hj,gj,vj⟩:=zj (i:=0) (ye D);rw[Xq] at vj;have af:j=i:=qA hw.nd gj D;subst af;have:=DGet.k (k:=Sum.inr y) (R _ _ hd);rw[vj] at this;show this
  show⟨_,(qc (qq (i:=1) KR.nd rfl (yP rfl) (qM qd))
 (qc (jz yV rfl (qK (K:=K) rfl (qy (K:=K) rfl (pv 0) rfl)) (qt (i:=2) KR.nd rfl (yP rfl))
 (qe (jz yV rfl (qK (K:=K) rfl (qB K7 (hmR hr) (pv 0) (qa (pv 2) qd))) (qt (i:=3) KR.nd rfl (yP rfl))
 (qe (qH (qk qdN (qw (qx (K:=K) rfl hu) (qy (K:=K) rfl (pv 0) rfl) (pv 2) (fun _ _=>rfl)) (qw (qx (K:=K) rfl hu) (qy (K:=K) rfl (pv 0) rfl) (pv 3) (fun _ _=>rfl)) (qu _)) (qe (qR (qbO (K:=K) rfl yT Yj Yk jj (pv 1) (qa (zE (qa (pv 2) (qa (pv 3) qd))) qd)))) qo)))))
 (qe (qm (pv 1))))),?_⟩
  apply⟨by decide,fun l hl=>?_⟩;have s0:=qC (Sr H) (o:=.lst []) hl;apply .inl ⟨x,cw,dx,_,.ref ol,rfl,s0 _ _ hx,T.wcl,T.wo,qb4,?_⟩;show .inl ⟨⟨_,SqL.of (s0 _ _ ho)⟩,jd (K:=K) (fun i J H'=>∃(ts:LQ) (x2 U:Option V),J=[some (.ref x),some (.ref l),x2,U]/\L2.Same H H'/\H' l=some (.lst (ts.map V.ref))/\ts.length<=i*14/\All2 (PrAt H H' l) ts (qX ss ns i))
   ⟨[],none,none,rfl,s0,qb,by simp,All2.nil⟩ (fun i J H' _ B=>by obtain⟨_,_,_,_,z,_⟩:=B;show SqL.of (z _ _ ho)) (fun i y J H1 hy B=>?_) fun J H1 B=>?_⟩
  .obtain⟨ts,x2,U,rfl,R,G,s,c⟩:=B;have hi:i<ss.length:=by simpa using(yc.mp hy).1
   have D:ss[i]?=some ss[i]:=yb hi;generalize ss[i]=p at D;have ey:y=.str p:=by rw[yd,D] at hy;cases hy;rfl
   subst ey;have al:=hw.nm p (ye D);apply⟨x,dx,_,rfl,R _ _ hx,zH (by room),?_⟩;apply⟨x,ss,ns,p,i,rfl,hW.same R,D,fun H2 s2 b hb=>?_⟩;have s3:=R.trans s2;have s4:=qC s3 (o:=.lst ((inB ss 0 (ns.getD i 0)).map V.str)) hb;have S:=qC s2 (o:=.lst ((inB ss 0 (ns.getD i 0)).map V.str)) hb;have eb:upd H2 b (.lst ((inB ss 0 (ns.getD i 0)).map V.str)) b=some (.lst ((inB ss 0 (ns.getD i 0)).map V.str)):=qb;have ah:b≠l:=fun e=>by rw[e,s2 _ _ G] at hb;cases hb
   have aj:H b=none:=s3.free hb;show .inl ⟨⟨_,SqL.of qb⟩,?_⟩;generalize upd H2 b (.lst ((inB ss 0 (ns.getD i 0)).map V.str))=H3 at s4 S eb ⊢;have L:∀ o,o∈inB ss 0 (ns.getD i 0)->o∈ss:=fun o h=>(qd5 hw.nd h).1;have ad:=qbB (ns.getD i 0) ss 0;have r:qe6 ss ns i=((inB ss 0 (ns.getD i 0)).filter fun o=>decide (i<ss.idxOf o)).map fun o=>(ss.getD i "",o):=rfl;have aa:ss.getD i ""=p:=by simp[List.getD,D]
   rw[aa] at r;generalize ak:inB ss 0 (ns.getD i 0)=bs at eb L ad r ⊢;show jd (K:=K) (fun k J H'=>∃(us:LQ) (U:Option V),J=[some (.ref x),some (.ref l),some (.str p),U]/\L2.Same H H'/\H' b=some (.lst (bs.map V.str))/\H' l=some (.lst (us.map V.ref))/\us.length<=i*14+k/\All2 (PrAt H H' l) us (qX ss ns i++((bs.take k).filter fun o=>decide (i<ss.idxOf o)).map fun o=>(p,o)))
    ⟨ts,_,rfl,s4,eb,S _ _ G,s,by simpa using c.mono fun _ _ h=>h.same S⟩ (fun k J H' _ B=>by obtain⟨_,_,_,_,z,_⟩:=B;show SqL.of z) (fun k u J Z N B=>?_) fun J Z B=>?_
   .obtain⟨us,U,rfl,I,C,g,v,a⟩:=B;have hk:k<bs.length:=by simpa using(yc.mp N).1
    have gk:bs[k]?=some bs[k]:=yb hk;generalize bs[k]=m at gk;have eu:u=.str m:=by rw[yd,gk] at N;cases N;rfl
    subst eu;have ag:=L m (ye gk);have ae:=YR ag;have ac:ss[ss.idxOf m]?=some m:=by rw[yb ae,xp]
    have X:bs.take (k+1)=bs.take k++[m]:=by rw[yD,gk];rfl
    apply .inl ⟨x,cw,dx,_,.ref d,rfl,I _ _ hx,T.wcl,T.wn,jX,?_⟩;apply .inr ⟨d,.int i,rfl,Y Z p i I D,?_⟩;apply .inl ⟨x,cw,dx,_,.ref d,rfl,I _ _ hx,T.wcl,T.wn,jX,?_⟩;apply .inr ⟨d,.int (ss.idxOf m:Nat),rfl,Y Z m _ I ac,?_⟩;apply qF (fun M=>?_) fun M=>?_
    .have A:i<ss.idxOf m:=by have:=yk M;lk
     apply⟨.inl ⟨rfl,_,SqL.of g⟩,?_⟩;apply⟨by show 2<=sizeLine;decide,fun t ht=>?_⟩;have O:l≠t:=qv g ht;have ai:b≠t:=qv C ht;have s6:=qC (Sr Z) (o:=.tup [.str p,.str m]) ht;apply⟨l,_,_,rfl,rfl,by rw[qf O];show g,by rw[ya];show qh (by have:i*14<=14*14:=Nat.mul_le_mul_right 14 (by lk);lk),?_⟩;show⟨us++[t],_,rfl,qaT (I.trans s6) hl,by rw[qf ah,qf ai];show C,by rw[qb,yC];rfl,by rw[yt];show us.length+1<=_;lk,?_⟩;rw[X,yZ,yC,<- Yc];have W:([m].filter fun o=>decide (i<ss.idxOf o)).map (fun o=>(p,o))=[(p,m)]:=by simp[A]
     rw[W];show All2.snoc (a.mono fun t' ab h=>⟨h.1,h.2.1,?_⟩) ⟨I.free ht,O.symm,?_⟩
     .rw [qf h.2.1];show s6 _ _ h.2.2
     .rw [qf O.symm,qb]
    .have A:¬ i<ss.idxOf m:=fun h=>M (yL (by lk));show⟨us,_,rfl,I,C,g,by lk,?_⟩;have W:([m].filter fun o=>decide (i<ss.idxOf o)).map (fun o=>(p,o))=[]:=by simp[A]
     rw[X,yZ,yC,W,Yd];show a
   .obtain⟨us,U,rfl,I,C,g,v,a⟩:=B;rw[ya,yM] at a;rw[ya] at v;show⟨us,_,_,rfl,I,g,by lk,?_⟩;unfold qX at a ⊢;rw[List.range_succ,xY];have W:[i].flatMap (qe6 ss ns)=(bs.filter fun o=>decide (i<ss.idxOf o)).map fun o=>(p,o):=by rw[<- r];simp
    rw[W];show a
  .obtain⟨ts,x2,U,rfl,R,G,s,c⟩:=B;rw[ya] at s c;apply q l ts H1 R hl G (by have:ss.length*14<=14*14:=Nat.mul_le_mul_right 14 few;lk) c
theorem Ui:FnScope ["_law_script","_law_k"] ["_law_script","_law_k"] (qg qbf):=fS
theorem Ur:FnScope ["_law_cell_here"] ["_law_cell_here"] (qg qb5):=fS
theorem ud:FnScope ["_law_box_here","_law_many","_law_number"] ["_law_box_here","_law_many"] (qg qbg):=fS
theorem Ua:FnScope ["_law_names_here"] ["_law_names_here"] (qg qai):=fS
theorem Us:FnScope ["_law_box_here"] ["_law_box_here"] (qg qbC):=fS
def Box(H:Hp)(p:Addr):Prop:=∃ a b c:Int,H p=some (.lst [.int a,.int b,.int c])
def BB(p:Addr)(H H':Hp):Prop:=(∀ b o,b≠p->H b=some o->H' b=some o)/\Box H' p
theorem BB.refl(h:Box H p):BB p H H:=⟨fun _ _ _ e=>e,h⟩
theorem BB.trans(a:BB p H H1)(b:BB p H1 H2):BB p H H2:=⟨fun c o n e=>b.1 c o n (a.1 c o n e),b.2⟩
theorem BB.new(a:BB p H H1)(hl:H1 l=none):BB p H (upd H1 l o):=by
 obtain⟨x,y,z,b⟩:=a.2;show⟨fun c u n e=>?_,x,y,z,?_⟩
 .have q:=a.1 c u n e;rw[qf (qv q hl)];show q
 .rw [qf (qv b hl)];show b
inductive spTake(vs:List V)(H:Hp)(Q:VK)(E:XK):Prop|mk (p:Addr) (m:Int) (_:vs=[.ref p,.int m]) (_:Box H p) (_:0<m) (_:m<1073741824) (_:∀(r:Int) (H':Hp),0<=r->r<m->BB p H H'->Q (.int r) H')
theorem ok_take(F:Fun K "_law_take" "_law_take" qbg f fd):FnOk P w K mg base CX0 1 f fd ["_law_box_here","_law_many"] spTake:=by
 show F.ok ud fun _ _ _ _ H vs Q E l h=>?_
 .obtain⟨p,m,rfl,⟨a,b,c,g⟩,j,h1,k⟩:=h;have d:=jQ l;show⟨_,(qc (qH (qk qdy (qw (qx (K:=K) rfl d) (pv 0) qi (fun _ _=>rfl)) qi (qu _)) (qc (qq (i:=2) ud.nd rfl (yP rfl) (qI zC (qw (qx (K:=K) rfl d) (pv 0) qi (fun _ _=>rfl)) (pv 1)))
 (qc (zg (qI qdM (qw (qx (K:=K) rfl d) (pv 0) qi (fun _ _=>rfl)) (pv 1)) (zn (pv 0) qi (zr d)))
 (qe (qm (pv 2))))) qo)
 (qc (zg (qI (za (K:=K) rfl) (qw (qx (K:=K) rfl d) (pv 0) qi (fun _ _=>rfl)) qi) (zn (pv 0) qi (zr d)))
 (qc (qq (i:=2) ud.nd rfl (yP rfl) (qI zC (qI (za (K:=K) rfl) (qI (za (K:=K) rfl) (qI qbY (qw (qx (K:=K) rfl d) (pv 0) qi (fun _ _=>rfl)) qi) (qI qbY qi (qw (qx (K:=K) rfl d) (pv 0) qi (fun _ _=>rfl)))) qi) qi))
 (qc (qq (i:=2) ud.nd rfl (yP rfl) (qI zC (qI (za (K:=K) rfl) (qI (za (K:=K) rfl) (qI qbY (pv 2) (pv 2)) (qI qbY qi (qw (qx (K:=K) rfl d) (pv 0) qi (fun _ _=>rfl)))) qi) qi))
 (qe (qm (qI zC (qI zC (qI qbY (pv 2) (qI (za (K:=K) rfl) (pv 2) qi)) qi) (pv 1)))))))),?_⟩
  apply .inl (qag g rfl ?_);apply qF (fun hc=>?_) (fun hc=>?_)
  .ext;show .inl (qag g rfl ?_);apply vI j ?_;apply .inl (qag g rfl ?_);apply vI ⟨j,h1⟩ ?_;apply .inl (qen g rfl ?_);apply k _ _ (Y3 _ (by lk)) (Y5 _ j) ⟨fun x o n e=>by rw[qf n];show e,_,_,_,qb⟩
  .ext;show .inl (qag g rfl ?_);apply .inl (qen g rfl ?_);apply .inl (qag qb rfl ?_);apply qbZ (.inr (by decide)) ?_;apply .inl (qag qb rfl ?_);apply qbZ (.inl (by decide)) ?_;apply vI (by decide) ?_;ext;have q:=Y3 (b*48271+7919*(c+1)+101) (show(2147483647:Int)≠0 by decide);have r:=Y5 (b*48271+7919*(c+1)+101) (show(0:Int)<2147483647 by decide);show qbZ (.inl ⟨by lk,by lk⟩) ?_;apply .inl (qag qb rfl ?_);apply qbZ (.inl (by decide)) ?_;apply vI (by decide) ?_;ext;generalize ((b*48271+7919*(c+1)+101) % 2147483647*((b*48271+7919*(c+1)+101) % 2147483647)+104729*(c+1)+7)=z;have s:=Y3 z (show(2147483629:Int)≠0 by decide);have t:=Y5 z (show(0:Int)<2147483629 by decide);show qbZ (.inl ⟨by lk,by lk⟩) ?_;apply vI (by decide) ?_;apply vI j ?_;show k _ _ (Y3 _ (by lk)) (Y5 _ j) ⟨fun x o n e=>by rw[qf n];show e,_,_,_,qb⟩
inductive spCell(K:W.Frag)(vs:List V)(H:Hp)(Q:VK)(E:XK):Prop|mk (a:Addr) (ns:LX) (k:Int) (_:vs=[.ref a,.int k]) (_:SqL K H a (ns.map V.int)) (_:0<=k) (_:k<1000) (_:∀ i:Int,Q (.int i) H)
theorem ok_cell(F:Fun K "_law_cell" "_law_cell" qbf f fd)(T:Txt K mg cc cw):FnOk P w K mg base CX0 1 f fd ["_law_script","_law_k"] (spCell K):=by
 show F.ok Ui fun _ _ _ _ H vs Q E l h=>?_
 .obtain⟨a,ns,k,rfl,e,j,h1,q⟩:=h;have m:=jQ l;show⟨_,(qc (qH (qk qdN (pv 1) (qp (j9 (K:=K) rfl) rfl T.b_len YQ (qa (pv 0) qd)) (qu _)) (qe (qm (qw (qx (K:=K) rfl m) (pv 0) (pv 1) (fun _ _=>rfl)))) qo)
 (qe (qm (qI (za (K:=K) rfl) (qI qbY qi (pv 1)) qi)))),?_⟩
  apply qeC e ?_;apply qF (fun hc=>?_) (fun hc=>?_)
  .ext;have c:k<(ns.map V.int).length:=yk hc;obtain⟨v,g,b⟩:=qdc j c;rw[yd] at b
   cases d:ns[k.toNat]? with
   | none=>rw[d] at b;cases b
   | some i =>
    rw[d] at b;cases b;show .inl (vIxLs e g (q i))
  .ext;show qbZ (.inl (by decide)) ?_;apply q _
inductive spBox(vs:List V)(H:Hp)(Q:VK)(E:XK):Prop|mk (i:Int) (_:vs=[.int i]) (_:∀(p:Addr) (a b c:Int),H p=none->Q (.ref p) (upd H p (.lst [.int a,.int b,.int c])))
theorem ok_box(F:Fun K "_law_box" "_law_box" qb5 f fd):FnOk P w K mg base CX0 1 f fd ["_law_cell_here"] spBox:=by
 show F.ok Ur fun _ _ _ _ H vs Q E b h=>?_
 .obtain⟨i,rfl,q⟩:=h;have c:=jQ b;show⟨_,(qc (qH (qk op_ge (pv 0) (qI op_pow qi qi) (qu _)) (qe (qm (qM (qa (pv 0) (qa (qI zC (pv 0) qi) (qa qi qd)))))) qo)
 (qe (qm (qM (qa qi (qa (qI zC (pv 0) qi) (qa qi qd))))))),?_⟩
  apply vI ⟨by decide,by decide,by decide⟩ ?_;apply qF (fun hc=>?_) (fun hc=>?_)
  .ext;show vI (by decide) ?_;apply⟨by show 3<=sizeLine;decide,fun p a=>q p _ _ _ a⟩
  .ext;show vI (by decide) ?_;apply⟨by show 3<=sizeLine;decide,fun p a=>q p _ _ _ a⟩
theorem BB.apart(a:BB p H H1)(hl:H1 l=none):l≠p:=fun e=>by subst e;obtain⟨_,_,_,z⟩:=a.2;rw[z] at hl;cases hl
theorem BB.free(a:BB p H H1)(hl:H1 l=none):H l=none:=by
 cases q:H l with
 | none=>rfl
 | some o=>rw[a.1 l o (a.apart hl) q] at hl;cases hl
theorem BB.put(a:BB p H H1)(hl:H l=none)(d:l≠p):BB p H (upd H1 l o):=by
 obtain⟨x,y,z,b⟩:=a.2;show⟨fun c u n e=>by rw[qf (qv e hl)];show a.1 c u n e,x,y,z,by rw[qf d.symm];show b⟩
theorem BB.same(a:BB p H H1)(s:L2.Same H1 H2):BB p H H2:=by
 obtain⟨x,y,z,b⟩:=a.2;show⟨fun c u n e=>s c u (a.1 c u n e),x,y,z,s _ _ b⟩
theorem Box.same(h:Box H p)(s:L2.Same H H1):Box H1 p:=by obtain⟨a,b,c,e⟩:=h;show⟨a,b,c,s _ _ e⟩
theorem Box.apart(h:Box H p)(hl:H l=none):l≠p:=(BB.refl h).apart hl
noncomputable def NewH(H H':Hp):Hp:=fun a=>match H a with | none=>H' a | some _=>none
theorem odd_parts:∃ f p q u j v w a ps,zy qbC=[.Return (some (.Subscript (.List f p) (.Call (.Name "_law_take" q) [.Name "_law_box_here" u,.Constant (.int 10) j v] [] w) a)) ps]/\∀(env:Env) (c:Expr->TE->Prop) (d:List Expr->TA->Prop),
  (∀ j a,c (.Constant .none j a) (tC .non))->(∀ i j a,c (.Constant (.int i) j a) (tC (.int i)))->(∀ b j a,c (.Constant (.bool b) j a) (tC (.bl b)))->(∀ x j a,c (.Constant (.str x) j a) (tC (.str x))) ->
  (∀ f a t,d f t->c (.List f a) (qfN t))->(∀ f y a t,d f t->c (.Tuple f y a) (qfM t))->(∀ a,c (.Dict [] [] a) qdV)->(∀ i j p a,c (.UnaryOp .USub (.Constant (.int i) j p) a) (tUn (rU fun i=>.int (-i)) (tC (.int i))))->d [] qef ->
  (∀ e f l t,c e l->d f t->starEach (e::f) env=(false,eval e env)::starEach f env->d (e::f) (qaa l t)) ->
  d f (qaa (tC .non) (qaa (tC (.int 0)) (qaa (tC (.bl true)) (qaa (tC (.str "")) (qaa (tC (.str "A")) (qaa (qfN (qaa (tC (.str "a")) qef)) (qaa (qfM (qaa (tC (.str "a")) (qaa (tC (.str "b")) qef))) (qaa qdV (qaa (tUn (rU fun i=>.int (-i)) (tC (.int 1))) (qaa (tC (.str "zzzzzzz")) qef)))))))))):=
 ⟨_,_,_,_,_,_,_,_,_,rfl,fun env c d o n hb g hl r m s h hc=>hc _ _ _ _ (o _ _) (hc _ _ _ _ (n _ _ _) (hc _ _ _ _ (hb _ _ _) (hc _ _ _ _ (g _ _ _) (hc _ _ _ _ (g _ _ _) (hc _ _ _ _ (hl _ _ _ (hc _ _ _ _ (g _ _ _) h rfl)) (hc _ _ _ _ (r _ _ _ _ (hc _ _ _ _ (g _ _ _) (hc _ _ _ _ (g _ _ _) h rfl) rfl)) (hc _ _ _ _ (m _) (hc _ _ _ _ (s _ _ _ _) (hc _ _ _ _ (g _ _ _) h rfl) rfl) rfl) rfl) rfl) rfl) rfl) rfl) rfl) rfl⟩
theorem jM:∀{l m:LS},l.Nodup->(∀ x∈l,x∈m)->l.length<=m.length
 | [],_,_,_=>xv _
 | x::r,m,hn,h=>by
  obtain⟨h1,c⟩:=yo.mp hn;have a:=h x yU;have d:=jM (l:=r) (m:=m.erase x) c fun y b=>(List.mem_erase_of_ne (fun e=>h1 (by rw[<- e];show b))).mpr (h y (yJ _ b));rw[xr a] at d;have:0<m.length:=xE a;simp only[yw];lk
theorem zA(c:Str)(ss:LS):inV (.str c) (ss.map V.str)=decide (c∈ss):=by
 unfold inV;rw[List.any_map,xk,Xe,Yg];constructor
 .rintro ⟨y,a,e⟩;have:y=c:=eq_of_beq e;rw[<- this];show a
 .intro h;show⟨c,h,Xd c⟩
theorem jN(ss:LS):(ss.map V.str).all zM=true:=by rw[ky];show YM.mpr fun _ _=>rfl
inductive spFresh(vs:List V)(H:Hp)(Q:VK)(E:XK):Prop|mk (l:Addr) (ss:LS) (_:vs=[.ref l]) (_:H l=some (.lst (ss.map V.str))) (_:ss.length<=14) (_:∀(x:Str) (H':Hp),L2.Same H H'->jW x=true->x∉ss->Q (.str x) H')
noncomputable def signs:LS:=("abcdefghijklmno":Str).cps.toList.map fun c=>⟨#[c]⟩
theorem signs_nodup:signs.Nodup:=by room
theorem qbD:signs.length=15:=by room
theorem ok_fresh(F:Fun K "_law_fresh" "_law_fresh" qai f fd):FnOk P w K mg base CX0 1 f fd ["_law_names_here"] spFresh:=by
 show F.ok Ua fun _ _ _ _ H vs Q E y h=>?_
 .obtain⟨l,ss,rfl,hl,few,q⟩:=h;have s:=jQ y;show⟨_,(qe (qm (qw (qx (K:=K) rfl s) (jh (sc:=qg qai) (XN:=["_law_names_here"]) ["_law_sign","_law_names_here"] 1 [0] rfl rfl rfl (by room) rfl (by room)
  (qK (K:=K) rfl qaE) (fun _ _ _ _=>(qt (i:=0) (show(["_law_sign","_law_names_here"]:LS).Nodup by room) rfl (yP rfl))) qN
  (fun _ _ _ _=>(qW (qk (jL (K:=K) rfl s) (pv 0) (pv 1) (by with_unfolding_all rfl))))
  (fun _ _ _ _=>(pv 0))) qi (fun _ _=>rfl)))),?_⟩
  apply qbX (fun i ys H'=>H'=H/\ys=((signs.take i).filter fun c=>!decide (c∈ss)).map V.str) ⟨rfl,rfl⟩ (fun i c ys H' hc o=>?_) fun ys H' o=>?_
  .obtain⟨rfl,rfl⟩:=o;ext
   have t:signs[i]?=some (⟨#[c]⟩:Str):=by
    unfold signs;rw[yd];have:("abcdefghijklmno":Str).cps.toList[i]?=some c:=by simpa using hc
    rw[this];rfl
   have e:signs.take (i+1)=signs.take i++[⟨#[c]⟩]:=by rw[yD,t];rfl
   show .inl ⟨l,_,rfl,.inl (SqL.of hl),rfl,jN ss,?_⟩;rw[zA];apply qF (fun h=>?_) fun h=>?_
   .ext;show⟨?_,rfl,?_⟩
    .rw [ya];show qh (yi (yE _ _) ?_);rw[yK,qbD];lk
    .rw [e,yZ,yC];have:(!decide ((⟨#[c]⟩:Str)∈ss))=true:=h;simp[this]
   .show⟨rfl,?_⟩;rw[e,yZ];have:(!decide ((⟨#[c]⟩:Str)∈ss))=false:=by simpa using h
    simp[this]
  .obtain⟨rfl,rfl⟩:=o
   have z:signs.take ("abcdefghijklmno":Str).cps.size=signs:=by
    rw[show("abcdefghijklmno":Str).cps.size=signs.length by room,yM]
   rw[z]
   have n:∃ x r,(signs.filter fun c=>!decide (c∈ss))=x::r:=by
    cases h:signs.filter fun c=>!decide (c∈ss) with
    | cons x r=>show⟨x,r,rfl⟩
    | nil =>
     have d:∀ x∈signs,x∈ss:=fun x m=>by
      have:=List.filter_eq_nil_iff.mp h x m;simpa using this
     have:=jM signs_nodup d;rw[qbD] at this;lk
   obtain⟨x,r,m⟩:=n
   have g:x∈signs/\x∉ss:=by
    have:x∈signs.filter fun c=>!decide (c∈ss):=by rw[m];show yU
    obtain⟨a,b⟩:=yp.mp this;show⟨a,by simpa using b⟩
   have p:jW x=true:=(show ∀ x∈signs,jW x=true by room) x g.1;show⟨?_,fun l2 u=>?_⟩
   .rw [ya];show yR (qh (yi (yE _ _) ?_));rw[qbD];lk
   .rw [m];apply .inl (qag (v:=.str x) qb (qE (j:=0) rfl) ?_);show q x _ (qC (Sr H') u) p g.2
theorem Kq:FnScope ["_law_box_here","_law_many","_law_letters","_law_way","_law_shift","_law_step","_law_stem","_law_ahead","_law_names_here","_law_k","_law_name"] ["_law_box_here","_law_many"] (qg zI):=fS
theorem slice_ix(k n:Nat):Builtin.Str.strSliceIndices none (some (k:Int)) 1 n=List.range (min k n):=by
 unfold Builtin.Str.strSliceIndices sliceRange;simp only[show(1:Int)>0 by decide,X5];rw[yF (show ¬ ((k:Int)<0) by lk)];have a:max 0 (min (k:Int) n)=((min k n:Nat):Int):=by lk
 rw[a];have b:(fun(j:Nat)=>((0:Int)+1*(j:Int)).toNat)=id:=by funext j;show _=j;lk
 rw[b,List.map_id]
 congr 1
 split
 .rw [Int.ediv_one];lk
 .omega
theorem qd6(a:Array Nat):∀ m,m<=a.size->(List.range m).filterMap (a[·]?)=a.toList.take m
 | 0,_=>rfl
 | m+1,h=>by
  rw[List.range_succ,List.filterMap_append,qd6 a m (by lk),yD]
  congr 1
  have e:a[m]?=some a[m]:=xO (by lk);have b:a.toList[m]?=some a[m]:=by rw[xM];show e
  rw[b,XA,e];rfl
theorem qay(z:Str)(k:Nat):(Txt.slice z none (some (k:Int))).cps.toList=z.cps.toList.take k:=by
 unfold Txt.slice;rw[slice_ix];have hz:z.length=z.cps.toList.length:=by simp[Str.length]
 split
 .rename_i h
  rw[List.length_range] at h;have:min k z.length=z.length:=by simpa using h
  rw[xi (by lk)]
 .show(List.filterMap _ _).toArray.toList=_;rw[qd6 z.cps (min k z.length) (X3 _ _)];show z.cps.toList.take (min k z.length)=_;by_cases a:k<=z.length
  .rw [k9 a]
  .rw [kQ (by lk),xi (by lk),xi (by lk)]
theorem qaW(a b:Str):(a++b).cps.toList=a.cps.toList++b.cps.toList:=by
 show(a.cps++b.cps).toList=_;show Array.toList_append
theorem qdp:∀{xs:LS},(∀ x∈xs,x.cps.toList.all sg=true)->(Str.join "" xs).cps.toList.all sg=true
 | [],_=>rfl
 | [x],h=>h x (by simp)
 | x::y::r,h=>by
  have e:Str.join "" (x::y::r)=x++""++Str.join "" (y::r):=rfl;rw[e,qaW,qaW,kn,kn,h x (by simp),qdp fun z hz=>h z (yJ _ hz)]
  room
theorem qe7{c:Nat}(h:97<=c)(b:c<=122):sg c=true:=by
 have a:∀ i,i<26->sg (97+i)=true:=by room
 have:=a (c-97) (by lk)
 rwa[show 97+(c-97)=c by lk] at this
theorem join_len{xs:LS}(h:∀ x∈xs,x.length=1):(Txt.join "" xs).length=xs.length:=by
 have e:Txt.join "" xs=Str.join "" xs:=Ym.mp (join_plain_closes "" xs);rw[e]
 cases xs with
 | nil=>rfl
 | cons a l =>
  rw[len_join_cons]
  have b:∀ l:LS,(∀ x∈l,x.length=1)->(l.map (·.length)).sum=l.length:=by
   intro l
   induction l with
   | nil=>intro _;rfl
   | cons a l ih =>
    intro h;rw[YJ,List.sum_cons,h a yU,ih fun x c=>h x (yJ _ c),yw];lk
  have z:("":Str).length=0:=by room
  rw[b _ h,z];lk
theorem sum_ones{xs:LS}(h:∀ x∈xs,x.length=1):(xs.map (·.length)).sum=xs.length:=by
 induction xs with
 | nil=>rfl
 | cons a l ih =>
  rw[YJ,List.sum_cons,h a yU,ih fun x b=>h x (yJ _ b),yw];lk
def Signs(p:Addr)(H:Hp)(i:Nat)(ys:List V)(H':Hp):Prop:=BB p H H'/\∃ xs:LS,ys=xs.map V.str/\xs.length=i/\∀ x∈xs,x.length=1/\x.cps.toList.all sg=true
theorem Signs.start(h:Box H p):Signs p H 0 [] H:=⟨BB.refl h,[],rfl,rfl,fun _ h=>by cases h⟩
theorem Signs.more{c:Nat}(h:Signs p H i ys H1)(b:BB p H1 H2)(hc:sg c=true):Signs p H (i+1) (ys++[.str ⟨#[c]⟩]) H2:=by
 obtain⟨hb,xs,rfl,hl,h1⟩:=h;show⟨hb.trans b,xs++[⟨#[c]⟩],by rw[yC];rfl,by rw[yt,hl];rfl,fun x a=>?_⟩;rcases yz.mp a with z | z
 .show h1 x z
 .rw [yA.mp z];show⟨rfl,by simp[hc]⟩
theorem Signs.len(h:Signs p H i ys H1):ys.length=i:=by
 obtain⟨_,xs,rfl,hl,_⟩:=h;rw[ya,hl]
noncomputable def L26:Str:="abcdefghijklmnopqrstuvwxyz"
theorem qeQ{i:Int}(b:0<=i)(h1:i<26):atI L26.cps.toList i=some (97+i.toNat):=by
 obtain⟨n,rfl⟩:=xy b;have a:∀ n,n<26->L26.cps.toList[n]?=some (97+n):=by room
 rw[xU];show qE (a n (by lk))
theorem qdq{x:Str}{l:LN}(e:x.cps.toList=l)(h1:1<=l.length)(a:l.length<=6)(h:l.all sg=true):jW x=true:=by
 have hl:x.length=l.length:=by rw[<- e];simp[Str.length]
 unfold jW;rw[yI ⟨by lk,by lk⟩,e];show h
theorem qcB(h:∀(i j:Nat) (s:Str),ss[i]?=some s->ss[j]?=some s->i=j):ss.Nodup:=by
 show Yz.mpr fun i j a c b e=>?_;have:=h i j ss[j] (by rw[yb a,e]) (yb c);lk
theorem qdr{step sh a b:Int}(c:step∈[(1:Int),3,5,7,9,11,15,25])(g:0<=a)(hb:0<=b)(d:a<26)(f:b<26)(e:(sh+step*a) % 26=(sh+step*b) % 26):a=b:=by
 simp only[yx,yQ,Yv] at c;rcases c with rfl | rfl | rfl | rfl | rfl | rfl | rfl | rfl<;>lk
def NL(p:Addr)(H':Hp)(l:Addr)(ss:LS):Prop:=H' l=some (.lst (ss.map V.str))/\l≠p
structure NOk(ss:LS):Prop where
 few:ss.length<=14
 nd:ss.Nodup
 nm:∀ s∈ss,jW s=true
inductive spNames(vs:List V)(H:Hp)(Q:VK)(E:XK):Prop|mk (p:Addr) (m:Int) (_:vs=[.ref p,.int m]) (_:Box H p) (_:0<=m) (_:m<=14) (_:∀(l:Addr) (ss:LS) (H':Hp),BB p H H'->H l=none->NL p H' l ss->NOk ss->(ss.length:Int)<=m->Q (.ref l) H')
theorem ok_names(F:Fun K "_law_names" "_law_names" zI f fd)(T:Txt K mg cc cw)(X:DefOk P w K mg base CX0 1 "_law_take" ["_law_box_here","_law_many"] spTake):FnOk P w K mg base CX0 2 f fd ["_law_box_here","_law_many"] spNames:=by
 show F.ok Kq fun _ _ _ s H vs Q E O h=>?_
 .obtain⟨p,m,rfl,hB,m0,am,q⟩:=h;have hu:=jQ O;show⟨_,(qc (qq (i:=2) Kq.nd rfl (XB rfl) qaE)
 (qc (qq (i:=3) Kq.nd rfl (yP rfl) (qr X (hmR O) qz (qa (pv 0) (qa qi qd))))
 (qc (qq (i:=4) Kq.nd rfl (XB rfl) (qr X (hmR O) qz (qa (pv 0) (qa qi qd))))
 (qc (qq (i:=5) Kq.nd rfl (XB rfl) (qw (qx (K:=K) rfl hu) (qM (qa qi (qa qi (qa qi (qa qi (qa qi (qa qi (qa qi (qa qi qd))))))))) (qr X (hmR O) qz (qa (pv 0) (qa qi qd))) (fun _ _=>rfl)))
 (qc (qq (i:=6) Kq.nd rfl (XB rfl) (qbO (K:=K) rfl PySem.F.plainAttrs_str PySem.F.slot_str_join PySem.F.type_str_join (k_join (K:=K) rfl) qaE (qa (jh (sc:=qg zI) (XN:=["_law_box_here","_law_many","_law_letters","_law_way","_law_shift","_law_step","_law_stem","_law_ahead","_law_names_here","_law_k","_law_name"]) ["_law_k","_law_letters","_law_box_here"] 1 [2,0] rfl rfl rfl (by room) rfl (by room)
  (jJ rfl T.b_range (qa qi qd)) (fun _ _ _ _=>(qt (i:=0) (show(["_law_k","_law_letters","_law_box_here"]:LS).Nodup by room) rfl (yP rfl))) qN
  (fun _ _ _ _=>jK)
  (fun _ _ _ _=>(qw (qx (K:=K) rfl hu) (pv 1) (qr X (hmR O) qz (qa (pv 2) (qa qi qd))) (fun _ _=>rfl)))) qd)))
 (qc (qH (qk (zl (K:=K) rfl hu) (pv 3) qi (qu _)) (qe (qm (jh (sc:=qg zI) (XN:=["_law_box_here","_law_many","_law_letters","_law_way","_law_shift","_law_step","_law_stem","_law_ahead","_law_names_here","_law_k","_law_name"]) ["_law_k","_law_letters","_law_stem","_law_shift","_law_step"] 1 [2,6,4,5] rfl rfl rfl (by room) rfl (by room)
  (jJ rfl T.b_range (qa (pv 1) qd)) (fun _ _ _ _=>(qt (i:=0) (show(["_law_k","_law_letters","_law_stem","_law_shift","_law_step"]:LS).Nodup by room) rfl (yP rfl))) qN
  (fun _ _ _ _=>jK)
  (fun _ _ _ _=>(qI (za (K:=K) rfl) (qw (qx (K:=K) rfl hu) (pv 1) (qI zC (qI (za (K:=K) rfl) (pv 3) (qI qbY (pv 4) (qI qdM (pv 0) qi))) qi) (fun _ _=>rfl)) (jx (qdF (K:=K) rfl) (pv 2) jS (jo (qI zC (pv 0) qi)))))))) qo)
 (qc (qq (i:=7) Kq.nd rfl (yP rfl) (qr X (hmR O) qz (qa (pv 0) (qa qi qd))))
 (qc (qq (i:=8) Kq.nd rfl (yP rfl) (qM qd))
 (qc (jz yV rfl (jJ rfl T.b_range (qa (pv 1) qd)) (qt (i:=9) Kq.nd rfl (yP rfl))
 (qc (qq (i:=10) Kq.nd rfl (yP rfl) (qI (za (K:=K) rfl) (jx (qdF (K:=K) rfl) (pv 6) jS (jo (pv 7))) (qw (qx (K:=K) rfl hu) (pv 2) (qI zC (qI (za (K:=K) rfl) (pv 4) (qI qbY (pv 5) (pv 9))) qi) (fun _ _=>rfl))))
 (qe (qR (qbO (K:=K) rfl yT Yj Yk jj (pv 8) (qa (qI (za (K:=K) rfl) (pv 10) (jx (qdF (K:=K) rfl) (pv 6) jS (jo (qI qbY (qr X (hmR O) qz (qa (pv 0) (qa (qI qbJ qi (pv 7)) qd))) (qI qbJ (pv 3) qi))))) qd))))))
 (qe (qm (pv 8)))))))))))),?_⟩
  apply⟨p,3,rfl,hB,by decide,by decide,fun D H1 w0 w1 b1=>?_⟩;apply⟨p,26,rfl,b1.2,by decide,by decide,fun a H2 an ao b2=>?_⟩;replace b2:=b1.trans b2;apply⟨by show 8<=sizeLine;decide,fun l8 h8=>?_⟩;generalize S:[V.int 1,V.int 3,V.int 5,V.int 7,V.int 9,V.int 11,V.int 15,V.int 25]=xs;have b3:=b2.new (o:=.lst xs) h8;have n8:=b2.apart h8;have e8:upd H2 l8 (.lst xs) l8=some (.lst xs):=qb;generalize upd H2 l8 (.lst xs)=H3 at b3 e8 ⊢;apply⟨p,8,rfl,b3.2,by decide,by decide,fun r H4 r0 r1 B=>?_⟩;replace e8:=B.1 _ _ n8 e8;replace B:=b3.trans B;have al:xs.length=8:=by rw[<- S];rfl
  obtain⟨v,ix,hv⟩:=qdc (xs:=xs) r0 (by lk)
  obtain⟨step,rfl,ac,ap,aq⟩:∃ i:Int,v=.int i/\i∈[(1:Int),3,5,7,9,11,15,25]/\0<=i/\i<=25:=by
   have hm:=ye hv;rw[<- S] at hm;simp only[yx,yQ,Yv] at hm;rcases hm with rfl | rfl | rfl | rfl | rfl | rfl | rfl | rfl<;>show⟨_,rfl,by decide,by decide,by decide⟩
  show .inl (qag e8 ix ?_);clear hv ix S e8;apply⟨rfl,?_⟩;apply⟨5,rfl,by decide,by decide,qa3 (lo:=0) (n:=5) (Signs p H4) (Signs.start B.2) (fun i ys H' J y=>?_) fun ys H5 y=>?_⟩
  .ext;show jU ?_;apply⟨p,26,rfl,y.1.2,by decide,by decide,fun r aj r0 r1 hb=>?_⟩;show .inl (qgc (by room) (qeQ r0 r1) ?_);show⟨by rw[y.len];show qh (by lk),y.more hb (qe7 (by lk) (by lk))⟩
  .show⟨by rw[y.len];decide,fun l5 h5=>?_⟩;obtain⟨af,I,rfl,hn,h1⟩:=y;replace B:=(B.trans af).new (o:=.lst (I.map V.str)) h5;apply⟨_,l5,I,rfl,rfl,SqL.of qb,by rw[sum_ones fun x hx=>(h1 x hx).1,show("":Str).length=0 by room];lk,?_⟩;have u:(Txt.join "" I).length=5:=by rw[join_len fun x hx=>(h1 x hx).1];lk
   have C:(Txt.join "" I).cps.toList.all sg=true:=by
    have e:Txt.join "" I=Str.join "" I:=Ym.mp (join_plain_closes "" I);rw[e];show qdp fun x hx=>(h1 x hx).2
   generalize Txt.join "" I=b at u C ⊢;have Y:b.cps.toList.length=5:=by rw[<- u];simp[Str.length]
   have U:∀ k,(b.cps.toList.take k).all sg=true:=fun k=>YM.mpr fun c hc=>YM.mp C c (List.mem_of_mem_take hc)
   have R:∀ k:Nat,(Txt.slice b none (some (k:Int))).length=min k 5:=fun k=>by
    have:(Txt.slice b none (some (k:Int))).length=(Txt.slice b none (some (k:Int))).cps.toList.length:=by simp[Str.length]
    rw[this,qay,yK,Y]
   generalize upd H5 l5 (.lst (I.map V.str))=H6 at B ⊢;have z:∀{i:Int} {H:Hp} {Q:VK},0<=i->i<26->Q (.str ⟨#[97+i.toNat]⟩) H->qfA K (.str L26) (.int i) H Q:=fun h0 h1 k=>.inl (qgc (by room) (qeQ h0 h1) k);apply .inl (.inl (.inl ⟨rfl,rfl,?_⟩));apply qF (fun hw=>?_) fun hw=>?_
   .ext;show⟨m,rfl,by lk,by lk,qa3 (lo:=0) (fun i ys H'=>H'=H6/\∃ ss:LS,ys=ss.map V.str/\ss.length=i/\∀(j:Nat) s,ss[j]?=some s->s.cps.toList=(97+((a+step*((j:Int) / 6)) % 26).toNat)::b.cps.toList.take (j % 6)) ⟨rfl,[],rfl,rfl,by simp⟩ (fun i ys H' J y=>?_) fun ys H' y=>?_⟩
    .obtain⟨rfl,ss,rfl,d,g⟩:=y;apply jU ?_;apply vI ⟨by decide,by decide⟩ ?_;apply qbZ (.inl ⟨by lk,by lk⟩) ?_;apply vI (by decide) ?_;apply z (Y3 _ (by decide)) (Y5 _ (by decide)) ?_;apply vI (by decide) ?_;apply qfZ (yi (XR u) (by decide)) ?_;rw[kA,show((i:Int) % 6)=((i % 6:Nat):Int) by lk];show qe4 (by rw[R];show 1+_<=_;show yR (qh (by lk))) ?_;show⟨by rw[ya,d];show qh (by lk),rfl,ss++[_],by rw[yC];rfl,by rw[yt,d];rfl,fun j s t=>?_⟩;by_cases N:j<ss.length
     .rw [yW N] at t;show g j s t
     .rw [yB (by lk)] at t;have h0:j-ss.length=0:=by have:=(yc.mp t).1;simp at this;lk
      rw[h0] at t;cases t;have M:j=i:=by lk
      subst M;rw[qaW,qay];rfl
    .obtain⟨rfl,ss,rfl,d,g⟩:=y;show⟨by rw[ya,d];show yR (qh (by lk)),fun l hl=>?_⟩;show q l ss _ (B.new hl) (B.free hl) ⟨qb,B.apart hl⟩ ⟨by lk,qcB fun i j s J t=>?_,fun s y=>?_⟩ (by lk)
     .have ei:=g i s J;have ej:=g j s t;have li:=(yc.mp J).1;have lj:=(yc.mp t).1;rw[ei,List.cons.injEq] at ej;obtain⟨e1,e2⟩:=ej;have e3:=congrArg List.length e2;rw[yK,yK,Y] at e3
      have e4:(i:Int) / 6=(j:Int) / 6:=qdr (sh:=a) ac (by lk) (by lk) (by lk) (by lk) (by
       have p1:=Y3 (a+step*((i:Int) / 6)) (show(26:Int)≠0 by decide);have p2:=Y3 (a+step*((j:Int) / 6)) (show(26:Int)≠0 by decide);lk)
      lk
     .obtain⟨j,t,e⟩:=YX y;show qdq (g j s (by rw[yb t,e])) (by simp) (by simp[Y];lk) ?_;rw[XF,U,qe7 (by lk) (by have:=Y5 (a+step*((j:Int) / 6)) (show(0:Int)<26 by decide);lk)];rfl
   .ext;show⟨p,4,rfl,B.2,by decide,by decide,fun ae H7 a0 a1 Z=>?_⟩;obtain⟨A,rfl⟩:=xy a0;replace Z:=B.trans Z;apply⟨by decide,fun l hl=>?_⟩;have b8:=Z.new (o:=.lst []) hl;have nl:=Z.apart hl;have aa:=Z.free hl;apply⟨m,rfl,by lk,by lk,zB (fun i σ H'=>BB p H H'/\∃(ss:LS) (x9 W:Option V),σ=[some (.ref p),some (.int m),some (.str L26),some (.int D),some (.int a),some (.int step),some (.str b),some (.int (A:Int)),some (.ref l),x9,W]/\H' l=some (.lst (ss.map V.str))/\ss.length=i/\∀(j:Nat) s,ss[j]?=some s->jW s=true/\s.cps.toList[A]?=some (97+((a+step*(j:Int)) % 26).toNat))
     ⟨b8,[],none,none,rfl,qb,rfl,by simp⟩ (fun i σ H8 J hp=>?_) fun σ H8 hp=>?_⟩
    .obtain⟨b9,ss,x9,W,rfl,g,d,hk⟩:=hp;apply qfZ (yi (XR u) (by decide)) ?_;apply qbZ (.inl ⟨by lk,by lk⟩) ?_;apply vI (by decide) ?_;ext;rw[kA];show z (Y3 _ (by decide)) (Y5 _ (by decide)) ?_;show qe4 (by rw[R];show _+1<=_;show yR (qh (by lk))) ?_;have L:(Txt.slice b none (some (A:Int))++(⟨#[97+((a+step*(i:Int)) % 26).toNat]⟩:Str)).cps.toList=b.cps.toList.take A++[97+((a+step*(i:Int)) % 26).toNat]:=by rw[qaW,qay]
     have ag:(Txt.slice b none (some (A:Int))++(⟨#[97+((a+step*(i:Int)) % 26).toNat]⟩:Str)).length<=6:=by
      have:(Txt.slice b none (some (A:Int))++(⟨#[97+((a+step*(i:Int)) % 26).toNat]⟩:Str)).length=(Txt.slice b none (some (A:Int))++(⟨#[97+((a+step*(i:Int)) % 26).toNat]⟩:Str)).cps.toList.length:=by simp[Str.length]
      rw[this,L];simp[Y];lk
     generalize Txt.slice b none (some (A:Int))++(⟨#[97+((a+step*(i:Int)) % 26).toNat]⟩:Str)=nm at L ag ⊢;apply⟨.inl ⟨rfl,_,SqL.of g⟩,?_⟩;apply⟨p,_,rfl,b9.2,by lk,by lk,fun r H9 r0 r1 G=>?_⟩;replace g:=G.1 _ _ nl g;replace G:=b9.trans G;apply qbZ (.inl ⟨by lk,by lk⟩) ?_;apply qfZ (yi (XR u) (by decide)) ?_
     have ad:D=1\/D=2:=by
      have:¬ D=0:=fun e=>hw (by subst e;rfl);lk
     obtain⟨k,ak,ek⟩:∃ k:Nat,k<=5-A/\r*(D-1)=(k:Int):=by
      rcases ad with rfl | rfl
      .show⟨0,by lk,by lk⟩
      .show⟨r.toNat,by lk,by lk⟩
     rw[ek];show qe4 (by rw[R];show yR (qh (by lk))) ?_;show⟨l,_,_,rfl,rfl,g,by rw[ya,d];show qh (by lk),?_⟩;show⟨G.put aa nl,ss++[_],_,_,rfl,by rw[qb,yC];rfl,by rw[yt,d];rfl,fun j s t=>?_⟩;by_cases N:j<ss.length
     .rw [yW N] at t;show hk j s t
     .rw [yB (by lk)] at t;have h0:j-ss.length=0:=by have:=(yc.mp t).1;simp at this;lk
      rw[h0] at t;cases t;have M:j=i:=by lk
      subst M;have eF:(nm++Txt.slice b none (some (k:Int))).cps.toList=b.cps.toList.take A++[97+((a+step*(j:Int)) % 26).toNat]++b.cps.toList.take k:=by rw[qaW,L,qay]
      have ai:=Y5 (a+step*(j:Int)) (show(0:Int)<26 by decide);show⟨qdq eF (by simp;lk) (by simp[Y];lk) ?_,?_⟩
      .rw [kn,kn,U,U,XF,qe7 (by lk) (by lk)];rfl
      .rw [eF,Yc,yB (by rw[yK];lk)];have:A-(b.cps.toList.take A).length=0:=by rw[yK,Y];lk
       rw[this];rfl
    .obtain⟨b9,ss,x9,W,rfl,g,d,hk⟩:=hp;apply q l ss _ b9 aa ⟨g,nl⟩ ⟨by lk,qcB fun i j s J t=>?_,fun s y=>?_⟩ (by lk)
     .have ei:=(hk i s J).2;have ej:=(hk j s t).2;have li:=(yc.mp J).1;have lj:=(yc.mp t).1;rw[ei,Option.some.injEq] at ej
      have e4:(i:Int)=(j:Int):=qdr (sh:=a) ac (by lk) (by lk) (by lk) (by lk) (by
       have p1:=Y3 (a+step*(i:Int)) (show(26:Int)≠0 by decide);have p2:=Y3 (a+step*(j:Int)) (show(26:Int)≠0 by decide);lk)
      lk
     .obtain⟨j,t,e⟩:=YX y;show(hk j s (by rw[yb t,e])).1
theorem K0:FnScope ["_law_box_here","_law_names_here","_law_found","_law_base","_law_k","_law_j"] ["_law_box_here","_law_names_here"] (qg qbh):=fS
theorem K4:FnScope ["_law_box_here","_law_most","_law_many","_law_names_here"] ["_law_box_here","_law_most"] (qg qaX):=fS
theorem Ks:FnScope ["_law_box_here","_law_ties_here","_law_left","_law_found"] ["_law_box_here","_law_ties_here"] (qg ju):=fS
theorem NL.bb(h:NL p H l ss)(b:BB p H H'):NL p H' l ss:=⟨b.1 _ _ h.2 h.1,h.2⟩
theorem NL.same(h:NL p H l ss)(s:L2.Same H H'):NL p H' l ss:=⟨s _ _ h.1,h.2⟩
def PrT(p:Addr)(H:Hp)(t:Addr)(ab:Str×Str):Prop:=t≠p/\H t=some (.tup [.str ab.1,.str ab.2])
def TL(p:Addr)(H:Hp)(l:Addr)(ts:LQ)(tps:LP):Prop:=H l=some (.lst (ts.map V.ref))/\l≠p/\All2 (PrT p H) ts tps
theorem TL.bb(h:TL p H l ts tps)(b:BB p H H'):TL p H' l ts tps:=⟨b.1 _ _ h.2.1 h.1,h.2.1,h.2.2.mono fun t ab z=>⟨z.1,b.1 _ _ z.1 z.2⟩⟩
theorem TL.same(h:TL p H l ts tps)(s:L2.Same H H'):TL p H' l ts tps:=⟨s _ _ h.1,h.2.1,h.2.2.mono fun t ab z=>⟨z.1,s _ _ z.2⟩⟩
theorem PrT.put{t:Addr}(h:PrT p H t ab)(hl:H l=some (.lst xs)):PrT p (upd H l (.lst ys)) t ab:=⟨h.1,by rw[qf (qac h.2 hl (by intro z;cases z))];show h.2⟩
theorem TL.more{t:Addr}(h:TL p H l ts tps)(a:PrT p H t ab):TL p (upd H l (.lst (ts.map V.ref++[.ref t]))) l (ts++[t]) (tps++[ab]):=
 ⟨by rw[qb,yC];rfl,h.2.1,(h.2.2.mono fun _ _ z=>z.put h.1).snoc (a.put h.1)⟩
theorem TL.other{l':Addr}(h:TL p H l ts tps)(ne:l≠l')(hl:H l'=some (.lst xs)):TL p (upd H l' (.lst ys)) l ts tps:=⟨by rw[qf ne];show h.1,h.2.1,h.2.2.mono fun _ _ z=>z.put hl⟩
theorem qbE(f:α->β):∀(l:List α) (k:Nat),(l.map f).eraseIdx k=(l.eraseIdx k).map f
 | [],_=>rfl
 | _::_,0=>rfl
 | a::r,k+1=>congrArg (f a::·) (qbE f r k)
theorem All2.erase{R:α->β->Prop}{l:List α}{m:List β}(h:All2 R l m)(k:Nat):All2 R (l.eraseIdx k) (m.eraseIdx k):=by
 show⟨by rw[List.length_eraseIdx,List.length_eraseIdx,h.len],fun j a b c hb=>?_⟩;rw[List.getElem?_eraseIdx] at c hb;split at c
 .rename_i hlt
  rw[yI hlt] at hb;show h.at_ j a b c hb
 .rename_i hlt
  rw[yF hlt] at hb;show h.at_ (j+1) a b c hb
theorem qa4:∀(l:List α) (k:Nat) (h:k<l.length),(l[k]::l.eraseIdx k).Perm l
 | [],_,h=>absurd h (Nat.not_lt_zero _)
 | a::r,0,_=>.refl _
 | a::r,k+1,h=>(List.Perm.swap a _ _).trans (.cons a (qa4 r k (Nat.lt_of_succ_lt_succ h)))
theorem TL.less(h:TL p H l ts tps)(k:Nat):TL p (upd H l (.lst ((ts.map V.ref).eraseIdx k))) l (ts.eraseIdx k) (tps.eraseIdx k):=
 ⟨by rw[qb,qbE],h.2.1,(h.2.2.erase k).mono fun _ _ z=>z.put h.1⟩
structure TOk(ss:LS)(tps:LP):Prop where
 few:tps.length<=30
 ok:∀ ab∈tps,∃ j k:Nat,j<k/\ss[j]?=some ab.1/\ss[k]?=some ab.2
 nd:tps.Nodup
inductive spTies(vs:List V)(H:Hp)(Q:VK)(E:XK):Prop|mk (p n:Addr) (ss:LS) (_:vs=[.ref p,.ref n]) (_:Box H p) (_:NL p H n ss) (_:NOk ss) (_:∀(l:Addr) (ts:LQ) (tps:LP) (H':Hp),BB p H H'->H l=none->TL p H' l ts tps->TOk ss tps->Q (.ref l) H')
inductive spDrawn(vs:List V)(H:Hp)(Q:VK)(E:XK):Prop|mk (p:Addr) (m:Int) (_:vs=[.ref p,.int m]) (_:0<=m) (_:m<=14) (_:Box H p) (_:∀(t n l:Addr) (ss:LS) (ts:LQ) (tps:LP) (H':Hp),BB p H H'->H' t=some (.tup [.ref n,.ref l])->H n=none->NL p H' n ss->NOk ss->H l=none->TL p H' l ts tps->TOk ss tps->Q (.ref t) H')
def Shuf(tps ups:LP):Prop:=∃ c,ups.Perm c/\All2 (fun a b=>b=a\/b=(a.2,a.1)) tps c
inductive spShuf(vs:List V)(H:Hp)(Q:VK)(E:XK):Prop|mk (p l:Addr) (ts:LQ) (tps:LP) (_:vs=[.ref p,.ref l]) (_:Box H p) (_:TL p H l ts tps) (_:tps.length<=30) (_:∀(l':Addr) (us:LQ) (ups:LP) (H':Hp),BB p H H'->H l'=none->TL p H' l' us ups->Shuf tps ups->Q (.ref l') H')
theorem qbR{z:Addr}{Q:VK}(hl:H l=some (.lst xs))(hz:H z=some (.lst []))(q:Q (.bl (!xs.isEmpty)) H):qep K true (.ref l) (.ref z) H Q:=by
 cases xs with
 | nil=>show .inr (.inl ⟨l,z,true,1,rfl,rfl,by decide,EqT.lst (n:=0) (e:=fun _=>true) (SqL.of hl) (SqL.of hz) rfl fun j x y h=>by(simp at h),q⟩)
 | cons x r=>show .inr (.inl ⟨l,z,false,1,rfl,rfl,by decide,EqT.lstL (SqL.of hl) (SqL.of hz) (by simp),q⟩)
theorem ok_ties(F:Fun K "_law_ties" "_law_ties" qbh f fd)(T:Txt K mg cc cw)(Ki:DefOk P w K mg base CX0 1 "_law_take" ["_law_box_here","_law_many"] spTake):FnOk P w K mg base CX0 2 f fd ["_law_box_here","_law_names_here"] spTies:=by
 show F.ok K0 fun _ _ _ _ H vs Q E hr h=>?_
 .obtain⟨p,n,ss,rfl,hB,L,X,q⟩:=h;have few:=X.few;have M:=jQ hr;show⟨_,(qc (qq (i:=2) K0.nd rfl (yP rfl) (qM qd))
 (qc (qq (i:=3) K0.nd rfl (yP rfl) (qw (qx (K:=K) rfl M) (qM (qa qi (qa qi (qa qi (qa qi qd))))) (qr Ki (hmR hr) qz (qa (pv 0) (qa qi qd))) (fun _ _=>rfl)))
 (qc (jz yV rfl (jJ rfl T.b_range (qa (qp (j9 (K:=K) rfl) rfl T.b_len YQ (qa (pv 1) qd)) qd)) (qt (i:=4) K0.nd rfl (yP rfl))
 (qe (jz yV rfl (jJ rfl T.b_range (qa (pv 4) qd)) (qt (i:=5) K0.nd rfl (yP rfl))
 (qe (qH (PW.pt (qaJ (qk (zl (K:=K) rfl M) (qr Ki (hmR hr) qz (qa (pv 0) (qa (pv 3) qd))) qi (qu _)) (zL (qk qdN (qp (j9 (K:=K) rfl) rfl T.b_len YQ (qa (pv 2) qd)) qi (qu _))))) (qe (qR (qbO (K:=K) rfl yT Yj Yk jj (pv 2) (qa (zE (qa (qw (qx (K:=K) rfl M) (pv 1) (pv 5) (fun _ _=>rfl)) (qa (qw (qx (K:=K) rfl M) (pv 1) (pv 4) (fun _ _=>rfl)) qd))) qd)))) qo)))))
 (qe (qm (pv 2)))))),?_⟩
  apply⟨by decide,fun l hl=>?_⟩;have O:=(BB.refl hB).new (o:=.lst []) hl;have nl:=hB.apart hl;have A:TL p (upd H l (.lst [])) l [] []:=⟨qb,nl,All2.nil⟩;generalize upd H l (.lst [])=H1 at O A ⊢;apply⟨by show 4<=sizeLine;decide,fun l4 s=>?_⟩;generalize z:[V.int 2,V.int 2,V.int 3,V.int 5]=xs;have R:=O.new (o:=.lst xs) s;have n4:=O.apart s;have G:upd H1 l4 (.lst xs) l4=some (.lst xs):=qb;replace A:=A.same (qC (Sr H1) (o:=.lst xs) s);generalize upd H1 l4 (.lst xs)=H2 at R G A ⊢;apply⟨p,4,rfl,R.2,by decide,by decide,fun r H3 r0 r1 D=>?_⟩;replace G:=D.1 _ _ n4 G;replace A:=A.bb D;replace D:=R.trans D;have ae:xs.length=4:=by rw[<- z];rfl
  obtain⟨v,N,hv⟩:=qdc (xs:=xs) r0 (by lk)
  obtain⟨bs,rfl,ac,af⟩:∃ i:Int,v=.int i/\0<i/\i<=25:=by
   have hm:=ye hv;rw[<- z] at hm;simp only[yx,yQ,Yv] at hm;rcases hm with rfl | rfl | rfl | rfl<;>show⟨_,rfl,by decide,by decide⟩
  show .inl (qag G N ?_);clear hv N z G;ext;have W:H3 n=some (.lst (ss.map V.str)):=D.1 _ _ L.2 L.1;show qab W ?_;rw[ya];show⟨_,rfl,by lk,by lk,zB (fun i C H'=>BB p H H'/\∃(ts:LQ) (tps:LP) (x4 B:Option V),C=[some (.ref p),some (.ref n),some (.ref l),some (.int bs),x4,B]/\TL p H' l ts tps/\tps.length<=30/\tps.Nodup/\∀ ab∈tps,∃ j k,j<k/\ss[j]?=some ab.1/\ss[k]?=some ab.2/\k<i)
   ⟨D,[],[],none,none,rfl,A,by simp,by simp,by simp⟩ (fun i C H4 hi u=>?_) fun C H4 u=>?_⟩
  .obtain⟨S,ts,tps,x4,B,rfl,t4,b,nd,ok⟩:=u;have Y:i<ss.length:=by lk
   apply⟨_,rfl,by lk,by lk,zB (fun j C H'=>BB p H H'/\∃(ts:LQ) (tps:LP) (B:Option V),C=[some (.ref p),some (.ref n),some (.ref l),some (.int bs),some (.int (0+(i:Int))),B]/\TL p H' l ts tps/\tps.length<=30/\tps.Nodup/\∀ ab∈tps,∃ a k,a<k/\ss[a]?=some ab.1/\ss[k]?=some ab.2/\(k<i\/(k=i/\a<j)))
    ⟨S,ts,tps,_,rfl,t4,b,nd,fun ab h=>by obtain⟨a,k,h1,c,g,s⟩:=ok ab h;show⟨a,k,h1,c,g,.inl s⟩⟩ (fun j C H5 hj u=>?_) fun C H5 u=>?_⟩
   .obtain⟨J,ts,tps,B,rfl,d,b,nd,ok⟩:=u;have Z:j<ss.length:=by lk
    have aa:j<i:=by lk
    have keep:∀ ab∈tps,∃ a k,a<k/\ss[a]?=some ab.1/\ss[k]?=some ab.2/\(k<i\/(k=i/\a<j+1)):=fun ab h=>by
     obtain⟨a,k,h1,c,g,s⟩:=ok ab h;show⟨a,k,h1,c,g,by lk⟩
    apply⟨p,_,rfl,J.2,ac,by lk,fun r H6 r0 r1 m=>?_⟩;replace d:=d.bb m;replace m:=J.trans m;apply .inl (.inl (.inl ⟨rfl,rfl,?_⟩));apply qF (fun _=>?_) fun _=>?_
    .ext;show qab d.1 ?_;apply qF (fun U=>?_) fun _=>?_
     .have ad:ts.length<30:=by
       have:=yk U;rw[ya] at this;lk
      have I:H6 n=some (.lst (ss.map V.str)):=m.1 _ _ L.2 L.1
      have at_:∀(k:Nat),k<ss.length->∃ x,atI (ss.map V.str) (0+(k:Int))=some (.str x)/\ss[k]?=some x:=fun k hk=>by
       rw[kA];show⟨ss[k],qE (by rw[yd,yb hk];rfl),yb hk⟩
      obtain⟨x,N,gx⟩:=at_ j Z;obtain⟨y,iy,gy⟩:=at_ i Y;apply⟨.inl ⟨rfl,_,SqL.of d.1⟩,?_⟩;apply .inl (qag I N ?_);apply .inl (qag I iy ?_);apply⟨by show 2<=sizeLine;decide,fun t ht=>?_⟩;have nt:=m.apart ht;have b7:=m.new (o:=.tup [.str x,.str y]) ht;have t7:=d.same (qC (Sr H6) (o:=.tup [.str x,.str y]) ht);show⟨l,_,_,rfl,rfl,t7.1,by rw[ya];show qh (by lk),?_⟩;show⟨b7.put hl nl,_,tps++[(x,y)],_,rfl,t7.more (ab:=(x,y)) ⟨nt,qb⟩,by rw[yt,<- d.2.2.len];show ts.length+1<=30;lk,?_,fun ab h=>?_⟩
      .show Yb.mpr ⟨nd,by simp,fun ab h cd c e=>?_⟩;rw[yA.mp c] at e;subst e;obtain⟨a,k,h1,c,g,s⟩:=ok _ h;have e1:a=j:=qA X.nd c gx;have e2:k=i:=qA X.nd g gy;lk
      .rcases yz.mp h with h | h
       .show keep ab h
       .rw [yA.mp h];show⟨j,i,aa,gx,gy,.inr ⟨rfl,by lk⟩⟩
     .show⟨m,ts,tps,_,rfl,d,b,nd,keep⟩
    .ext;show yq ?_;show⟨m,ts,tps,_,rfl,d,b,nd,keep⟩
   .obtain⟨J,ts,tps,B,rfl,d,b,nd,ok⟩:=u;show⟨J,ts,tps,_,_,rfl,d,b,nd,fun ab h=>by obtain⟨a,k,h1,c,g,s⟩:=ok ab h;show⟨a,k,h1,c,g,by lk⟩⟩
  .obtain⟨S,ts,tps,x4,B,rfl,t4,b,nd,ok⟩:=u;apply q l ts tps _ S hl t4 ⟨b,fun ab h=>by obtain⟨a,k,h1,c,g,_⟩:=ok ab h;show⟨a,k,h1,c,g⟩,nd⟩
theorem ok_drawn(F:Fun K "_law_drawn" "_law_drawn" qaX f fd)(s:DefOk P w K mg base CX0 1 "_law_take" ["_law_box_here","_law_many"] spTake)(G:DefOk P w K mg base CX0 2 "_law_names" ["_law_box_here","_law_many"] spNames)(I:DefOk P w K mg base CX0 2 "_law_ties" ["_law_box_here","_law_names_here"] spTies) :
  FnOk P w K mg base CX0 3 f fd ["_law_box_here","_law_most"] spDrawn:=by
 show F.ok K4 fun _ _ _ _ H vs Q E e h=>?_
 .obtain⟨p,Z,rfl,T,U,L,q⟩:=h;have N:=jQ e;show⟨_,(qc (qq (i:=2) K4.nd rfl (yP rfl) (qr s (hmR e) qz (qa (pv 0) (qa qi qd))))
 (qc (qH (qk (zl (K:=K) rfl N) (qr s (hmR e) qz (qa (pv 0) (qa qi qd))) qi (qu _)) (qe (qq (i:=2) K4.nd rfl (yP rfl) (qr s (hmR e) qz (qa (pv 0) (qa (qI (za (K:=K) rfl) (pv 1) qi) qd))))) qo)
 (qc (qq (i:=3) K4.nd rfl (yP rfl) (qr G (hmR e) qz (qa (pv 0) (qa (pv 2) qd))))
 (qe (qm (zE (qa (pv 3) (qa (qr I (hmR e) qz (qa (pv 0) (qa (pv 3) qd))) qd)))))))),?_⟩
  apply⟨p,8,rfl,L,by decide,by decide,fun m H1 Y m1 y=>?_⟩;apply⟨p,8,rfl,y.2,by decide,by decide,fun r H2 r0 r1 c=>?_⟩;replace c:=y.trans c;apply .inl (.inl (.inl ⟨rfl,rfl,?_⟩));ext
  have fin:∀(n:Addr) (ss:LS) (b:Hp),BB p H b->H n=none->NL p b n ss->NOk ss->spTies [.ref p,.ref n] b (fun v j=>NewT [.ref n,v] j Q) E0:=fun n ss b d a A B =>
   ⟨p,n,ss,rfl,d.2,A,B,fun l ts tps j z u tl M=>⟨(by decide:2<=sizeLine),fun t C=>by
    have J:=d.trans z;have D:=qC (Sr j) (o:=.tup [.ref n,.ref l]) C;have W:=tl.2.1;show q t n l ss ts tps _ (J.new C) qb a ((A.bb z).same D) B (d.free u) (tl.same D) M⟩⟩
  show qF (fun _=>?_) fun _=>?_
  .ext;show⟨p,_,rfl,c.2,by lk,by lk,fun O X R S g=>?_⟩;replace g:=c.trans g;apply⟨p,O,rfl,g.2,by lk,by lk,fun n ss b d a x few _=>?_⟩;apply fin n ss b (g.trans d) (g.free a) x few
  .ext;show⟨p,m,rfl,c.2,by lk,by lk,fun n ss b d a x few _=>?_⟩;apply fin n ss b (c.trans d) (c.free a) x few
theorem ok_shuf(F:Fun K "_law_shuffled" "_law_shuffled" ju f fd)(T:Txt K mg cc cw)(Ki:DefOk P w K mg base CX0 1 "_law_take" ["_law_box_here","_law_many"] spTake):FnOk P w K mg base CX0 2 f fd ["_law_box_here","_law_ties_here"] spShuf:=by
 show F.ok Ks fun _ _ _ _ H vs Q E hr h=>?_
 .obtain⟨p,l,ts,tps,rfl,hB,O,few,q⟩:=h;have hu:=jQ hr;have au:ts.length<=30:=by rw[O.2.2.len];show few
  show⟨_,(qc (zQ (sc:=qg ju) (XN:=["_law_box_here","_law_ties_here","_law_left","_law_found"]) ["_law_tie","_law_box_here"] 1 [0] rfl rfl rfl (by room) rfl (by room) (i:=2) Ks.nd rfl rfl
  (qK (K:=K) rfl (pv 1)) (fun _ _ _ _=>(qt (i:=0) (show(["_law_tie","_law_box_here"]:LS).Nodup by room) rfl (yP rfl))) qN
  (fun _ _ _ _=>jK)
  (fun _ _ _ _=>(qw (qx (K:=K) rfl hu) (qM (qa (pv 0) (qa (qeM (K:=K) rfl (pv 0) (jo (qa0 zD qi))) qd))) (qr Ki (hmR hr) qz (qa (pv 1) (qa qi qd))) (fun _ _=>rfl))))
 (qc (qq (i:=3) Ks.nd rfl (yP rfl) (qM qd))
 (qc (qao yV (qk (zS (K:=K) rfl hu) (pv 2) (qM qd) (qu _))
 (qe (qR (qbO (K:=K) rfl yT Yj Yk jj (pv 3) (qa (qbO (K:=K) rfl yT Xr Xs qbv (pv 2) (qa (qr Ki (hmR hr) qz (qa (pv 0) (qa (qp (j9 (K:=K) rfl) rfl T.b_len YQ (qa (pv 2) qd)) qd))) qd)) qd)))))
 (qe (qm (pv 3)))))),?_⟩
  apply .inl ⟨⟨_,SqL.of O.1⟩,qG (K:=K) (a:=l) (xs:=ts.map V.ref) (fun i ys H'=>BB p H H'/\∃(us:LQ) (ups:LP),ys=us.map V.ref/\us.length=i/\All2 (PrT p H') us ups/\All2 (fun a b=>b=a\/b=(a.2,a.1)) (tps.take i) ups) ⟨BB.refl hB,[],[],rfl,rfl,All2.nil,by simpa using All2.nil⟩
   (fun i ys H' _ h=>SqL.of (h.1.1 _ _ O.2.1 O.1)) (fun i x ys H1 hx hp=>?_) fun ys H1 hp=>?_⟩
  .obtain⟨M,us,ups,rfl,C,s,hA⟩:=hp;rw[yd] at hx
   cases ht:ts[i]? with
   | none=>rw[ht] at hx;cases hx
   | some t =>
    rw[ht] at hx;cases hx;have am:i<ts.length:=(yc.mp ht).1;have aa:i<tps.length:=by rw[<- O.2.2.len];show am
    have gi:tps[i]?=some tps[i]:=yb aa;generalize tps[i]=ab at gi;obtain⟨nt,n⟩:=(O.bb M).2.2.at_ i t ab ht gi;have ao:tps.take (i+1)=tps.take i++[ab]:=by rw[yD,gi];rfl
    obtain⟨a,b⟩:=ab;dsimp only at n;apply jU ?_;apply vU ?_;apply⟨rfl,t,_,_,rfl,SqT.of n,fun g B=>?_⟩;have I:=M.new (o:=.tup [.str b,.str a]) B;have n2:=M.apart B;have s2:=qC (Sr H1) (o:=.tup [.str b,.str a]) B;have N:upd H1 g (.tup [.str b,.str a]) g=some (.tup [.str b,.str a]):=qb;replace n:=s2 _ _ n;replace s:=s.mono (S:=PrT p (upd H1 g (.tup [.str b,.str a]))) fun t ab z=>⟨z.1,s2 _ _ z.2⟩;generalize upd H1 g (.tup [.str b,.str a])=H2 at I N n s ⊢;clear s2;apply⟨by show 2<=sizeLine;decide,fun L h3=>?_⟩;have U:=I.new (o:=.lst [.ref t,.ref g]) h3;have n3:=I.apart h3;have s3:=qC (Sr H2) (o:=.lst [.ref t,.ref g]) h3;have Z:upd H2 L (.lst [.ref t,.ref g]) L=some (.lst [.ref t,.ref g]):=qb;replace n:=s3 _ _ n;replace N:=s3 _ _ N;replace s:=s.mono (S:=PrT p (upd H2 L (.lst [.ref t,.ref g]))) fun t ab z=>⟨z.1,s3 _ _ z.2⟩;generalize upd H2 L (.lst [.ref t,.ref g])=H3 at U N Z n s ⊢;clear s3;apply⟨p,2,rfl,U.2,by decide,by decide,fun r G r0 r1 A=>?_⟩;replace n:=A.1 _ _ nt n;replace N:=A.1 _ _ n2 N;replace Z:=A.1 _ _ n3 Z;replace s:=s.mono (S:=PrT p G) fun t ab z=>⟨z.1,A.1 _ _ z.1 z.2⟩;replace A:=U.trans A
    have fin:∀ u Y,PrT p G u Y->(Y=(a,b)\/Y=(b,a))->(us.map V.ref).length<sizeLine/\(BB p H G/\∃(vs:LQ) (c:LP),us.map V.ref++[V.ref u]=vs.map V.ref/\vs.length=i+1/\All2 (PrT p G) vs c/\All2 (fun a b=>b=a\/b=(a.2,a.1)) (tps.take (i+1)) c):=fun u Y hu al =>
     ⟨by rw[ya,C];show qh (by lk),A,us++[u],ups++[Y],by rw[yC];rfl,by rw[yt,C];rfl,s.snoc hu,by rw[ao];show hA.snoc al⟩
    have an:r=0\/r=1:=by lk
    rcases an with rfl | rfl
    .show .inl (qag (v:=.ref t) Z (qE (j:=0) rfl) (fin t (a,b) ⟨nt,n⟩ (.inl rfl)))
    .show .inl (qag (v:=.ref g) Z (qE (j:=1) rfl) (fin g (b,a) ⟨n2,N⟩ (.inr rfl)))
  .obtain⟨M,us,y,rfl,C,s,hA⟩:=hp;rw[ya] at C hA;have ak:tps.take ts.length=tps:=by rw[O.2.2.len,yM]
   rw[ak] at hA;show⟨by rw[ya];show yR (qh (by lk)),fun l1 h1=>?_⟩;have I:=M.new (o:=.lst (us.map V.ref)) h1;have n1:=M.apart h1;have z1:=M.free h1;have ag:=qC (Sr H1) (o:=.lst (us.map V.ref)) h1;have t1:TL p (upd H1 l1 (.lst (us.map V.ref))) l1 us y:=⟨qb,n1,s.mono fun t ab z=>⟨z.1,ag _ _ z.2⟩⟩;generalize upd H1 l1 (.lst (us.map V.ref))=H2 at I t1 ⊢;clear ag;apply⟨by decide,fun l2 B=>?_⟩;have U:=I.new (o:=.lst []) B;have n2:=I.apart B;have z2:=I.free B;have ae:l1≠l2:=qv t1.1 B;have t3:=t1.same (qC (Sr H2) (o:=.lst []) B);have g:TL p (upd H2 l2 (.lst [])) l2 [] []:=⟨qb,n2,All2.nil⟩;generalize upd H2 l2 (.lst [])=H3 at U g t3 ⊢;apply⟨fun m σ H'=>∃(us vs:LQ) (ups c:LP),m=us.length/\σ=[some (.ref p),some (.ref l),some (.ref l1),some (.ref l2)]/\BB p H H'/\TL p H' l1 us ups/\TL p H' l2 vs c/\us.length+vs.length<=30/\(c++ups).Perm y,⟨_,us,[],y,[],rfl,rfl,U,t3,g,by simp;lk,by simp⟩,fun m σ G hW=>?_⟩;obtain⟨us,vs,ups,c,rfl,rfl,A,u4,v4,ad,d⟩:=hW;apply⟨by decide,fun z hz=>?_⟩;have sz:=qC (Sr G) (o:=.lst []) hz;have b5:=A.new (o:=.lst []) hz;have R:=u4.same sz;have v5:=v4.same sz;have e5:upd G z (.lst []) z=some (.lst []):=qb;generalize upd G z (.lst [])=H5 at b5 R v5 e5 ⊢;show qbR R.1 e5 ?_;ext
   cases us with
   | nil =>
    show yq ?_;ext;have eu:ups=[]:=Xj (by rw[<- R.2.2.len];rfl);rw[eu,Yd] at d;show q l2 vs c H5 b5 z2 v5 ⟨y,d,hA⟩
   | cons D ur =>
    show qF (fun _=>?_) (fun h=>absurd rfl h);show⟨fun aj H'=>∃(us vs:LQ) (ups c:LP),us.length=ur.length/\aj=[some (.ref p),some (.ref l),some (.ref l1),some (.ref l2)]/\BB p H H'/\TL p H' l1 us ups/\TL p H' l2 vs c/\us.length+vs.length<=30/\(c++ups).Perm y,fun aj H' ⟨ap,aq,ah,ai,e,rest⟩=>⟨_,by rw[yw,<- e];show Xa _,ap,aq,ah,ai,rfl,rest⟩,?_⟩;apply⟨.inl ⟨rfl,_,SqL.of v5.1⟩,?_⟩;apply⟨.inl ⟨rfl,_,SqL.of R.1⟩,?_⟩;apply qab R.1 ?_;ext;rw[ya];rw[yw] at ad;show⟨p,_,rfl,b5.2,by(rw[yw];lk),by(rw[yw];lk),fun r H6 r0 r1 X=>?_⟩;have u6:=R.bb X;have v6:=v5.bb X;replace X:=b5.trans X;obtain⟨k,rfl⟩:=xy r0;have W:k<(D::ur).length:=by rw[yw];rw[yw] at r1;lk
    have ac:k<ups.length:=by rw[<- R.2.2.len];show W
    have gk:((D::ur).map V.ref)[k]?=some (.ref ((D::ur)[k])):=by rw[yd,yb W];rfl
    have ar:(k:Int)<2 ^ 62:=by rw[yw] at W;lk
    show⟨l1,_,_,k,_,rfl,rfl,u6.1,by lk,by lk,(qbW (qb3 (by rw[ya];show W))).1,gk,?_⟩;have pk:=u6.2.2.at_ k ((D::ur)[k]) ups[k] (yb W) (yb ac);have u7:=u6.less k;have v7:=v6.other (ys:=((D::ur).map V.ref).eraseIdx k) ae.symm u6.1;have b7:=X.put (o:=.lst (((D::ur).map V.ref).eraseIdx k)) z1 n1;have af:=pk.put (ys:=((D::ur).map V.ref).eraseIdx k) u6.1;generalize upd H6 l1 (.lst (((D::ur).map V.ref).eraseIdx k))=H7 at u7 v7 b7 af ⊢;have J:((D::ur).eraseIdx k).length=ur.length:=by rw[List.length_eraseIdx_of_lt W,yw];lk
    show⟨l2,_,_,rfl,rfl,v7.1,by rw[ya];show qh (by lk),?_⟩;show⟨_,_,_,_,J,rfl,b7.put z2 n2,u7.other ae v7.1,v7.more af,?_,?_⟩
    .rw [J,yt,Yt];lk
    .rw [Yc];show(List.Perm.append_left c (qa4 ups k ac)).trans d
theorem eqV_self{v:V}(h:zM v=true):eqV v v=true:=by
 cases v<;>first | rfl | (simp[eqV];done) | cases h
theorem pair_eqD{a b:Addr}{s' t':Str}(hb:H b=some (.tup [.str s',.str t']))(f:H a=some (.tup [.str s,.str t])):EqD K H 1 (.ref b) (.ref a) (decide ((s',t')=(s,t))):=by
 by_cases e:b=a
 .subst e;rw[hb] at f;cases f;rw[yL rfl];show .self
 .have z:=EqT.tup (K:=K) (H:=H) (n:=0) (e:=fun j=>if j=0 then eqV (.str s') (.str s) else eqV (.str t') (.str t)) (SqT.of hb) (SqT.of f) fun j x y c d=>by
   match j,c,d with
   | 0,c,d=>cases c;cases d;show .flat rfl rfl
   | 1,c,d=>cases c;cases d;show .flat rfl rfl
  have g:((List.range (min [V.str s',V.str t'].length [V.str s,V.str t].length)).all (fun j=>if j=0 then eqV (.str s') (.str s) else eqV (.str t') (.str t))&&[V.str s',V.str t'].length==[V.str s,V.str t].length)=decide ((s',t')=(s,t)):=by
   show((s'==s)&&((t'==t)&&true)&&true)=_;rw[xk];simp
  rw[g] at z;show .deep z e
theorem TL.pl(h:TL p H l ts tps):PL H l ts tps:=⟨h.1,h.2.2.mono fun _ _ z=>z.2⟩
noncomputable def qdG(H:Hp)(z:V):Option (Str×Str):=match z with
 | .ref t=>(match H t with
  | some (.tup [.str a,.str b])=>some (a,b)
  | _=>none)
 | _=>none
theorem qb6{t:Addr}(h:H t=some (.tup [.str a,.str b])):qdG H (.ref t)=some (a,b):=by
 unfold qdG;dsimp only;rw[h]
theorem any_in(h:All2 (fun t ab=>H t=some (.tup [.str ab.1,.str ab.2])) ts tps)(st:Str×Str):((ts.map V.ref).any fun z=>decide (qdG H z=some st))=decide (st∈tps):=by
 rw[xk,Xe,Yg];constructor
 .rintro ⟨z,hz,e⟩;obtain⟨t,f,rfl⟩:=YF.mp hz;obtain⟨ab,b,r⟩:=h.mem f;have e:=yk e;rw[qb6 r] at e;cases e;show b
 .intro d;obtain⟨k,c,e⟩:=YX d;have a:k<ts.length:=by rw[h.len];show c
  have r:=h.at_ k ts[k] tps[k] (yb a) (yb c);show⟨.ref ts[k],YF.mpr ⟨_,Xx a,rfl⟩,yL ?_⟩;rw[qb6 r,e]
theorem qeq{a:Addr}{Q:VK}(h:PL H l ts tps)(d:H a=some (.tup [.str s,.str t]))(q:Q (.bl (decide ((s,t)∈tps))) H):qeg K false (.ref a) (.ref l) H Q:=by
 show .inr (.inr ⟨l,ts.map V.ref,fun z=>decide (qdG H z=some (s,t)),1,rfl,SqL.of h.1,by decide,fun z hz=>?_,?_⟩)
 .obtain⟨b,hb,rfl⟩:=YF.mp hz;obtain⟨ab,_,r⟩:=h.2.mem hb;have e:=pair_eqD (K:=K) r d
  have c:decide (qdG H (.ref b)=some (s,t))=decide ((ab.1,ab.2)=(s,t)):=by
   rw[qb6 r];apply YN.mpr;rw[Option.some.injEq]
  show EqD K H 1 (.ref b) (.ref a) (decide (qdG H (.ref b)=some (s,t)));rw[c];show e
 .rw [any_in h.2];show q
theorem jc{y:V}(a:(ss.map V.str)[i]?=some y):∃ s,ss[i]?=some s/\y=.str s:=by
 rw[yd] at a
 cases h:ss[i]? with
 | none=>rw[h] at a;cases a
 | some s=>rw[h] at a;cases a;show⟨s,rfl,rfl⟩
def Adj(ss:LS)(ns:LN)(tps:LP):Prop:=∀ a b s t,ss[a]?=some s->ss[b]?=some t->((ns.getD a 0).testBit b=true↔((s,t)∈tps\/(t,s)∈tps))
theorem K8:FnScope ["web","thing","paired","tie"] ["web","thing"] (qg zV):=fS
theorem uK:FnScope ["self","thing"] ["self","thing"] (qg zc):=fS
noncomputable def qb7(a:LS):List (Key×V):=a.map fun s=>(.inr s,.bl true)
theorem qaj(y:Str):∀ a:LS,(zh (qb7 a) (.inr y:Key)).isSome=decide (y∈a)
 | []=>rfl
 | s::r=>by
  by_cases e:s=y
  .subst e;show(zh (((.inr s:Key),V.bl true)::qb7 r) _).isSome=_;rw[yL (by simp)];simp[zh]
  .show(zh (((.inr s:Key),V.bl true)::qb7 r) _).isSome=_;rw[je (p:=((.inr s:Key),V.bl true)) (fun z=>e (xS z)),qaj y r];apply YN.mpr;simp[Yh e]
theorem qb8{a:LS}(h:y∉a):zN (qb7 a) (.inr y:Key) (.bl true)=qb7 (a++[y]):=by
 have:zh (qb7 a) (.inr y:Key)=none:=by
  have:=qaj y a;rw[yl h] at this;show Xz.mp (by rw[<- Option.not_isSome,this];rfl)
 rw[qbb _ this];unfold qb7;rw[yC];rfl
noncomputable def qj(qs:LP):LS:=qs.flatMap fun q=>[q.1,q.2]
noncomputable def prK(qs:LP):List (Key×V):=qs.flatMap fun q=>[(.inr q.1,.str q.2),(.inr q.2,.str q.1)]
noncomputable def pt:LP->Str->Option Str
 | [],_=>none
 | q::r,s=>if q.1=s then some q.2 else if q.2=s then some q.1 else pt r s
theorem jY(s:Str):∀ qs,zh (prK qs) (.inr s:Key)=(pt qs s).map V.str
 | []=>rfl
 | q::r=>by
  show zh (((.inr q.1:Key),V.str q.2)::((.inr q.2:Key),V.str q.1)::prK r) _=(pt (q::r) s).map V.str;unfold pt;by_cases h1:q.1=s
  .rw [jp (p:=((.inr q.1:Key),V.str q.2)) (congrArg Sum.inr h1),yI h1];rfl
  .rw [je (p:=((.inr q.1:Key),V.str q.2)) (fun z=>h1 (xS z)),yF h1];by_cases a:q.2=s
   .rw [jp (p:=((.inr q.2:Key),V.str q.1)) (congrArg Sum.inr a),yI a];rfl
   .rw [je (p:=((.inr q.2:Key),V.str q.1)) (fun z=>a (xS z)),yF a,jY s r]
theorem pt_none:∀{qs:LP},pt qs s=none↔s∉qj qs
 | []=>by simp[pt,qj]
 | q::r=>by
  have e:qj (q::r)=q.1::q.2::qj r:=rfl;rw[e];unfold pt;by_cases h1:q.1=s
  .rw [yI h1];simp[h1]
  .rw [yF h1];by_cases a:q.2=s
   .rw [yI a];simp[a]
   .rw [yF a,pt_none];simp only[yx,Kh];show⟨fun z=>⟨Yh h1,Yh a,z⟩,fun z=>z.2.2⟩
structure PGo(ss:LS)(tps qs:LP):Prop where
 inn:∀ q∈qs,(q∈tps\/(q.2,q.1)∈tps)/\q.1∈ss/\q.2∈ss/\q.1≠q.2
 nd:(qj qs).Nodup
 few:qs.length<=30
theorem jk(qs:LP):(qj qs).length=2*qs.length:=by
 induction qs with
 | nil=>rfl
 | cons q r ih=>show(q.1::q.2::qj r).length=_;simp only[yw];lk
theorem qak(qs:LP)(q:Str×Str):qj (qs++[q])=qj qs++[q.1,q.2]:=by
 unfold qj;rw[xY];rfl
theorem PGo.new(g:PGo ss tps qs)(h:qs[i]?=some ab):qs.take (i+1)=qs.take i++[ab]/\(qj (qs.take i++[ab])).Nodup/\ab.1∉qj (qs.take i)/\ab.2∉qj (qs.take i):=by
 have b:qs.take (i+1)=qs.take i++[ab]:=by rw[yD,h];rfl
 have a:(qj (qs.take i++[ab])).Nodup:=by
  rw[<- b];have:qj qs=qj (qs.take (i+1))++qj (qs.drop (i+1)):=by unfold qj;rw[<- xY,List.take_append_drop]
  have e:=g.nd;rw[this] at e;show(Yb.mp e).1
 have c:=a;rw[qak] at c;have d:=(Yb.mp c).2.2;show⟨b,a,fun z=>d _ z ab.1 (by simp) rfl,fun z=>d _ z ab.2 (by simp) rfl⟩
inductive spHt(cw:Addr)(vs:List V)(H:Hp)(Q:VK)(E:XK):Prop|mk (x t:Addr) (ss:LS) (ns:LN) (tps:LP) (ab:Str×Str) (_:vs=[.ref x,.ref t]) (_:WebAt cw H x ss ns) (_:Adj ss ns tps) (_:H t=some (.tup [.str ab.1,.str ab.2])) (_:(ab∈tps\/(ab.2,ab.1)∈tps)) (_:ab.1∈ss) (_:ab.2∈ss) (_:ab.1≠ab.2) (_:∀ H',L2.Same H H'->Q (.bl true) H')
inductive spAp(cw:Addr)(vs:List V)(H:Hp)(Q:VK)(E:XK):Prop|mk (x l:Addr) (ss:LS) (ns:LN) (us:LQ) (tps qs:LP) (_:vs=[.ref x,.ref l]) (_:WebAt cw H x ss ns) (_:Adj ss ns tps) (_:PL H l us qs) (_:PGo ss tps qs) (_:∀ H',L2.Same H H'->Q (.bl true) H')
theorem ok_ht(F:Fun K "has_tie" "Web.has_tie" zc f fd)(T:Txt K mg cc cw)(y:DefOk P w K mg base CX0 3 "are_two_places" ["numbers","thing"] spTwo)(z:MethOk P w K mg base CX0 6 cw "tied" ["self","one","other"] (spTied cw)):FnOk P w K mg base CX0 7 f fd ["self","thing"] (spHt cw):=by
 show F.ok uK fun _ _ _ _ H vs Q E g h=>?_
 .obtain⟨x,t,ss,ns,tps,ab,rfl,r,A,n,c,m1,l,e,q⟩:=h;have s:=jQ g;obtain⟨u,m,ol,G,hb,d,C,B,hw⟩:=id r;show⟨_,(qe (qm (qa8 (qr y (hmR g) qz (qa (qy (K:=K) rfl (pv 0) rfl) (qa (pv 1) qd))) (qaK (qB z (hmR g) (pv 0) (qa (qw (qx (K:=K) rfl s) (pv 1) qi (fun _ _=>rfl)) (qa (qw (qx (K:=K) rfl s) (pv 1) qi (fun _ _=>rfl)) qd))))))),?_⟩;apply .inl ⟨x,cw,u,_,.ref m,rfl,hb,T.wcl,T.wn,jX,?_⟩;apply⟨m,t,ss,ab.1,ab.2,rfl,d,n,hw.nm _ m1,hw.nm _ l,m1,l,e,fun H1 b=>?_⟩;show⟨true,rfl,jU ?_⟩;have a:=b _ _ n;apply⟨x,u,_,rfl,b _ _ hb,zH (by room),?_⟩;apply .inl (qaD a (v:=.str ab.1) (qE (j:=0) rfl) ?_);apply .inl (qaD a (v:=.str ab.2) (qE (j:=1) rfl) ?_);ext;obtain⟨j,p⟩:=yf m1;obtain⟨i,o⟩:=yf l;show⟨x,ss,ns,ab.1,ab.2,j,i,rfl,r.same b,p,o,fun H2 D=>?_⟩;rw[(A j i ab.1 ab.2 p o).mpr c];show q H2 (b.trans D)
theorem ok_ap(F:Fun K "are_pairs" "are_pairs" zV f fd)(T:Txt K mg cc cw)(K2:MethOk P w K mg base CX0 7 cw "has_tie" ["self","thing"] (spHt cw)):FnOk P w K mg base CX0 8 f fd ["web","thing"] (spAp cw):=by
 show F.ok K8 fun _ _ _ _ H vs Q E X h=>?_
 .obtain⟨x,l,ss,ns,us,tps,qs,rfl,W,hA,⟨hl,r⟩,g,q⟩:=h;have e:=jQ X;obtain⟨wx,dd,ol,nn,hb,_⟩:=id W;have few:=g.few;have N:=r.len;show⟨_,(qc (qH (qT (qP (qp (qah (K:=K) rfl) rfl T.b_isinstance YH (qa (pv 1) (qa (jH (v:=.ty "list") rfl T.b_list Xi rfl) qd))))) (qe (qm jq)) qo)
 (qc (qq (i:=2) K8.nd rfl (yP rfl) zo)
 (qc (jz yV rfl (qK (K:=K) rfl (pv 1)) (qt (i:=3) K8.nd rfl (yP rfl))
 (qc (qH (PW.pt (qad (qT (qP (qB K2 (hmR X) (pv 0) (qa (pv 3) qd)))) (qad (qk (zT (K:=K) rfl e) (qw (qx (K:=K) rfl e) (pv 3) qi (fun _ _=>rfl)) (pv 2) (by with_unfolding_all rfl)) (zm (qk (zT (K:=K) rfl e) (qw (qx (K:=K) rfl e) (pv 3) qi (fun _ _=>rfl)) (pv 2) (by with_unfolding_all rfl)))))) (qe (qm jq)) qo)
 (qc (zg jq (zn (pv 2) (qw (qx (K:=K) rfl e) (pv 3) qi (fun _ _=>rfl)) (zr e)))
 (qe (zg jq (zn (pv 2) (qw (qx (K:=K) rfl e) (pv 3) qi (fun _ _=>rfl)) (zr e)))))))
 (qe (qm jq))))),?_⟩
  apply qbw (.inl (.lst hl)) rfl (zR K "list" (by simp) "list" (by simp)) ?_;apply yq ?_;ext;intro d C;have O:=qC (Sr H) (o:=.dK []) C;have U:upd H d (.dK []) d=some (.dK (qb7 [])):=qb;generalize upd H d (.dK [])=H1 at O U;apply .inl ⟨⟨_,.of (O _ _ hl)⟩,jd (xs:=us.map V.ref) (fun i G J=>L2.Same H J/\∃ R,G=[some (.ref x),some (.ref l),some (.ref d),R]/\J d=some (.dK (qb7 (qj (qs.take i))))) ⟨O,_,rfl,U⟩ (fun i G J _ u=>.of (u.1 _ _ hl)) (fun i y G J Y u=>?_) fun G J u=>?_⟩
  .obtain⟨n,R,rfl,c⟩:=u;rw[yd] at Y;obtain⟨b,s,rfl⟩:=yn.mp Y;have hi:i<us.length:=(yc.mp s).1;obtain⟨ab,m⟩:∃ ab,qs[i]?=some ab:=⟨_,yb (by rw[<- N];show hi)⟩;have B:=r.at_ i b ab s m;obtain⟨ht,m1,m2,t⟩:=g.inn ab (ye m);obtain⟨M,aa,Z,n2⟩:=g.new m;have ac:(qj (qs.take i)).length<=60:=by rw[jk,yK];lk
   have L:b≠d:=fun z=>by rw[z,C] at B;cases B
   apply⟨x,wx,_,rfl,n _ _ hb,zH (by room),?_⟩;apply⟨x,b,ss,ns,tps,ab,rfl,W.same n,hA,n _ _ B,ht,m1,m2,t,fun I D=>?_⟩;have A:=n.trans D;have a:=A _ _ B;apply yq ?_;apply .inl (qaD a (v:=.str ab.1) (qE (j:=0) rfl) ?_);apply .inr (.inl ⟨d,_,rfl,DGet.k (k:=Sum.inr ab.1) (D _ _ c),?_⟩);rw[yF (by decide),qaj,yl Z];apply yq ?_;apply .inl (qaD a (v:=.str ab.2) (qE (j:=1) rfl) ?_);apply .inr (.inl ⟨d,_,rfl,DGet.k (k:=Sum.inr ab.2) (D _ _ c),?_⟩);rw[yF (by decide),qaj,yl n2];apply yq ?_;apply .inl (qaD a (v:=.str ab.1) (qE (j:=0) rfl) ?_);apply .inr ⟨d,_,rfl,DPut.k (k:=Sum.inr ab.1) (D _ _ c) (by unfold qb7;rw[ya,YO];lk),?_⟩;rw[qb8 Z];have s3:=qaT A (o:=.dK (qb7 (qj (qs.take i)++[ab.1]))) C;have S:upd I d (.dK (qb7 (qj (qs.take i)++[ab.1]))) d=some (.dK (qb7 (qj (qs.take i)++[ab.1]))):=qb;have p:upd I d (.dK (qb7 (qj (qs.take i)++[ab.1]))) b=some (.tup [.str ab.1,.str ab.2]):=by rw[qf L];show a
   generalize upd I d (.dK (qb7 (qj (qs.take i)++[ab.1])))=J3 at s3 S p;apply .inl (qaD p (v:=.str ab.2) (qE (j:=1) rfl) ?_);apply .inr ⟨d,_,rfl,DPut.k (k:=Sum.inr ab.2) S (by unfold qb7;rw[ya,yt,YO];simp only[yw,xl];lk),?_⟩;rw[qb8 (fun z=>by rcases yz.mp z with z | z;show n2 z;show t (yA.mp z).symm)];show⟨qaT s3 C,_,rfl,by rw[qb,M,qak,Yc];rfl⟩
  .obtain⟨n,R,rfl,c⟩:=u;apply q J n
theorem KP:FnScope ["web","pairs","partners","pair"] ["web","pairs"] (qg zd):=fS
theorem prK_len(qs:LP):(prK qs).length=2*qs.length:=by
 induction qs with
 | nil=>rfl
 | cons q r ih=>show(_::_::prK r).length=_;simp only[yw];rw[ih];lk
theorem prK_snoc(qs:LP)(q:Str×Str):prK (qs++[q])=prK qs++[(.inr q.1,.str q.2),(.inr q.2,.str q.1)]:=by
 unfold prK;rw[xY];rfl
theorem prK_put(h:(qj (qs++[q])).Nodup):zN (zN (prK qs) (.inr q.1:Key) (.str q.2)) (.inr q.2:Key) (.str q.1)=prK (qs++[q]):=by
 rw[qak] at h;obtain⟨h1,b,c⟩:=Yb.mp h;have e:q.1∉qj qs:=fun z=>c _ z _ (by simp) rfl;have f:q.2∉qj qs:=fun z=>c _ z q.2 (by simp) rfl;have g:q.1≠q.2:=by simp at b;show b
 have i:zh (prK qs) (.inr q.1:Key)=none:=by rw[jY,pt_none.mpr e];rfl
 rw[qbb _ i]
 have a:zh (prK qs++[((.inr q.1:Key),V.str q.2)]) (.inr q.2:Key)=none:=by
  have a:zh (prK qs) (.inr q.2:Key)=none:=by rw[jY,pt_none.mpr f];rfl
  unfold zh at a ⊢;rw[List.find?_append];have:(prK qs).find? (fun d=>decide (d.1=(.inr q.2:Key)))=none:=by simpa using a
  rw[this];simp[g]
 rw[qbb _ a,prK_snoc];simp
inductive spPn(cw:Addr)(vs:List V)(H:Hp)(Q:VK)(E:XK):Prop|mk (x l:Addr) (ss:LS) (ns:LN) (us:LQ) (tps qs:LP) (_:vs=[.ref x,.ref l]) (_:WebAt cw H x ss ns) (_:Adj ss ns tps) (_:PL H l us qs) (_:PGo ss tps qs) (_:∀(d:Addr) (H':Hp),L2.Same H H'->H d=none->H' d=some (.dK (prK qs))->Q (.ref d) H')
theorem ok_pn(F:Fun K "partners_in" "partners_in" zd f fd)(T:Txt K mg cc cw)(uZ:DefOk P w K mg base CX0 8 "are_pairs" ["web","thing"] (spAp cw)):FnOk P w K mg base CX0 9 f fd ["web","pairs"] (spPn cw):=by
 show F.ok KP fun _ _ _ _ H vs Q E S h=>?_
 .obtain⟨x,l,ss,ns,us,tps,qs,rfl,Z,Y,⟨hl,n⟩,g,q⟩:=h;have p:=jQ S;have few:=g.few;have u:=n.len;show⟨_,(qc (qH (qT (qP (qr uZ (hmR S) qz (qa (pv 0) (qa (pv 1) qd))))) (qe jI) qo)
 (qc (qq (i:=2) KP.nd rfl (yP rfl) zo)
 (qc (jz yV rfl (qK (K:=K) rfl (pv 1)) (qt (i:=3) KP.nd rfl (yP rfl))
 (qc (zg (qw (qx (K:=K) rfl p) (pv 3) qi (fun _ _=>rfl)) (zn (pv 2) (qw (qx (K:=K) rfl p) (pv 3) qi (fun _ _=>rfl)) (zr p)))
 (qe (zg (qw (qx (K:=K) rfl p) (pv 3) qi (fun _ _=>rfl)) (zn (pv 2) (qw (qx (K:=K) rfl p) (pv 3) qi (fun _ _=>rfl)) (zr p))))))
 (qe (qm (pv 2)))))),?_⟩
  apply⟨x,l,ss,ns,us,tps,qs,rfl,Z,Y,⟨hl,n⟩,g,fun H1 W=>?_⟩;apply yq ?_;ext;intro d R;have c:=W.free R;have L:=qC W (o:=.dK []) R;have O:upd H1 d (.dK []) d=some (.dK (prK [])):=qb;generalize upd H1 d (.dK [])=H2 at L O;apply .inl ⟨⟨_,.of (L _ _ hl)⟩,jd (xs:=us.map V.ref) (fun i B J=>L2.Same H J/\∃ M,B=[some (.ref x),some (.ref l),some (.ref d),M]/\J d=some (.dK (prK (qs.take i)))) ⟨L,_,rfl,O⟩ (fun i B J _ t=>.of (t.1 _ _ hl)) (fun i y B J U t=>?_) fun B J t=>?_⟩
  .obtain⟨A,M,rfl,a⟩:=t;rw[yd] at U;obtain⟨b,s,rfl⟩:=yn.mp U;have hi:i<us.length:=(yc.mp s).1;obtain⟨ab,r⟩:∃ ab,qs[i]?=some ab:=⟨_,yb (by rw[<- u];show hi)⟩;have C:=n.at_ i b ab s r;obtain⟨I,G,n1,n2⟩:=g.new r;have D:b≠d:=fun z=>by rw[z,c] at C;cases C
   have m:=A _ _ C;have aa:(prK (qs.take i)).length<=2000:=by rw[prK_len,yK];lk
   apply .inl (qaD m (v:=.str ab.2) (qE (j:=1) rfl) ?_);apply .inl (qaD m (v:=.str ab.1) (qE (j:=0) rfl) ?_);apply .inr ⟨d,_,rfl,DPut.k (k:=Sum.inr ab.1) a (by rw[YO];lk),?_⟩;have X:=qaT A (o:=.dK (zN (prK (qs.take i)) (Sum.inr ab.1) (.str ab.2))) c;have N:upd J d (.dK (zN (prK (qs.take i)) (Sum.inr ab.1) (.str ab.2))) d=some (.dK (zN (prK (qs.take i)) (Sum.inr ab.1) (.str ab.2))):=qb;have e:upd J d (.dK (zN (prK (qs.take i)) (Sum.inr ab.1) (.str ab.2))) b=some (.tup [.str ab.1,.str ab.2]):=by rw[qf D];show m
   generalize upd J d (.dK (zN (prK (qs.take i)) (Sum.inr ab.1) (.str ab.2)))=J3 at X N e;apply .inl (qaD e (v:=.str ab.1) (qE (j:=0) rfl) ?_);apply .inl (qaD e (v:=.str ab.2) (qE (j:=1) rfl) ?_);apply .inr ⟨d,_,rfl,DPut.k (k:=Sum.inr ab.2) N ?_,?_⟩
   .have:=jT (prK (qs.take i)) (Sum.inr ab.1:Key) (.str ab.2);rw[YO];lk
   .show⟨qaT X c,_,rfl,by rw[qb,prK_put G,I]⟩
  .obtain⟨A,M,rfl,a⟩:=t;rw[ya,u,yM] at a;apply q d J A c a
structure Gr(A:Str->Str->Prop)(f:Str->Option Str):Prop where
 as:∀{a b},A a b->A b a
 ir:∀{a b},A a b->a≠b
 fs:∀{a b},f a=some b->f b=some a
 fa:∀{a b},f a=some b->A a b
structure FS where
 rows:Str->Option (LS)
 par:Str->Option Str
 bas:Str->Str
def Turns(A:Str->Str->Prop)(f:Str->Option Str)(r:LS):Prop:=∀(j:Nat) a b,r[j]?=some a->r[j+1]?=some b->A a b/\(f a=some b↔j % 2=1)
structure Alt(A:Str->Str->Prop)(f:Str->Option Str)(r:LS)(v:Str):Prop where
 nd:r.Nodup
 odd:r.length % 2=1
 hd:∀ s,r[0]?=some s->f s=none
 tl:∃ r0,r=r0++[v]
 st:Turns A f r
structure FI(A:Str->Str->Prop)(f:Str->Option Str)(S:FS):Prop where
 alt:∀ v r,S.rows v=some r->Alt A f r v
 bse:∀ v r,S.rows v=some r->∃ rb t,S.rows (S.bas v)=some rb/\r=rb++t/\∀ u∈t,S.bas u=S.bas v
 idm:∀ v r,S.rows v=some r->S.bas (S.bas v)=S.bas v
 dwn:∀ b r q,S.rows b=some r->S.bas b=b->f b=some q->S.rows q=none/\∃ z rz,S.par q=some z/\S.rows z=some rz/\r=rz++[q,b]
 mat:∀ v,S.bas v≠v->(∃ r,S.rows v=some r)/\∃ u,f v=some u/\S.bas u=S.bas v
 odd:∀ x z,S.par x=some z->A z x/\(∃ r,S.rows z=some r)/\∃ y r,f x=some y/\S.rows y=some r
section
variable{A:Str->Str->Prop}{f:Str->Option Str}{S:FS}
theorem FI.own(I:FI A f S)(h:S.rows v=none):S.bas v=v:=Yo fun z=>by
 obtain⟨⟨r,e⟩,_⟩:=I.mat v z;rw[h] at e;cases e
theorem FI.evb(I:FI A f S)(h:S.rows v=some r):∃ a,S.rows (S.bas v)=some a:=(I.bse v r h).elim fun a z=>⟨a,z.elim fun _ y=>y.1⟩
theorem FI.pair(I:FI A f S){w:Str}{s:LS}(hv:S.rows v=some r)(hw:S.rows w=some s)(h:f v=some w):S.bas v=S.bas w:=by
 by_cases z:S.bas v=v
 .have:=(I.dwn v r w hv z h).1;rw[hw] at this;cases this
 .obtain⟨_,u,a,e⟩:=I.mat v z;rw[h] at a;cases a;show e.symm
inductive Ch(f:Str->Option Str)(S:FS):Str->LS->Prop
 | root {b:Str}:f b=none->Ch f S b [b]
 | step {b q z:Str} {l:LS}:f b=some q->S.par q=some z->Ch f S (S.bas z) l->Ch f S b (b::l)
theorem Ch.one{l:LS}(h:Ch f S b l):∀{m},Ch f S b m->m=l:=by
 induction h with
 | root e=>intro m g;cases g with
  | root _=>rfl
  | step e' _ _=>rw[e] at e';cases e'
 | step e p _ ih=>intro m g;cases g with
  | root e'=>rw[e] at e';cases e'
  | step e' p' g'=>rw[e] at e';cases e';rw[p] at p';cases p';rw[ih g']
theorem Ch.ne{l:LS}(h:Ch f S b l):∃ t,l=b::t:=by cases h<;>show⟨_,rfl⟩
theorem FI.chain(I:FI A f S):∀(n:Nat) {b:Str} {r:LS},r.length<=n->S.rows b=some r->S.bas b=b->∃ l,Ch f S b l
 | n,b,r,hn,hb,hbb=>by
  cases e:f b with
  | none=>show⟨_,.root e⟩
  | some q =>
   obtain⟨_,z,rz,p,hz,c⟩:=I.dwn b r q hb hbb e;obtain⟨a,t,h1,d,_⟩:=I.bse z rz hz;have hl:a.length<n:=by rw[c,d] at hn;simp at hn;lk
   match n,hl with
   | n+1,hl =>
    obtain⟨l,g⟩:=I.chain n (b:=S.bas z) (r:=a) (by lk) h1 (I.idm z rz hz);show⟨_,.step e p g⟩
theorem FI.chainOf(I:FI A f S)(h:S.rows v=some r):∃ l,Ch f S (S.bas v) l:=by
 obtain⟨a,e⟩:=I.evb h;show I.chain _ (yh _) e (I.idm v r h)
def Cov(f:Str->Option Str)(S:FS)(l:LS)(u:Str):Prop:=∃ d∈l,S.bas u=d\/f d=some u
theorem Cov.mono{l m:LS}(h:Cov f S l u)(a:∀ d∈l,d∈m):Cov f S m u:=h.elim fun d z=>⟨d,a d z.1,z.2⟩
theorem Ch.up(I:FI A f S){l:LS}(h:Ch f S b l):∀{v:Str} {r:LS},S.rows v=some r->S.bas v=b->∀{l1 l2:LS} {c:Str},l=l1++c::l2->∃ o t,S.rows c=some o/\S.bas c=c/\Ch f S c (c::l2)/\r=o++t/\∀ u∈t,S.bas u=c\/Cov f S l1 u:=by
 induction h with
 | root e =>
  intro v r hv hb l1 l2 c j
  cases l1 with
  | cons x y=>show absurd (congrArg List.length j) (by simp)
  | nil =>
   cases j;obtain⟨n,t,h1,m,i⟩:=I.bse v r hv;rw[hb] at h1 i;show⟨n,t,h1,by rw[<- hb];show I.idm v r hv,.root e,m,fun u hu=>.inl (i u hu)⟩
 | @step b q z l e p g ih =>
  intro v r hv hb l1 l2 c j;obtain⟨n,t,h1,m,i⟩:=I.bse v r hv;rw[hb] at h1 i;have a:S.bas b=b:=by rw[<- hb];show I.idm v r hv
  cases l1 with
  | nil =>
   cases j;show⟨n,t,h1,a,.step e p g,m,fun u hu=>.inl (i u hu)⟩
  | cons x y =>
   cases j;obtain⟨H,J,rz,s,hz,w⟩:=I.dwn b n q h1 a e;rw[p] at s;cases s;obtain⟨o,t',C,D,E,F,G⟩:=ih hz rfl rfl;show⟨o,t'++[q,b]++t,C,D,E,by rw[m,w,F];simp,fun u hu=>?_⟩;rcases yz.mp hu with hu | hu
   .rcases yz.mp hu with hu | hu
    .show(G u hu).imp id fun z=>z.mono fun d B=>yJ _ B
    .simp only[yx,yQ,Yv] at hu;rcases hu with rfl | rfl
     .show .inr ⟨b,yU,.inr e⟩
     .show .inr ⟨_,yU,.inl a⟩
   .show .inr ⟨b,yU,.inl (i u hu)⟩
theorem Ch.bs0(I:FI A f S){l:LS}(hv:S.rows v=some r)(h:Ch f S (S.bas v) l)(hc:c∈l):∃ a,S.rows c=some a/\S.bas c=c:=by
 obtain⟨l1,l2,e⟩:=Yp hc;obtain⟨a,_,h1,b,_⟩:=h.up I hv rfl e;show⟨a,h1,b⟩
theorem Ch.cov(G:Gr A f)(I:FI A f S){l:LS}(hv:S.rows v=some r)(h:Ch f S (S.bas v) l)(hu:u∈r):Cov f S l u:=by
 have hl:l≠[]:=by obtain⟨t,e⟩:=h.ne;rw[e];show kT _ _
 obtain⟨o,t,h1,s,w,x,y⟩:=h.up I hv rfl (Y4 hl).symm;have b:l.getLast hl∈l:=List.getLast_mem hl;rw[x] at hu;rcases yz.mp hu with hu | hu
 .have C:f (l.getLast hl)=none:=by
   cases w with
   | root e=>show e
   | step _ _ g=>obtain⟨_,e⟩:=g.ne;cases e
  have c:=I.alt _ _ h1;obtain⟨q,i⟩:=c.tl
  have m:q=[]:=by
   cases j:q.length with
   | zero=>show Xj j
   | succ n =>
    exfalso;have p:o.length=n+2:=by rw[i];simp[j]
    obtain⟨a,B⟩:∃ a,o[n]?=some a:=⟨_,yb (by lk)⟩;have hb:o[n+1]?=some (l.getLast hl):=by rw[i,yB (by lk),j];simp
    have:=G.fs ((c.st n a _ B hb).2.mpr (by have:=c.odd;lk));rw[C] at this;cases this
  rw[i,m] at hu;have e:u=l.getLast hl:=by simpa using hu
  show⟨_,b,.inl (by rw[e];show s)⟩
 .rcases y u hu with z | ⟨d,hd,z⟩
  .show⟨_,b,.inl z⟩
  .show⟨d,List.dropLast_subset l hd,z⟩
theorem Cov.apart(G:Gr A f)(I:FI A f S){l m:LS}(hl:∀ d∈l,∃ r,S.rows d=some r/\S.bas d=d)(n:∀ d∈m,∃ r,S.rows d=some r/\S.bas d=d)(t:∀ d∈l,d∉m)(h1:Cov f S l u)(p:Cov f S m u):False:=by
 have i:∀{d e:Str},(∃ r,S.rows d=some r/\S.bas d=d)->(∃ r,S.rows e=some r/\S.bas e=e)->S.bas u=d->f e=some u->False:=fun⟨r,b,q⟩ ⟨s,g,j⟩ h h'=>by
  have o:=(I.dwn _ _ _ g j h').1;have:=I.own o;rw[h] at this;rw[this,o] at b;cases b
 obtain⟨d,b,z⟩:=h1;obtain⟨e,g,y⟩:=p;have c:d≠e:=fun w=>t d b (by rw[w];show g);rcases z with z | z<;>rcases y with y | y
 .show c (z.symm.trans y)
 .show i (hl d b) (n e g) z y
 .show i (n e g) (hl d b) y z
 .have a:=G.fs z;rw[G.fs y] at a;show c (ym a).symm
theorem Turns.app{s:LS}(h:Turns A f r)(g:∀(j:Nat) a b,s[j]?=some a->s[j+1]?=some b->A a b/\(f a=some b↔(r.length+j) % 2=1))(w:∀ a b,r[r.length-1]?=some a->s[0]?=some b->0<r.length->A a b/\(f a=some b↔(r.length-1) % 2=1)):Turns A f (r++s):=fun j a b c hb=>by
 by_cases h1:j+1<r.length
 .rw [yW (by lk)] at c;rw[yW h1] at hb;show h j a b c hb
 .by_cases d:j+1=r.length
  .rw [yW (by lk),show j=r.length-1 by lk] at c;rw[yB (by lk),show j+1-r.length=0 by lk] at hb;rw[show j=r.length-1 by lk];show w a b c hb (by lk)
  .rw [yB (by lk)] at c;rw[yB (by lk),show j+1-r.length=j-r.length+1 by lk] at hb;have:=g _ a b c hb
   rwa[show r.length+(j-r.length)=j by lk] at this
theorem Alt.back(G:Gr A f){s t:LS}{w q:Str}(hw:Alt A f s w)(hv:Alt A f r v)(i:r=rz++q::c::t)(hz:rz.length % 2=1)(F:A w v)(H:f w≠some v)(B:∀ u∈s,u∉q::c::t):Alt A f (s++(q::c::t).reverse) q:=by
 obtain⟨L,p⟩:=hw.tl;obtain⟨K,l⟩:=hv.tl;have o:0<s.length:=by rw[p];simp
 have I:=hv.odd;have n:r.length=rz.length+(t.length+2):=by rw[i];simp
 have at_:∀{j:Nat} {a:Str},(q::c::t).reverse[j]?=some a->j<t.length+2/\r[r.length-1-j]?=some a:=fun{j a} h=>by
  have hl:=(yc.mp h).1;rw[YG] at hl;simp only[yw] at hl;rw[List.getElem?_reverse (by simp only[yw];lk)] at h;simp only[yw] at h;show⟨by lk,?_⟩;rw[n]
  conv=>lhs;rw[i]
  rw[yB (by lk),show rz.length+(t.length+2)-1-j-rz.length=t.length+1+1-1-j by lk];show h
 show⟨Yb.mpr ⟨hw.nd,?_,fun x J y g e=>B x J (by rw[e];show kU.mp g)⟩,?_,fun y g=>?_,⟨s++(c::t).reverse,by simp⟩,hw.st.app (fun j a b h1 m=>?_) fun a b h1 m _=>?_⟩
 .show(List.reverse_perm _).nodup_iff.mpr ((Yb.mp (i ▸ hv.nd)).2.1)
 .rw [yt,YG];simp only[yw];have:=hw.odd;lk
 .rw [yW o] at g;show hw.hd y g
 .obtain⟨l1,C⟩:=at_ h1;obtain⟨l2,d⟩:=at_ m;have:=hv.st (r.length-1-(j+1)) b a d (by rw[show r.length-1-(j+1)+1=r.length-1-j by lk];show C);show⟨G.as this.1,⟨fun z=>?_,fun z=>?_⟩⟩
  .have:=this.2.mp (G.fs z);have:=hw.odd;lk
  .show G.fs (this.2.mpr (by have:=hw.odd;lk))
 .have D:a=w:=by
   rw[p,yt,yB (by simp)] at h1;simpa using h1.symm
  have E:b=v:=by
   obtain⟨_,d⟩:=at_ m;rw[Kg,l,yt,yB (by simp)] at d;simpa using d.symm
  subst D;subst E;show⟨F,⟨fun z=>absurd z H,fun z=>by have:=hw.odd;lk⟩⟩
end
section
variable{A:Str->Str->Prop}{f:Str->Option Str}{S S':FS}
theorem Ch.nd(I:FI A f S){l:LS}(h:Ch f S b l):∀{v:Str} {r:LS},S.rows v=some r->S.bas v=b->l.Nodup:=by
 induction h with
 | root e=>intro _ _ _ _;simp
 | @step b q z l e p g ih =>
  intro v r hv hb;have a:S.bas b=b:=by rw[<- hb];show I.idm v r hv
  obtain⟨m,h1⟩:=I.evb hv;rw[hb] at h1;obtain⟨_,n,rz,d,hz,_⟩:=I.dwn b m q h1 a e;rw[p] at d;cases d;show yo.mpr ⟨fun i=>?_,ih hz rfl⟩;obtain⟨x,y,c⟩:=Yp i;obtain⟨_,_,_,_,j,_⟩:=g.up I hz rfl c;have:=j.one (.step e p g);rw[c] at this;have:=congrArg List.length this;simp at this;lk
theorem Ch.suf(I:FI A f S){l:LS}(hv:S.rows v=some r)(h:Ch f S (S.bas v) l){q:Str}(e:l=l1++c::l2)(b:f c=some q):∃ rz t,r=rz++q::c::t/\rz.length % 2=1/\S.rows q=none/\∀ u∈q::c::t,Cov f S (l1++[c]) u:=by
 obtain⟨p,t,h1,a,_,g,i⟩:=h.up I hv rfl e;obtain⟨m,z,rz,_,n,o⟩:=I.dwn c p q h1 a b;show⟨rz,t,by rw[g,o];simp,(I.alt z rz n).odd,m,fun u hu=>?_⟩;rcases yx.mp hu with rfl | hu
 .show⟨c,by simp,.inr b⟩
 .rcases yx.mp hu with rfl | hu
  .show⟨u,by simp,.inl a⟩
  .rcases i u hu with z | z
   .show⟨c,by simp,.inl z⟩
   .show z.mono fun d j=>yG _ j
theorem Ch.meet(I:FI A f S){w:Str}{s l:LS}(hv:S.rows v=some r)(hw:S.rows w=some s)(h:Ch f S (S.bas v) l)(h':Ch f S (S.bas w) l'){j:LS}(n:l=l1++m::l2)(i:l'=m1++m::j)(J:∀ d∈l1,d∉l'):j=l2/\∀ d∈m1,d∉l:=by
 obtain⟨_,_,_,_,k,_⟩:=h.up I hv rfl n;obtain⟨_,_,_,_,k',_⟩:=h'.up I hw rfl i;have E:j=l2:=(xF (k.one k')).2;show⟨E,fun d K hl=>?_⟩;obtain⟨a,b,C⟩:=Yp K;obtain⟨x,y,ex⟩:=Yp hl;obtain⟨_,_,_,_,g,_⟩:=h.up I hv rfl ex;obtain⟨_,_,_,_,g',_⟩:=h'.up I hw rfl (l1:=a) (c:=d) (l2:=b++m::j) (by rw[i,C];simp);have u:y=b++m::j:=(xF (g'.one g)).2;have e:=h.nd I hv rfl;have o:d∈l':=by rw[i,C];simp
 have q:d∉l1:=fun z=>J d z o;have p:d∈m::l2:=by rw[n] at hl;show(yz.mp hl).resolve_left q
 rcases yx.mp p with z | z
 .rw [z] at ex;rw[ex,u] at e;have:=(Yb.mp e).2.1;show(yo.mp this).1 (by simp)
 .have t:m∈x:=by
   obtain⟨L,D,F⟩:=Yp z;have B:l=(l1++m::L)++d::D:=by rw[n,F];simp
   obtain⟨_,_,_,_,H,_⟩:=h.up I hv rfl B;have G:D=y:=(xF (g.one H)).2;rw[B,G] at ex;rw[<- List.append_cancel_right ex];simp
  rw[ex,u] at e;show(Yb.mp e).2.2 m t m (by simp) rfl
def NewRow(S:FS)(v w u:Str)(r:LS):Prop:=∃ rv rw rz t,S.rows v=some rv/\S.rows w=some rw/\rv=rz++u::t/\r=rw++(u::t).reverse
def InR(f:Str->Option Str)(m:Str)(a:LS)(u:Str):Prop:=u=m\/∃ c∈a,u=c\/f c=some u
structure Mg(f:Str->Option Str)(S S':FS)(v w m:Str)(l1 m1:LS):Prop where
 par:S'.par=S.par
 old:∀ u r,S.rows u=some r->S'.rows u=some r
 new:∀ u r,S'.rows u=some r->S.rows u=some r\/(∃ c∈l1,f c=some u/\NewRow S v w u r)\/(∃ c∈m1,f c=some u/\NewRow S w v u r)
 all:∀ c∈l1++m1,∀ q,f c=some q->∃ r,S'.rows q=some r
 inn:∀ u,InR f m (l1++m1) (S.bas u)->S'.bas u=m
 out:∀ u,¬ InR f m (l1++m1) (S.bas u)->S'.bas u=S.bas u
theorem cut_one{a b c d:LS}{x:Str}(h:(a++x::b).Nodup)(e:a++x::b=c++x::d):a=c/\b=d:=by
 induction a generalizing c with
 | nil =>
  cases c with
  | nil=>show⟨rfl,(xF e).2⟩
  | cons y c =>
   obtain⟨f,g⟩:=xF e;show absurd (show x∈b by rw[g];simp) (yo.mp h).1
 | cons y a ih =>
  cases c with
  | nil =>
   obtain⟨f,g⟩:=xF e;show absurd (show y∈a++x::b by rw[f];simp) (yo.mp h).1
  | cons z c =>
   obtain⟨f,g⟩:=xF e;obtain⟨h1,i⟩:=ih (yo.mp h).2 g;show⟨by rw[f,h1],i⟩
theorem NewRow.ok(G:Gr A f)(I:FI A f S){w:Str}{l:LS}(hv:S.rows v=some rv)(hw:S.rows w=some rw)(h:Ch f S (S.bas v) l)(h':Ch f S (S.bas w) l')(o:l=l1++l2)(H:∀ d∈l1,d∉l')(F:A w v)(hb:S.bas w≠S.bas v)(hc:c∈l1)(K:f c=some u)(J:NewRow S v w u r) :
  Alt A f r u/\S.rows u=none/\∃ t,r=rw++t/\∀ x∈t,Cov f S l1 x:=by
 obtain⟨L,M,rz,t,p,q,s,y⟩:=J;rw[hv] at p;cases p;rw[hw] at q;cases q;obtain⟨a,b,n⟩:=Yp hc;obtain⟨N,t',j,B,C,m⟩:=h.suf I hv (l1:=a) (c:=c) (l2:=b++l2) (by rw[o,n];simp) K;have e:=(I.alt v rv hv).nd;obtain⟨D,E⟩:=cut_one (by rw[<- s];show e) (s.symm.trans j);subst D;subst E;have sub:∀ d∈a++[c],d∈l1:=fun d z=>by rw[n];rcases yz.mp z with z | z;show yG _ z;rw[yA.mp z];simp
 have inl:∀ d∈l1,d∈l:=fun d z=>by rw[o];show yG _ z
 show⟨?_,C,_,y,fun x g=>(m x (kU.mp g)).mono sub⟩;rw[y];show Alt.back G (I.alt w rw hw) (I.alt v rv hv) j B F (fun z=>hb (I.pair hw hv z)) fun x g i=>?_;show Cov.apart G I (fun d z=>h.bs0 I hv (inl d (sub d z))) (fun d z=>h'.bs0 I hw z) (fun d z=>H d (sub d z)) (m x i) (h'.cov G I hw g)
theorem FI.merge(G:Gr A f)(I:FI A f S){w:Str}(hv:S.rows v=some rv)(hw:S.rows w=some rw)(h:Ch f S (S.bas v) (l1++m::l2))(h':Ch f S (S.bas w) (m1++m::l2))(hd:∀ d∈l1,d∉m1++m::l2)(U:∀ d∈m1,d∉l1++m::l2)(ha:A v w)(hb:S.bas v≠S.bas w)(M:Mg f S S' v w m l1 m1):FI A f S':=by
 have hm:∃ r,S.rows m=some r/\S.bas m=m:=h.bs0 I hv (by simp);obtain⟨P,H,W⟩:=hm
 have B:∀ c∈l1++m1,(∃ r,S.rows c=some r/\S.bas c=c)/\c≠m/\∃ q,f c=some q/\S.rows q=none:=fun c hc=>by
  rcases yz.mp hc with z | z
  .show⟨h.bs0 I hv (yG _ z),fun e=>hd c z (by rw[e];simp),?_⟩;obtain⟨a,b,E⟩:=Yp z;obtain⟨rc,_,D,o,p,_⟩:=h.up I hv rfl (l1:=a) (c:=c) (l2:=b++m::l2) (by rw[E];simp);generalize l:b++m::l2=x at p
   cases p with
   | root _=>show absurd (congrArg List.length l) (by simp)
   | step e _ _=>show⟨_,e,(I.dwn _ _ _ D o e).1⟩
  .show⟨h'.bs0 I hw (yG _ z),fun e=>U c z (by rw[e];simp),?_⟩;obtain⟨a,b,E⟩:=Yp z;obtain⟨rc,_,D,o,p,_⟩:=h'.up I hw rfl (l1:=a) (c:=c) (l2:=b++m::l2) (by rw[E];simp);generalize l:b++m::l2=x at p
   cases p with
   | root _=>show absurd (congrArg List.length l) (by simp)
   | step e _ _=>show⟨_,e,(I.dwn _ _ _ D o e).1⟩
 have cov:∀ u,Cov f S (l1++m1) u->S'.bas u=m:=fun u ⟨d,hd,z⟩=>by
  show M.inn u ?_;rcases z with z | z
  .show .inr ⟨d,hd,.inl z⟩
  .have hn:=(B d hd).2.2;obtain⟨q,e,F⟩:=hn;rw[z] at e;cases e;rw[I.own F];show .inr ⟨d,hd,.inr z⟩
 have K:∀ u,Cov f S l1 u->S'.bas u=m:=fun u z=>cov u (z.mono fun d y=>yG _ y);have L:∀ u,Cov f S m1 u->S'.bas u=m:=fun u z=>cov u (z.mono fun d y=>yH _ y);have bm:∀ u,S.bas u=m->S'.bas u=m:=fun u z=>M.inn u (.inl z);have m0:S'.bas m=m:=bm m W;have Z:=M.old m P H
 have J:∀{x:Str} {rx a b:LS},S.rows x=some rx->Ch f S (S.bas x) (a++m::b)->(∀ d∈a,d∈l1++m1)->∃ t,rx=P++t/\∀ u∈t,S'.bas u=m:=fun{x rx a b} l hc hs=>by
  obtain⟨rc,t,D,_,_,R,g5⟩:=hc.up I l rfl rfl;rw[H] at D;cases D;show⟨t,R,fun u j=>(g5 u j).elim (bm u) fun z=>cov u (z.mono hs)⟩
 have nw:∀ u r,(∃ c∈l1,f c=some u/\NewRow S v w u r)\/(∃ c∈m1,f c=some u/\NewRow S w v u r)->Alt A f r u/\S.rows u=none/\S'.bas u=m/\∃ t,r=P++t/\∀ x∈t,S'.bas x=m:=fun u r z=>by
  rcases z with⟨c,hc,j,C⟩ | ⟨c,hc,j,C⟩
  .obtain⟨D,o,t,p,R⟩:=NewRow.ok G I hv hw h h' rfl hd (G.as ha) (Yh hb) hc j C;obtain⟨t0,p1,p2⟩:=J hw h' fun d y=>yH _ y;show⟨D,o,K u ⟨c,hc,.inr j⟩,t0++t,by rw[p,p1];simp,fun x l=>(yz.mp l).elim (p2 x) fun y=>K x (R x y)⟩
  .obtain⟨D,o,t,p,R⟩:=NewRow.ok G I hw hv h' h rfl U ha hb hc j C;obtain⟨t0,p1,p2⟩:=J hv h fun d y=>yG _ y;show⟨D,o,L u ⟨c,hc,.inr j⟩,t0++t,by rw[p,p1];simp,fun x l=>(yz.mp l).elim (p2 x) fun y=>L x (R x y)⟩
 have af:∀ u r,S.rows u=some r->InR f m (l1++m1) (S.bas u)->S.bas u=m\/S.bas u∈l1++m1:=fun u r j z=>by
  rcases z with z | ⟨c,hc,z | z⟩
  .show .inl z
  .show .inr (by rw[z];show hc)
  .obtain⟨q,e,F⟩:=(B c hc).2.2;rw[z] at e;cases e;obtain⟨rb,n⟩:=I.evb j;rw[F] at n;cases n
 show⟨fun u r j=>?_,fun u r j=>?_,fun u r j=>?_,fun b r q aa O F=>?_,fun u j=>?_,fun x z l=>?_⟩
 .rcases M.new u r j with z | z
  .show I.alt u r z
  .show(nw u r z).1
 .rcases M.new u r j with z | z
  .by_cases i:InR f m (l1++m1) (S.bas u)
   .rw [M.inn u i];show⟨P,?_⟩
    have:∃ t,r=P++t/\∀ x∈t,S'.bas x=m:=by
     rcases af u r z i with y | y
     .obtain⟨rb,t,N,n,e3⟩:=I.bse u r z;rw[y,H] at N;cases N;show⟨t,n,fun x l=>bm x ((e3 x l).trans y)⟩
     .rcases yz.mp y with y | y
      .obtain⟨a,b,E⟩:=Yp y;obtain⟨_,_,_,_,g,_⟩:=h.up I hv rfl (l1:=a) (c:=S.bas u) (l2:=b++m::l2) (by rw[E];simp);show J z (a:=S.bas u::b) (by simpa using g) fun d hd=>by rw[E];rcases yx.mp hd with rfl | hd<;>simp[*]
      .obtain⟨a,b,E⟩:=Yp y;obtain⟨_,_,_,_,g,_⟩:=h'.up I hw rfl (l1:=a) (c:=S.bas u) (l2:=b++m::l2) (by rw[E];simp);show J z (a:=S.bas u::b) (by simpa using g) fun d hd=>by rw[E];rcases yx.mp hd with rfl | hd<;>simp[*]
    obtain⟨t,N,n⟩:=this;show⟨t,Z,N,n⟩
   .rw [M.out u i];obtain⟨rb,t,N,n,e3⟩:=I.bse u r z;show⟨rb,t,M.old _ _ N,n,fun x l=>by rw[M.out x (by rw[e3 x l];show i)];show e3 x l⟩
  .obtain⟨_,_,e,t,N,n⟩:=nw u r z;rw[e];show⟨P,t,Z,N,n⟩
 .by_cases i:InR f m (l1++m1) (S.bas u)
  .rw [M.inn u i];show m0
  .rw [M.out u i];rcases M.new u r j with z | z
   .have e:=I.idm u r z;rw[M.out _ (by rw[e];show i)];show e
   .obtain⟨_,o,_⟩:=nw u r z;have e:=I.own o;rw[e,M.out u (by rw[e] at i ⊢;show i)];show e
 .have ac:S.bas b=b/\(b=m\/¬ InR f m (l1++m1) (S.bas b)):=by
   by_cases i:InR f m (l1++m1) (S.bas b)
   .have:=M.inn b i;rw[O] at this;rw[this];show⟨W,.inl rfl⟩
   .have:=M.out b i;rw[O] at this;show⟨this.symm,.inr i⟩
  obtain⟨T,ad⟩:=ac
  have C:S.rows b=some r:=by
   rcases M.new b r aa with z | z
   .show z
   .exfalso;obtain⟨_,o,p,_⟩:=nw b r z;rw[O] at p;rw[p,H] at o;cases o
  obtain⟨k1,z,rz,k2,k3,k4⟩:=I.dwn b r q C T F;show⟨?_,z,rz,by rw[M.par];show k2,M.old _ _ k3,k4⟩
  cases e:S'.rows q with
  | none=>rfl
  | some s =>
   exfalso
   have Y:∀ c∈l1++m1,f c=some q->False:=fun c hc ae=>by
    have:=G.fs ae;rw[G.fs F] at this;have n:=ym this;subst n;rcases ad with y | y
    .show(B b hc).2.1 y
    .show y (.inr ⟨b,hc,.inl T⟩)
   rcases M.new q s e with y | ⟨c,hc,y,_⟩ | ⟨c,hc,y,_⟩
   .rw [k1] at y;cases y
   .show Y c (yG _ hc) y
   .show Y c (yH _ hc) y
 .by_cases i:InR f m (l1++m1) (S.bas u)
  .rw [M.inn u i] at j ⊢;by_cases X:S.bas u=u
   .rw [X] at i;rcases i with z | ⟨c,hc,z | z⟩
    .show absurd z.symm j
    .subst z;obtain⟨⟨r,C,_⟩,_,q,F,_⟩:=B u hc;show⟨⟨r,M.old _ _ C⟩,q,F,cov q ⟨u,hc,.inr F⟩⟩
    .show⟨M.all c hc u z,c,G.fs z,cov c ⟨c,hc,.inl (B c hc).1.choose_spec.2⟩⟩
   .obtain⟨⟨r,C⟩,y,hy,e⟩:=I.mat u X;show⟨⟨r,M.old _ _ C⟩,y,hy,M.inn y (by rw[e];show i)⟩
  .rw [M.out u i] at j ⊢;obtain⟨⟨r,C⟩,y,hy,e⟩:=I.mat u j;show⟨⟨r,M.old _ _ C⟩,y,hy,by rw[M.out y (by rw[e];show i)];show e⟩
 .rw [M.par] at l;obtain⟨k1,⟨r,k2⟩,y,s,k3,k4⟩:=I.odd x z l;show⟨k1,⟨r,M.old _ _ k2⟩,y,s,k3,M.old _ _ k4⟩
end
structure Aug(A:Str->Str->Prop)(f:Str->Option Str)(r:LS):Prop where
 nd:r.Nodup
 two:2<=r.length
 ev:r.length % 2=0
 st:Turns A f r
 hd:∀ s,r[0]?=some s->f s=none
 tl:∀ s,r[r.length-1]?=some s->f s=none
section
variable{A:Str->Str->Prop}{f:Str->Option Str}{S S':FS}
theorem FI.aug(G:Gr A f)(I:FI A f S){w:Str}{l:LS}(hv:S.rows v=some rv)(hw:S.rows w=some rw)(h:Ch f S (S.bas v) l)(h':Ch f S (S.bas w) l')(hl:l.getLast?≠l'.getLast?)(E:A v w):Aug A f (rv++rw.reverse):=by
 have n:∀ d∈l,d∉l':=fun d F p=>by
  obtain⟨a,b,e⟩:=Yp F;obtain⟨x,y,q⟩:=Yp p;obtain⟨_,_,_,_,k,_⟩:=h.up I hv rfl e;obtain⟨_,_,_,_,k',_⟩:=h'.up I hw rfl q;have:=k.one k';show hl (by rw[e,q,this,List.getLast?_append,List.getLast?_append];rfl)
 have c:=I.alt v rv hv;have g:=I.alt w rw hw;obtain⟨O,r⟩:=c.tl;obtain⟨P,t⟩:=g.tl;have K:0<rv.length:=by rw[r];simp
 have L:0<rw.length:=by rw[t];simp
 have M:=c.odd;have N:=g.odd
 have H:f v≠some w:=fun z=>by
  have e:=I.pair hv hw z;have:=h.one (e ▸ h');rw[this] at hl;show hl rfl
 have at_:∀{j:Nat} {a:Str},rw.reverse[j]?=some a->j<rw.length/\rw[rw.length-1-j]?=some a:=fun{j a} e=>by
  have hl:=(yc.mp e).1;rw[YG] at hl;rw[List.getElem?_reverse hl] at e;show⟨hl,e⟩
 show⟨Yb.mpr ⟨c.nd,(List.reverse_perm _).nodup_iff.mpr g.nd,fun x J y u e=>?_⟩,by rw[yt,YG];lk,by rw[yt,YG];lk,c.st.app (fun j a b h1 o=>?_) fun a b h1 o _=>?_,fun s i=>?_,fun s i=>?_⟩
 .rw [<- e] at u;show Cov.apart G I (fun d z=>h.bs0 I hv z) (fun d z=>h'.bs0 I hw z) n (h.cov G I hv J) (h'.cov G I hw (kU.mp u))
 .obtain⟨l1,B⟩:=at_ h1;obtain⟨l2,m⟩:=at_ o;have:=g.st (rw.length-1-(j+1)) b a m (by rw[show rw.length-1-(j+1)+1=rw.length-1-j by lk];show B);show⟨G.as this.1,⟨fun z=>?_,fun z=>?_⟩⟩
  .have:=this.2.mp (G.fs z);lk
  .show G.fs (this.2.mpr (by lk))
 .have C:a=v:=by
   rw[r,yt,yB (by simp)] at h1;simpa using h1.symm
  have D:b=w:=by
   obtain⟨_,m⟩:=at_ o;rw[Kg,t,yt,yB (by simp)] at m;simpa using m.symm
  subst C;subst D;show⟨E,⟨fun z=>absurd z H,fun z=>by lk⟩⟩
 .rw [yW K] at i;show c.hd s i
 .rw [yt,YG,yB (by lk),show rv.length+rw.length-1-rv.length=rw.length-1 by lk] at i;obtain⟨_,e⟩:=at_ i;rw[Xy] at e;show g.hd s e
structure Gw(S S':FS)(p u y:Str)(r:LS):Prop where
 ry:S'.rows y=some (r++[u,y])
 ro:∀ s,s≠y->S'.rows s=S.rows s
 pu:S'.par u=some p
 po:∀ s,s≠u->S'.par s=S.par s
 ba:S'.bas=S.bas
theorem FI.fresh(G:Gr A f)(I:FI A f S)(a:S.rows u=none)(g:S.par u=none)(c:f u=some y):S.rows y=none:=by
 cases e:S.rows y with
 | none=>rfl
 | some s =>
  exfalso;by_cases z:S.bas y=y
  .obtain⟨_,_,_,k,_⟩:=I.dwn y s u e z (G.fs c);rw[g] at k;cases k
  .obtain⟨_,x,b,k⟩:=I.mat y z;rw[G.fs c] at b;cases b;rw[I.own a] at k;obtain⟨h,d⟩:=I.evb e;rw[<- k,a] at d;cases d
theorem FI.grow(G:Gr A f)(I:FI A f S){p:Str}(o:S.rows p=some r)(O:A p u)(w:S.rows u=none)(K:S.par u=none)(n:f u=some y)(W:Gw S S' p u y r):FI A f S':=by
 have c:=I.fresh G w K n;have R:u≠y:=G.ir (G.fa n);have py:p≠y:=fun z=>by rw[z,c] at o;cases o
 have g:∀ s t,S.rows s=some t->S'.rows s=some t:=fun s t e=>by rw[W.ro s (fun z=>by rw[z,c] at e;cases e)];show e
 have new:∀ s t,S'.rows s=some t->(s=y/\t=r++[u,y])\/(s≠y/\S.rows s=some t):=fun s t e=>by
  by_cases z:s=y
  .subst z;rw[W.ry] at e;show .inl ⟨rfl,(ym e).symm⟩
  .rw [W.ro s z] at e;show .inr ⟨z,e⟩
 obtain⟨l,hl⟩:=I.chainOf o
 have C:∀ x∈r,x≠u/\x≠y:=fun x D=>by
  obtain⟨d,U,z⟩:=hl.cov G I o D;obtain⟨rd,i,m⟩:=hl.bs0 I o U;show⟨fun e=>?_,fun e=>?_⟩
  .rw [e] at z;rcases z with z | z
   .rw [I.own w] at z;rw[z,i] at w;cases w
   .obtain⟨_,_,_,k,_⟩:=I.dwn d rd u i m z;rw[K] at k;cases k
  .rw [e] at z;rcases z with z | z
   .rw [I.own c] at z;rw[z,i] at c;cases c
   .have:=G.fs z;rw[G.fs n] at this;rw[ym this,i] at w;cases w
 have B:=I.alt p r o;obtain⟨r0,N⟩:=B.tl;have L:0<r.length:=by rw[N];simp
 show⟨fun v t e=>?_,fun v t e=>?_,fun v t e=>?_,fun b t q e hb F=>?_,fun v e=>?_,fun x z e=>?_⟩
 .rcases new v t e with⟨rfl,rfl⟩ | ⟨_,e⟩
  .show⟨Yb.mpr ⟨B.nd,by simp[R],fun x D z hz E=>?_⟩,by rw[yt];have:=B.odd;simp only[yw,xl];lk,fun s P=>?_,⟨r++[u],by simp⟩,B.st.app (fun j a b h1 J=>?_) fun a b h1 J _=>?_⟩
   .obtain⟨Y,Z⟩:=C x D;simp only[yx,yQ,Yv] at hz;rcases hz with rfl | rfl
    .show Y E
    .show Z E
   .rw [yW L] at P;show B.hd s P
   .have X:j=0:=by have:=(yc.mp J).1;simp at this;lk
    subst X;cases h1;cases J;show⟨G.fa n,⟨fun _=>by have:=B.odd;lk,fun _=>n⟩⟩
   .cases J
    have T:a=p:=by
     rw[N,yt,yB (by simp)] at h1;simpa using h1.symm
    subst T;show⟨O,⟨fun z=>?_,fun z=>by have:=B.odd;lk⟩⟩;have:=G.fs z;rw[n] at this;show absurd (ym this).symm py
  .show I.alt v t e
 .rw [W.ba];rcases new v t e with⟨rfl,rfl⟩ | ⟨_,e⟩
  .rw [I.own c];show⟨_,[],W.ry,by simp,(fun x h=>by cases h)⟩
  .obtain⟨rb,s,i,m,H⟩:=I.bse v t e;show⟨rb,s,g _ _ i,m,H⟩
 .rw [W.ba];rcases new v t e with⟨rfl,rfl⟩ | ⟨_,e⟩
  .rw [I.own c,I.own c]
  .show I.idm v t e
 .rw [W.ba] at hb;rcases new b t e with⟨rfl,rfl⟩ | ⟨_,e⟩
  .rw [G.fs n] at F;cases F;show⟨by rw[W.ro u R];show w,p,r,W.pu,g _ _ o,rfl⟩
  .obtain⟨i,z,rz,m,H,M⟩:=I.dwn b t q e hb F;show⟨?_,z,rz,?_,g _ _ H,M⟩
   .rw [W.ro q fun z=>?_]
    .show i
    .rw [z] at F;have:=G.fs F;rw[G.fs n] at this;rw[<- ym this,w] at e;cases e
   .rw [W.po q fun z=>?_]
    .show m
    .rw [z,K] at m;cases m
 .rw [W.ba] at e ⊢;obtain⟨⟨t,i⟩,m⟩:=I.mat v e;show⟨⟨t,g _ _ i⟩,m⟩
 .by_cases D:x=u
  .subst D;rw[W.pu] at e;cases e;show⟨O,⟨r,g _ _ o⟩,y,_,n,W.ry⟩
  .rw [W.po x D] at e;obtain⟨i,⟨t,m⟩,y',s,H,M⟩:=I.odd x z e;show⟨i,⟨t,g _ _ m⟩,y',s,H,g _ _ M⟩
theorem FI.start(h1:∀ v r,S.rows v=some r->f v=none/\r=[v])(d:∀ x,S.par x=none)(c:∀ v,S.bas v=v):FI A f S:=by
 show⟨fun v r e=>?_,fun v r e=>?_,fun v r e=>by rw[c,c],fun b r q e _ g=>?_,fun v e=>absurd (c v) e,fun x z e=>by rw[d] at e;cases e⟩
 .obtain⟨k,rfl⟩:=h1 v r e;show⟨by simp,rfl,fun s i=>by cases i;show k,⟨[],rfl⟩,fun j a b h1 d=>?_⟩;simp at d
 .show⟨r,[],by rw[c];show e,by simp,(fun x h=>by cases h)⟩
 .rw [(h1 b r e).1] at g;cases g
end
structure CI(A:Str->Str->Prop)(S:FS)(Pd:Str->Prop):Prop where
 cl:∀ v u,Pd v->A v u->S.bas u=S.bas v\/(S.par u≠none/\¬ Pd u)
 pe:∀ v,Pd v->S.rows v≠none
theorem CI.mono(h:CI A S Pd)(hb:∀ u v,S.bas u=S.bas v->S'.bas u=S'.bas v)(b:∀ u,S.par u≠none->S'.par u≠none)(c:∀ u,S.rows u≠none->S'.rows u≠none):CI A S' Pd:=
 ⟨fun v u k a=>(h.cl v u k a).imp (hb u v) fun z=>⟨b u z.1,z.2⟩,fun v k=>c v (h.pe v k)⟩
theorem qcC:∀{l m:LS},l.Nodup->(∀ x∈l,x∈m)->l.length<=m.length
 | [],_,_,_=>xv _
 | x::r,m,hn,hs=>by
  obtain⟨h1,c⟩:=yo.mp hn;have a:=hs x yU;have:=qcC (l:=r) (m:=m.erase x) c fun y b=>(List.mem_erase_of_ne (fun e=>h1 (by rw[<- e];show b))).mpr (hs y (yJ _ b));rw[xr a] at this;have:0<m.length:=xE a;simp only[yw];lk
theorem qer:∀(n:Nat) {X:LS},X.length<=n->X.Nodup->(∀ x∈X,∃ y∈X,g x=some y/\y≠x/\g y=some x)->X.length % 2=0
 | _,[],_,_,_=>rfl
 | 0,x::r,h,_,_=>by simp at h
 | n+1,x::r,h,hn,hp=>by
  obtain⟨h1,d⟩:=yo.mp hn;obtain⟨y,p,j,i,l⟩:=hp x yU;have c:y∈r:=(yx.mp p).resolve_left i;have hl:=xr c;have t:0<r.length:=xE c
  have:=qer n (X:=r.erase y) (by simp at h;lk) (d.erase y) fun z hz=>by
   have a:=(d.mem_erase_iff.mp hz);obtain⟨u,o,m,f,b⟩:=hp z (yJ _ a.2);have q:u≠x:=fun e=>by rw[e,j] at b;show a.1 (ym b).symm
   have s:u≠y:=fun e=>by rw[e,l] at b;show h1 (by rw[ym b];show a.2)
   show⟨u,d.mem_erase_iff.mpr ⟨s,(yx.mp o).resolve_left q⟩,m,f,b⟩
  simp only[yw];lk
structure Fn(A:Str->Str->Prop)(f:Str->Option Str)(S:FS)(ss:LS):Prop where
 fi:FI A f S
 gr:Gr A f
 inn:∀ a b,A a b->a∈ss
 nd:ss.Nodup
 cl:∀ v u,S.rows v≠none->A v u->S.bas u=S.bas v\/(S.par u≠none/\S.rows u=none)
 sng:∀ z∈ss,f z=none->S.rows z≠none
 es:∀ v,S.rows v≠none->v∈ss
noncomputable def qcU(S:FS)(ss:LS)(b:Str):LS:=ss.filter fun u=>(S.rows u).isSome&&decide (S.bas u=b)
noncomputable def qbH(S:FS)(ss:LS):LS:=ss.filter fun u=>(S.rows u).isSome&&decide (S.bas u=u)
noncomputable def qdJ(S:FS)(ss:LS):LS:=ss.filter fun u=>(S.par u).isSome&&!(S.rows u).isSome
noncomputable def snL(g:Str->Option Str)(ss:LS):LS:=ss.filter fun u=>!(g u).isSome
section
variable{A:Str->Str->Prop}{f g:Str->Option Str}{S:FS}{ss:LS}
theorem isS{o:Option α}:o.isSome=true↔o≠none:=by cases o<;>simp
theorem mem_cls:u∈qcU S ss b↔u∈ss/\S.rows u≠none/\S.bas u=b:=by
 unfold qcU;rw[yp,yY,isS,Yg]
theorem mem_bas:u∈qbH S ss↔u∈ss/\S.rows u≠none/\S.bas u=u:=by
 unfold qbH;rw[yp,yY,isS,Yg]
theorem mem_bar:u∈qdJ S ss↔u∈ss/\S.par u≠none/\S.rows u=none:=by
 unfold qdJ;rw[yp,yY,isS];cases S.rows u<;>simp
theorem mem_sn:u∈snL g ss↔u∈ss/\g u=none:=by
 unfold snL;rw[yp];cases g u<;>simp
theorem some_of{o:Option α}(h:o≠none):∃ r,o=some r:=by cases o with | none=>show absurd rfl h | some r=>show⟨r,rfl⟩
theorem FI.evE(I:FI A f S)(hv:S.rows v≠none)(e:S.bas u=S.bas v):S.rows u≠none:=fun a=>by
 obtain⟨r,b⟩:=some_of hv;obtain⟨c,hb⟩:=I.evb b;rw[I.own a] at e;rw[<- e,a] at hb;cases hb
theorem Fn.cls_odd(F:Fn A f S ss)(hb:b∈qbH S ss):(qcU S ss b).length % 2=1:=by
 obtain⟨o,j,l⟩:=mem_bas.mp hb;have c:b∈qcU S ss b:=mem_cls.mpr ⟨o,j,l⟩;have a:(qcU S ss b).Nodup:=F.nd.filter _
 have:=qer (g:=f) _ (X:=(qcU S ss b).erase b) (yh _) (a.erase b) fun z hz=>by
  obtain⟨q,hz⟩:=a.mem_erase_iff.mp hz;obtain⟨s,m,n⟩:=mem_cls.mp hz;obtain⟨_,u,d,h⟩:=F.fi.mat z (fun e=>q (e.symm.trans n));have i:=F.fi.evE m h;show⟨u,a.mem_erase_iff.mpr ⟨fun e=>?_,mem_cls.mpr ⟨F.es u i,i,h.trans n⟩⟩,d,Yh (F.gr.ir (F.gr.fa d)),F.gr.fs d⟩;obtain⟨r,p⟩:=some_of j;rw[e] at d;show m (F.fi.dwn b r z p l (F.gr.fs d)).1
 rw[xr c] at this;have:=xE c;lk
theorem Fn.count(F:Fn A f S ss):(qbH S ss).length=(snL f ss).length+(qdJ S ss).length:=by
 have hb:(qbH S ss).Nodup:=F.nd.filter _
 have e:(qbH S ss).length=((qbH S ss).filter fun b=>!(f b).isSome).length+((qbH S ss).filter fun b=>(f b).isSome).length:=by
  generalize qbH S ss=l
  induction l with
  | nil=>rfl
  | cons x r ih =>
   rw[yS,yS,yw,ih];cases (f x).isSome
   .rw [yI (show(!false)=true from rfl),yF Yl,yw];lk
   .rw [yF (show ¬ (!true)=true by decide),yI (show true=true from rfl),yw];lk
 rw[e];have C:((qbH S ss).filter fun b=>!(f b).isSome).length=(snL f ss).length:=xR
  (qcC (hb.filter _) fun x c=>by
   obtain⟨h1,d⟩:=yp.mp c;show mem_sn.mpr ⟨(mem_bas.mp h1).1,?_⟩
   cases e:f x with
   | none=>rfl
   | some y=>rw[e] at d;cases d)
  (qcC (F.nd.filter _) fun x c=>by
   obtain⟨h1,d⟩:=mem_sn.mp c;show yp.mpr ⟨mem_bas.mpr ⟨h1,F.sng x h1 d,Yo fun z=>?_⟩,by rw[d];rfl⟩;obtain⟨_,u,i,_⟩:=F.fi.mat x z;rw[d] at i;cases i)
 have D:((qbH S ss).filter fun b=>(f b).isSome).length=(qdJ S ss).length:=by
  have inj:(((qbH S ss).filter fun b=>(f b).isSome).map fun b=>(f b).getD "").Nodup:=by
   show XZ.mpr (xt (fun{a b} E g o e=>?_) (hb.filter _));obtain⟨x,c⟩:=xq.mp (yp.mp E).2;obtain⟨y,v⟩:=xq.mp (yp.mp g).2;rw[c,v] at e;have n:x=y:=e;have k:=F.gr.fs c;rw[n,F.gr.fs v] at k;show o (ym k).symm
  show xR ?_ ?_
  .have:=qcC inj (m:=qdJ S ss) fun q p=>?_
   rwa[ya] at this
   obtain⟨b,g,rfl⟩:=YF.mp p;obtain⟨h1,d⟩:=yp.mp g;obtain⟨x,c⟩:=xq.mp d;obtain⟨K,w,B⟩:=mem_bas.mp h1;obtain⟨r,G⟩:=some_of w;obtain⟨j,z,rz,t,_⟩:=F.fi.dwn b r x G B c;rw[c];have H:S.par x≠none:=by rw[t];show fun e=>by cases e
   show x∈qdJ S ss;show mem_bar.mpr ⟨F.inn _ _ (F.gr.as (F.gr.fa c)),H,j⟩
  .have:(qdJ S ss).length<=(((qbH S ss).filter fun b=>(f b).isSome).map fun b=>(f b).getD "").length:=qcC (F.nd.filter _) fun q p=>?_
   rwa[ya] at this
   obtain⟨L,I,J⟩:=mem_bar.mp p;obtain⟨z,hz⟩:=some_of I;obtain⟨_,_,y,r,j,t⟩:=F.fi.odd q z hz;have h:S.rows y≠none:=by rw[t];show fun e=>by cases e
   show YF.mpr ⟨y,yp.mpr ⟨mem_bas.mpr ⟨F.es y h,h,Yo fun e=>?_⟩,by rw[F.gr.fs j];rfl⟩,by rw[F.gr.fs j];rfl⟩;obtain⟨_,u,i,s⟩:=F.fi.mat y e;rw[F.gr.fs j] at i;cases i;show F.fi.evE h s J
 rw[C,D]
theorem Fn.most(F:Fn A f S ss)(l:Gr A g):(snL f ss).length<=(ss.filter fun u=>!(g u).isSome&&(S.rows u).isSome).length:=by
 have m:∀ b∈qbH S ss,∃ v∈qcU S ss b,g v=none\/∃ w,g v=some w/\w∈qdJ S ss:=fun b hb=>Yo fun q=>by
  have C:=F.cls_odd hb
  have:=qer (g:=g) _ (X:=qcU S ss b) (yh _) (F.nd.filter _) fun v hv=>by
   obtain⟨D,s,E⟩:=mem_cls.mp hv
   cases e:g v with
   | none=>show absurd ⟨v,hv,.inl e⟩ q
   | some w =>
    have hw:=l.as (l.fa e);rcases F.cl v w s (l.fa e) with z | ⟨z1,z2⟩
    .have r:=F.fi.evE s z;show⟨w,mem_cls.mpr ⟨F.es w r,r,z.trans E⟩,rfl,Yh (l.ir (l.fa e)),l.fs e⟩
    .show absurd ⟨v,hv,.inr ⟨w,e,mem_bar.mpr ⟨F.inn _ _ hw,z1,z2⟩⟩⟩ q
  lk
 obtain⟨j,i⟩:∃ j:Str->Str,∀ b∈qbH S ss,j b∈qcU S ss b/\(g (j b)=none\/∃ w,g (j b)=some w/\w∈qdJ S ss):=
  ⟨fun b=>@dite _ (b∈qbH S ss) (Classical.propDecidable _) (fun h=>(m b h).choose) fun _=>b,fun b hb=>by
   dsimp only;rw[dif_pos hb];show⟨(m b hb).choose_spec.1,(m b hb).choose_spec.2⟩⟩
 have inj:∀ a∈qbH S ss,∀ b∈qbH S ss,j a=j b->a=b:=fun a n b hb e=>by
  have h1:=(mem_cls.mp (i a n).1).2.2;have G:=(mem_cls.mp (i b hb).1).2.2;rw[<- h1,<- G,e]
 have hb:(qbH S ss).Nodup:=F.nd.filter _
 have t:(qbH S ss).length<=((ss.filter fun u=>!(g u).isSome&&(S.rows u).isSome)++qdJ S ss).length:=by
  rw[<- ya (f:=fun b=>(g (j b)).getD (j b))];show qcC (XZ.mpr (xt (fun{a b} n d p e=>?_) hb)) fun x H=>?_
  .have B:∀ c∈qbH S ss,S.rows (j c)≠none:=fun c hc=>(mem_cls.mp (i c hc).1).2.1;rcases(i a n).2 with z | ⟨w,z,hw⟩<;>rcases(i b d).2 with y | ⟨u,y,hu⟩
   .rw [z,y] at e;show p (inj a n b d e)
   .rw [z,y] at e;have o:j a=u:=e;show B a n (by rw[o];show(mem_bar.mp hu).2.2)
   .rw [z,y] at e;have o:w=j b:=e;show B b d (by rw[<- o];show(mem_bar.mp hw).2.2)
   .rw [z,y] at e;have o:w=u:=e;have k:=l.fs z;rw[o,l.fs y] at k;show p (inj a n b d (ym k).symm)
  .obtain⟨b,d,rfl⟩:=YF.mp H;obtain⟨D,s,E⟩:=mem_cls.mp (i b d).1;rcases(i b d).2 with z | ⟨w,z,hw⟩
   .rw [z];show yG _ (yp.mpr ⟨D,by show(!(g (j b)).isSome&&(S.rows (j b)).isSome)=true;rw[z,isS.mpr s];rfl⟩)
   .rw [z];show yH _ hw
 rw[F.count,yt] at t;lk
end
theorem qds:∀{qs:LP},pt qs s=some t->(s,t)∈qs\/(t,s)∈qs
 | [],h=>by cases h
 | q::r,h=>by
  unfold pt at h;split at h
  .rename_i e;cases h;show .inl (by rw[<- e];simp)
  .split at h
   .rename_i e;cases h;show .inr (by rw[<- e];simp)
   .rcases qds h with z | z
    .show .inl (yJ _ z)
    .show .inr (yJ _ z)
theorem qes:∀{qs:LP},(qj qs).Nodup->∀{a b:Str},(a,b)∈qs\/(b,a)∈qs->pt qs a=some b
 | [],_,a,b,m=>by rcases m with z | z<;>cases z
 | q::r,h,a,b,m=>by
  have d:(q.1::q.2::qj r).Nodup:=h;obtain⟨g,l⟩:=yo.mp d;obtain⟨n,o⟩:=yo.mp l;have inr:∀{x y:Str},(x,y)∈r->x∈qj r/\y∈qj r:=fun c=>⟨Y6.mpr ⟨_,c,by simp⟩,Y6.mpr ⟨_,c,by simp⟩⟩;unfold pt
  have later:(a,b)∈r\/(b,a)∈r->(if q.1=a then some q.2 else if q.2=a then some q.1 else pt r a)=some b:=fun j=>by
   have i:a∈qj r:=j.elim (fun z=>(inr z).1) fun z=>(inr z).2;rw[yF (fun z=>g (by rw[z];show yJ _ i)),yF (fun z=>n (by rw[z];show i))];show qes o j
  rcases m with z | z
  .rcases yx.mp z with z | z
   .subst z;rw[yI rfl]
   .show later (.inl z)
  .rcases yx.mp z with z | z
   .subst z;have f:b≠a:=fun e=>g (by show b∈a::_;rw[e];show yU);rw[yF f,yI rfl]
   .show later (.inr z)
theorem qbS(h:(qj qs).Nodup):pt qs a=some b↔(a,b)∈qs\/(b,a)∈qs:=⟨qds,qes h⟩
theorem qal(h:(qj qs).Nodup):pt qs a=some b↔pt qs b=some a:=by
 rw[qbS h,qbS h,Or.comm]
theorem qcV{x y:Option Str}(h:∀ b,x=some b↔y=some b):x=y:=by
 cases x with
 | none=>cases y with
  | none=>rfl
  | some b=>show absurd ((h b).mpr rfl) (fun z=>by cases z)
 | some a=>show((h a).mp rfl).symm
theorem uG:FnScope ["self","place","row"] ["self","place","row"] (qg j7):=fS
structure Fo where
 x:Addr
 b:Addr
 dp:Addr
 dr:Addr
 da:Addr
 ds:Addr
 dg:Addr
 dw:Addr
 ex:LQ
noncomputable def Fo.six(a:Fo):LQ:=[a.x,a.dr,a.da,a.ds,a.dg,a.dw]
noncomputable def Fo.all(a:Fo):LQ:=a.six++a.ex
noncomputable def Fo.tab(a:Fo)(lo:V):List (Str×V):=[("board",.ref a.b),("partners",.ref a.dp),("rows",.ref a.dr),("parents",.ref a.da),("bases",.ref a.ds),("rings",.ref a.dg),("waiting",.ref a.dw),("longer",lo)]
def Bx(l:LQ)(H H':Hp):Prop:=∀ c o,c∉l->H c=some o->H' c=some o
def RowV(H:Hp)(l:LQ)(o:Option V):Option (LS)->Prop
 | none=>o=none
 | some r=>∃ t,o=some (.ref t)/\H t=some (.lst (r.map V.str))/\t∉l
def FoO(cf:Addr)(H:Hp)(a:Fo)(lo:V):Prop:=∃ dx fs,H a.x=some (.ins cf dx fs)/\fs.length<=9/\(lo=.non->fs.length<=8)/\(∀ f v,(f,v)∈a.tab lo->fs.lookup f=some v)/\∀ f,f∉fAtt->fs.lookup f=none
structure FoA(cf cw:Addr)(H0 H:Hp)(a:Fo)(ss:LS)(ns:LN)(qs:LP)(S:FS)(bs dn wt:LS)(lo:V):Prop where
 sm:L2.Same H0 H
 web:WebAt cw H0 a.b ss ns
 prt:H0 a.dp=some (.dK (prK qs))
 fr:∀ c∈a.six,H0 c=none
 nd:[a.dr,a.da,a.ds,a.dg,a.dw].Nodup
 exf:∀ c∈a.ex,H0 c=none/\c∉a.six/\∃ o,H c=some o
 obj:FoO cf H a lo
 row:∃ kvs,H a.dr=some (.dK kvs)/\kvs.length<=(dn++wt).length/\∀ s,RowV H a.all (zh kvs (.inr s:Key)) (S.rows s)
 par:∃ kvs,H a.da=some (.dK kvs)/\(∃ po:LS,kvs.length<=po.length/\po.Nodup/\∀ u∈po,u∈ss/\S.par u≠none)/\∀ s,zh kvs (.inr s:Key)=(S.par s).map V.str
 bas:∃ kvs,H a.ds=some (.dK kvs)/\kvs.length<=bs.length/\∀ s∈bs,zh kvs (.inr s:Key)=some (.str (S.bas s))
 rng:∃ xs,H a.dg=some (.lst xs)/\xs.length<=(dn++wt).length
 wai:H a.dw=some (.lst (wt.map V.str))
 evn:(dn++wt).Nodup
 evi:∀ v,v∈dn++wt↔S.rows v≠none
 evs:∀ v∈dn++wt,v∈ss
theorem RowV.mono{l:LQ}{o:Option V}{r:Option (LS)}(h:RowV H l o r){m:LQ}(k:Bx m H H')(d:∀ c∈m,c∈l):RowV H' l o r:=by
 cases r with
 | none=>show h
 | some r=>obtain⟨t,h1,b,a⟩:=h;show⟨t,h1,k _ _ (fun z=>a (d _ z)) b,a⟩
theorem Fo.sub{a:Fo}:∀ c∈a.six,c∈a.all:=fun c h=>yG _ h
theorem Bx.of{l:LQ}(s:L2.Same H H'):Bx l H H':=fun c o _ e=>s c o e
theorem Bx.trans{l:LQ}{d:Hp}(a:Bx l H H')(b:Bx l H' d):Bx l H d:=fun c o n e=>b c o n (a c o n e)
section
variable{cf cw:Addr}{H0 H H':Hp}{a:Fo}{ss:LS}{ns:LN}{qs:LP}{S S':FS}{bs dn wt:LS}{lo:V}
theorem FoA.same(h:FoA cf cw H0 H a ss ns qs S bs dn wt lo)(s:L2.Same H H'):FoA cf cw H0 H' a ss ns qs S bs dn wt lo:=by
 obtain⟨dx,fs,h1,i⟩:=h.obj;obtain⟨j,r,t,u⟩:=h.row;obtain⟨m,p,q⟩:=h.par;obtain⟨n,b,d⟩:=h.bas;obtain⟨xs,f,g⟩:=h.rng;show⟨h.sm.trans s,h.web,h.prt,h.fr,h.nd,fun c hc=>⟨(h.exf c hc).1,(h.exf c hc).2.1,(h.exf c hc).2.2.elim fun o e=>⟨o,s _ _ e⟩⟩,⟨dx,fs,s _ _ h1,i⟩,⟨j,s _ _ r,t,fun z=>(u z).mono (Bx.of (l:=[]) s) (fun c h=>by cases h)⟩,⟨m,s _ _ p,q⟩,⟨n,s _ _ b,d⟩,⟨xs,s _ _ f,g⟩,s _ _ h.wai,h.evn,h.evi,h.evs⟩
theorem FoA.six(h:FoA cf cw H0 H a ss ns qs S bs dn wt lo):∀ c∈a.six,∃ o,H c=some o:=fun c hc=>by
 obtain⟨dx,fs,h1,_⟩:=h.obj;obtain⟨g,f,_⟩:=h.row;obtain⟨i,e,_⟩:=h.par;obtain⟨j,b,_⟩:=h.bas;obtain⟨xs,d,_⟩:=h.rng;simp only[Fo.six,yx,yQ,Yv] at hc;rcases hc with rfl | rfl | rfl | rfl | rfl | rfl
 .show⟨_,h1⟩
 .show⟨_,f⟩
 .show⟨_,e⟩
 .show⟨_,b⟩
 .show⟨_,d⟩
 .show⟨_,h.wai⟩
theorem FoA.new(h:FoA cf cw H0 H a ss ns qs S bs dn wt lo){c:Addr}(e:H c=none):c∉a.six:=fun z=>by
 obtain⟨o,k⟩:=h.six c z;rw[e] at k;cases k
theorem FoA.sep(h:FoA cf cw H0 H a ss ns qs S bs dn wt lo):a.six.Nodup:=by
 obtain⟨dx,fs,h1,_⟩:=h.obj;obtain⟨f,e,_⟩:=h.row;obtain⟨g,d,_⟩:=h.par;obtain⟨i,b,_⟩:=h.bas;obtain⟨xs,c,_⟩:=h.rng;show yo.mpr ⟨fun z=>?_,h.nd⟩;simp only[yx,yQ,Yv] at z;rcases z with z | z | z | z | z
 .rw [z,e] at h1;cases h1
 .rw [z,d] at h1;cases h1
 .rw [z,b] at h1;cases h1
 .rw [z,c] at h1;cases h1
 .rw [z,h.wai] at h1;cases h1
theorem FoO.eq(h:FoO cf H a lo)(e:H' a.x=H a.x):FoO cf H' a lo:=by
 obtain⟨dx,fs,h1,b⟩:=h;show⟨dx,fs,e.trans h1,b⟩
theorem Bx.upd{l:LQ}{c:Addr}(k:Bx l H H')(hc:c∈l):Bx l H (upd H' c o):=fun d u n e=>by
 rw[qf (fun z=>n (by rw[z];show hc))];show k d u n e
noncomputable def Fo.add(a:Fo)(c:Addr):Fo:={ a with ex:=c::a.ex }
theorem FoA.add(h:FoA cf cw H0 H a ss ns qs S bs dn wt lo){c:Addr}(e:H c=none):FoA cf cw H0 (upd H c o) (a.add c) ss ns qs S bs dn wt lo:=by
 have g:=h.same (qC (Sr H) (o:=o) e);obtain⟨f,q,w,x⟩:=g.row;obtain⟨n,v,_,A⟩:=h.row
 have s:n=f:=by
  have:=qC (Sr H) (o:=o) e _ _ v;rw[q] at this;show(HO.dK.inj (ym this)).symm
 subst s;show⟨g.sm,g.web,g.prt,g.fr,g.nd,fun d hd=>?_,g.obj,⟨n,q,w,fun z=>?_⟩,g.par,g.bas,g.rng,g.wai,g.evn,g.evi,g.evs⟩
 .rcases yx.mp hd with rfl | hd
  .show⟨h.sm.free e,h.new e,_,qb⟩
  .show g.exf d hd
 .have b:=x z;have j:=A z
  cases i:S.rows z with
  | none=>rw[i] at b;show b
  | some r =>
   rw[i] at b j;obtain⟨t,f,u,p⟩:=b;obtain⟨t',l,m,_⟩:=j;rw[f] at l;cases l;show⟨t,f,u,fun y=>?_⟩;rcases yz.mp y with y | y
   .show p (yG _ y)
   .rcases yx.mp y with y | y
    .rw [y,e] at m;cases m
    .show p (yH _ y)
theorem FoA.updE(h:FoA cf cw H0 H a ss ns qs S bs dn wt lo){c:Addr}(hc:c∈a.ex):FoA cf cw H0 (upd H c o) a ss ns qs S bs dn wt lo:=by
 obtain⟨l,p,_⟩:=h.exf c hc;have ne:∀{d:Addr},d∈a.six->upd H c o d=H d:=fun b=>qf fun z=>p (by rw[<- z];show b);obtain⟨q,w,x,A⟩:=h.row;obtain⟨r,t,v⟩:=h.par;obtain⟨s,f,g⟩:=h.bas;obtain⟨xs,i,j⟩:=h.rng;show⟨qaT h.sm l,h.web,h.prt,h.fr,h.nd,fun d b=>⟨(h.exf d b).1,(h.exf d b).2.1,by by_cases z:d=c;show⟨_,by rw[z,qb]⟩;rw[qf z];show(h.exf d b).2.2⟩,h.obj.eq (ne (by simp[Fo.six])),⟨q,(ne (by simp[Fo.six])).trans w,x,fun z=>(A z).mono (m:=[c]) (fun d u n e=>by rw[qf (fun y=>n (by rw[y];simp))];show e) fun d b=>by rw[yA.mp b];show yH _ hc⟩,⟨r,(ne (by simp[Fo.six])).trans t,v⟩,⟨s,(ne (by simp[Fo.six])).trans f,g⟩,⟨xs,(ne (by simp[Fo.six])).trans i,j⟩,(ne (by simp[Fo.six])).trans h.wai,h.evn,h.evi,h.evs⟩
theorem FoA.drop(h:FoA cf cw H0 H a ss ns qs S bs dn wt lo){l:LQ}(f:∀ c∈l,c∈a.ex):FoA cf cw H0 H { a with ex:=l } ss ns qs S bs dn wt lo:=by
 obtain⟨d,j,m,n⟩:=h.row;show⟨h.sm,h.web,h.prt,h.fr,h.nd,fun c hc=>h.exf c (f c hc),h.obj,⟨d,j,m,fun z=>?_⟩,h.par,h.bas,h.rng,h.wai,h.evn,h.evi,h.evs⟩;have b:=n z
 cases e:S.rows z with
 | none=>rw[e] at b;show b
 | some r =>
  rw[e] at b;obtain⟨t,d,g,i⟩:=b;show⟨t,d,g,fun y=>i ((yz.mp y).elim (fun z=>yG _ z) fun z=>yH _ (f _ z))⟩
theorem FoA.newA(h:FoA cf cw H0 H a ss ns qs S bs dn wt lo){c:Addr}(e:H c=none):c∉a.all:=fun z=>by
 rcases yz.mp z with z | z
 .show h.new e z
 .obtain⟨o,k⟩:=(h.exf c z).2.2;rw[e] at k;cases k
theorem FoA.few(h:FoA cf cw H0 H a ss ns qs S bs dn wt lo):(dn++wt).length<=ss.length:=jM h.evn h.evs
end
noncomputable def FS.setRow(S:FS)(p:Str)(r:LS):FS:=⟨fun s=>if s=p then some r else S.rows s,S.par,S.bas⟩
inductive spRe(cc:Nat->Addr)(cw:Addr)(vs:List V)(H:Hp)(Q:VK)(E:XK):Prop|mk (H0:Hp) (a:Fo) (ss:LS) (ns:LN) (qs:LP) (S:FS) (bs dn wt:LS) (lo:V) (p:Str) (t:Addr) (r:LS) (_:vs=[.ref a.x,.str p,.ref t]) (_:FoA (cc 9) cw H0 H a ss ns qs S bs dn wt lo) (_:ss.length<=14) (_:H t=some (.lst (r.map V.str))) (_:t∉a.all) (_:p∈ss) (_:S.rows p=none) (_:∀ H',FoA (cc 9) cw H0 H' a ss ns qs (S.setRow p r) bs dn (wt++[p]) lo->Bx a.six H H'->(∀ o,H a.dg=some o->H' a.dg=some o)->Q .non H')
inductive spBd(cc:Nat->Addr)(cw:Addr)(vs:List V)(H:Hp)(Q:VK)(E:XK):Prop|mk (H0:Hp) (a:Fo) (ss:LS) (ns:LN) (qs:LP) (S:FS) (dn wt:LS) (lo:V) (p:Str) (r l:LS) (A:Str->Str->Prop) (_:vs=[.ref a.x,.str p]) (_:FoA (cc 9) cw H0 H a ss ns qs S ss dn wt lo) (_:ss.length<=14) (_:FI A (pt qs) S) (_:S.rows p=some r) (_:Ch (pt qs) S (S.bas p) l) (_:l.length<=14) (_:∀(t:Addr) (H':Hp),L2.Same H H'->H t=none->H' t=some (.lst (l.map V.str))->Q (.ref t) H')
section
variable{P:Program}{w:World}{K:W.Frag}{mg:Str->Option Value}{base:Heap}{cc:Nat->Addr}{cw:Addr}{H0 H:Hp}{a:Fo}{ss:LS}{ns:LN}{qs:LP}{S:FS}{bs dn wt:LS}{lo:V}
theorem FoO.rd{Q:VK}{f:Str}{v:V}(h:FoO (cc 9) H a lo)(T:Txt K mg cc cw)(i:Nat)(e:(a.tab lo)[i]?=some (f,v))(q:Q v H):FldR K f (.ref a.x) H Q:=by
 obtain⟨dx,fs,h1,_,_,b,_⟩:=h;show⟨a.x,cc 9,dx,fs,v,rfl,h1,T.fcl,T.fa f ?_,b f v (ye e),q⟩;have:((a.tab lo).map Prod.fst)[i]?=some f:=by rw[yd,e];rfl
 show ye (l:=fAtt) (i:=i) this
theorem FoO.me{k:Prop}(h:FoO (cc 9) H a lo)(c:m∉fAtt)(q:k):MeR (cc 9) m (.ref a.x) H k:=by
 obtain⟨dx,fs,h1,_,_,_,b⟩:=h;show⟨a.x,dx,fs,rfl,h1,b m c,q⟩
theorem ok_re(F:Fun K "reach" "Forest.reach" j7 f fd)(T:Txt K mg cc cw):FnOk P w K mg base CX0 1 f fd ["self","place","row"] (spRe cc cw):=by
 show F.ok uG fun _ _ _ _ H vs Q E U h=>?_
 .obtain⟨H0,a,ss,ns,qs,S,bs,dn,wt,lo,p,t,r,rfl,h,R,W,d,s,m,q⟩:=h;have X:=jQ U;have b:=h.few;have l:p∉dn++wt:=fun z=>(h.evi p).mp z m;show⟨_,(qc (zg (pv 2) (zn (qy (K:=K) rfl (pv 0) rfl) (pv 1) (zr X)))
 (qe (qR (qbO (K:=K) rfl yT Yj Yk jj (qy (K:=K) rfl (pv 0) rfl) (qa (pv 1) qd))))),?_⟩
  ext;obtain⟨⟨n1,n2,n3,n4,n5⟩,⟨n6,n7,C,D⟩,⟨aa,ac,A⟩,⟨ad,B⟩,g⟩:=(by simpa [Fo.six] using h.sep:(¬a.x=a.dr/\¬a.x=a.da/\¬a.x=a.ds/\¬a.x=a.dg/\¬a.x=a.dw)/\(¬a.dr=a.da/\¬a.dr=a.ds/\¬a.dr=a.dg/\¬a.dr=a.dw)/\(¬a.da=a.ds/\¬a.da=a.dg/\¬a.da=a.dw)/\(¬a.ds=a.dg/\¬a.ds=a.dw)/\¬a.dg=a.dw);obtain⟨j,r1,r2,r3⟩:=h.row;obtain⟨Z,p1,p2,p3⟩:=h.par;obtain⟨ks,J,L,M⟩:=h.bas;obtain⟨xs,N,O⟩:=h.rng;show .inl (h.obj.rd T 2 rfl ?_);apply .inr ⟨a.dr,_,rfl,DPut.k (k:=Sum.inr p) r1 (by rw[YO];lk),?_⟩;have G:FoO (cc 9) (upd H a.dr (.dK (zN j (Sum.inr p) (.ref t)))) a lo:=h.obj.eq (qf n1);have I:upd H a.dr (.dK (zN j (Sum.inr p) (.ref t))) a.dw=some (.lst (wt.map V.str)):=by rw[qf (Yh D)];show h.wai
  apply .inl (G.rd T 6 rfl ?_);show⟨.inl ⟨rfl,_,.of I⟩,?_⟩;apply⟨a.dw,_,_,rfl,rfl,I,by rw[ya];show qh (by rw[yt] at b;lk),?_⟩;have u:∀{c:Addr} {o o':HO},c∉a.six->upd (upd H a.dr o) a.dw o' c=H c:=fun hc=>by rw[qf (fun z=>hc (by rw[z];simp[Fo.six])),qf (fun z=>hc (by rw[z];simp[Fo.six]))]
  have i:Bx a.six H (upd (upd H a.dr (.dK (zN j (Sum.inr p) (.ref t)))) a.dw (.lst (wt.map V.str++[.str p]))):=fun c o n e=>by rw[u n];show e
  show q _ ⟨qaT (qaT h.sm (h.fr _ (by simp[Fo.six]))) (h.fr _ (by simp[Fo.six])),h.web,h.prt,h.fr,h.nd,fun c hc=>⟨(h.exf c hc).1,(h.exf c hc).2.1,(h.exf c hc).2.2.elim fun o e=>⟨o,i _ _ (h.exf c hc).2.1 e⟩⟩,G.eq (qf n5),⟨_,by rw[qf D,qb],?_,fun z=>?_⟩,⟨Z,by rw[qf A,qf (Yh n6)];show p1,p2,p3⟩,⟨ks,by rw[qf B,qf (Yh n7)];show J,L,M⟩,⟨xs,by rw[qf g,qf (Yh C)];show N,?_⟩,by rw[qb,yC];rfl,?_,fun v=>?_,fun v hv=>?_⟩ i fun o e=>by(rw[qf g,qf (Yh C)];show e)
  .have:=jT j (Sum.inr p:Key) (.ref t);rw[<- Yc,yt (bs:=[p])];show _<=_+1;lk
  .unfold FS.setRow;dsimp only;rw[qba];by_cases e:z=p
   .subst e;rw[yI rfl,yI rfl];show⟨t,rfl,i _ _ (fun y=>d (Fo.sub _ y)) W,d⟩
   .rw [yF (fun y=>e (xS y)),yF e];show(r3 z).mono i Fo.sub
  .rw [<- Yc,yt (bs:=[p])];show XW O
  .rw [<- Yc];show Yb.mpr ⟨h.evn,XJ _ _,fun x u y Y e=>l (by rw[<- yA.mp Y,<- e];show u)⟩
  .rw [<- Yc,yz,yA,h.evi];unfold FS.setRow;dsimp only;by_cases e:v=p
   .subst e;rw[yI rfl];show⟨(fun _ z=>by cases z),fun _=>.inr rfl⟩
   .rw [yF e];show⟨fun z=>z.resolve_right e,.inl⟩
  .rw [<- Yc] at hv;rcases yz.mp hv with z | z
   .show h.evs v z
   .rw [yA.mp z];show s
end
theorem Kr:FnScope ["self","place","bases","below"] ["self","place"] (qg qQ):=fS
theorem atI_last{xs:LS}:atI ((xs++[c]).map V.str) (-1)=some (.str c):=by
 have e:ixN ((xs++[c]).map V.str).length (-1)=some xs.length:=by
  unfold ixN;rw[yF (by lk),yI (by rw[ya,yt];simp;lk)]
  congr 1
  rw[ya,yt];simp only[yw,xl];lk
 unfold atI;rw[e];show((xs++[c]).map V.str)[xs.length]?=_;rw[yd,yB (yh _),Xy];rfl
theorem Ch.cases'{f:Str->Option Str}{t:LS}(h:Ch f S b (b::t)):(f b=none/\t=[])\/∃ q z,f b=some q/\S.par q=some z/\Ch f S (S.bas z) t:=by
 generalize e:b::t=l at h
 cases h with
 | root h=>cases e;show .inl ⟨h,rfl⟩
 | step h1 h2 h3=>cases e;show .inr ⟨_,_,h1,h2,h3⟩
theorem in_prK{d:Addr}{Q:VK}(a:H d=some (.dK (prK qs)))(q:Q (.bl (pt qs s).isSome) H):qeg K false (.str s) (.ref d) H Q:=by
 show .inr (.inl ⟨d,_,rfl,DGet.k (k:=Sum.inr s) a,?_⟩);rw[jY,yF (by decide),Xu];show q
theorem qeh{d:Addr}{v:V}{Q:VK}(a:H d=some (.dK kvs))(e:zh kvs (.inr s:Key)=some v)(q:Q v H):qfA K (.ref d) (.str s) H Q:=.inr ⟨d,v,rfl,by rw[<- e];show DGet.k (k:=Sum.inr s) a,q⟩
theorem ok_bd(F:Fun K "bases_down_from" "Forest.bases_down_from" qQ f fd)(T:Txt K mg cc cw):FnOk P w K mg base CX0 1 f fd ["self","place"] (spBd cc cw):=by
 show F.ok Kr fun _ _ _ _ H vs Q E hr h=>?_
 .obtain⟨H0,a,ss,ns,qs,S,dn,wt,lo,p,r,l,B,rfl,h,ad,I,hp,y,aa,q⟩:=h;have n:=jQ hr;show⟨_,(qc (qq (i:=2) Kr.nd rfl (yP rfl) (qM (qa (qw (qx (K:=K) rfl n) (qy (K:=K) rfl (pv 0) rfl) (pv 1) (fun _ _=>rfl)) qd)))
 (qc (qao yV (qk (zT (K:=K) rfl n) (qw (qx (K:=K) rfl n) (pv 2) (qa0 zD qi) (fun _ _=>rfl)) (qy (K:=K) rfl (pv 0) rfl) (by with_unfolding_all rfl))
 (qc (qq (i:=3) Kr.nd rfl (yP rfl) (qw (qx (K:=K) rfl n) (qy (K:=K) rfl (pv 0) rfl) (qw (qx (K:=K) rfl n) (qy (K:=K) rfl (pv 0) rfl) (qw (qx (K:=K) rfl n) (pv 2) (qa0 zD qi) (fun _ _=>rfl)) (fun _ _=>rfl)) (fun _ _=>rfl)))
 (qe (qR (qbO (K:=K) rfl yT Yj Yk jj (pv 2) (qa (qw (qx (K:=K) rfl n) (qy (K:=K) rfl (pv 0) rfl) (pv 3) (fun _ _=>rfl)) qd))))))
 (qe (qm (pv 2))))),?_⟩
  have u:∀{v:Str} {r:LS},S.rows v=some r->v∈ss:=fun e=>h.evs _ ((h.evi _).mpr (by rw[e];show fun z=>by cases z));obtain⟨ks,b1,b2,b3⟩:=h.bas;apply .inl (h.obj.rd T 4 rfl ?_);apply qeh b1 (b3 p (u hp)) ?_;apply⟨by show 1<=sizeLine;decide,fun bl j=>?_⟩;have s1:=qC (Sr H) (o:=.lst [.str (S.bas p)]) j;have e1:upd H bl (.lst [.str (S.bas p)]) bl=some (.lst (([]++[S.bas p]).map V.str)):=qb;generalize upd H bl (.lst [.str (S.bas p)])=H1 at s1 e1;ext;obtain⟨W,g⟩:∃ W:Nat->L2.St->Hp->Prop,W=fun m σ J=>∃(l1 l2:LS) (c:Str) (y3:Option V),l=l1++c::l2/\σ=[some (.ref a.x),some (.str p),some (.ref bl),y3]/\L2.Same H J/\J bl=some (.lst ((l1++[c]).map V.str))/\m=l2.length:=⟨_,rfl⟩;obtain⟨t0,R⟩:=y.ne;show⟨W,⟨t0.length,by rw[g];show⟨[],t0,_,_,R,rfl,s1,e1,rfl⟩⟩,fun m σ J hW=>?_⟩;rw[g] at hW;obtain⟨l1,l2,c,y3,M,rfl,sJ,s,hm⟩:=hW;obtain⟨rc,_,Y,U,A,_⟩:=y.up I hp rfl M;have d:=h.same sJ;have D:=d.sm _ _ h.prt;apply⟨1,rfl,?_⟩;show .inl (qag s (v:=.str c) atI_last ?_);apply .inl (d.obj.rd T 1 rfl ?_);show in_prK D ?_;rcases A.cases' with⟨C,rfl⟩ | ⟨q',z,C,G,X⟩
  .rw [C];show⟨_,rfl,qF (fun h=>by cases h) fun _=>?_⟩;apply q bl J sJ j (by rw[M];show s)
  .rw [C];show⟨_,rfl,jU ⟨fun L H'=>∃ m',m'<m/\W m' L H',fun L H' z=>z,?_⟩⟩;obtain⟨_,z',rz,b,Z,_⟩:=I.dwn c rc q' Y U C;rw[G] at b;cases b;obtain⟨ka,p1,p2,p3⟩:=d.par;obtain⟨ae,N,ac,O⟩:=d.bas;apply .inl (d.obj.rd T 3 rfl ?_);apply .inl (d.obj.rd T 1 rfl ?_);apply⟨1,rfl,?_⟩;show .inl (qag s (v:=.str c) atI_last ?_);show qeh D (by rw[jY,C];rfl) ?_;show qeh p1 (by rw[p3,G];rfl) ?_;apply⟨.inl ⟨rfl,_,.of s⟩,?_⟩;apply .inl (d.obj.rd T 4 rfl ?_);apply qeh N (O z (u Z)) ?_;apply⟨bl,_,_,rfl,rfl,s,by rw[ya];show qh (by have:=congrArg List.length M;rw[yt,yw] at this;rw[yt];simp only[yw,xl];lk),?_⟩;obtain⟨t1,t⟩:=X.ne;rw[g];show⟨t1.length,by rw[hm,t];simp,l1++[c],t1,S.bas z,_,by rw[M,t];simp,rfl,qaT sJ j,by rw[qb,yC (l₁:=l1++[c])];rfl,rfl⟩
theorem Kn:FnScope ["self","one","other","bases","side","base","place","row"] ["self","one","other","bases"] (qg jf):=fS
structure RR(f:Str->Option Str)(S S':FS)(v w:Str)(cs:LS):Prop where
 par:S'.par=S.par
 bas:S'.bas=S.bas
 old:∀ u r,S.rows u=some r->S'.rows u=some r
 new:∀ u r,S'.rows u=some r->S.rows u=some r\/∃ c∈cs,f c=some u/\NewRow S v w u r
 all:∀ c∈cs,∀ q,f c=some q->∃ r,S'.rows q=some r
inductive spRr(cc:Nat->Addr)(cw:Addr)(vs:List V)(H:Hp)(Q:VK)(E:XK):Prop|mk (H0:Hp) (a:Fo) (ss:LS) (ns:LN) (qs:LP) (S:FS) (dn wt:LS) (lo:V) (v w:Str) (lb:Addr) (cs rv rw:LS) (_:vs=[.ref a.x,.str v,.str w,.ref lb]) (_:FoA (cc 9) cw H0 H a ss ns qs S ss dn wt lo) (_:ss.length<=14) (_:H lb=some (.lst (cs.map V.str))) (_:lb∉a.six) (_:S.rows v=some rv) (_:S.rows w=some rw) (_:rv.length<=14) (_:rw.length<=14) (_:rv.Nodup) (_:cs.Nodup) (_:cs.length<=14) (_:(qj qs).Nodup) (_:(∀ c∈cs,∃ q rz t,pt qs c=some q/\S.rows q=none/\q∈ss/\rv=rz++q::t)) (_:∀(t:Addr) (sd more:LS) (H':Hp) (S':FS),FoA (cc 9) cw H0 H' (a.add t) ss ns qs S' ss dn (wt++more) lo->Bx a.six H H'->H t=none->H' t=some (.lst (sd.map V.str))->(∀ u,u∈sd↔∃ c∈cs,u=c\/pt qs c=some u)->sd.length=2*cs.length->more.length=cs.length->RR (pt qs) S S' v w cs->(∀ o,H a.dg=some o->H' a.dg=some o)->Q (.ref t) H')
theorem qcW{t:LS}{q:Str}(a:(rz++q::t).Nodup):(rz++q::t).idxOf q=rz.length:=by
 show qeP a (by rw[yB (yh _),Xy];rfl)
theorem qet{a b:Addr}{Q:VK}(c:G a=some (.lst xs))(d:G b=some (.lst ys))(hl:xs.length+ys.length<=1000)(q:∀ p,G p=none->Q (.ref p) (upd G p (.lst (xs++ys)))):qdD K (.ref a) (.ref b) G Q:=.inl ⟨a,b,_,_,rfl,rfl,c,d,yi hl (by decide),q⟩
theorem ok_rr(F:Fun K "reach_round" "Forest.reach_round" jf f fd)(T:Txt K mg cc cw)(Ku:MethOk P w K mg base CX0 1 (cc 9) "reach" ["self","place","row"] (spRe cc cw)):FnOk P w K mg base CX0 2 f fd ["self","one","other","bases"] (spRr cc cw):=by
 show F.ok Kn fun _ _ _ _ H vs Q E hr h=>?_
 .obtain⟨H0,a,ss,ns,qs,S,dn,wt,lo,v,w,lb,R,rv,b,rfl,h,ap,G,ba,hv,hw,bd,bm,ak,ax,bh,aj,ay,q⟩:=h;have hu:=jQ hr;show⟨_,(qc (qq (i:=4) Kn.nd rfl (yP rfl) (qM qd))
 (qc (jz yV rfl (qK (K:=K) rfl (pv 3)) (qt (i:=5) Kn.nd rfl (yP rfl))
 (qc (qq (i:=6) Kn.nd rfl (yP rfl) (qw (qx (K:=K) rfl hu) (qy (K:=K) rfl (pv 0) rfl) (pv 5) (fun _ _=>rfl)))
 (qc (qq (i:=7) Kn.nd rfl (yP rfl) (qw (qx (K:=K) rfl hu) (qy (K:=K) rfl (pv 0) rfl) (pv 1) (fun _ _=>rfl)))
 (qc (qR (qB Ku (hmR hr) (pv 0) (qa (pv 6) (qa (qI (za (K:=K) rfl) (qw (qx (K:=K) rfl hu) (qy (K:=K) rfl (pv 0) rfl) (pv 2) (fun _ _=>rfl)) (qeN (K:=K) rfl (jx (qdF (K:=K) rfl) (pv 7) (jo (qbO (K:=K) rfl yT Xg XM (qcR (K:=K) rfl) (pv 7) (qa (pv 6) qd))) jS) (jo (qa0 zD qi)))) qd))))
 (qe (qR (qbO (K:=K) rfl yT PySem.F.slot_list_extend PySem.F.type_list_extend qbQ (pv 4) (qa (qM (qa (pv 5) (qa (pv 6) qd))) qd))))))))
 (qe (qm (pv 4))))),?_⟩
  apply⟨by show 0<=sizeLine;decide,fun g p=>?_⟩;have s1:=qC (Sr H) (o:=.lst []) p;have h1:=h.add (o:=.lst []) p;have Y:upd H g (.lst []) g=some (.lst (([]:LS).map V.str)):=qb;have bn:lb≠g:=fun z=>by rw[z,p] at G;cases G
  generalize upd H g (.lst [])=H1 at s1 h1 Y;ext;obtain⟨LI,A⟩:∃ LI:Nat->L2.St->Hp->Prop,LI=fun i σ J=>∃(S':FS) (more D:LS) (y5 y6 y7:Option V),σ=[some (.ref a.x),some (.str v),some (.str w),some (.ref lb),some (.ref g),y5,y6,y7]/\FoA (cc 9) cw H0 J (a.add g) ss ns qs S' ss dn (wt++more) lo/\Bx a.six H J/\J g=some (.lst (D.map V.str))/\(∀ u,u∈D↔∃ c∈R.take i,u=c\/pt qs c=some u)/\D.length=2*i/\more.length=i/\RR (pt qs) S S' v w (R.take i)/\∀ o,H a.dg=some o->J a.dg=some o:=⟨_,rfl⟩;show .inl ⟨⟨_,.of (s1 _ _ G)⟩,jd (xs:=R.map V.str) LI (by rw[A];show⟨S,[],[],_,_,_,rfl,by rw[Yd];show h1,Bx.of s1,Y,fun u=>by simp,rfl,rfl,⟨rfl,rfl,fun _ _ e=>e,fun _ _ e=>.inl e,fun c hc=>by simp at hc⟩,fun o e=>s1 _ _ e⟩) (fun i σ J _ O=>?_) (fun i y σ J hy O=>?_) fun σ J O=>?_⟩
  .rw [A] at O;obtain⟨S',more,D,y5,y6,y7,rfl,s,W,_⟩:=O;show .of (W _ _ ba G)
  .rw [A] at O;obtain⟨S',more,D,y5,y6,y7,rfl,s,W,eJ,L,l,I,C,U⟩:=O;rw[yd] at hy;obtain⟨c,hc,rfl⟩:=yn.mp hy;have aw:=ye hc;obtain⟨z,rz,t,hz,al,bg,m⟩:=ay c aw;have bi:i<R.length:=(yc.mp hc).1;have M:R.take (i+1)=R.take i++[c]:=by rw[yD,hc];rfl
   have bc:=s.sm _ _ h.prt;obtain⟨kr,r1,r2,r3⟩:=s.row
   have rowOf:∀{u:Str} {r:LS},S.rows u=some r->∃ t,zh kr (.inr u:Key)=some (.ref t)/\J t=some (.lst (r.map V.str)):=fun{u r} e=>by
    have:=r3 u;rw[C.old u r e] at this;obtain⟨t,k1,k2,_⟩:=this;show⟨t,k1,k2⟩
   obtain⟨tv,kv,ev⟩:=rowOf hv;obtain⟨tw,kw,ew⟩:=rowOf hw;apply .inl (s.obj.rd T 1 rfl ?_);apply qeh bc (by rw[jY,hz];rfl) ?_;apply .inl (s.obj.rd T 2 rfl ?_);apply qeh r1 kv ?_;ext;obtain⟨dx,fs,be,_,_,_,bf⟩:=id s.obj;show⟨a.x,dx,fs,rfl,be,bf _ (by room),?_⟩;apply .inl (s.obj.rd T 2 rfl ?_);apply qeh r1 kw ?_;apply qgi ?_;apply⟨.inl ⟨rfl,_,.of ev⟩,?_⟩;apply⟨tv,rv,z,rfl,rfl,.of ev,by rw[m];simp,_,rfl,?_⟩;rw[m] at ak;have ao:rv.idxOf z=rz.length:=by rw[m];show qcW ak
   rw[ao];apply .inl ⟨tv,_,rfl,.of ev,fun c1 ar=>?_⟩;have af:qc5 (rv.map V.str) (some ((rz.length:Nat):Int)) none=(z::t).map V.str:=by rw[qbx,m,yC,List.drop_left' (by simp)]
   rw[af];have t1:=qC (Sr J) (o:=.lst ((z::t).map V.str)) ar;have aa:upd J c1 (.lst ((z::t).map V.str)) c1=some (.lst ((z::t).map V.str)):=qb;generalize upd J c1 (.lst ((z::t).map V.str))=J1 at t1 aa;apply⟨1,rfl,?_⟩;show⟨_,rfl,rfl,c1,_,rfl,.of aa,fun c2 au=>?_⟩;have t2:=qC t1 (o:=.lst ((z::t).map V.str).reverse) au;have ac:upd J1 c2 (.lst ((z::t).map V.str).reverse) c2=some (.lst ((z::t).reverse.map V.str)):=by rw[qb,List.map_reverse]
   generalize upd J1 c2 (.lst ((z::t).map V.str).reverse)=J2 at t2 ac;have bj:(z::t).length<=14:=by rw[m,yt] at bd;lk
   show qet (t2 _ _ ew) ac (by rw[ya,ya,YG];lk) fun c3 ag=>?_;have aq:=s.same t2;have n3:=aq.newA ag;have t3:=qC t2 (o:=.lst (b.map V.str++(z::t).reverse.map V.str)) ag;have ad:upd J2 c3 (.lst (b.map V.str++(z::t).reverse.map V.str)) c3=some (.lst ((b++(z::t).reverse).map V.str)):=by rw[qb,yC]
   generalize upd J2 c3 (.lst (b.map V.str++(z::t).reverse.map V.str))=J3 at t3 ad
   have ah:c∉R.take i:=fun y=>by
    obtain⟨j,hj⟩:=yf y;have az:=(yc.mp hj).1;rw[yK] at az;rw[List.getElem?_take,yI (by lk)] at hj;have:=qA ax hj hc;lk
   have am:S'.rows z=none:=by
    cases e:S'.rows z with
    | none=>rfl
    | some r =>
     exfalso;rcases C.new z r e with y | ⟨N,B,y,_⟩
     .rw [al] at y;cases y
     .have Y:=(qal aj).mp y;rw[(qal aj).mp hz] at Y;rw[<- ym Y] at B;show ah B
   apply⟨H0,a.add g,ss,ns,qs,S',ss,dn,wt++more,lo,z,c3,b++(z::t).reverse,rfl,s.same t3,ap,ad,n3,bg,am,fun J4 h4 X ai=>?_⟩;have an:g∉a.six:=h.new p;have Z:J4 g=some (.lst (D.map V.str)):=X _ _ an (t3 _ _ eJ);apply⟨.inl ⟨rfl,_,.of Z⟩,?_⟩;apply⟨by show 2<=sizeLine;decide,fun c5 av=>?_⟩;have t5:=qC (Sr J4) (o:=.lst [.str c,.str z]) av;have ae:upd J4 c5 (.lst [.str c,.str z]) c5=some (.lst [.str c,.str z]):=qb;generalize upd J4 c5 (.lst [.str c,.str z])=J5 at t5 ae;have h5:=h4.same t5;apply⟨g,c5,_,_,rfl,rfl,t5 _ _ Z,ae,by rw[ya,YO];show _+2<=_;lk,?_⟩;have h6:=h5.updE (c:=g) (o:=.lst (D.map V.str++[.str c,.str z])) yU;rw[A];show⟨S'.setRow z (b++(z::t).reverse),more++[z],D++[c,z],_,_,_,rfl,by rw[<- Yc wt];show h6,?_,by rw[qb,yC];rfl,fun u=>?_,by rw[yt,l];show _+2=_;lk,by rw[yt,I];rfl,⟨C.par,C.bas,fun u r e=>?_,fun u r e=>?_,fun N B q' e=>?_⟩,fun o e=>?_⟩
   .show fun d o n e=>by
     have ne:d≠g:=fun y=>by rw[y,p] at e;cases e
     rw[qf ne];show t5 _ _ (X _ _ n (t3 _ _ (W _ _ n e)))
   .rw [M,yz,L];simp only[yz,yx,yQ,Yv];constructor
    .rintro (⟨N,h1,h2⟩ | rfl | rfl)
     .show⟨N,.inl h1,h2⟩
     .show⟨u,.inr rfl,.inl rfl⟩
     .show⟨c,.inr rfl,.inr hz⟩
    .rintro ⟨N,h1 | rfl,h2⟩
     .show .inl ⟨N,h1,h2⟩
     .rcases h2 with h2 | h2
      .show .inr (.inl h2)
      .rw [hz] at h2;show .inr (.inr (ym h2).symm)
   .show(if u=z then _ else S'.rows u)=_;rw[yF (fun y=>by rw[y,al] at e;cases e)];show C.old u r e
   .have e':(if u=z then some (b++(z::t).reverse) else S'.rows u)=some r:=e;by_cases y:u=z
    .subst y;rw[yI rfl] at e';show .inr ⟨c,by rw[M];simp,hz,rv,b,rz,t,hv,hw,m,(ym e').symm⟩
    .rw [yF y] at e';rcases C.new u r e' with x | ⟨N,h1,h2⟩
     .show .inl x
     .show .inr ⟨N,by rw[M];show yG _ h1,h2⟩
   .show ∃ r,(if q'=z then some (b++(z::t).reverse) else S'.rows q')=some r;by_cases y:q'=z
    .rw [yI y];show⟨_,rfl⟩
    .rw [yF y];rw[M] at B;rcases yz.mp B with x | x
     .show C.all N x q' e
     .rw [yA.mp x,hz] at e;show absurd (ym e).symm y
   .have ne:a.dg≠g:=fun y=>an (by rw[<- y];simp[Fo.six]);rw[qf ne];show t5 _ _ (ai o (t3 _ _ (U o e)))
  .rw [A] at O;obtain⟨S',more,D,y5,y6,y7,rfl,s,W,eJ,L,l,I,C,U⟩:=O;rw[ya] at l I;rw[ya,yM] at L C;apply q g D more J S' s W p eJ L l I C U
theorem KQ:FnScope ["self","ring","meeting","within","place"] ["self","ring","meeting"] (qg jO):=fS
noncomputable def FS.setBas(S:FS)(l:LS)(m:Str):FS:=⟨S.rows,S.par,fun u=>if u∈l then m else S.bas u⟩
noncomputable def wnL(S:FS)(ss a:LS)(m:Str):LS:=ss.filter fun u=>decide (S.bas u∈a++[m])
inductive spFd(cc:Nat->Addr)(cw:Addr)(vs:List V)(H:Hp)(Q:VK)(E:XK):Prop|mk (H0:Hp) (a:Fo) (ss:LS) (ns:LN) (qs:LP) (S:FS) (dn wt:LS) (lo:V) (lr:Addr) (rg:LS) (m:Str) (xs:List V) (_:vs=[.ref a.x,.ref lr,.str m]) (_:FoA (cc 9) cw H0 H a ss ns qs S ss dn wt lo) (_:ss.length<=14) (_:H lr=some (.lst (rg.map V.str))) (_:lr∉a.six) (_:rg.length<=100) (_:H a.dg=some (.lst xs)) (_:xs.length<(dn++wt).length) (_:∀ H',FoA (cc 9) cw H0 H' a ss ns qs (S.setBas (wnL S ss rg m) m) ss dn wt lo->Bx a.six H H'->Q .non H')
theorem put_len{k:Key}{v u:V}(h:zh kvs k=some u):(zN kvs k v).length=kvs.length:=by
 unfold zN;rw[qas,h];show ya _
theorem qd7{Q:VK}(a:H n=some (.lst (ss.map V.str)))(q:Q (.bl (decide (z∈ss))) H):qeg K false (.str z) (.ref n) H Q:=
 .inl ⟨n,_,rfl,.inl (.of a),rfl,YM.mpr fun x b=>by(obtain⟨s,_,rfl⟩:=YF.mp b;rfl),by rw[yF (by decide),zA];show q⟩
theorem FoA.setB{a:Fo}{wt:LS}{ks:List (Key×V)}{l:LS}(h:FoA (cc 9) cw H0 H a ss ns qs (S.setBas l m) ss dn wt lo)(t:H a.ds=some (.dK ks))(hz:z∈ss):FoA (cc 9) cw H0 (upd H a.ds (.dK (zN ks (Sum.inr z) (.str m)))) a ss ns qs (S.setBas (l++[z]) m) ss dn wt lo/\ks.length<=ss.length:=by
 obtain⟨A,K,L,M⟩:=h.row;obtain⟨w,G,I,J⟩:=h.par;obtain⟨k,g,i,j⟩:=h.bas;obtain⟨xs,r,s⟩:=h.rng;rw[t] at g;cases g;obtain⟨⟨N,O,E,P,R⟩,⟨T,F,U,W⟩,⟨b,B,C⟩,⟨d,f⟩,D⟩:=(by simpa [Fo.six] using h.sep:(¬a.x=a.dr/\¬a.x=a.da/\¬a.x=a.ds/\¬a.x=a.dg/\¬a.x=a.dw)/\(¬a.dr=a.da/\¬a.dr=a.ds/\¬a.dr=a.dg/\¬a.dr=a.dw)/\(¬a.da=a.ds/\¬a.da=a.dg/\¬a.da=a.dw)/\(¬a.ds=a.dg/\¬a.ds=a.dw)/\¬a.dg=a.dw);have p:Bx a.six H (upd H a.ds (.dK (zN ks (Sum.inr z) (.str m)))):=fun c o n e=>by rw[qf (fun y=>n (by rw[y];simp[Fo.six]))];show e
 show⟨⟨qaT h.sm (h.fr _ (by simp[Fo.six])),h.web,h.prt,h.fr,h.nd,fun c hc=>⟨(h.exf c hc).1,(h.exf c hc).2.1,(h.exf c hc).2.2.elim fun o e=>⟨o,p _ _ (h.exf c hc).2.1 e⟩⟩,h.obj.eq (qf E),⟨A,by rw[qf F];show K,L,fun y=>(M y).mono p Fo.sub⟩,⟨w,by rw[qf b];show G,I,J⟩,⟨_,qb,by rw[put_len (j z hz)];show i,fun u v=>?_⟩,⟨xs,by rw[qf (Yh d)];show r,s⟩,by rw[qf (Yh f)];show h.wai,h.evn,h.evi,h.evs⟩,i⟩;rw[qba,j u v];show(if _ then _ else _)=some (V.str (if u∈l++[z] then m else S.bas u));have q:(S.setBas l m).bas u=if u∈l then m else S.bas u:=rfl;rw[q];by_cases e:u=z
 .subst e;rw[yI rfl,yI (by simp)]
 .rw [yF (fun x=>e (xS x))];by_cases y:u∈l
  .rw [yI y,yI (yG _ y)]
  .rw [yF y,yF (fun x=>(yz.mp x).elim y fun x=>e (yA.mp x))]
theorem FoA.updG{a:Fo}{bs wt:LS}(h:FoA (cc 9) cw H0 H a ss ns qs S bs dn wt lo)(m:xs.length<=(dn++wt).length):FoA (cc 9) cw H0 (upd H a.dg (.lst xs)) a ss ns qs S bs dn wt lo:=by
 obtain⟨p,A,B,C⟩:=h.row;obtain⟨n,v,w,z⟩:=h.par;obtain⟨k,i,j,l⟩:=h.bas;obtain⟨⟨D,E,F,t,G⟩,⟨I,J,u,K⟩,⟨q,b,r⟩,⟨d,s⟩,f⟩:=(by simpa [Fo.six] using h.sep:(¬a.x=a.dr/\¬a.x=a.da/\¬a.x=a.ds/\¬a.x=a.dg/\¬a.x=a.dw)/\(¬a.dr=a.da/\¬a.dr=a.ds/\¬a.dr=a.dg/\¬a.dr=a.dw)/\(¬a.da=a.ds/\¬a.da=a.dg/\¬a.da=a.dw)/\(¬a.ds=a.dg/\¬a.ds=a.dw)/\¬a.dg=a.dw);have g:Bx a.six H (upd H a.dg (.lst xs)):=(Bx.of (Sr H)).upd (by simp[Fo.six]);show⟨qaT h.sm (h.fr _ (by simp[Fo.six])),h.web,h.prt,h.fr,h.nd,fun c hc=>⟨(h.exf c hc).1,(h.exf c hc).2.1,(h.exf c hc).2.2.elim fun o e=>⟨o,g _ _ (h.exf c hc).2.1 e⟩⟩,h.obj.eq (qf t),⟨p,by rw[qf u];show A,B,fun y=>(C y).mono g Fo.sub⟩,⟨n,by rw[qf b];show v,w,z⟩,⟨k,by rw[qf d];show i,j,l⟩,⟨xs,qb,m⟩,by rw[qf (Yh f)];show h.wai,h.evn,h.evi,h.evs⟩
theorem ok_fdF(F:Fun K "fold" "Forest.fold" jO f fd)(T:Txt K mg cc cw)(KC:MethOk P w K mg base CX0 1 cw "places" ["self"] (spPls cw)):FnOk P w K mg base CX0 2 f fd ["self","ring","meeting"] (spFd cc cw):=by
 show F.ok KQ fun _ _ _ _ H vs Q E hr h=>?_
 .obtain⟨H0,a,ss,ns,qs,S,dn,wt,lo,lr,d,m,xs,rfl,h,an,af,aq,ar,ad,au,q⟩:=h;have B:=jQ hr;show⟨_,(qc (zQ (sc:=qg jO) (XN:=["self","ring","meeting","within","place"]) ["place","ring","self","meeting"] 1 [1,0,2] rfl rfl rfl (by room) rfl (by room) (i:=3) KQ.nd rfl rfl
  (qK (K:=K) rfl (ji KC (hmR hr) (qy (K:=K) rfl (pv 0) rfl))) (fun _ _ _ _=>(qt (i:=0) (show(["place","ring","self","meeting"]:LS).Nodup by room) rfl (yP rfl))) qN
  (fun _ _ _ _=>(qW (qk (zT (K:=K) rfl B) (qw (qx (K:=K) rfl B) (qy (K:=K) rfl (pv 2) rfl) (pv 0) (fun _ _=>rfl)) (qI (za (K:=K) rfl) (pv 1) (qM (qa (pv 3) qd))) (by with_unfolding_all rfl))))
  (fun _ _ _ _=>(pv 0)))
 (qc (jz yV rfl (qK (K:=K) rfl (pv 3)) (qt (i:=4) KQ.nd rfl (yP rfl))
 (qe (zg (pv 2) (zn (qy (K:=K) rfl (pv 0) rfl) (pv 4) (zr B)))))
 (qe (qR (qbO (K:=K) rfl yT Yj Yk jj (qy (K:=K) rfl (pv 0) rfl) (qa (pv 3) qd)))))),?_⟩
  have al:=h.few;have A:=h.web.same h.sm;obtain⟨wx,dd,ol,nn,hb,_⟩:=id A;apply .inl (h.obj.rd T 0 rfl ?_);show⟨a.b,wx,_,rfl,hb,zH (by room),?_⟩;apply⟨a.b,ss,ns,rfl,A,fun pl ag=>?_⟩;have s1:=qC (Sr H) (o:=.lst (ss.map V.str)) ag;have Y:upd H pl (.lst (ss.map V.str)) pl=some (.lst (ss.map V.str)):=qb;generalize upd H pl (.lst (ss.map V.str))=H1 at s1 Y;show .inl ⟨⟨_,.of Y⟩,qG (xs:=ss.map V.str) (fun i ys J=>L2.Same H1 J/\ys=((ss.take i).filter fun u=>decide (S.bas u∈d++[m])).map V.str) ⟨L2.Same.refl H1,rfl⟩ (fun i ys J _ g=>.of (g.1 _ _ Y)) (fun i y ys J G g=>?_) fun ys J g=>?_⟩
  .obtain⟨I,rfl⟩:=g;rw[yd] at G;obtain⟨z,hz,rfl⟩:=yn.mp G;have j:=s1.trans I;have l:=h.same j;obtain⟨ks,N,b2,b3⟩:=l.bas;have ao:=(yc.mp hz).1
   have r:(ss.take (i+1)).filter (fun u=>decide (S.bas u∈d++[m]))=(ss.take i).filter (fun u=>decide (S.bas u∈d++[m]))++(if S.bas z∈d++[m] then [z] else []):=by
    rw[yD,hz,yZ];show _++[z].filter _=_;rw[yS];simp only[kK,Yq]
   apply .inl (l.obj.rd T 4 rfl ?_);apply qeh N (b3 z (ye hz)) ?_;apply⟨by show 1<=sizeLine;decide,fun W aa=>?_⟩;have t1:=qC (Sr J) (o:=.lst [.str m]) aa;have s:upd J W (.lst [.str m]) W=some (.lst [.str m]):=qb;generalize upd J W (.lst [.str m])=J1 at t1 s;show qet ((j.trans t1) _ _ af) s (by rw[ya];show _+1<=_;lk) fun X ac=>?_;have t2:=qC t1 (o:=.lst (d.map V.str++[.str m])) ac;have t:upd J1 X (.lst (d.map V.str++[.str m])) X=some (.lst ((d++[m]).map V.str)):=by rw[qb,yC];rfl
   generalize upd J1 X (.lst (d.map V.str++[.str m]))=J2 at t2 t;show qd7 t ⟨_,rfl,?_⟩;rw[r];by_cases p:S.bas z∈d++[m]
   .rw [yL p,yI p];show jU ?_;ext;have ae:=yE (fun u=>decide (S.bas u∈d++[m])) (ss.take i);rw[yK] at ae;show⟨by rw[ya];show qh (by lk),I.trans t2,by rw[yC];rfl⟩
   .rw [yl p,yF p,Yd];show yq ?_;show⟨I.trans t2,rfl⟩
  .obtain⟨I,rfl⟩:=g;rw[show(ss.map V.str).length=ss.length from ya _,yM];have j:=s1.trans I;have ai:(ss.filter fun u=>decide (S.bas u∈d++[m])).length<=ss.length:=yE _ _;show⟨by rw[ya];show yR (qh (by lk)),fun M C=>?_⟩;have O:=qC j (o:=.lst ((wnL S ss d m).map V.str)) C;have Z:upd J M (.lst ((wnL S ss d m).map V.str)) M=some (.lst ((wnL S ss d m).map V.str)):=qb;have am:(wnL S ss d m).length<=ss.length:=ai;have aj:∀ u∈wnL S ss d m,u∈ss:=fun u B=>(yp.mp B).1;show qfR _ _ _ _ (upd J M (.lst ((wnL S ss d m).map V.str)));generalize wnL S ss d m=L at *;have D:=(h.same j).new C;generalize upd J M (.lst (L.map V.str))=H2 at O Z;have h2:=h.same O;apply .inl ⟨⟨_,.of Z⟩,jd (xs:=L.map V.str) (fun i R J=>Bx a.six H2 J/\(∀ o,H2 a.dg=some o->J a.dg=some o)/\FoA (cc 9) cw H0 J a ss ns qs (S.setBas (L.take i) m) ss dn wt lo/\∃ y4,R=[some (.ref a.x),some (.ref lr),some (.str m),some (.ref M),y4]) ⟨fun c o _ e=>e,fun _ e=>e,?_,_,rfl⟩ (fun i R J _ g=>.of (g.1 _ _ D Z)) (fun i y R J G g=>?_) fun R J g=>?_⟩
   .have:S.setBas ([]:LS) m=S:=by unfold FS.setBas;simp
    rw[YI,this];show h2
   .obtain⟨U,hg,l,y4,rfl⟩:=g;rw[yd] at G;obtain⟨z,hz,rfl⟩:=yn.mp G;obtain⟨ks,N,b2,b3⟩:=l.bas;have ah:L.take (i+1)=L.take i++[z]:=by rw[yD,hz];rfl
    obtain⟨h3,ap⟩:=l.setB N (aj z (ye hz));apply .inl (l.obj.rd T 4 rfl ?_);apply .inr ⟨a.ds,_,rfl,DPut.k (k:=Sum.inr z) N (by rw[YO];lk),?_⟩;have ak:a.dg≠a.ds:=fun e=>by have:=h.nd;rw[e] at this;simp at this
    show⟨fun c o n e=>by rw[qf (fun y=>n (by rw[y];simp[Fo.six]))];show U c o n e,fun o e=>by rw[qf ak];show hg o e,by rw[ah];show h3,_,rfl⟩
   .obtain⟨U,hg,l,y4,rfl⟩:=g;rw[ya,yM] at l;have v:=hg _ (O _ _ ad);apply .inl (l.obj.rd T 5 rfl ?_);show⟨.inl ⟨rfl,_,.of v⟩,?_⟩;apply⟨a.dg,_,_,rfl,rfl,v,qh (by lk),?_⟩;show q _ (l.updG (by rw[yt];simp only[yw,xl];lk)) ((Bx.of O).trans U |>.upd (by simp[Fo.six]))
theorem Kj:FnScope ["self","one","other","ones","others","meeting","ring"] ["self","one","other"] (qg qL):=fS
structure Mono(S S':FS):Prop where
 ba:∀ u v,S.bas u=S.bas v->S'.bas u=S'.bas v
 pa:∀ u,S.par u≠none->S'.par u≠none
 ro:∀ u r,S.rows u=some r->S'.rows u=some r
theorem Mono.refl(S:FS):Mono S S:=⟨fun _ _ e=>e,fun _ e=>e,fun _ _ e=>e⟩
theorem Mono.trans{c:FS}(a:Mono S S')(b:Mono S' c):Mono S c:=⟨fun u v e=>b.ba u v (a.ba u v e),fun u e=>b.pa u (a.pa u e),fun u r e=>b.ro u r (a.ro u r e)⟩
structure Wb(A:Str->Str->Prop)(ss:LS)(qs:LP):Prop where
 gr:Gr A (pt qs)
 inn:∀ a b,A a b->a∈ss
 qn:(qj qs).Nodup
 few:ss.length<=14
 nd:ss.Nodup
theorem Alt.inn(W:Wb A ss qs)(h:Alt A (pt qs) r v)(hv:v∈ss):r.length<=14/\∀ u∈r,u∈ss:=by
 have a:∀ u∈r,u∈ss:=fun u f=>by
  obtain⟨j,d⟩:=yf f;obtain⟨g,e⟩:=h.tl;by_cases hl:j+1<r.length
  .obtain⟨b,hb⟩:∃ b,r[j+1]?=some b:=⟨_,yb hl⟩;show W.inn _ _ (h.st j u b d hb).1
  .have c:=(yc.mp d).1;have:j=g.length:=by rw[e,yt] at c hl;simp at c hl;lk
   rw[e,this,yB (yh _),Xy] at d;rw[<- ym d];show hv
 show⟨yi (jM h.nd a) W.few,a⟩
theorem qdt(l':LS):∀{l:LS},(∃ d∈l,d∈l')->∃ l1 m l2,l=l1++m::l2/\m∈l'/\(∀ d∈l1,d∉l')/\∃ t,l.filter (fun d=>decide (d∈l'))=m::t
 | [],⟨_,h,_⟩=>by cases h
 | x::r,h=>by
  by_cases b:x∈l'
  .show⟨[],x,r,rfl,b,(fun _ h=>by cases h),_,by rw[yS,yI (yL b)]⟩
  .obtain⟨d,i,a⟩:=h;obtain⟨l1,m,l2,c,e,f,t,g⟩:=qdt l' (l:=r) ⟨d,(yx.mp i).resolve_left (fun z=>b (by rw[<- z];show a)),a⟩;show⟨x::l1,m,l2,by rw[c];rfl,e,fun y hy=>?_,t,by rw[yS,yF (by simpa using b)];show g⟩;rcases yx.mp hy with rfl | hy
   .show b
   .show f y hy
inductive spBt(cc:Nat->Addr)(cw:Addr)(vs:List V)(H:Hp)(Q:VK)(E:XK):Prop|mk (H0:Hp) (a:Fo) (ss:LS) (ns:LN) (qs:LP) (S:FS) (dn wt:LS) (v w:Str) (rv rw:LS) (A:Str->Str->Prop) (_:vs=[.ref a.x,.str v,.str w]) (_:FoA (cc 9) cw H0 H a ss ns qs S ss dn wt .non) (_:Wb A ss qs) (_:FI A (pt qs) S) (_:S.rows v=some rv) (_:S.rows w=some rw) (_:A v w) (_:(∀(H':Hp) (S':FS) (more:LS),FoA (cc 9) cw H0 H' a ss ns qs S' ss dn (wt++more) .non->Bx a.six H H'->FI A (pt qs) S'->S'.bas v=S'.bas w->Mono S S'->Q .non H')) (_:∀(H':Hp) (t:Addr) (r:LS),FoA (cc 9) cw H0 H' a ss ns qs S ss dn wt (.ref t)->Bx a.six H H'->H' t=some (.lst (r.map V.str))->t∉a.all->Aug A (pt qs) r->r.length<=28->Q .non H')
theorem qeR{d:Str}{Q:VK}(q:Q (.bl (!decide (c=d))) H):qep K true (.str c) (.str d) H Q:=by
 show .inl ⟨rfl,rfl,?_⟩;rw[yI rfl]
 have e:eqV (.str c) (.str d)=decide (c=d):=by
  by_cases h:c=d
  .subst h;simp[eqV]
  .simp [eqV,h]
 rw[e];show q
theorem FoA.setL{a:Fo}{bs wt:LS}{fs:List (Str×V)}{v:V}(h:FoA (cc 9) cw H0 H a ss ns qs S bs dn wt .non)(s:H a.x=some (.ins (cc 9) dx fs))(hv:v≠.non):fs.length<1000/\FoA (cc 9) cw H0 (upd H a.x (.ins (cc 9) dx (qJ "longer" v fs))) a ss ns qs S bs dn wt v:=by
 obtain⟨m,n,g,K,G,I,J⟩:=h.obj;rw[s] at g;cases g;have hl:=G rfl;obtain⟨w,D,E,F⟩:=h.row;obtain⟨t,A,B,C⟩:=h.par;obtain⟨k,i,j,l⟩:=h.bas;obtain⟨xs,p,q⟩:=h.rng;have r:=h.sep;have nx:∀{c:Addr},c∈[a.dr,a.da,a.ds,a.dg,a.dw]->c≠a.x:=fun hc e=>(yo.mp r).1 (by rw[<- e];show hc);have d:Bx a.six H (upd H a.x (.ins (cc 9) dx (qJ "longer" v fs))):=(Bx.of (Sr H)).upd (by simp[Fo.six]);show⟨by lk,qaT h.sm (h.fr _ (by simp[Fo.six])),h.web,h.prt,h.fr,h.nd,fun c hc=>⟨(h.exf c hc).1,(h.exf c hc).2.1,(h.exf c hc).2.2.elim fun o e=>⟨o,d _ _ (h.exf c hc).2.1 e⟩⟩,⟨dx,_,qb,yi (jG _ _ _) (by lk),fun e=>absurd e hv,fun f u b=>?_,fun f b=>?_⟩,⟨w,by rw[qf (nx (by simp))];show D,E,fun y=>(F y).mono d Fo.sub⟩,⟨t,by rw[qf (nx (by simp))];show A,B,C⟩,⟨k,by rw[qf (nx (by simp))];show i,j,l⟩,⟨xs,by rw[qf (nx (by simp))];show p,q⟩,by rw[qf (nx (by simp))];show h.wai,h.evn,h.evi,h.evs⟩
 .rw [qD];by_cases e:f="longer"
  .rw [yI e];subst e;have:(Str.ofString "longer",u)∈a.tab v:=b;simp only[Fo.tab,yx,XG,yQ,Yv] at this;rcases this with⟨z,_⟩ | ⟨z,_⟩ | ⟨z,_⟩ | ⟨z,_⟩ | ⟨z,_⟩ | ⟨z,_⟩ | ⟨z,_⟩ | ⟨_,z⟩<;>first | show absurd z (by room) | show congrArg some z.symm
  .rw [yF e];show I f u ?_;have:(f,u)∈a.tab v:=b;simp only[Fo.tab,yx,XG,yQ,Yv] at this ⊢;rcases this with z | z | z | z | z | z | z | ⟨z,_⟩
   all_goals first | show absurd z e | simp[z]
 .rw [qD,yF (fun e=>b (by rw[e];room))];show J f b
theorem FoA.rowAt{a:Fo}{bs wt:LS}(h:FoA (cc 9) cw H0 H a ss ns qs S bs dn wt lo)(e:S.rows u=some r){Q:VK}(q:∀ t,H t=some (.lst (r.map V.str))->Q (.ref t) H):qfA K (.ref a.dr) (.str u) H Q:=by
 obtain⟨g,d,_,f⟩:=h.row;have:=f u;rw[e] at this;obtain⟨t,b,c,_⟩:=this;show qeh d b (q t c)
theorem ok_bt(F:Fun K "bring_together" "Forest.bring_together" qL f fd)(T:Txt K mg cc cw)(KD:MethOk P w K mg base CX0 1 (cc 9) "bases_down_from" ["self","place"] (spBd cc cw))(KM:MethOk P w K mg base CX0 2 (cc 9) "reach_round" ["self","one","other","bases"] (spRr cc cw))(uS:MethOk P w K mg base CX0 2 (cc 9) "fold" ["self","ring","meeting"] (spFd cc cw)):FnOk P w K mg base CX0 3 f fd ["self","one","other"] (spBt cc cw):=by
 show F.ok Kj fun _ _ _ _ H vs Q E hr h=>?_
 .obtain⟨H0,a,ss,ns,qs,S,dn,wt,v,w,rv,g,B,rfl,h,b,I,hv,hw,ch,q1,q2⟩:=h;have M:=jQ hr;have Y:∀{v:Str} {r:LS},S.rows v=some r->v∈ss:=fun e=>h.evs _ ((h.evi _).mpr (by rw[e];show fun z=>by cases z));obtain⟨l,hl⟩:=I.chainOf hv;obtain⟨l',D⟩:=I.chainOf hw;have ai:=hl.nd I hv rfl;have C:=D.nd I hw rfl;have Z:l.length<=14:=yi (jM ai fun c hc=>(hl.bs0 I hv hc).elim fun r z=>Y z.1) b.few;have L:l'.length<=14:=yi (jM C fun c hc=>(D.bs0 I hw hc).elim fun r z=>Y z.1) b.few;obtain⟨au,dw⟩:=(I.alt v rv hv).inn b (Y hv);obtain⟨al,dy⟩:=(I.alt w g hw).inn b (Y hw);obtain⟨lx,c,ax⟩:∃ lx c,l=lx++[c]:=by obtain⟨t,e⟩:=hl.ne;show⟨_,_,(Y4 (by rw[e];show kT _ _)).symm⟩
  obtain⟨ly,d,ay⟩:∃ ly d,l'=ly++[d]:=by obtain⟨t,e⟩:=D.ne;show⟨_,_,(Y4 (by rw[e];show kT _ _)).symm⟩
  show⟨_,(qc (qq (i:=3) Kj.nd rfl (yP rfl) (qB KD (hmR hr) (pv 0) (qa (pv 1) qd)))
 (qc (qq (i:=4) Kj.nd rfl (XB rfl) (qB KD (hmR hr) (pv 0) (qa (pv 2) qd)))
 (qe (qH (qk (zS (K:=K) rfl M) (qw (qx (K:=K) rfl M) (pv 3) (qa0 zD qi) (fun _ _=>rfl)) (qw (qx (K:=K) rfl M) (pv 4) (qa0 zD qi) (fun _ _=>rfl)) (qu _)) (qe (jV (K:=K) rfl (pv 0) (qI (za (K:=K) rfl) (qw (qx (K:=K) rfl M) (qy (K:=K) rfl (pv 0) rfl) (pv 1) (fun _ _=>rfl)) (qeN (K:=K) rfl (qw (qx (K:=K) rfl M) (qy (K:=K) rfl (pv 0) rfl) (pv 2) (fun _ _=>rfl)) (jo (qa0 zD qi)))) rfl)) (qe (qH (qk (zS (K:=K) rfl M) (qw (qx (K:=K) rfl M) (pv 3) qi (fun _ _=>rfl)) (qw (qx (K:=K) rfl M) (pv 4) qi (fun _ _=>rfl)) (qu _)) (qc (qq (i:=5) Kj.nd rfl (yP rfl) (qw (qx (K:=K) rfl M) (jh (sc:=qg qL) (XN:=["self","one","other","ones","others","meeting","ring"]) ["base","others"] 1 [4] rfl rfl rfl (by room) rfl (by room)
  (qK (K:=K) rfl (pv 3)) (fun _ _ _ _=>(qt (i:=0) (show(["base","others"]:LS).Nodup by room) rfl (yP rfl))) qN
  (fun _ _ _ _=>(qW (qk (zT (K:=K) rfl M) (pv 0) (pv 1) (by with_unfolding_all rfl))))
  (fun _ _ _ _=>(pv 0))) qi (fun _ _=>rfl)))
 (qc (qq (i:=6) Kj.nd rfl (yP rfl) (qB KM (hmR hr) (pv 0) (qa (pv 1) (qa (pv 2) (qa (jx (qdF (K:=K) rfl) (pv 3) jS (jo (qbO (K:=K) rfl yT Xg XM (qcR (K:=K) rfl) (pv 3) (qa (pv 5) qd)))) qd)))))
 (qc (qR (qbO (K:=K) rfl yT PySem.F.slot_list_extend PySem.F.type_list_extend qbQ (pv 6) (qa (qB KM (hmR hr) (pv 0) (qa (pv 2) (qa (pv 1) (qa (jx (qdF (K:=K) rfl) (pv 4) jS (jo (qbO (K:=K) rfl yT Xg XM (qcR (K:=K) rfl) (pv 4) (qa (pv 5) qd)))) qd)))) qd)))
 (qe (qR (qB uS (hmR hr) (pv 0) (qa (pv 6) (qa (pv 5) qd)))))))) qo)))))),?_⟩
  ext;obtain⟨dx,fs,ak,_,_,_,ba⟩:=id h.obj;show⟨a.x,dx,fs,rfl,ak,ba _ (by room),?_⟩;apply⟨H0,a,ss,ns,qs,S,dn,wt,.non,v,rv,l,B,rfl,h,b.few,I,hv,hl,Z,fun o1 H1 s1 dm cx=>?_⟩;apply⟨a.x,dx,fs,rfl,s1 _ _ ak,ba _ (by room),?_⟩;apply⟨H0,a,ss,ns,qs,S,dn,wt,.non,w,g,l',B,rfl,h.same s1,b.few,I,hw,D,L,fun o2 H2 s2 dp am=>?_⟩;have aq:=s1.trans s2;have h2:=h.same aq;have R:=s2 _ _ cx;have du:=h.newA dm;have dv:=(h.same s1).newA dp;apply⟨1,rfl,?_⟩;show .inl (qag R (v:=.str c) (by rw[ax];show atI_last) ?_);apply⟨1,rfl,?_⟩;show .inl (qag am (v:=.str d) (by rw[ay];show atI_last) ?_);show qeR ⟨_,rfl,?_⟩;by_cases an:c=d
  .rw [yL an];show yq ?_;obtain⟨t0,X⟩:=hl.ne;obtain⟨eh,A⟩:=D.ne;apply .inl (qag R (v:=.str (S.bas v)) (qE (j:=0) (by rw[X];rfl)) ?_);apply .inl (qag am (v:=.str (S.bas w)) (qE (j:=0) (by rw[A];rfl)) ?_);show qeR ⟨_,rfl,?_⟩;by_cases ag:S.bas v=S.bas w
   .rw [yL ag];show yq ?_;show q1 H2 S [] (by rw[Yd];show h2) (Bx.of aq) I ag (Mono.refl S)
   .rw [yl ag];show jU ?_;obtain⟨l1,m,l2,U,aj,ao,tf,br⟩:=qdt l' (l:=l) ⟨c,by rw[ax];simp,by rw[ay,an];simp⟩;obtain⟨m1,m2,O⟩:=Yp aj;obtain⟨cv,dh⟩:=hl.meet I hv hw D U O ao;rw[cv] at O;have eb:m∉m1:=fun z=>by rw[O] at C;show(Yb.mp C).2.2 m z m (by simp) rfl
    have dz:m∉l1:=fun z=>ao m z aj;apply .inl ⟨⟨_,.of R⟩,qG (xs:=l.map V.str) (fun i ys J=>J=H2/\ys=((l.take i).filter fun d=>decide (d∈l')).map V.str) ⟨rfl,rfl⟩ (fun i ys J _ hp=>by rw[hp.1];show .of R) (fun i y ys J hy hp=>?_) fun ys J hp=>?_⟩
    .obtain⟨rfl,rfl⟩:=hp;rw[yd] at hy;obtain⟨z,hz,rfl⟩:=yn.mp hy
     have az:(l.take (i+1)).filter (fun d=>decide (d∈l'))=(l.take i).filter (fun d=>decide (d∈l'))++(if z∈l' then [z] else []):=by
      rw[yD,hz,yZ];show _++[z].filter _=_;rw[yS];simp only[kK,Yq]
     have ee:=(yc.mp hz).1;have dj:=yE (fun d=>decide (d∈l')) (l.take i);rw[yK] at dj;apply qd7 am ⟨_,rfl,?_⟩;rw[az];by_cases G:z∈l'
     .rw [yL G,yI G];show jU ?_;apply⟨by rw[ya];show qh (by lk),rfl,by rw[yC];rfl⟩
     .rw [yl G,yF G,Yd];show yq ?_;show⟨rfl,rfl⟩
    .obtain⟨rfl,rfl⟩:=hp;rw[show(l.map V.str).length=l.length from ya _,yM,br];have dr:=yE (fun d=>decide (d∈l')) l;rw[br] at dr;show⟨by rw[ya];show yR (qh (by lk)),fun cl bu=>?_⟩;have s3:=qC aq (o:=.lst ((m::tf).map V.str)) bu;have bd:=qC (Sr J) (o:=.lst ((m::tf).map V.str)) bu;have bi:upd J cl (.lst ((m::tf).map V.str)) cl=some (.lst ((m::tf).map V.str)):=qb;generalize upd J cl (.lst ((m::tf).map V.str))=H3 at s3 bd bi;apply .inl (qag bi (v:=.str m) (qE (j:=0) rfl) ?_);have h3:=h.same s3;have ae:=bd _ _ R;have bn:=bd _ _ am;apply⟨a.x,dx,fs,rfl,s3 _ _ ak,ba _ (by room),?_⟩;apply⟨.inl ⟨rfl,_,.of ae⟩,?_⟩;apply⟨o1,l,m,rfl,rfl,.of ae,by rw[U];simp,_,rfl,?_⟩;rw[show l.idxOf m=l1.length by rw[U] at ai ⊢;show qcW ai];apply .inl ⟨o1,_,rfl,.of ae,fun c1 aa=>?_⟩;have bj:qc5 (l.map V.str) none (some ((l1.length:Nat):Int))=l1.map V.str:=by rw[qaR,U,yC,List.take_left' (by simp)]
     rw[bj];have s4:=qC s3 (o:=.lst (l1.map V.str)) aa;have cq:=qC (Sr H3) (o:=.lst (l1.map V.str)) aa;have ac:upd H3 c1 (.lst (l1.map V.str)) c1=some (.lst (l1.map V.str)):=qb;have n1:=h3.new aa;generalize upd H3 c1 (.lst (l1.map V.str))=H4 at s4 cq ac;have h4:=h.same s4
     have av:∀{x y:Str} {rx k W:LS},S.rows x=some rx->(∀ u∈rx,u∈ss)->Ch (pt qs) S (S.bas x) k->k=W++m::l2->∀ c∈W,∃ q rz t,pt qs c=some q/\S.rows q=none/\q∈ss/\rx=rz++q::t:=fun{x y rx k W} hx hs hk ek c hc=>by
      obtain⟨a',b',ea⟩:=Yp hc;have bm:k=a'++c::(b'++m::l2):=by rw[ek,ea];simp
      obtain⟨_,_,_,_,g3,_⟩:=hk.up I hx rfl bm;rcases g3.cases' with⟨_,z⟩ | ⟨q,_,hq,_⟩
      .simp at z
      .obtain⟨rz,t,W,_,k3,_⟩:=hk.suf I hx bm hq;show⟨q,rz,_,hq,k3,hs q (by rw[W];simp),W⟩
     apply⟨H0,a,ss,ns,qs,S,dn,wt,.non,v,w,c1,l1,rv,g,rfl,h4,b.few,ac,n1,hv,hw,au,al,(I.alt v rv hv).nd,?_,?_,b.qn,av (y:=v) hv dw hl U,fun N p ap H5 S1 h5 bf cg bo ca cd bx R1 dk=>?_⟩
     .rw [U] at ai;show(Yb.mp ai).1
     .rw [U,yt] at Z;lk
     have ed:o1∉a.six:=fun z=>du (Fo.sub _ z);have cp:o2∉a.six:=fun z=>dv (Fo.sub _ z);have af:=bf _ _ cp (cq _ _ bn);apply⟨.inl ⟨rfl,_,.of bo⟩,?_⟩;ext;obtain⟨ct,db,cj,_,_,_,cm⟩:=id h5.obj;show⟨a.x,ct,db,rfl,cj,cm _ (by room),?_⟩;apply⟨.inl ⟨rfl,_,.of af⟩,?_⟩;apply⟨o2,l',m,rfl,rfl,.of af,aj,_,rfl,?_⟩;rw[show l'.idxOf m=m1.length by rw[O] at C ⊢;show qcW C];apply .inl ⟨o2,_,rfl,.of af,fun c2 ah=>?_⟩;have aw:qc5 (l'.map V.str) none (some ((m1.length:Nat):Int))=m1.map V.str:=by rw[qaR,O,yC,List.take_left' (by simp)]
     rw[aw];have s6:=qC (Sr H5) (o:=.lst (m1.map V.str)) ah;have ad:upd H5 c2 (.lst (m1.map V.str)) c2=some (.lst (m1.map V.str)):=qb;have n2:=h5.new ah;generalize upd H5 c2 (.lst (m1.map V.str))=H6 at s6 ad;have h6:=h5.same s6
     have co:∀ c∈m1,∀ q,pt qs c=some q->S.rows q=none->S1.rows q=none:=fun c hc q hq hn=>by
      cases e:S1.rows q with
      | none=>rfl
      | some r =>
       exfalso;rcases R1.new q r e with z | ⟨c',hc',z,_⟩
       .rw [hn] at z;cases z
       .have e1:=b.gr.fs z;rw[b.gr.fs hq] at e1;rw[<- ym e1] at hc';show ao c hc' (by rw[O];show yG _ hc)
     apply⟨H0,a.add N,ss,ns,qs,S1,dn,wt++ap,.non,w,v,c2,m1,g,rv,rfl,h6,b.few,ad,n2,R1.old _ _ hw,R1.old _ _ hv,al,au,(I.alt w g hw).nd,?_,?_,b.qn,fun c hc=>?_,fun t2 s bc H7 S2 h7 bg ef cy cb ce bz R2 dl=>?_⟩
     .rw [O] at C;show(Yb.mp C).1
     .rw [O,yt] at L;lk
     .obtain⟨q,rz,t,W,k2,k3,k4⟩:=av (y:=v) hw dy D O c hc;show⟨q,rz,t,W,co c hc q W k2,k3,k4⟩
     have be:N∉a.six:=h4.new cg;have bp:H7 N=some (.lst (p.map V.str)):=bg _ _ be (s6 _ _ bo);apply⟨N,t2,_,_,rfl,rfl,bp,cy,by rw[ya,ya,YO];rw[U,yt] at Z;rw[O,yt] at L;lk,?_⟩;have h8:=h7.updE (c:=N) (o:=.lst (p.map V.str++s.map V.str)) (by simp[Fo.add]);obtain⟨xs,di,eg⟩:=h.rng;have bv:=dl _ (s6 _ _ (dk _ (s4 _ _ di)));have dt:a.dg≠N:=fun z=>be (by rw[<- z];simp[Fo.six]);have bq:upd H7 N (.lst (p.map V.str++s.map V.str)) N=some (.lst ((p++s).map V.str)):=by rw[qb,yC]
     have ar:upd H7 N (.lst (p.map V.str++s.map V.str)) a.dg=some (.lst xs):=by rw[qf dt];show bv
     have bh:Bx a.six H (upd H7 N (.lst (p.map V.str++s.map V.str))):=fun e o n k=>by
      have ne:e≠N:=fun z=>by rw[z,s4.free cg] at k;cases k
      rw[qf ne];show bg _ _ n (s6 _ _ (bf _ _ n (s4 _ _ k)))
     generalize upd H7 N (.lst (p.map V.str++s.map V.str))=H8 at h8 bq ar bh
     have ec:0<ap.length+bc.length:=by
      rw[bx,bz];rcases l1 with _ | ⟨x,r⟩
      .rcases m1 with _ | ⟨x,r⟩
       .rw [U] at X;rw[O] at A;show absurd ((xF X).1.symm.trans (xF A).1) ag
       .simp
      .simp;lk
     ext;obtain⟨cu,dc,ck,_,_,_,cn⟩:=id h8.obj;show⟨a.x,cu,dc,rfl,ck,cn _ (by room),?_⟩;apply⟨H0,(a.add N).add t2,ss,ns,qs,S2,dn,wt++ap++bc,.non,N,p++s,m,xs,rfl,h8,b.few,bq,be,?_,ar,?_,fun H9 h9 cs=>?_⟩
     .rw [yt,cd,ce];rw[U,yt] at Z;rw[O,yt] at L;lk
     .rw [<- Yc,<- Yc,yt,yt (as:=dn++wt)];lk
     have dq:∀ u,u∈p++s++[m]↔InR (pt qs) m (l1++m1) u:=fun u=>by
      rw[yz,yz,ca,cb,yA];unfold InR;constructor
      .rintro ((⟨c,hc,z⟩ | ⟨c,hc,z⟩) | z)
       .show .inr ⟨c,yG _ hc,z⟩
       .show .inr ⟨c,yH _ hc,z⟩
       .show .inl z
      .rintro (z | ⟨c,hc,z⟩)
       .show .inr z
       .rcases yz.mp hc with y | y
        .show .inl (.inl ⟨c,y,z⟩)
        .show .inl (.inr ⟨c,y,z⟩)
     have bt:S2.bas=S.bas:=by rw[R2.bas,R1.bas]
     have bw:∀ u,InR (pt qs) m (l1++m1) (S.bas u)->u∈ss:=fun u M=>by
      cases e:S.rows u with
      | some r=>show Y e
      | none =>
       rw[I.own e] at M;rcases M with z | ⟨c,hc,z⟩
       .obtain⟨r,k,_⟩:=hl.bs0 I hv (c:=m) (by rw[U];simp);rw[z];show Y k
       .have df:∃ r,S.rows c=some r:=by
         rcases yz.mp hc with y | y
         .show(hl.bs0 I hv (by rw[U];show yG _ y)).elim fun r k=>⟨r,k.1⟩
         .show(D.bs0 I hw (by rw[O];show yG _ y)).elim fun r k=>⟨r,k.1⟩
        obtain⟨r,k⟩:=df;rcases z with z | z
        .rw [z];show Y k
        .show b.inn _ _ (b.gr.as (b.gr.fa z))
     have hM:Mg (pt qs) S (S2.setBas (wnL S2 ss (p++s) m) m) v w m l1 m1:=by
      have ci:∀ u,u∈wnL S2 ss (p++s) m↔u∈ss/\InR (pt qs) m (l1++m1) (S.bas u):=fun u=>by
       unfold wnL;rw[yp,Yg,dq,bt]
      have nr:∀{u:Str} {r:LS},NewRow S1 w v u r->NewRow S w v u r:=fun⟨a1,a2,a3,a4,W,k2,k3⟩=>by
       rw[R1.old _ _ hw] at W;rw[R1.old _ _ hv] at k2;cases W;cases k2;show⟨_,_,a3,a4,hw,hv,k3⟩
      show⟨by show S2.par=S.par;rw[R2.par,R1.par],fun u r e=>R2.old _ _ (R1.old _ _ e),fun u r e=>?_,fun c hc q hq=>?_,fun u M=>?_,fun u M=>?_⟩
      .rcases R2.new u r e with z | ⟨c,hc,W,k2⟩
       .rcases R1.new u r z with z | z
        .show .inl z
        .show .inr (.inl z)
       .show .inr (.inr ⟨c,hc,W,nr k2⟩)
      .rcases yz.mp hc with y | y
       .obtain⟨r,k⟩:=R1.all c y q hq;show⟨r,R2.old _ _ k⟩
       .show R2.all c y q hq
      .show(if u∈wnL S2 ss (p++s) m then m else S2.bas u)=m;rw[yI ((ci u).mpr ⟨bw u M,M⟩)]
      .show(if u∈wnL S2 ss (p++s) m then m else S2.bas u)=S.bas u;rw[yF (fun z=>M ((ci u).mp z).2),bt]
     have hI:=I.merge b.gr hv hw (U ▸ hl) (O ▸ D) (O ▸ ao) (U ▸ dh) ch ag hM
     have dd:InR (pt qs) m (l1++m1) (S.bas v):=by
      rcases l1 with _ | ⟨x,r⟩
      .rw [U] at X;cases X;show .inl rfl
      .rw [U] at X;cases X;show .inr ⟨_,by simp,.inl rfl⟩
     have de:InR (pt qs) m (l1++m1) (S.bas w):=by
      rcases m1 with _ | ⟨x,r⟩
      .rw [O] at A;cases A;show .inl rfl
      .rw [O] at A;cases A;show .inr ⟨_,by simp,.inl rfl⟩
     show q1 H9 _ (ap++bc) ?_ (bh.trans cs) hI ((hM.inn v dd).trans (hM.inn w de).symm) ⟨fun u z e=>?_,fun u e=>by rw[hM.par];show e,hM.old⟩
     .rw [<- Yc];show h9.drop (l:=a.ex) fun c hc=>by simp[Fo.add,hc]
     .by_cases G:InR (pt qs) m (l1++m1) (S.bas u)
      .rw [hM.inn u G,hM.inn z (by rw[<- e];show G)]
      .rw [hM.out u G,hM.out z (by rw[<- e];show G),e]
  .rw [yl an];show jU ?_;apply .inl (h2.obj.rd T 2 rfl ?_);apply h2.rowAt hv fun tv cz=>?_;apply qgi ?_;apply .inl (h2.obj.rd T 2 rfl ?_);apply h2.rowAt hw fun tw da=>?_;apply⟨1,rfl,?_⟩;show⟨_,rfl,rfl,tw,_,rfl,.of da,fun c1 aa=>?_⟩;have N:=qC aq (o:=.lst (g.map V.str).reverse) aa;have cr:=qC (Sr H2) (o:=.lst (g.map V.str).reverse) aa;have ac:upd H2 c1 (.lst (g.map V.str).reverse) c1=some (.lst (g.reverse.map V.str)):=by rw[qb,List.map_reverse]
   generalize upd H2 c1 (.lst (g.map V.str).reverse)=H3 at N cr ac;show qet (cr _ _ cz) ac (by rw[ya,ya,YG];lk) fun c2 ah=>?_;have n2:=(h.same N).newA ah;have t2:=qC N (o:=.lst (rv.map V.str++g.reverse.map V.str)) ah;have ad:upd H3 c2 (.lst (rv.map V.str++g.reverse.map V.str)) c2=some (.lst ((rv++g.reverse).map V.str)):=by rw[qb,yC]
   generalize upd H3 c2 (.lst (rv.map V.str++g.reverse.map V.str))=H4 at t2 ad;obtain⟨W,k2⟩:=(h.same t2).setL (v:=.ref c2) (t2 _ _ ak) (fun e=>by cases e);apply .inl ⟨a.x,cc 9,dx,fs,rfl,t2 _ _ ak,T.fcl,T.fa _ (by room),W,?_⟩;have ds:c2≠a.x:=fun z=>n2 (Fo.sub _ (by rw[z];simp[Fo.six]));show q2 _ c2 _ k2 ((Bx.of t2).upd (by simp[Fo.six])) (by rw[qf ds];show ad) n2 (I.aug b.gr hv hw hl D (by rw[ax,ay];simpa using an) ch) (by rw[yt,YG];lk)
theorem Kv:FnScope ["self","place","other","partner"] ["self","place"] (qg jg):=fS
noncomputable def FS.setPar(S:FS)(u p:Str):FS:=⟨S.rows,fun s=>if s=u then some p else S.par s,S.bas⟩
inductive spLa(cc:Nat->Addr)(cw:Addr)(vs:List V)(H:Hp)(Q:VK)(E:XK):Prop|mk (H0:Hp) (a:Fo) (ss:LS) (ns:LN) (qs:LP) (S:FS) (dn wt:LS) (v:Str) (A:Str->Str->Prop) (_:vs=[.ref a.x,.str v]) (_:FoA (cc 9) cw H0 H a ss ns qs S ss (dn++[v]) wt .non) (_:Wb A ss qs) (_:(∀ s∈ss,jW s=true)) (_:(∀(j:Nat) z u,ss[j]?=some z->(u∈inB ss 0 (ns.getD j 0)↔A z u))) (_:(∀ z∈ss,pt qs z=none->S.rows z≠none)) (_:FI A (pt qs) S) (_:CI A S (fun u=>u∈dn)) (_:(∀(H':Hp) (S':FS) (more:LS),FoA (cc 9) cw H0 H' a ss ns qs S' ss (dn++[v]) (wt++more) .non->Bx a.six H H'->FI A (pt qs) S'->CI A S' (fun u=>u∈dn++[v])->Mono S S'->Q .non H')) (_:∀(H':Hp) (S':FS) (more:LS) (t:Addr) (r:LS),FoA (cc 9) cw H0 H' a ss ns qs S' ss (dn++[v]) (wt++more) (.ref t)->Bx a.six H H'->H' t=some (.lst (r.map V.str))->t∉a.all->Aug A (pt qs) r->r.length<=28->Q .non H')
theorem CI.on(h:CI A S Pd)(m:Mono S S'):CI A S' Pd:=h.mono m.ba m.pa fun u a=>by
 cases e:S.rows u with
 | none=>show absurd e a
 | some r=>rw[m.ro u r e];show fun z=>by cases z
theorem FoA.setP{a:Fo}{bs wt:LS}{d:List (Key×V)}{p:Str}(h:FoA (cc 9) cw H0 H a ss ns qs S bs dn wt lo)(C:H a.da=some (.dK d))(g:u∈ss)(f:S.par u=none):FoA (cc 9) cw H0 (upd H a.da (.dK (zN d (Sum.inr u) (.str p)))) a ss ns qs (S.setPar u p) bs dn wt lo/\d.length<=ss.length:=by
 obtain⟨E,P,R,T⟩:=h.row;obtain⟨k',r,M,N⟩:=h.par;obtain⟨k,t,v,w⟩:=h.bas;obtain⟨xs,A,B⟩:=h.rng;rw[C] at r;cases r;obtain⟨⟨U,J,W,X,Y⟩,⟨K,Z,n8,n9⟩,⟨i,j,l⟩,⟨F,G⟩,I⟩:=(by simpa [Fo.six] using h.sep:(¬a.x=a.dr/\¬a.x=a.da/\¬a.x=a.ds/\¬a.x=a.dg/\¬a.x=a.dw)/\(¬a.dr=a.da/\¬a.dr=a.ds/\¬a.dr=a.dg/\¬a.dr=a.dw)/\(¬a.da=a.ds/\¬a.da=a.dg/\¬a.da=a.dw)/\(¬a.ds=a.dg/\¬a.ds=a.dw)/\¬a.dg=a.dw);have n:Bx a.six H (upd H a.da (.dK (zN d (Sum.inr u) (.str p)))):=(Bx.of (Sr H)).upd (by simp[Fo.six]);obtain⟨O,L,q,m⟩:=M;show⟨⟨qaT h.sm (h.fr _ (by simp[Fo.six])),h.web,h.prt,h.fr,h.nd,fun c hc=>⟨(h.exf c hc).1,(h.exf c hc).2.1,(h.exf c hc).2.2.elim fun o e=>⟨o,n _ _ (h.exf c hc).2.1 e⟩⟩,h.obj.eq (qf J),⟨E,by rw[qf K];show P,R,fun y=>(T y).mono n Fo.sub⟩,⟨_,qb,⟨O++[u],by have:=jT d (Sum.inr u:Key) (.str p);rw[yt];show _<=_+1;lk,Yb.mpr ⟨q,XJ _ _,fun x b y D e=>(m u (by rw[<- yA.mp D,<- e];show b)).2 f⟩,fun x b=>?_⟩,fun s=>?_⟩,⟨k,by rw[qf (Yh i)];show t,v,w⟩,⟨xs,by rw[qf (Yh j)];show A,B⟩,by rw[qf (Yh l)];show h.wai,h.evn,h.evi,h.evs⟩,yi L (jM q fun x b=>(m x b).1)⟩
 .show x∈ss/\(if x=u then some p else S.par x)≠none;by_cases e:x=u
  .rw [yI e,e];show⟨g,fun z=>by cases z⟩
  .rw [yF e];show m x ((yz.mp b).resolve_right fun z=>e (yA.mp z))
 .rw [qba,N];show _=(if s=u then some p else S.par s).map V.str;by_cases e:s=u
  .subst e;rw[yI rfl,yI rfl];rfl
  .rw [yF (fun x=>e (xS x)),yF e]
theorem ok_la(F:Fun K "look_around" "Forest.look_around" jg f fd)(T:Txt K mg cc cw)(K7:MethOk P w K mg base CX0 6 cw "beside" ["self","place"] (spBs cw))(uc:MethOk P w K mg base CX0 3 (cc 9) "bring_together" ["self","one","other"] (spBt cc cw))(Ku:MethOk P w K mg base CX0 1 (cc 9) "reach" ["self","place","row"] (spRe cc cw)):FnOk P w K mg base CX0 7 f fd ["self","place"] (spLa cc cw):=by
 show F.ok Kv fun _ _ _ s H vs Q E hr h=>?_
 .obtain⟨H0,a,ss,ns,qs,S,dn,wt,v,B,rfl,h,c,bh,av,bc,I,hC,q1,q2⟩:=h;have O:=jQ hr;show⟨_,(qe (jz yV rfl (qK (K:=K) rfl (qB K7 (hmR hr) (qy (K:=K) rfl (pv 0) rfl) (qa (pv 1) qd))) (qt (i:=2) Kv.nd rfl (yP rfl))
 (qc (qH (qk (zT (K:=K) rfl O) (pv 2) (qy (K:=K) rfl (pv 0) rfl) (by with_unfolding_all rfl)) (qe (qR (qB uc (hmR hr) (pv 0) (qa (pv 1) (qa (pv 2) qd))))) (qe (qH (qk (jL (K:=K) rfl O) (pv 2) (qy (K:=K) rfl (pv 0) rfl) (by with_unfolding_all rfl)) (qc (qq (i:=3) Kv.nd rfl (yP rfl) (qw (qx (K:=K) rfl O) (qy (K:=K) rfl (pv 0) rfl) (pv 2) (fun _ _=>rfl)))
 (qc (zg (pv 1) (zn (qy (K:=K) rfl (pv 0) rfl) (pv 2) (zr O)))
 (qe (qR (qB Ku (hmR hr) (pv 0) (qa (pv 3) (qa (qI (za (K:=K) rfl) (qw (qx (K:=K) rfl O) (qy (K:=K) rfl (pv 0) rfl) (pv 1) (fun _ _=>rfl)) (qM (qa (pv 2) (qa (pv 3) qd)))) qd))))))) qo)))
 (qe (qH (qk jR (qy (K:=K) rfl (pv 0) rfl) qY (qu _)) (qe ps_retN) qo))))),?_⟩
  have am:v∈ss:=h.evs v (by simp)
  obtain⟨rv,az⟩:∃ r,S.rows v=some r:=by
   cases e:S.rows v with
   | none=>show absurd e ((h.evi v).mp (by simp))
   | some r=>show⟨r,rfl⟩
  obtain⟨j,hj⟩:=yf am;have ae:=h.web.same h.sm;obtain⟨wx,dd,ol,nn,hb,_⟩:=id ae;apply .inl (h.obj.rd T 0 rfl ?_);show⟨a.b,wx,_,rfl,hb,zH (by room),?_⟩;apply⟨a.b,ss,ns,v,j,rfl,ae,hj,fun H1 s1 bl af=>?_⟩;have g:=fun u=>av j v u hj;have M:(inB ss 0 (ns.getD j 0)).length<=14:=yi (qbB _ _ _) c.few;generalize inB ss 0 (ns.getD j 0)=bes at g M ⊢;have bf:=(h.same s1).new af;have s2:=qC s1 (o:=.lst (bes.map V.str)) af;have eb:upd H1 bl (.lst (bes.map V.str)) bl=some (.lst (bes.map V.str)):=qb;generalize upd H1 bl (.lst (bes.map V.str))=H2 at s2 eb;have h2:=h.same s2;show .inl ⟨⟨_,.of eb⟩,jd (xs:=bes.map V.str) (fun i σ J=>∃(S':FS) (more:LS) (Z y3:Option V),σ=[some (.ref a.x),some (.str v),Z,y3]/\FoA (cc 9) cw H0 J a ss ns qs S' ss (dn++[v]) (wt++more) .non/\Bx a.six H2 J/\FI B (pt qs) S'/\Mono S S'/\∀ u∈bes.take i,S'.bas u=S'.bas v\/(S'.par u≠none/\u∉dn++[v])) ⟨S,[],_,_,rfl,by rw[Yd];show h2,fun _ _ _ e=>e,I,Mono.refl S,(fun u O=>by simp at O)⟩ (fun i σ J _ hp=>?_) (fun i y σ J hy hp=>?_) fun σ J hp=>?_⟩
  .obtain⟨S',more,Z,y3,rfl,_,t,_⟩:=hp;show .of (t _ _ bf eb)
  .obtain⟨S',more,Z,y3,rfl,d,t,D,C,L⟩:=hp;rw[yd] at hy;obtain⟨u,ai,rfl⟩:=yn.mp hy;have R:B v u:=(g u).mp (ye ai);have ak:u∈ss:=c.inn _ _ (c.gr.as R);have l:=C.ro v rv az;have N:bes.take (i+1)=bes.take i++[u]:=by rw[yD,ai];rfl
   obtain⟨kr,r1,r2,r3⟩:=d.row;have n:=r3 u;apply .inl (d.obj.rd T 2 rfl ?_);show .inr (.inl ⟨a.dr,_,rfl,DGet.k (k:=Sum.inr u) r1,?_⟩)
   cases A:S'.rows u with
   | some ru =>
    rw[A] at n;obtain⟨tu,k1,k2,_⟩:=n;rw[k1];show⟨_,rfl,jU ?_⟩;ext;obtain⟨dx,fs,U,_,_,_,X⟩:=id d.obj;show⟨a.x,dx,fs,rfl,U,X _ (by room),?_⟩;apply⟨H0,a,ss,ns,qs,S',dn++[v],wt++more,v,u,rv,ru,B,rfl,d,c,D,l,A,R,fun H5 S5 be h5 G I5 au m5=>?_,fun H5 t5 r5 h5 G e5 n5 aq ax=>?_⟩
    .ext;show .inl (h5.obj.rd T 7 rfl ?_);apply⟨rfl,_,rfl,qF (fun h=>by simp at h) fun _=>?_⟩;show⟨S5,more++be,_,_,rfl,by rw[<- Yc wt];show h5,t.trans G,I5,C.trans m5,fun z hz=>?_⟩;rw[N] at hz;rcases yz.mp hz with hz | hz
     .show(L z hz).imp (m5.ba z v) fun y=>⟨m5.pa z y.1,y.2⟩
     .rw [yA.mp hz];show .inl au.symm
    .ext;show .inl (h5.obj.rd T 7 rfl ?_);apply⟨rfl,_,rfl,jU ?_⟩;show q2 H5 S' more t5 r5 h5 (((Bx.of s2).trans t).trans G) e5 n5 aq ax
   | none =>
    rw[A] at n;have ah:zh kr (.inr u:Key)=none:=n;rw[ah];have aj:u∉dn++[v]:=fun z=>(d.evi u).mp (yG _ z) A;show⟨_,rfl,qF (fun h=>by cases h) fun _=>?_⟩;obtain⟨ka,p1,p2,p3⟩:=d.par;apply .inl (d.obj.rd T 3 rfl ?_);show .inr (.inl ⟨a.da,_,rfl,DGet.k (k:=Sum.inr u) p1,?_⟩);rw[p3]
    cases ep:S'.par u with
    | some z =>
     show⟨_,rfl,qF (fun h=>by cases h) fun _=>?_⟩;apply .inl (d.obj.rd T 7 rfl ?_);apply⟨rfl,_,rfl,qF (fun h=>by simp at h) fun _=>?_⟩;show⟨S',more,_,_,rfl,d,t,D,C,fun z hz=>?_⟩;rw[N] at hz;rcases yz.mp hz with hz | hz
     .show L z hz
     .rw [yA.mp hz];show .inr ⟨by rw[ep];show(fun y=>by cases y),aj⟩
    | none =>
     show⟨_,rfl,jU ?_⟩
     obtain⟨y,q⟩:∃ y,pt qs u=some y:=by
      cases e:pt qs u with
      | some y=>show⟨y,rfl⟩
      | none =>
       exfalso;have k:=bc u ak e
       cases e2:S.rows u with
       | none=>show k e2
       | some r=>rw[C.ro u r e2] at A;cases A
     have bd:y∈ss:=c.inn _ _ (c.gr.as (c.gr.fa q));have an:=D.fresh c.gr A ep q;have ay:=d.sm _ _ h.prt;obtain⟨Y,bg⟩:=d.setP (p:=v) p1 ak ep;have bj:=c.few;apply .inl (d.obj.rd T 1 rfl ?_);apply qeh ay (by rw[jY,q];rfl) ?_;apply .inl (d.obj.rd T 3 rfl ?_);apply .inr ⟨a.da,_,rfl,DPut.k (k:=Sum.inr u) p1 (by rw[YO];lk),?_⟩;have aa:Bx a.six H2 (upd J a.da (.dK (zN ka (Sum.inr u) (.str v)))):=t.upd (by simp[Fo.six]);generalize upd J a.da (.dK (zN ka (Sum.inr u) (.str v)))=J3 at Y aa;ext;obtain⟨dx,fs,U,_,_,_,X⟩:=id Y.obj;show⟨a.x,dx,fs,rfl,U,X _ (by room),?_⟩;apply .inl (Y.obj.rd T 2 rfl ?_);apply Y.rowAt (S:=S'.setPar u v) l fun tv ap=>?_;apply⟨by show 2<=sizeLine;decide,fun c1 aw=>?_⟩;have t1:=qC (Sr J3) (o:=.lst [.str u,.str y]) aw;have ac:upd J3 c1 (.lst [.str u,.str y]) c1=some (.lst [.str u,.str y]):=qb;generalize upd J3 c1 (.lst [.str u,.str y])=J4 at t1 ac;have bi:=((D.alt v rv l).inn c am).1;show qet (t1 _ _ ap) ac (by rw[ya];show _+2<=_;lk) fun c2 ag=>?_;have n2:=(Y.same t1).newA ag;have t2:=qC t1 (o:=.lst (rv.map V.str++[.str u,.str y])) ag;have ad:upd J4 c2 (.lst (rv.map V.str++[.str u,.str y])) c2=some (.lst ((rv++[u,y]).map V.str)):=by rw[qb,yC];rfl
     generalize upd J4 c2 (.lst (rv.map V.str++[.str u,.str y]))=J5 at t2 ad;apply⟨H0,a,ss,ns,qs,S'.setPar u v,ss,dn++[v],wt++more,.non,y,c2,rv++[u,y],rfl,Y.same t2,c.few,ad,n2,bd,an,fun H6 h6 ao _=>?_⟩;have W:Gw S' ((S'.setPar u v).setRow y (rv++[u,y])) v u y rv:=⟨yI rfl,fun s hs=>yF hs,yI rfl,fun s hs=>yF hs,rfl⟩;have I6:=D.grow c.gr l R A ep q W
     have m6:Mono S' ((S'.setPar u v).setRow y (rv++[u,y])):=⟨fun _ _ e=>e,fun z hz=>by
      show(if z=u then some v else S'.par z)≠none;split
      .show fun x=>by cases x
      .show hz,fun z r e=>by rw[W.ro z (fun x=>by rw[x,an] at e;cases e)];show e⟩
     apply .inl (h6.obj.rd T 7 rfl ?_);apply⟨rfl,_,rfl,qF (fun h=>by simp at h) fun _=>?_⟩;show⟨_,more++[y],_,_,rfl,by rw[<- Yc wt];show h6,(aa.trans (Bx.of t2)).trans ao,I6,C.trans m6,fun z hz=>?_⟩;rw[N] at hz;rcases yz.mp hz with hz | hz
     .show(L z hz).imp (m6.ba z v) fun y=>⟨m6.pa z y.1,y.2⟩
     .rw [yA.mp hz];show .inr ⟨by rw[W.pu];show(fun x=>by cases x),aj⟩
  .obtain⟨S',more,Z,y3,rfl,d,t,D,C,L⟩:=hp;rw[ya,yM] at L;show q1 J S' more d ((Bx.of s2).trans t) D ?_ C;have ar:=hC.on C;show⟨fun z u hz m=>?_,fun z hz=>?_⟩
   .rcases yz.mp hz with hz1 | hz1
    .by_cases al:u=v
     .rw [al] at m ⊢;rcases L z ((g z).mpr (c.gr.as m)) with y | y
      .show .inl y.symm
      .show absurd (yG _ hz1) y.2
     .rcases ar.cl z u hz1 m with y | ⟨y1,Z⟩
      .show .inl y
      .show .inr ⟨y1,fun x=>(yz.mp x).elim Z fun x=>al (yA.mp x)⟩
    .rw [yA.mp hz1] at m ⊢;show L u ((g u).mpr m)
   .show(d.evi z).mp (yG _ hz)
theorem uf:FnScope ["self","place"] ["self"] (qg ze):=fS
structure FoD(cf cw:Addr)(H0 H:Hp)(a:Fo)(ss:LS)(ns:LN)(qs:LP)(S:FS)(dn wt:LS)(lo:V)(A:Str->Str->Prop):Prop where
 fo:FoA cf cw H0 H a ss ns qs S ss dn wt lo
 en:(lo=.non/\wt=[]/\FI A (pt qs) S/\CI A S (fun u=>u∈dn)/\∀ z∈ss,pt qs z=none->S.rows z≠none)\/∃ t r,lo=.ref t/\H t=some (.lst (r.map V.str))/\t∉a.all/\Aug A (pt qs) r/\r.length<=28
noncomputable def S0:FS:=⟨fun _=>none,fun _=>none,fun s=>s⟩
noncomputable def SI(qs:LP)(l:LS):FS:=⟨fun s=>if s∈l/\pt qs s=none then some [s] else none,fun _=>none,fun s=>s⟩
theorem SI_nil(qs:LP):SI qs []=S0:=by unfold SI S0;simp
theorem SI_on{l:LS}(h:pt qs z=none):SI qs (l++[z])=(SI qs l).setRow z [z]:=by
 unfold SI FS.setRow
 congr 1
 funext s;dsimp only;by_cases e:s=z
 .subst e;rw[yI ⟨by simp,h⟩,yI rfl]
 .rw [yF e];have:s∈l++[z]↔s∈l:=by simp[e]
  simp only[this]
theorem SI_off{l:LS}(h:pt qs z≠none):SI qs (l++[z])=SI qs l:=by
 unfold SI
 congr 1
 funext s;by_cases e:s=z
 .subst e;rw[yF (fun k=>h k.2),yF (fun k=>h k.2)]
 .have:s∈l++[z]↔s∈l:=by simp[e]
  simp only[this]
inductive spGw(cc:Nat->Addr)(cw:Addr)(vs:List V)(H:Hp)(Q:VK)(E:XK):Prop|mk (H0:Hp) (a:Fo) (ss:LS) (ns:LN) (qs:LP) (A:Str->Str->Prop) (_:vs=[.ref a.x]) (_:FoA (cc 9) cw H0 H a ss ns qs S0 [] [] [] .non) (_:Wb A ss qs) (_:(∀ s∈ss,jW s=true)) (_:(∀(j:Nat) z u,ss[j]?=some z->(u∈inB ss 0 (ns.getD j 0)↔A z u))) (_:∀(H':Hp) (S:FS) (dn wt:LS) (lo:V),FoD (cc 9) cw H0 H' a ss ns qs S dn wt lo A->Bx a.six H H'->Q .non H')
theorem ix_natF{k n:Nat}(h:k<n):seqIndex? (k:Int) n=some k:=by
 unfold seqIndex?;simp;lk
theorem nin_prF{d:Addr}{Q:VK}(a:H d=some (.dK (prK qs)))(q:Q (.bl (!(pt qs s).isSome)) H):qeg K true (.str s) (.ref d) H Q:=by
 show .inr (.inl ⟨d,_,rfl,DGet.k (k:=Sum.inr s) a,?_⟩);rw[jY,yI rfl,Xu];show q
theorem FoA.ne{a:Fo}{bs wt:LS}(h:FoA (cc 9) cw H0 H a ss ns qs S bs dn wt lo):(¬a.x=a.dr/\¬a.x=a.da/\¬a.x=a.ds/\¬a.x=a.dg/\¬a.x=a.dw)/\(¬a.dr=a.da/\¬a.dr=a.ds/\¬a.dr=a.dg/\¬a.dr=a.dw)/\(¬a.da=a.ds/\¬a.da=a.dg/\¬a.da=a.dw)/\(¬a.ds=a.dg/\¬a.ds=a.dw)/\¬a.dg=a.dw:=by simpa [Fo.six] using h.sep
theorem FoA.setN{a:Fo}{bs wt:LS}{ks:List (Key×V)}(h:FoA (cc 9) cw H0 H a ss ns qs S bs dn wt lo)(p:H a.ds=some (.dK ks))(hz:S.bas z=z):FoA (cc 9) cw H0 (upd H a.ds (.dK (zN ks (Sum.inr z) (.str z)))) a ss ns qs S (bs++[z]) dn wt lo/\ks.length<=bs.length:=by
 obtain⟨s,F,G,I⟩:=h.row;obtain⟨r,C,D,E⟩:=h.par;obtain⟨k,g,j,l⟩:=h.bas;obtain⟨xs,m,n⟩:=h.rng;rw[p] at g;cases g;obtain⟨⟨J,K,A,L,M⟩,⟨N,B,O,P⟩,⟨b,t,v⟩,⟨d,f⟩,w⟩:=h.ne;have i:Bx a.six H (upd H a.ds (.dK (zN ks (Sum.inr z) (.str z)))):=(Bx.of (Sr H)).upd (by simp[Fo.six]);show⟨⟨qaT h.sm (h.fr _ (by simp[Fo.six])),h.web,h.prt,h.fr,h.nd,fun c hc=>⟨(h.exf c hc).1,(h.exf c hc).2.1,(h.exf c hc).2.2.elim fun o e=>⟨o,i _ _ (h.exf c hc).2.1 e⟩⟩,h.obj.eq (qf A),⟨s,by rw[qf B];show F,G,fun y=>(I y).mono i Fo.sub⟩,⟨r,by rw[qf b];show C,D,E⟩,⟨_,qb,by have:=jT ks (Sum.inr z:Key) (.str z);rw[yt];show _<=_+1;lk,fun u q=>?_⟩,⟨xs,by rw[qf (Yh d)];show m,n⟩,by rw[qf (Yh f)];show h.wai,h.evn,h.evi,h.evs⟩,j⟩;rw[qba];by_cases e:u=z
 .subst e;rw[yI rfl,hz]
 .rw [yF (fun x=>e (xS x))];show l u ((yz.mp q).resolve_right fun y=>e (yA.mp y))
theorem FoA.pop{a:Fo}{bs wt:LS}(h:FoA (cc 9) cw H0 H a ss ns qs S bs dn (v::wt) lo):FoA (cc 9) cw H0 (upd H a.dw (.lst (wt.map V.str))) a ss ns qs S bs (dn++[v]) wt lo:=by
 obtain⟨r,C,D,E⟩:=h.row;obtain⟨q,z,A,B⟩:=h.par;obtain⟨k,j,l,m⟩:=h.bas;obtain⟨xs,n,p⟩:=h.rng;obtain⟨⟨F,G,I,J,w⟩,⟨K,L,M,x⟩,⟨s,t,d⟩,⟨u,f⟩,g⟩:=h.ne;have b:dn++[v]++wt=dn++v::wt:=by simp
 have i:Bx a.six H (upd H a.dw (.lst (wt.map V.str))):=(Bx.of (Sr H)).upd (by simp[Fo.six]);show⟨qaT h.sm (h.fr _ (by simp[Fo.six])),h.web,h.prt,h.fr,h.nd,fun c hc=>⟨(h.exf c hc).1,(h.exf c hc).2.1,(h.exf c hc).2.2.elim fun o e=>⟨o,i _ _ (h.exf c hc).2.1 e⟩⟩,h.obj.eq (qf w),⟨r,by rw[qf x];show C,by rw[b];show D,fun y=>(E y).mono i Fo.sub⟩,⟨q,by rw[qf d];show z,A,B⟩,⟨k,by rw[qf f];show j,l,m⟩,⟨xs,by rw[qf g];show n,by rw[b];show p⟩,qb,by rw[b];show h.evn,by rw[b];show h.evi,by rw[b];show h.evs⟩
theorem ok_gw(F:Fun K "grow" "Forest.grow" ze f fd)(T:Txt K mg cc cw)(KC:MethOk P w K mg base CX0 1 cw "places" ["self"] (spPls cw))(Ku:MethOk P w K mg base CX0 1 (cc 9) "reach" ["self","place","row"] (spRe cc cw))(ug:MethOk P w K mg base CX0 7 (cc 9) "look_around" ["self","place"] (spLa cc cw)):FnOk P w K mg base CX0 8 f fd ["self"] (spGw cc cw):=by
 show F.ok uf fun _ _ _ _ H vs Q E hr h=>?_
 .obtain⟨H0,a,ss,ns,qs,B,rfl,h,G,an,aj,q⟩:=h;have hu:=jQ hr;have ap:=G.few;show⟨_,(qc (jz yV rfl (qK (K:=K) rfl (ji KC (hmR hr) (qy (K:=K) rfl (pv 0) rfl))) (qt (i:=1) uf.nd rfl (yP rfl))
 (qc (zg (pv 1) (zn (qy (K:=K) rfl (pv 0) rfl) (pv 1) (zr hu)))
 (qe (qH (qk (jL (K:=K) rfl hu) (pv 1) (qy (K:=K) rfl (pv 0) rfl) (by with_unfolding_all rfl)) (qe (qR (qB Ku (hmR hr) (pv 0) (qa (pv 1) (qa (qM (qa (pv 1) qd)) qd))))) qo))))
 (qe (qao yV (PW.pt (qaJ (qk qdy (qp (j9 (K:=K) rfl) rfl T.b_len YQ (qa (qy (K:=K) rfl (pv 0) rfl) qd)) qi (qu _)) (zL (qk qff (qy (K:=K) rfl (pv 0) rfl) qY (qu _)))))
 (qe (qR (qB ug (hmR hr) (pv 0) (qa (qbO (K:=K) rfl yT Xr Xs qbv (qy (K:=K) rfl (pv 0) rfl) (qa qi qd)) qd))))))),?_⟩
  have ac:=h.web.same h.sm;obtain⟨wx,dd,ol,nn,hb,_⟩:=id ac;apply .inl (h.obj.rd T 0 rfl ?_);show⟨a.b,wx,_,rfl,hb,zH (by room),?_⟩;apply⟨a.b,ss,ns,rfl,ac,fun pl ae=>?_⟩;have au:=h.new ae;have s1:=qC (Sr H) (o:=.lst (ss.map V.str)) ae;have e1:upd H pl (.lst (ss.map V.str)) pl=some (.lst (ss.map V.str)):=qb;generalize upd H pl (.lst (ss.map V.str))=H1 at s1 e1;show .inl ⟨⟨_,.of e1⟩,jd (xs:=ss.map V.str) (fun i R J=>∃(p:LS) (Y:Option V),R=[some (.ref a.x),Y]/\FoA (cc 9) cw H0 J a ss ns qs (SI qs (ss.take i)) (ss.take i) [] p .non/\Bx a.six H1 J) ⟨[],_,rfl,by rw[YI,SI_nil];show h.same s1,fun _ _ _ e=>e⟩ (fun i R J _ n=>?_) (fun i y R J hy n=>?_) fun R J n=>?_⟩
  .obtain⟨p,Y,rfl,_,Z⟩:=n;show .of (Z _ _ au e1)
  .obtain⟨p,Y,rfl,X,Z⟩:=n;rw[yd] at hy;obtain⟨z,hz,rfl⟩:=yn.mp hy;have ax:=(yc.mp hz).1;have ar:=ye hz;have af:ss.take (i+1)=ss.take i++[z]:=by rw[yD,hz];rfl
   obtain⟨ks,b1,b2,b3⟩:=X.bas;rw[yK] at b2;obtain⟨D,_⟩:=X.setN (z:=z) b1 rfl;apply .inl (X.obj.rd T 4 rfl ?_);apply .inr ⟨a.ds,_,rfl,DPut.k (k:=Sum.inr z) b1 (by rw[YO];lk),?_⟩;have s:Bx a.six H1 (upd J a.ds (.dK (zN ks (Sum.inr z) (.str z)))):=Z.upd (by simp[Fo.six]);generalize upd J a.ds (.dK (zN ks (Sum.inr z) (.str z)))=J2 at D s;have ao:=D.sm _ _ h.prt;apply .inl (D.obj.rd T 1 rfl ?_);show nin_prF ao ⟨_,rfl,?_⟩
   cases ez:pt qs z with
   | some y =>
    show yq ?_;show⟨p,_,rfl,by rw[af,SI_off (by rw[ez];show fun k=>nomatch k)];show D,s⟩
   | none =>
    show jU ?_;ext;obtain⟨dx,fs,N,_,_,_,O⟩:=id D.obj;show⟨a.x,dx,fs,rfl,N,O _ (by room),?_⟩;apply⟨by show 1<=sizeLine;decide,fun c1 ad=>?_⟩;have n1:=D.newA ad;have t1:=qC (Sr J2) (o:=.lst [.str z]) ad;have aa:upd J2 c1 (.lst [.str z]) c1=some (.lst ([z].map V.str)):=qb;generalize upd J2 c1 (.lst [.str z])=J3 at t1 aa
    have aq:z∉ss.take i:=fun y=>by
     obtain⟨j,hj⟩:=yf y;have ak:=(yc.mp hj).1;rw[yK] at ak;rw[List.getElem?_take,yI (by lk)] at hj;have:=qA G.nd hj hz;lk
    apply⟨H0,a,ss,ns,qs,SI qs (ss.take i),ss.take i++[z],[],p,.non,z,c1,[z],rfl,D.same t1,ap,aa,n1,ar,yF (fun k=>aq k.1),fun H6 h6 ah _=>?_⟩;show⟨p++[z],_,rfl,by rw[af,SI_on ez];show h6,(s.trans (Bx.of t1)).trans ah⟩
  .obtain⟨p,Y,rfl,X,Z⟩:=n;rw[ya,yM] at X;have ag:Bx a.six H J:=(Bx.of s1).trans Z
   have IJ:FI B (pt qs) (SI qs ss):=FI.start (fun v r e=>by
    have e':(if v∈ss/\pt qs v=none then some [v] else none)=some r:=e;split at e'
    .rename_i k;show⟨k.2,(ym e').symm⟩
    .cases e') (fun _=>rfl) fun _=>rfl
   ext;obtain⟨W,g⟩:∃ W:Nat->L2.St->Hp->Prop,W=fun m R J=>∃(S:FS) (dn wt:LS) (lo:V) (Y:Option V),R=[some (.ref a.x),Y]/\Bx a.six H J/\((lo=.non/\m=15-dn.length/\FoA (cc 9) cw H0 J a ss ns qs S ss dn wt .non/\FI B (pt qs) S/\CI B S (fun u=>u∈dn)/\∀ z∈ss,pt qs z=none->S.rows z≠none)\/(lo≠.non/\m=0/\FoD (cc 9) cw H0 J a ss ns qs S dn wt lo B)):=⟨_,rfl⟩;show⟨W,⟨15,by rw[g];show⟨SI qs ss,[],p,.non,_,rfl,ag,.inl ⟨rfl,rfl,X,IJ,⟨(fun v u k=>by cases k),(fun v k=>by cases k)⟩,fun z hz e=>by show(if _ then _ else _)≠none;rw[yI ⟨hz,e⟩];show fun k=>by cases k⟩⟩⟩,fun m R J hW=>?_⟩;rw[g] at hW;obtain⟨S,dn,wt,lo,ay,rfl,d,L⟩:=hW;rcases L with⟨rfl,hm,l,I,hC,M⟩ | ⟨am,hm,U⟩
   .have c:=l.wai;apply .inl (l.obj.rd T 6 rfl ?_);apply qab c ?_;rw[ya];ext
    cases wt with
    | nil =>
     show qF (fun h=>by simp at h) fun _=>qF (fun h=>by cases h) fun _=>?_;show q J S dn [] .non ⟨l,.inl ⟨rfl,rfl,I,hC,M⟩⟩ d
    | cons v wt =>
     show qF (fun _=>?_) fun h=>absurd (yL (by simp)) h;apply .inl (l.obj.rd T 7 rfl ?_);apply⟨_,rfl,jU ⟨fun av H'=>∃ m',m'<m/\W m' av H',fun _ _ z=>z,?_⟩⟩;have aw:dn.length+1<=14:=by have:=l.few;rw[yt,yw] at this;lk
     ext;obtain⟨dx,fs,N,_,_,_,O⟩:=id l.obj;show⟨a.x,dx,fs,rfl,N,O _ (by room),?_⟩;apply .inl (l.obj.rd T 6 rfl ?_);show⟨.inl ⟨rfl,_,.of c⟩,?_⟩;apply⟨a.dw,_,0,0,.str v,rfl,rfl,c,by decide,by decide,by rw[ya];show ix_natF (by simp),rfl,?_⟩;have n:=l.pop;have C:Bx a.six H (upd J a.dw (.lst (wt.map V.str))):=d.upd (by simp[Fo.six]);ext;show spLa cc cw _ (upd J a.dw (.lst (wt.map V.str))) _ _;generalize upd J a.dw (.lst (wt.map V.str))=J2 at n C;show⟨H0,a,ss,ns,qs,S,dn,wt,v,B,rfl,n,G,an,aj,M,I,hC,fun H5 S5 mo h5 A I5 C5 m5=>?_,fun H5 S5 mo t5 r5 h5 A e5 n5 ai al=>?_⟩
     .show⟨15-(dn++[v]).length,by rw[hm,yt];show _-(_+1)<_;lk,?_⟩;rw[g]
      show⟨S5,dn++[v],wt++mo,.non,_,rfl,C.trans A,.inl ⟨rfl,rfl,h5,I5,C5,fun z hz e=>(by
       have k:=M z hz e
       cases e2:S.rows z with
       | none=>show absurd e2 k
       | some r=>rw[m5.ro z r e2];show fun x=>by cases x)⟩⟩
     .show⟨0,by lk,?_⟩;rw[g];show⟨S5,dn++[v],wt++mo,.ref t5,_,rfl,C.trans A,.inr ⟨(fun e=>by cases e),rfl,⟨h5,.inr ⟨t5,r5,rfl,e5,n5,ai,al⟩⟩⟩⟩
   .have c:=U.fo.wai;rcases U.en with k | ⟨t,r,rfl,_⟩
    .show absurd k.1 am
    apply .inl (U.fo.obj.rd T 6 rfl ?_);apply qab c ?_;apply qF (fun _=>?_) (fun _=>qF (fun h=>by cases h) fun _=>q J S dn wt _ U d);apply .inl (U.fo.obj.rd T 7 rfl ?_);apply⟨_,rfl,qF (fun h=>by cases h) fun _=>?_⟩;show q J S dn wt _ U d
theorem uL:FnScope ["self","web","pairs"] ["self","web","pairs"] (qg zf):=fS
theorem uT:FnScope ["self"] ["self"] (qg zx):=fS
theorem uv:FnScope ["self"] ["self"] (qg jm):=fS
noncomputable def qei(p:Addr)(H:Hp):Hp:=fun b=>if b=p then none else H b
theorem jv{b:Addr}(h:b≠p):qei p H b=H b:=yF h
theorem lkn{f g:Str}{v:V}{fs:List (Str×V)}(h:f≠g)(k:fs.lookup f=none):(qJ g v fs).lookup f=none:=by rw[qD,yF h];show k
inductive spFi(cc:Nat->Addr)(cw:Addr)(vs:List V)(H:Hp)(Q:VK)(E:XK):Prop|mk (x dx b r:Addr) (ss:LS) (ns:LN) (us:LQ) (tps qs:LP) (A:Str->Str->Prop) (_:vs=[.ref x,.ref b,.ref r]) (_:H x=some (.ins (cc 9) dx [])) (_:WebAt cw H b ss ns) (_:Adj ss ns tps) (_:Wb A ss qs) (_:(∀ s∈ss,jW s=true)) (_:(∀(j:Nat) z u,ss[j]?=some z->(u∈inB ss 0 (ns.getD j 0)↔A z u))) (_:PL H r us qs) (_:qs.length<=30) (_:(∀ q∈qs,(q∈tps\/(q.2,q.1)∈tps)/\q.1∈ss/\q.2∈ss/\q.1≠q.2)) (_:∀(H0 H':Hp) (a:Fo) (S:FS) (dn wt:LS) (lo:V),a.x=x->a.b=b->FoD (cc 9) cw H0 H' a ss ns qs S dn wt lo A->L2.Same (qei x H) H0->Q .non H')
theorem WebAt.out{b:Addr}{fs:List (Str×V)}(h:WebAt cw H b ss ns)(a:H x=some (.ins (cc 9) dx fs))(hb:b≠x):WebAt cw (qei x H) b ss ns:=by
 obtain⟨i,d,ol,n,h1,c,e,f,g⟩:=h;show⟨i,d,ol,n,(jv hb).trans h1,(jv ?_).trans c,(jv ?_).trans e,(jv ?_).trans f,g⟩
 .show qac c a (fun z=>by cases z)
 .show qac e a (fun z=>by cases z)
 .show qac f a (fun z=>by cases z)
theorem ok_fi(F:Fun K "__init__" "Forest.__init__" zf f fd)(T:Txt K mg cc cw)(Km:DefOk P w K mg base CX0 9 "partners_in" ["web","pairs"] (spPn cw))(uU:MethOk P w K mg base CX0 8 (cc 9) "grow" ["self"] (spGw cc cw)):FnOk P w K mg base CX0 10 f fd ["self","web","pairs"] (spFi cc cw):=by
 show F.ok uL fun _ _ _ s H vs Q E hr h=>?_
 .obtain⟨x,dx,b,r,ss,ns,us,tps,qs,B,rfl,hx,hW,hA,bv,cj,ch,hP,ck,cl,q⟩:=h;have hu:=jQ hr;show⟨_,(qc (jV (K:=K) rfl (pv 0) (pv 1) rfl)
 (qc (jV (K:=K) rfl (pv 0) (qr Km (hmR hr) qz (qa (pv 1) (qa (pv 2) qd))) rfl)
 (qc (jV (K:=K) rfl (pv 0) zo rfl)
 (qc (jV (K:=K) rfl (pv 0) zo rfl)
 (qc (jV (K:=K) rfl (pv 0) zo rfl)
 (qc (jV (K:=K) rfl (pv 0) (qM qd) rfl)
 (qc (jV (K:=K) rfl (pv 0) (qM qd) rfl)
 (qc (jV (K:=K) rfl (pv 0) qY rfl)
 (qe (qR (ji uU (hmR hr) (pv 0)))))))))))),?_⟩
  have cb:b≠x:=fun e=>by
   obtain⟨wx,d,ol,n,hb,_⟩:=id hW;subst e;rw[hx] at hb;injection hb with hb;injection hb with _ _ hb;cases hb
  have cs:r≠x:=qac hP.1 hx (fun z=>by cases z)
  have ct:∀ u∈us,u≠x:=fun u hu=>by
   obtain⟨q,_,eu⟩:=hP.2.mem hu;show qac eu hx (fun z=>by cases z)
  have fa:∀ i,(h:i<8)->NoAttr K (cc 9) (fAtt.getD i ""):=fun i h=>T.fa _ (by have:i<fAtt.length:=h;rw[Yn,yb this];show Xx this);apply .inl ⟨x,cc 9,dx,[],rfl,hx,T.fcl,fa 0 (by decide),by decide,?_⟩;have b1:=(But.refl x H).put (o:=.ins (cc 9) dx (qJ "board" (.ref b) []));have br:upd H x (.ins (cc 9) dx (qJ "board" (.ref b) [])) x=some (.ins (cc 9) dx (qJ "board" (.ref b) [])):=qb;generalize upd H x (.ins (cc 9) dx (qJ "board" (.ref b) []))=H1 at b1 br ⊢
  have keepW:∀{J:Hp},But x H J->WebAt cw J b ss ns:=fun k=>by
   obtain⟨wx,d,ol,n,h1,h2,h3,h4,h5⟩:=hW;show⟨wx,d,ol,n,k _ _ cb h1,k _ _ (qac h2 hx (fun z=>by cases z)) h2,k _ _ (qac h3 hx (fun z=>by cases z)) h3,k _ _ (qac h4 hx (fun z=>by cases z)) h4,h5⟩
  have ce:PL H1 r us qs:=⟨b1 _ _ cs hP.1,hP.2.len,fun k t ab ht cg=>b1 _ _ (ct t (ye ht)) (hP.2.at_ k t ab ht cg)⟩;apply⟨b,r,ss,ns,us,tps,qs,rfl,keepW b1,hA,ce,⟨cl,bv.qn,ck⟩,fun dp H2 s2 bi ci=>?_⟩;have bx:=s2 _ _ br;have b2:=b1.same s2;have cr:dp≠x:=fun e=>by rw[e,br] at bi;cases bi
  have hl:∀{f:Str} {v:V} {fs:List (Str×V)} {n:Nat},fs.length<=n->(qJ f v fs).length<=n+1:=fun h=>yi (jG _ _ _) (by lk);apply .inl ⟨x,cc 9,dx,_,rfl,bx,T.fcl,fa 1 (by decide),YC (hl (n:=0) (yh _)) (by decide),?_⟩
  have c3:L2.Same (qei x H2) (upd H2 x (.ins (cc 9) dx (qJ "partners" (.ref dp) (qJ "board" (.ref b) [])))):=fun c o e=>by
   have hc:c≠x:=fun z=>by rw[z] at e;unfold qei at e;rw[yI rfl] at e;cases e
   rw[jv hc] at e;rw[qf hc];show e
  have ap:upd H2 x (.ins (cc 9) dx (qJ "partners" (.ref dp) (qJ "board" (.ref b) []))) x=some (.ins (cc 9) dx (qJ "partners" (.ref dp) (qJ "board" (.ref b) []))):=qb;obtain⟨H0,ac⟩:∃ H0,H0=qei x H2:=⟨_,rfl⟩;rw[<- ac] at c3;have D:H0 x=none:=by rw[ac];show yI rfl
  have l3:(qJ "partners" (.ref dp) (qJ "board" (.ref b) [])).length<=2:=hl (hl (n:=0) (yh _));generalize upd H2 x (.ins (cc 9) dx (qJ "partners" (.ref dp) (qJ "board" (.ref b) [])))=H3 at c3 ap ⊢;obtain⟨f3,bj⟩:∃ f3,f3=qJ "partners" (.ref dp) (qJ "board" (.ref b) []):=⟨_,rfl⟩;rw[<- bj] at ap l3;ext;intro m ao;have C:m≠x:=fun e=>by rw[e,ap] at ao;cases ao
  have cy:H0 m=none:=c3.free ao;have cm:upd H3 m (.dK []) x=some (.ins (cc 9) dx f3):=by rw[qf C.symm];show ap
  apply .inl ⟨x,cc 9,dx,_,rfl,cm,T.fcl,fa 2 (by decide),YC l3 (by decide),?_⟩;have c4:L2.Same H0 (upd (upd H3 m (.dK [])) x (.ins (cc 9) dx (qJ "rows" (.ref m) f3))):=qaT (qC c3 ao) D;have aq:(upd (upd H3 m (.dK [])) x (.ins (cc 9) dx (qJ "rows" (.ref m) f3))) x=some (.ins (cc 9) dx (qJ "rows" (.ref m) f3)):=qb;have l4:(qJ "rows" (.ref m) f3).length<=3:=hl l3;have U:(upd (upd H3 m (.dK [])) x (.ins (cc 9) dx (qJ "rows" (.ref m) f3))) m=some (.dK []):=by rw[qf C,qb]
  generalize upd (upd H3 m (.dK [])) x (.ins (cc 9) dx (qJ "rows" (.ref m) f3))=H4 at c4 aq U ⊢;obtain⟨f4,bm⟩:∃ f,f=qJ "rows" (.ref m) f3:=⟨_,rfl⟩;rw[<- bm] at aq l4;ext;intro l G;have I:l≠x:=fun e=>by rw[e,aq] at G;cases G
  have cv:H0 l=none:=c4.free G;have ad:l≠m:=fun e=>by rw[e,U] at G;cases G
  have cn:upd H4 l (.dK []) x=some (.ins (cc 9) dx f4):=by rw[qf I.symm];show aq
  apply .inl ⟨x,cc 9,dx,_,rfl,cn,T.fcl,fa 3 (by decide),YC l4 (by decide),?_⟩;have c5:L2.Same H0 (upd (upd H4 l (.dK [])) x (.ins (cc 9) dx (qJ "parents" (.ref l) f4))):=qaT (qC c4 G) D;have ar:(upd (upd H4 l (.dK [])) x (.ins (cc 9) dx (qJ "parents" (.ref l) f4))) x=some (.ins (cc 9) dx (qJ "parents" (.ref l) f4)):=qb;have l5:(qJ "parents" (.ref l) f4).length<=4:=hl l4;have M:(upd (upd H4 l (.dK [])) x (.ins (cc 9) dx (qJ "parents" (.ref l) f4))) l=some (.dK []):=by rw[qf I,qb]
  have W:(upd (upd H4 l (.dK [])) x (.ins (cc 9) dx (qJ "parents" (.ref l) f4))) m=some (.dK []):=by rw[qf C,qf (Yh ad)];show U
  generalize upd (upd H4 l (.dK [])) x (.ins (cc 9) dx (qJ "parents" (.ref l) f4))=H5 at c5 ar W M ⊢;obtain⟨f5,bn⟩:∃ f,f=qJ "parents" (.ref l) f4:=⟨_,rfl⟩;rw[<- bn] at ar l5;ext;intro j A;have ah:j≠x:=fun e=>by rw[e,ar] at A;cases A
  have cz:H0 j=none:=c5.free A;have aj:j≠m:=fun e=>by rw[e,W] at A;cases A
  have ai:j≠l:=fun e=>by rw[e,M] at A;cases A
  have co:upd H5 j (.dK []) x=some (.ins (cc 9) dx f5):=by rw[qf ah.symm];show ar
  apply .inl ⟨x,cc 9,dx,_,rfl,co,T.fcl,fa 4 (by decide),YC l5 (by decide),?_⟩;have c6:L2.Same H0 (upd (upd H5 j (.dK [])) x (.ins (cc 9) dx (qJ "bases" (.ref j) f5))):=qaT (qC c5 A) D;have au:(upd (upd H5 j (.dK [])) x (.ins (cc 9) dx (qJ "bases" (.ref j) f5))) x=some (.ins (cc 9) dx (qJ "bases" (.ref j) f5)):=qb;have l6:(qJ "bases" (.ref j) f5).length<=5:=hl l5;have Z:(upd (upd H5 j (.dK [])) x (.ins (cc 9) dx (qJ "bases" (.ref j) f5))) j=some (.dK []):=by rw[qf ah,qb]
  have X:(upd (upd H5 j (.dK [])) x (.ins (cc 9) dx (qJ "bases" (.ref j) f5))) m=some (.dK []):=by rw[qf C,qf (Yh aj)];show W
  have N:(upd (upd H5 j (.dK [])) x (.ins (cc 9) dx (qJ "bases" (.ref j) f5))) l=some (.dK []):=by rw[qf I,qf (Yh ai)];show M
  generalize upd (upd H5 j (.dK [])) x (.ins (cc 9) dx (qJ "bases" (.ref j) f5))=H6 at c6 au X N Z ⊢;obtain⟨f6,bo⟩:∃ f,f=qJ "bases" (.ref j) f5:=⟨_,rfl⟩;rw[<- bo] at au l6;apply⟨by show 0<=sizeLine;decide,fun g y=>?_⟩;have aw:g≠x:=fun e=>by rw[e,au] at y;cases y
  have cx:H0 g=none:=c6.free y;have af:g≠m:=fun e=>by rw[e,X] at y;cases y
  have ae:g≠l:=fun e=>by rw[e,N] at y;cases y
  have ag:g≠j:=fun e=>by rw[e,Z] at y;cases y
  have cp:upd H6 g (.lst []) x=some (.ins (cc 9) dx f6):=by rw[qf aw.symm];show au
  apply .inl ⟨x,cc 9,dx,_,rfl,cp,T.fcl,fa 5 (by decide),YC l6 (by decide),?_⟩;have c7:L2.Same H0 (upd (upd H6 g (.lst [])) x (.ins (cc 9) dx (qJ "rings" (.ref g) f6))):=qaT (qC c6 y) D;have av:(upd (upd H6 g (.lst [])) x (.ins (cc 9) dx (qJ "rings" (.ref g) f6))) x=some (.ins (cc 9) dx (qJ "rings" (.ref g) f6)):=qb;have l7:(qJ "rings" (.ref g) f6).length<=6:=hl l6;have R:(upd (upd H6 g (.lst [])) x (.ins (cc 9) dx (qJ "rings" (.ref g) f6))) g=some (.lst []):=by rw[qf aw,qb]
  have Y:(upd (upd H6 g (.lst [])) x (.ins (cc 9) dx (qJ "rings" (.ref g) f6))) m=some (.dK []):=by rw[qf C,qf (Yh af)];show X
  have O:(upd (upd H6 g (.lst [])) x (.ins (cc 9) dx (qJ "rings" (.ref g) f6))) l=some (.dK []):=by rw[qf I,qf (Yh ae)];show N
  have aa:(upd (upd H6 g (.lst [])) x (.ins (cc 9) dx (qJ "rings" (.ref g) f6))) j=some (.dK []):=by rw[qf ah,qf (Yh ag)];show Z
  generalize upd (upd H6 g (.lst [])) x (.ins (cc 9) dx (qJ "rings" (.ref g) f6))=H7 at c7 av Y O aa R ⊢;obtain⟨L,bp⟩:∃ f,f=qJ "rings" (.ref g) f6:=⟨_,rfl⟩;rw[<- bp] at av l7;apply⟨by show 0<=sizeLine;decide,fun a p=>?_⟩;have bu:a≠x:=fun e=>by rw[e,av] at p;cases p
  have db:H0 a=none:=c7.free p;have am:a≠m:=fun e=>by rw[e,Y] at p;cases p
  have ak:a≠l:=fun e=>by rw[e,O] at p;cases p
  have an:a≠j:=fun e=>by rw[e,aa] at p;cases p
  have al:a≠g:=fun e=>by rw[e,R] at p;cases p
  have cq:upd H7 a (.lst []) x=some (.ins (cc 9) dx L):=by rw[qf bu.symm];show av
  apply .inl ⟨x,cc 9,dx,_,rfl,cq,T.fcl,fa 6 (by decide),YC l7 (by decide),?_⟩;have c8:L2.Same H0 (upd (upd H7 a (.lst [])) x (.ins (cc 9) dx (qJ "waiting" (.ref a) L))):=qaT (qC c7 p) D;have bt:(upd (upd H7 a (.lst [])) x (.ins (cc 9) dx (qJ "waiting" (.ref a) L))) x=some (.ins (cc 9) dx (qJ "waiting" (.ref a) L)):=qb;have l8:(qJ "waiting" (.ref a) L).length<=7:=hl l7;have bg:(upd (upd H7 a (.lst [])) x (.ins (cc 9) dx (qJ "waiting" (.ref a) L))) a=some (.lst []):=by rw[qf bu,qb]
  have bc:(upd (upd H7 a (.lst [])) x (.ins (cc 9) dx (qJ "waiting" (.ref a) L))) m=some (.dK []):=by rw[qf C,qf (Yh am)];show Y
  have ax:(upd (upd H7 a (.lst [])) x (.ins (cc 9) dx (qJ "waiting" (.ref a) L))) l=some (.dK []):=by rw[qf I,qf (Yh ak)];show O
  have be:(upd (upd H7 a (.lst [])) x (.ins (cc 9) dx (qJ "waiting" (.ref a) L))) j=some (.dK []):=by rw[qf ah,qf (Yh an)];show aa
  have az:(upd (upd H7 a (.lst [])) x (.ins (cc 9) dx (qJ "waiting" (.ref a) L))) g=some (.lst []):=by rw[qf aw,qf (Yh al)];show R
  generalize upd (upd H7 a (.lst [])) x (.ins (cc 9) dx (qJ "waiting" (.ref a) L))=H8 at c8 bt bc ax be az bg ⊢;obtain⟨f8,bq⟩:∃ f,f=qJ "waiting" (.ref a) L:=⟨_,rfl⟩;rw[<- bq] at bt l8;apply .inl ⟨x,cc 9,dx,_,rfl,bt,T.fcl,fa 7 (by decide),YC l8 (by decide),?_⟩;have c9:L2.Same H0 (upd H8 x (.ins (cc 9) dx (qJ "longer" .non f8))):=qaT c8 D;have ca:(upd H8 x (.ins (cc 9) dx (qJ "longer" .non f8))) x=some (.ins (cc 9) dx (qJ "longer" .non f8)):=qb;have l9:(qJ "longer" .non f8).length<=8:=hl l8;have bd:(upd H8 x (.ins (cc 9) dx (qJ "longer" .non f8))) m=some (.dK []):=by rw[qf C];show bc
  have ay:(upd H8 x (.ins (cc 9) dx (qJ "longer" .non f8))) l=some (.dK []):=by rw[qf I];show ax
  have bf:(upd H8 x (.ins (cc 9) dx (qJ "longer" .non f8))) j=some (.dK []):=by rw[qf ah];show be
  have ba:(upd H8 x (.ins (cc 9) dx (qJ "longer" .non f8))) g=some (.lst []):=by rw[qf aw];show az
  have bh:(upd H8 x (.ins (cc 9) dx (qJ "longer" .non f8))) a=some (.lst []):=by rw[qf bu];show bg
  generalize upd H8 x (.ins (cc 9) dx (qJ "longer" .non f8))=H9 at c9 ca bd ay bf ba bh ⊢
  have hF:FoA (cc 9) cw H0 H9 ⟨x,b,dp,m,l,j,g,a,[]⟩ ss ns qs S0 [] [] [] .non:=by
   show⟨c9,?_,?_,fun c hc=>?_,?_,(fun c hc=>by cases hc),⟨dx,_,ca,XW l9,fun _=>l9,fun f v hf=>?_,fun f hf=>?_⟩,⟨[],bd,yh _,fun _=>rfl⟩,⟨[],ay,⟨[],yh _,.nil,(fun u hu=>by cases hu)⟩,fun _=>rfl⟩,⟨[],bf,yh _,(fun s hs=>by cases hs)⟩,⟨[],ba,yh _⟩,bh,.nil,fun v=>⟨(fun k=>by cases k),fun k=>absurd rfl k⟩,(fun v hv=>by cases hv)⟩
   .rw [ac];show(keepW b2).out bx cb
   .rw [ac];show(jv cr).trans ci
   .simp only[Fo.six,yx,yQ,Yv] at hc;rcases hc with rfl | rfl | rfl | rfl | rfl | rfl<;>assumption
   .simp [ad.symm,aj.symm,af.symm,am.symm,ai.symm,ae.symm,ak.symm,ag.symm,an.symm,al.symm]
   .simp only[Fo.tab,yx,XG,yQ,Yv] at hf;rw[bq,bp,bo,bn,bm,bj];rcases hf with⟨rfl,rfl⟩ | ⟨rfl,rfl⟩ | ⟨rfl,rfl⟩ | ⟨rfl,rfl⟩ | ⟨rfl,rfl⟩ | ⟨rfl,rfl⟩ | ⟨rfl,rfl⟩ | ⟨rfl,rfl⟩<;>rfl
   .rw [bq,bp,bo,bn,bm,bj];have no:∀ i,i<8->f≠fAtt.getD i "":=fun i hi e=>hf (by rw[e,Yn,yb (show i<fAtt.length from hi)];show Xx _);show lkn (no 7 (by decide)) (lkn (no 6 (by decide)) (lkn (no 5 (by decide)) (lkn (no 4 (by decide)) (lkn (no 3 (by decide)) (lkn (no 2 (by decide)) (lkn (no 1 (by decide)) (lkn (no 0 (by decide)) rfl)))))))
  ext;obtain⟨cd,fs,bw,_,_,_,bz⟩:=id hF.obj;show⟨x,cd,fs,rfl,bw,bz _ (by room),?_⟩;apply⟨H0,_,ss,ns,qs,B,rfl,hF,bv,cj,ch,fun HA S dn wt lo hD cu=>?_⟩;show q H0 HA _ S dn wt lo rfl rfl hD fun c o e=>?_;have hc:c≠x:=fun z=>by rw[z] at e;unfold qei at e;rw[yI rfl] at e;cases e
  rw[jv hc] at e;rw[ac,jv hc];show b2 _ _ hc e
inductive spFr(cc:Nat->Addr)(cw:Addr)(vs:List V)(H:Hp)(Q:VK)(E:XK):Prop|mk (H0:Hp) (a:Fo) (ss:LS) (ns:LN) (qs:LP) (S:FS) (dn wt:LS) (lo:V) (A:Str->Str->Prop) (_:vs=[.ref a.x]) (_:FoD (cc 9) cw H0 H a ss ns qs S dn wt lo A) (_:(lo=.non->Q .non H)) (_:∀(t:Addr) (r:LS),lo=.ref t->H t=some (.lst (r.map V.str))->Aug A (pt qs) r->∀ l,H l=none->Q (.ref l) (upd H l (.lst (r.map V.str))))
inductive spFd2(cc:Nat->Addr)(cw:Addr)(vs:List V)(H:Hp)(Q:VK)(E:XK):Prop|mk (H0:Hp) (a:Fo) (ss:LS) (ns:LN) (qs:LP) (S:FS) (dn wt:LS) (lo:V) (A:Str->Str->Prop) (_:vs=[.ref a.x]) (_:FoD (cc 9) cw H0 H a ss ns qs S dn wt lo A) (_:ss.length<=14) (_:(lo≠.non->Q .non H)) (_:(lo=.non->∀(l:Addr) (H':Hp),L2.Same H H'->H l=none->H' l=some (.lst ((ss.filter fun s=>(S.rows s).isSome).map V.str))->Q (.ref l) H'))
theorem ok_fr(F:Fun K "row" "Forest.row" zx f fd)(T:Txt K mg cc cw):FnOk P w K mg base CX0 1 f fd ["self"] (spFr cc cw):=by
 show F.ok uT fun _ _ _ _ H vs Q E i h=>?_
 .obtain⟨H0,a,ss,ns,qs,S,dn,wt,lo,B,rfl,b,e,g⟩:=h;show⟨_,(qe (qm (pe_ifExp (qk qff (qy (K:=K) rfl (pv 0) rfl) qY (qu _)) qY (zF (qbu (K:=K) rfl rfl) rfl T.b_list Xi (qa (qy (K:=K) rfl (pv 0) rfl) qd))))),?_⟩;apply .inl (b.fo.obj.rd T 7 rfl ?_);ext;rcases b.en with⟨rfl,_⟩ | ⟨t,r,rfl,c,j,d,_⟩
  .show⟨_,rfl,jU ?_⟩;apply e rfl
  .show⟨_,rfl,qF (fun h=>by cases h) fun _=>?_⟩;apply .inl (b.fo.obj.rd T 7 rfl ?_);apply .inl ⟨t,_,rfl,.inl (.of c),g t r rfl c d⟩
theorem ok_fd2(F:Fun K "reached" "Forest.reached" jm f fd)(T:Txt K mg cc cw)(D:MethOk P w K mg base CX0 1 cw "places" ["self"] (spPls cw)):FnOk P w K mg base CX0 2 f fd ["self"] (spFd2 cc cw):=by
 show F.ok uv fun _ _ _ s H vs Q E x h=>?_
 .obtain⟨H0,a,ss,ns,qs,S,dn,wt,lo,B,rfl,v,G,M,N⟩:=h;have L:=jQ x;show⟨_,(qc (qH (qk jR (qy (K:=K) rfl (pv 0) rfl) qY (qu _)) (qe (qm qY)) qo)
 (qe (qm (jh (sc:=qg jm) (XN:=["self"]) ["place","self"] 1 [0] rfl rfl rfl (by room) rfl (by room)
  (qK (K:=K) rfl (ji D (hmR x) (qy (K:=K) rfl (pv 0) rfl))) (fun _ _ _ _=>(qt (i:=0) (show(["place","self"]:LS).Nodup by room) rfl (yP rfl))) qN
  (fun _ _ _ _=>(qW (qk (zT (K:=K) rfl L) (pv 0) (qy (K:=K) rfl (pv 1) rfl) (by with_unfolding_all rfl))))
  (fun _ _ _ _=>(pv 0)))))),?_⟩
  have h:=v.fo;apply .inl (h.obj.rd T 7 rfl ?_);ext;rcases v.en with⟨rfl,_⟩ | ⟨t,r,rfl,_⟩
  .show⟨rfl,_,rfl,qF (fun h=>by simp at h) fun _=>?_⟩;have g:=h.web.same h.sm;obtain⟨U,W,ol,X,hb,_⟩:=id g;apply .inl (h.obj.rd T 0 rfl ?_);show⟨a.b,U,_,rfl,hb,zH (by room),?_⟩;apply⟨a.b,ss,ns,rfl,g,fun pl u=>?_⟩;have n:=qC (Sr H) (o:=.lst (ss.map V.str)) u;have p:upd H pl (.lst (ss.map V.str)) pl=some (.lst (ss.map V.str)):=qb;generalize upd H pl (.lst (ss.map V.str))=H1 at n p;have h1:=h.same n;obtain⟨C,O,Y,R⟩:=h1.row;show .inl ⟨⟨_,.of p⟩,qG (xs:=ss.map V.str) (fun i ys J=>J=H1/\ys=((ss.take i).filter fun s=>(S.rows s).isSome).map V.str) ⟨rfl,rfl⟩ (fun i ys J _ m=>by rw[m.1];show .of p) (fun i y ys J A m=>?_) fun ys J m=>?_⟩
   .obtain⟨rfl,rfl⟩:=m;rw[yd] at A;obtain⟨z,hz,rfl⟩:=yn.mp A;have I:=(yc.mp hz).1;have j:=yE (fun s=>(S.rows s).isSome) (ss.take i);rw[yK] at j
    have d:(ss.take (i+1)).filter (fun s=>(S.rows s).isSome)=(ss.take i).filter (fun s=>(S.rows s).isSome)++(if (S.rows z).isSome=true then [z] else []):=by
     rw[yD,hz,yZ];show _++[z].filter _=_;rw[yS,Yq]
    apply .inl (h1.obj.rd T 2 rfl ?_);show .inr (.inl ⟨a.dr,_,rfl,DGet.k (k:=Sum.inr z) O,?_⟩);have c:=R z
    have q:(zh C (.inr z:Key)).isSome=(S.rows z).isSome:=by
     cases e:S.rows z with
     | none=>rw[e] at c;rw[show zh C (.inr z:Key)=none from c];rfl
     | some r=>rw[e] at c;obtain⟨t,k,_⟩:=c;rw[k];rfl
    rw[yF (by decide),q,d];show⟨_,rfl,?_⟩
    cases (S.rows z).isSome with
    | true =>
     show jU ?_;rw[yI rfl];apply⟨by rw[ya];show qh (by lk),rfl,by rw[yC];rfl⟩
    | false =>
     show yq ?_;rw[yF (by decide),Yd];show⟨rfl,rfl⟩
   .obtain⟨rfl,rfl⟩:=m;rw[show(ss.map V.str).length=ss.length from ya _,yM];have j:=yE (fun s=>(S.rows s).isSome) ss;show⟨by rw[ya];show yR (qh (by lk)),fun l hl=>?_⟩;show N rfl l _ (qC n hl) (n.free hl) qb
  .show⟨rfl,_,rfl,jU ?_⟩;apply M (fun e=>by cases e)
theorem uk:FnScope ["web","pairs","partners"] ["web","pairs"] (qg j8):=fS
theorem Ky:FnScope ["web","thing","seen","place"] ["web","thing"] (qg jl):=fS
theorem qb9(a b:Str):eqV (.str a) (.str b)=decide (a=b):=by
 unfold eqV;by_cases h:a=b<;>simp[h]
theorem qfQ{i j:Str}{Q:VK}(q:Q (.bl (decide (i=j))) H):qfg K (.str i) (.str j) H Q:=.inl (.inl (.inl ⟨rfl,rfl,by rw[yF (by decide),qb9];show q⟩))
theorem qgj{i j:Str}{Q:VK}(q:Q (.bl (!decide (i=j))) H):qep K true (.str i) (.str j) H Q:=.inl ⟨rfl,rfl,by rw[yI rfl,qb9];show q⟩
noncomputable def qbF(a qs:LP):LP:=a.filter fun q=>decide (pt qs q.1=some q.2)
inductive spTp(cw:Addr)(vs:List V)(H:Hp)(Q:VK)(E:XK):Prop|mk (x l:Addr) (ss:LS) (ns:LN) (us:LQ) (tps qs:LP) (_:vs=[.ref x,.ref l]) (_:WebAt cw H x ss ns) (_:Adj ss ns tps) (_:PL H l us qs) (_:PGo ss tps qs) (_:∀(l:Addr) (ls:LQ) (H':Hp),L2.Same H H'->H l=none->H' l=some (.lst (ls.map V.ref))->ls.length<=196->All2 (PrAt H H' l) ls (qbF (qX ss ns ss.length) qs)->Q (.ref l) H')
noncomputable def stp(rs:LS):LP:=rs.zip rs.tail
noncomputable def prB(qs:LP)(ab:Str×Str):Bool:=decide (pt qs ab.1=some ab.2)
theorem stp_at:(stp rs)[j]?=some ab↔rs[j]?=some ab.1/\rs[j+1]?=some ab.2:=by
 unfold stp;rw[xn,YV]
theorem qaH(rs:LS):(stp rs).length=rs.length-1:=by unfold stp;rw[List.length_zip,xG];lk
structure RowG(ss:LS)(tps qs:LP)(rs:LS):Prop where
 nd:rs.Nodup
 two:2<=rs.length
 few:rs.length<=1000
 inn:∀ r∈rs,r∈ss
 tie:∀(j:Nat) ab,(stp rs)[j]?=some ab->(ab∈tps\/(ab.2,ab.1)∈tps)/\prB qs ab=decide (j % 2=1)
 hd:∀ s,rs[0]?=some s->pt qs s=none
 tl:∀ s,rs[rs.length-1]?=some s->pt qs s=none
structure Rw(cw:Addr)(H:Hp)(x l a:Addr)(ss:LS)(ns:LN)(us:LQ)(tps qs:LP)(rs:LS):Prop where
 web:WebAt cw H x ss ns
 adj:Adj ss ns tps
 prs:PL H l us qs
 pgo:PGo ss tps qs
 row:H a=some (.lst (rs.map V.str))
 rok:RowG ss tps qs rs
theorem Rw.same{a:Addr}(h:Rw cw H x l a ss ns us tps qs rs)(s:L2.Same H H'):Rw cw H' x l a ss ns us tps qs rs:=
 ⟨h.web.same s,h.adj,h.prs.same s,h.pgo,s _ _ h.row,h.rok⟩
inductive spUl(cw:Addr)(vs:List V)(H:Hp)(Q:VK)(E:XK):Prop|mk (x a:Addr) (ss:LS) (ns:LN) (rs:LS) (_:vs=[.ref x,.ref a]) (_:WebAt cw H x ss ns) (_:H a=some (.lst (rs.map V.str))) (_:rs.Nodup) (_:rs.length<=1000) (_:(∀ r∈rs,r∈ss)) (_:∀ H',L2.Same H H'->Q (.bl true) H')
inductive spGt(cw:Addr)(vs:List V)(H:Hp)(Q:VK)(E:XK):Prop|mk (x l d a:Addr) (ss:LS) (ns:LN) (us:LQ) (tps qs:LP) (rs:LS) (_:vs=[.ref x,.ref d,.ref a]) (_:Rw cw H x l a ss ns us tps qs rs) (_:H d=some (.dK (prK qs))) (_:∀ H',L2.Same H H'->Q (.bl true) H')
inductive spIr(cw:Addr)(vs:List V)(H:Hp)(Q:VK)(E:XK):Prop|mk (x l a:Addr) (ss:LS) (ns:LN) (us:LQ) (tps qs:LP) (rs:LS) (_:vs=[.ref x,.ref l,.ref a]) (_:Rw cw H x l a ss ns us tps qs rs) (_:∀ H',L2.Same H H'->Q (.bl true) H')
theorem qe8{Q:VK}(q:Q (.bl (decide (pt qs s=some t))) H):qfg K (((pt qs s).map V.str).getD .non) (.str t) H Q:=by
 cases e:pt qs s with
 | none=>rw[e] at q;show .inl (.inl (.inl ⟨rfl,rfl,q⟩))
 | some u =>
  show qfQ ?_;rw[e] at q
  rwa[show decide (u=t)=decide (some u=some t) from YN.mpr ⟨congrArg some,ym⟩]
theorem ok_tp(F:Fun K "told_pairs" "told_pairs" j8 f fd)(T:Txt K mg cc cw)(R:DefOk P w K mg base CX0 9 "partners_in" ["web","pairs"] (spPn cw))(uh:MethOk P w K mg base CX0 7 cw "ties" ["self"] (spTs cw)):FnOk P w K mg base CX0 10 f fd ["web","pairs"] (spTp cw):=by
 show F.ok uk fun _ _ _ _ H vs Q E J h=>?_
 .obtain⟨x,pl,ss,ns,ps,tps,qs,rfl,C,S,W,U,q⟩:=h;have A:=jQ J;obtain⟨wx,dd,ol,nn,hb,_⟩:=id C;show⟨_,(qc (qq (i:=2) uk.nd rfl (XB rfl) (qr R (hmR J) qz (qa (pv 0) (qa (pv 1) qd))))
 (qe (qm (jh (sc:=qg j8) (XN:=["web","pairs","partners"]) ["tie","partners"] 1 [2] rfl rfl rfl (by room) rfl (by room)
  (qK (K:=K) rfl (ji uh (hmR J) (pv 0))) (fun _ _ _ _=>(qt (i:=0) (show(["tie","partners"]:LS).Nodup by room) rfl (yP rfl))) qN
  (fun _ _ _ _=>(qW (qk (zl (K:=K) rfl A) (qaL (qfB A) (pv 1) (qw (qx (K:=K) rfl A) (pv 0) qi (fun _ _=>rfl)) ⟨rfl,rfl,rfl,rfl⟩) (qw (qx (K:=K) rfl A) (pv 0) qi (fun _ _=>rfl)) (qu _))))
  (fun _ _ _ _=>(pv 0)))))),?_⟩
  apply⟨x,pl,ss,ns,ps,tps,qs,rfl,C,S,W,U,fun d H1 B Y X=>?_⟩;apply⟨x,wx,_,rfl,B _ _ hb,zH (by room),?_⟩;apply⟨x,ss,ns,rfl,C.same B,fun l ts H2 O aa hl D b=>?_⟩;have p:=O _ _ X;have s:=B.trans O;show .inl ⟨⟨_,.of hl⟩,qG (xs:=ts.map V.ref) (fun i ys G=>G=H2/\∃ us:LQ,ys=us.map V.ref/\us.length<=i/\All2 (fun t ab=>H1 t=none/\H2 t=some (.tup [.str ab.1,.str ab.2])) us (qbF ((qX ss ns ss.length).take i) qs)) ⟨rfl,[],rfl,yh _,.nil⟩ (fun i ys G _ a=>by rw[a.1];show .of hl) (fun i y ys G N a=>?_) fun ys G a=>?_⟩
  .obtain⟨rfl,us,rfl,r,m⟩:=a;rw[yd] at N;obtain⟨t,M,rfl⟩:=yn.mp N;have Z:i<ts.length:=(yc.mp M).1;obtain⟨ab,n⟩:∃ ab,(qX ss ns ss.length)[i]?=some ab:=⟨_,yb (by rw[<- b.len];show Z)⟩;obtain⟨z1,z2,L⟩:=b.at_ i t ab M n
   have c:qbF ((qX ss ns ss.length).take (i+1)) qs=qbF ((qX ss ns ss.length).take i) qs++(if pt qs ab.1=some ab.2 then [ab] else []):=by
    unfold qbF;rw[yD,n,yZ];show _++[ab].filter _=_;rw[yS];simp only[kK,Yq]
   apply qcw ?_;apply⟨d,rfl,.inl ⟨_,.inl p⟩,?_⟩;apply .inl (qaD L (v:=.str ab.1) (qE (j:=0) rfl) ?_);show⟨_,DGet.k (k:=Sum.inr ab.1) p,?_⟩;rw[jY];apply .inl (qaD L (v:=.str ab.2) (qE (j:=1) rfl) ?_);show qe8 ?_;ext;rw[c];show qF (fun I=>?_) (fun I=>?_)
   .rw [yI (yk I)];apply⟨by rw[ya];show qh (by lk),rfl,us++[t],by rw[yC];rfl,by rw[yt];simp;lk,m.snoc ⟨z1,L⟩⟩
   .rw [yF (fun e=>I (yL e)),Yd];show⟨rfl,us,rfl,by lk,m⟩
  .obtain⟨rfl,us,rfl,r,m⟩:=a;have e:(ts.map V.ref).length=(qX ss ns ss.length).length:=by rw[ya,b.len]
   rw[e,yM] at m;rw[ya] at r;show⟨by rw[ya];show yR (qh (by lk)),fun g u=>?_⟩;have s3:=qC s (o:=.lst (us.map V.ref)) u;show q g us _ s3 (s.free u) qb (by lk) (m.mono fun t ab z=>⟨B.free z.1,(fun e=>by rw[e,u] at z;cases z.2),by rw[qf (fun e=>by rw[e,u] at z;cases z.2)];show z.2⟩)
theorem ok_ul(F:Fun K "are_unlike_places" "are_unlike_places" jl f fd)(T:Txt K mg cc cw)(L:MethOk P w K mg base CX0 3 cw "has_place" ["self","thing"] (spHas cw)):FnOk P w K mg base CX0 4 f fd ["web","thing"] (spUl cw):=by
 show F.ok Ky fun _ _ _ _ H vs Q E D h=>?_
 .obtain⟨x,a,ss,ns,rs,rfl,A,l,n,hl,m,q⟩:=h;have G:=jQ D;show⟨_,(qc (qH (qT (qP (qp (qah (K:=K) rfl) rfl T.b_isinstance YH (qa (pv 1) (qa (jH (v:=.ty "list") rfl T.b_list Xi rfl) qd))))) (qe (qm jq)) qo)
 (qc (qq (i:=2) Ky.nd rfl (yP rfl) zo)
 (qc (jz yV rfl (qK (K:=K) rfl (pv 1)) (qt (i:=3) Ky.nd rfl (yP rfl))
 (qc (qH (PW.pt (qad (qT (qP (qB L (hmR D) (pv 0) (qa (pv 3) qd)))) (zm (qk (zT (K:=K) rfl G) (pv 3) (pv 2) (by with_unfolding_all rfl))))) (qe (qm jq)) qo)
 (qe (zg jq (zn (pv 2) (pv 3) (zr G))))))
 (qe (qm jq))))),?_⟩
  apply qbw (.inl (.lst l)) rfl (zR K "list" (by simp) "list" (by simp)) ?_;apply yq ?_;ext;intro d B;have p:=qC (Sr H) (o:=.dK []) B;have t:upd H d (.dK []) d=some (.dK (qb7 [])):=qb;generalize upd H d (.dK [])=H1 at p t;obtain⟨N,R,ol,S,hb,_⟩:=id A;apply .inl ⟨⟨_,.of (p _ _ l)⟩,jd (xs:=rs.map V.str) (fun i j J=>L2.Same H J/\∃ s,j=[some (.ref x),some (.ref a),some (.ref d),s]/\J d=some (.dK (qb7 (rs.take i)))) ⟨p,_,rfl,t⟩ (fun i j J _ c=>.of (c.1 _ _ l)) (fun i y j J I c=>?_) fun j J c=>?_⟩
  .obtain⟨g,s,rfl,b⟩:=c;rw[yd] at I;obtain⟨z,hz,rfl⟩:=yn.mp I;have M:i<rs.length:=(yc.mp hz).1;have e:rs.take (i+1)=rs.take i++[z]:=by rw[yD,hz];rfl
   have C:z∉rs.take i:=fun y=>by
    have u:(rs.take (i+1)).Nodup:=n.sublist (XT _ _);rw[e] at u;show(Yb.mp u).2.2 _ y z (by simp) rfl
   apply⟨x,N,_,rfl,g _ _ hb,zH (by room),?_⟩;apply⟨x,ss,ns,z,rfl,A.same g,m z (ye hz),fun O r=>?_⟩;apply yq ?_;apply .inr (.inl ⟨d,_,rfl,DGet.k (k:=Sum.inr z) (r _ _ b),?_⟩);rw[yF (by decide),qaj,yl C];apply yq ?_;apply .inr ⟨d,_,rfl,DPut.k (k:=Sum.inr z) (r _ _ b) (qh (by unfold qb7;rw[ya,yK];lk)),?_⟩;show⟨qaT (g.trans r) B,_,rfl,?_⟩;rw[qb,qb8 C,e]
  .obtain⟨g,s,rfl,b⟩:=c;apply q J g
theorem uO:FnScope ["web","pairs","thing","partners"] ["web","pairs","thing"] (qg qbi):=fS
theorem KI:FnScope ["web","partners","names","steps","paired"] ["web","partners","names"] (qg qV):=fS
theorem KS:FnScope ["web","pairs","thing","partners","first","last"] ["web","pairs","thing"] (qg qaz):=fS
theorem qbj(rs:List V):qc5 rs (some 1) none=rs.tail:=by
 have:=qbx rs 1
 rwa[List.drop_one] at this
theorem qfG:∀{bs:List Bool},(∀ b∈bs,b=true)->bs.all id=true:=fun h=>YM.mpr h
theorem qd8{xs ys:LS}(Z:Zl H H' l ts (xs.map V.str) (ys.map V.str))(hl:qs.length=min xs.length ys.length)(h:∀(j:Nat) q,qs[j]?=some q->xs[j]?=some q.1/\ys[j]?=some q.2):All2 (fun t ab=>H' t=some (.tup [.str ab.1,.str ab.2])) ts qs:=by
 show⟨by rw[Z.len,ya,ya,hl],fun j t ab g c=>?_⟩;obtain⟨d,f⟩:=h j ab c;obtain⟨_,u,v,a,b,e⟩:=Z.tp j t g;rw[yd,d] at a;rw[yd,f] at b;cases a;cases b;show e
theorem atI_back{xs:List α}{v:α}(a:1<=j)(h1:j<=xs.length)(h:xs[xs.length-j]?=some v):atI xs (-(j:Int))=some v:=by
 have e:ixN xs.length (-(j:Int))=some (xs.length-j):=by
  unfold ixN;rw[yF (by lk),yI (by lk)]
  congr 1
  lk
 unfold atI;rw[e];show h
theorem ok_gt(F:Fun K "goes_by_turns" "goes_by_turns" qV f fd)(T:Txt K mg cc cw)(K2:MethOk P w K mg base CX0 7 cw "has_tie" ["self","thing"] (spHt cw)):FnOk P w K mg base CX0 8 f fd ["web","partners","names"] (spGt cw):=by
 show F.ok KI fun _ _ _ _ H vs Q E hr h=>?_
 .obtain⟨x,l,d,a,ss,ns,us,tps,qs,rs,rfl,R,hd,q⟩:=h;have hu:=jQ hr;obtain⟨wx,dd,ol,nn,hb,_⟩:=id R.web;have ha:=R.row;have M:=R.rok;have hl:=M.few;show⟨_,(qc (qq (i:=3) KI.nd rfl (yP rfl) (qcS (K:=K) rfl rfl rfl rfl T.b_list T.b_zip (qa (pv 2) (qa (jx (qdF (K:=K) rfl) (pv 2) (jo qi) jS) qd))))
 (qc (qH (qT (qP (qp (qeo (K:=K) rfl rfl) rfl T.b_all boot_all (qa (jh (sc:=qg qV) (XN:=["web","partners","names","steps","paired"]) ["step","web"] 1 [0] rfl rfl rfl (by room) rfl (by room)
  (qK (K:=K) rfl (pv 3)) (fun _ _ _ _=>(qt (i:=0) (show(["step","web"]:LS).Nodup by room) rfl (yP rfl))) qN
  (fun _ _ _ _=>jK)
  (fun _ _ _ _=>(qB K2 (hmR hr) (pv 1) (qa (pv 0) qd)))) qd)))) (qe (qm jq)) qo)
 (qc (zQ (sc:=qg qV) (XN:=["web","partners","names","steps","paired"]) ["step","partners"] 1 [1] rfl rfl rfl (by room) rfl (by room) (i:=4) KI.nd rfl rfl
  (qK (K:=K) rfl (pv 3)) (fun _ _ _ _=>(qt (i:=0) (show(["step","partners"]:LS).Nodup by room) rfl (yP rfl))) qN
  (fun _ _ _ _=>jK)
  (fun _ _ _ _=>(qS (zl (K:=K) rfl hu) (qaL (qfB hu) (pv 1) (qw (qx (K:=K) rfl hu) (pv 0) qi (fun _ _=>rfl)) ⟨rfl,rfl,rfl,rfl⟩) (qw (qx (K:=K) rfl hu) (pv 0) qi (fun _ _=>rfl)) (qu _))))
 (qe (qm (qp (qeo (K:=K) rfl rfl) rfl T.b_all boot_all (qa (jh (sc:=qg qV) (XN:=["web","partners","names","steps","paired"]) ["one","other"] 2 [] rfl rfl rfl (by room) rfl (by room)
  (pi_zip (K:=K) rfl rfl T.b_zip (qa (pv 4) (qa (jx (qdF (K:=K) rfl) (pv 4) (jo qi) jS) qd))) (fun _ _ _ _=>(qdL (n:=2) rfl (qan (qt (i:=0) (show(["one","other"]:LS).Nodup by room) rfl (yP rfl)) (qan (qt (i:=1) (show(["one","other"]:LS).Nodup by room) rfl (yP rfl)) qcJ)))) gk_two
  (fun _ _ _ _=>jK)
  (fun _ _ _ _=>(qS (zS (K:=K) rfl hu) (pv 0) (pv 1) (qu _)))) qd))))))),?_⟩
  apply vLZ ?_;apply .inl ⟨a,_,rfl,SqL.of ha,fun c hc=>?_⟩;rw[qbj,<- kN];have s1:=qC (Sr H) (o:=.lst (rs.tail.map V.str)) hc;have Y:upd H c (.lst (rs.tail.map V.str)) c=some (.lst (rs.tail.map V.str)):=qb;generalize upd H c (.lst (rs.tail.map V.str))=H1 at s1 Y;apply⟨a,c,_,_,rfl,SqL.of (s1 _ _ ha),SqL.of Y,by rw[ya];show hl,fun l ts H2 Z=>?_⟩;have L:=s1.trans Z.sm;have aj:(stp rs).length<=1000:=by rw[qaH];lk
  have W:=qd8 (qs:=stp rs) Z (by rw[qaH,xG];lk) fun j q e=>by
   obtain⟨z1,z2⟩:=stp_at.mp e;show⟨z1,by rw[YV];show z2⟩
  have tl:=W.len;have C:=Z.ls
  have ah:∀{i:Nat} {y:V},(ts.map V.ref)[i]?=some y->∃ t ab,y=.ref t/\(stp rs)[i]?=some ab/\H2 t=some (.tup [.str ab.1,.str ab.2]):=fun{i y} O=>by
   rw[yd] at O;obtain⟨t,ht,rfl⟩:=yn.mp O;obtain⟨ab,p⟩:∃ ab,(stp rs)[i]?=some ab:=⟨_,yb (by rw[<- tl];show(yc.mp ht).1)⟩;show⟨t,ab,rfl,p,W.at_ i t ab ht p⟩
  apply .inl ⟨⟨_,.of C⟩,qG (xs:=ts.map V.ref) (fun i ys G=>L2.Same H2 G/\ys=(((stp rs).take i).map fun _=>true).map V.bl) ⟨L2.Same.refl H2,rfl⟩ (fun i ys G _ m=>.of (m.1 _ _ C)) (fun i y ys G O m=>?_) fun ys G m=>?_⟩
  .obtain⟨S,rfl⟩:=m;obtain⟨t,ab,rfl,p,N⟩:=ah O;obtain⟨e1,U⟩:=stp_at.mp p;apply jU ?_;apply⟨x,wx,_,rfl,(L.trans S) _ _ hb,zH (by room),?_⟩;apply⟨x,t,ss,ns,tps,ab,rfl,R.web.same (L.trans S),R.adj,S _ _ N,(M.tie i ab p).1,M.inn _ (ye e1),M.inn _ (ye U),fun z=>?_,fun G2 al=>?_⟩
   .rw [<- z] at U;show absurd (qA M.nd e1 U) (by lk)
   .show⟨by rw[ya,ya,yK];show qh (by lk),S.trans al,?_⟩;rw[yD,p,yC,yC];rfl
  .obtain⟨S,rfl⟩:=m;rw[show(ts.map V.ref).length=(stp rs).length by rw[ya,tl],yM];show⟨by rw[ya,ya];show yR (qh (by lk)),fun g hg=>?_⟩;have s3:=qC S (o:=.lst (((stp rs).map fun _=>true).map V.bl)) hg;have eg:upd G g (.lst (((stp rs).map fun _=>true).map V.bl)) g=some (.lst (((stp rs).map fun _=>true).map V.bl)):=qb;generalize upd G g (.lst (((stp rs).map fun _=>true).map V.bl))=G3 at s3 eg;apply⟨g,_,rfl,SqL.of eg,_,rfl,?_⟩;rw[qfG (fun b hb=>by obtain⟨_,_,rfl⟩:=YF.mp hb;rfl)];have af:=L.trans s3;show yq ?_;have r:=s3 _ _ C;have ac:=af _ _ hd;apply .inl ⟨⟨_,.of r⟩,qG (xs:=ts.map V.ref) (fun i ys G=>G=G3/\ys=(((stp rs).take i).map (prB qs)).map V.bl) ⟨rfl,rfl⟩ (fun i ys G _ m=>by rw[m.1];show .of r) (fun i y ys G O m=>?_) fun ys G m=>?_⟩
   .obtain⟨rfl,rfl⟩:=m;obtain⟨t,ab,rfl,p,N⟩:=ah O;have N:=s3 _ _ N;apply jU ?_;apply qcw ?_;apply⟨d,rfl,.inl ⟨_,.inl ac⟩,?_⟩;apply .inl (qaD N (v:=.str ab.1) (qE (j:=0) rfl) ?_);show⟨_,DGet.k (k:=Sum.inr ab.1) ac,?_⟩;rw[jY];apply .inl (qaD N (v:=.str ab.2) (qE (j:=1) rfl) ?_);show qe8 ?_;show⟨by rw[ya,ya,yK];show qh (by lk),rfl,?_⟩;rw[yD,p,yC,yC];rfl
   .obtain⟨rfl,rfl⟩:=m;rw[show(ts.map V.ref).length=(stp rs).length by rw[ya,tl],yM];show⟨by rw[ya,ya];show yR (qh (by lk)),fun b ai=>?_⟩;obtain⟨bs,B⟩:∃ bs,bs=(stp rs).map (prB qs):=⟨_,rfl⟩;rw[<- B];have am:bs.length<=1000:=by rw[B,ya];show aj
    have X:∀(i:Nat) b,bs[i]?=some b->b=decide (i % 2=1):=fun i b e=>by
     rw[B,yd] at e;obtain⟨ab,p,rfl⟩:=yn.mp e;show(M.tie i ab p).2
    have s4:=qC af (o:=.lst (bs.map V.bl)) ai;have eb:upd G b (.lst (bs.map V.bl)) b=some (.lst (bs.map V.bl)):=qb;generalize upd G b (.lst (bs.map V.bl))=G4 at s4 eb;apply vZip ?_;apply .inl ⟨b,_,rfl,SqL.of eb,fun c2 aa=>?_⟩;rw[qbj,<- kN];have s5:=qC s4 (o:=.lst (bs.tail.map V.bl)) aa;have s:=qC (Sr G4) (o:=.lst (bs.tail.map V.bl)) aa _ _ eb;have A:upd G4 c2 (.lst (bs.tail.map V.bl)) c2=some (.lst (bs.tail.map V.bl)):=qb;generalize upd G4 c2 (.lst (bs.tail.map V.bl))=G5 at s5 s A;apply⟨b,c2,_,_,rfl,SqL.of s,SqL.of A,comp_zip (xs:=bs.map V.bl) (ys:=bs.tail.map V.bl) (by simp) (fun i zs J=>L2.Same G5 J/\zs=(List.replicate i true).map V.bl) ⟨L2.Same.refl G5,rfl⟩ (fun i zs J _ m=>⟨SqL.of (m.1 _ _ s),SqL.of (m.1 _ _ A)⟩) (fun i u v t zs J D I ht m=>?_) fun zs J m=>?_⟩
    .obtain⟨sJ,rfl⟩:=m;rw[yd] at D I;obtain⟨u,ad,rfl⟩:=yn.mp D;obtain⟨v,ae,rfl⟩:=yn.mp I;clear D I;have an:=(yc.mp ad).1;rw[YV] at ae;have e1:=X _ _ ad;have U:=X _ _ ae;have ag:=qC sJ (o:=.tup [.bl u,.bl v]) ht;show⟨t,_,rfl,.of qb,rfl,_,_,rfl,_,_,rfl,rfl,?_⟩;generalize upd J t (.tup [.bl u,.bl v])=J3 at ag;apply jU ?_;apply .inl ⟨rfl,rfl,?_⟩;show⟨by rw[ya,YY];show qh (by lk),ag,?_⟩
     have ak:v=!u:=by
      rw[e1,U];rcases xj i with z | z
      .rw [z,yL (by lk)];rfl
      .rw [z,yl (by lk)];rfl
     rw[List.replicate_succ',yC,ak];cases u<;>rfl
    .obtain⟨sJ,rfl⟩:=m;rw[show(bs.tail.map V.bl).length=bs.length-1 by rw[ya,xG]];show⟨by rw[ya,YY];show yR (qh (by lk)),fun e he=>?_⟩;have s6:=qC (s5.trans sJ) (o:=.lst ((List.replicate (bs.length-1) true).map V.bl)) he;have ee:upd J e (.lst ((List.replicate (bs.length-1) true).map V.bl)) e=some (.lst ((List.replicate (bs.length-1) true).map V.bl)):=qb;generalize upd J e (.lst ((List.replicate (bs.length-1) true).map V.bl))=J6 at s6 ee;apply⟨e,_,rfl,SqL.of ee,?_⟩;rw[qfG (fun b hb=>(List.mem_replicate.mp hb).2)];show q J6 s6
theorem ok_ir(F:Fun K "is_row" "is_row" qbi f fd)(T:Txt K mg cc cw)(m:DefOk P w K mg base CX0 9 "partners_in" ["web","pairs"] (spPn cw))(s:DefOk P w K mg base CX0 4 "are_unlike_places" ["web","thing"] (spUl cw))(r:DefOk P w K mg base CX0 8 "goes_by_turns" ["web","partners","names"] (spGt cw)):FnOk P w K mg base CX0 10 f fd ["web","pairs","thing"] (spIr cw):=by
 show F.ok uO fun _ _ _ _ H vs Q E c h=>?_
 .obtain⟨x,l,a,ss,ns,us,tps,qs,rs,rfl,R,q⟩:=h;have u:=jQ c;have G:=R.rok;have t:=G.two;show⟨_,(qc (qq (i:=3) uO.nd rfl (yP rfl) (qr m (hmR c) qz (qa (pv 0) (qa (pv 1) qd))))
 (qc (qH (PW.pt (qad (qT (qP (qr s (hmR c) qz (qa (pv 0) (qa (pv 2) qd))))) (zm (qk qdN (qp (j9 (K:=K) rfl) rfl T.b_len YQ (qa (pv 2) qd)) qi (qu _))))) (qe (qm jq)) qo)
 (qe (qm (qr r (hmR c) qz (qa (pv 0) (qa (pv 3) (qa (pv 2) qd)))))))),?_⟩
  apply⟨x,l,ss,ns,us,tps,qs,rfl,R.web,R.adj,R.prs,R.pgo,fun d H1 e o n=>?_⟩;apply⟨x,a,ss,ns,rs,rfl,R.web.same e,e _ _ R.row,G.nd,G.few,G.inn,fun H2 g=>?_⟩;have b:=e.trans g;apply yq ?_;apply .inl ⟨_,.inl (SqL.of (b _ _ R.row)),?_⟩;rw[ya];apply qF (fun h=>absurd (yk h) (by lk)) fun _=>?_;apply⟨x,l,d,a,ss,ns,us,tps,qs,rs,rfl,R.same b,g _ _ n,fun j p=>q j (b.trans p)⟩
theorem qeS{t:Addr}{n:Str}{Q:VK}(e:H t=some (.tup [.non,.str n]))(q:Q (.bl true) H):qeg K false .non (.ref t) H Q:=
 .inl ⟨t,_,rfl,.inr (SqT.of e),rfl,rfl,q⟩
theorem ok_ct(F:Fun K "can_turn" "can_turn" qaz f fd)(T:Txt K mg cc cw)(I:DefOk P w K mg base CX0 9 "partners_in" ["web","pairs"] (spPn cw))(J:DefOk P w K mg base CX0 10 "is_row" ["web","pairs","thing"] (spIr cw)):FnOk P w K mg base CX0 11 f fd ["web","pairs","thing"] (spIr cw):=by
 show F.ok KS fun _ _ _ _ H vs Q E u h=>?_
 .obtain⟨x,l,a,ss,ns,us,tps,qs,rs,rfl,R,q⟩:=h;have b:=jQ u;have G:=R.rok;have W:=G.two;show⟨_,(qc (qH (qT (qP (qr J (hmR u) qz (qa (pv 0) (qa (pv 1) (qa (pv 2) qd)))))) (qe (qm jq)) qo)
 (qc (qq (i:=3) KS.nd rfl (yP rfl) (qr I (hmR u) qz (qa (pv 0) (qa (pv 1) qd))))
 (qc (qq (i:=4) KS.nd rfl (yP rfl) (qaL (qfB b) (pv 3) (qw (qx (K:=K) rfl b) (pv 2) qi (fun _ _=>rfl)) ⟨rfl,rfl,rfl,rfl⟩))
 (qc (qq (i:=5) KS.nd rfl (yP rfl) (qaL (qfB b) (pv 3) (qw (qx (K:=K) rfl b) (pv 2) (qa0 zD qi) (fun _ _=>rfl)) ⟨rfl,rfl,rfl,rfl⟩))
 (qe (qm (qa8 (qS (zT (K:=K) rfl b) (pv 4) (zE (qa qY (qa (qw (qx (K:=K) rfl b) (pv 2) qi (fun _ _=>rfl)) qd))) (by with_unfolding_all rfl)) (qaK (qS (zT (K:=K) rfl b) (pv 5) (zE (qa qY (qa (qw (qx (K:=K) rfl b) (pv 2) (qa0 zD qi) (fun _ _=>rfl)) qd))) (by with_unfolding_all rfl)))))))))),?_⟩
  apply⟨x,l,a,ss,ns,us,tps,qs,rs,rfl,R,fun H1 z=>?_⟩;show⟨_,rfl,qF (fun h=>by cases h) fun _=>?_⟩;apply⟨x,l,ss,ns,us,tps,qs,rfl,R.web.same z,R.adj,R.prs.same z,R.pgo,fun d H2 S M p=>?_⟩;obtain⟨s,B⟩:∃ s,rs[0]?=some s:=⟨_,yb (by lk)⟩;obtain⟨g,L⟩:∃ g,rs[1]?=some g:=⟨_,yb (by lk)⟩;obtain⟨r,D⟩:∃ r,rs[rs.length-1]?=some r:=⟨_,yb (by lk)⟩;obtain⟨m1,O⟩:∃ m1,rs[rs.length-2]?=some m1:=⟨_,yb (by lk)⟩;have m:=z.trans S;have C:=R.row;have c:=m _ _ C;have at_:∀{j:Nat} {n:Str},rs[j]?=some n->(rs.map V.str)[j]?=some (.str n):=fun e=>by rw[yd,e];rfl
  have back:∀{j:Nat} {n:Str},1<=j->j<=rs.length->rs[rs.length-j]?=some n->atI (rs.map V.str) (-(j:Int))=some (.str n):=fun l1 l2 e=>atI_back l1 (by rw[ya];show l2) (by rw[ya];show at_ e);apply qcw ?_;apply⟨d,rfl,.inl ⟨_,.inl p⟩,?_⟩;apply .inl (qag c (v:=.str s) (qE (j:=0) (at_ B)) ?_);show⟨_,DGet.k (k:=Sum.inr s) p,?_⟩;rw[jY,G.hd _ B];apply qcw ?_;apply⟨d,rfl,.inl ⟨_,.inl p⟩,?_⟩;apply⟨1,rfl,?_⟩;show .inl (qag c (v:=.str r) (back (j:=1) (by decide) (by lk) D) ?_);show⟨_,DGet.k (k:=Sum.inr r) p,?_⟩;rw[jY,G.tl _ D];apply .inl (qag c (v:=.str g) (qE (j:=1) (at_ L)) ?_);apply⟨by show 2<=sizeLine;decide,fun t N=>qeS qb ?_⟩;have A:=qC m (o:=.tup [.non,.str g]) N;generalize upd H2 t (.tup [.non,.str g])=U at A;show⟨_,rfl,jU ?_⟩;apply⟨2,rfl,?_⟩;show .inl (qag (A _ _ C) (v:=.str m1) (back (j:=2) (by decide) (by lk) O) ?_);apply⟨by show 2<=sizeLine;decide,fun X y=>qeS qb (q _ (qC A y))⟩
theorem uq:FnScope ["web","pairs","row","partners","steps"] ["web","pairs","row"] (qg qaY):=fS
noncomputable def qd9(rs:LS):LP:=stp rs++(stp rs).map fun q=>(q.2,q.1)
noncomputable def flT(a qs:LP)(rs:LS):LP:=a.filter fun q=>decide (pt qs q.1=some q.2) != decide (q∈qd9 rs)
inductive spTu(cw:Addr)(vs:List V)(H:Hp)(Q:VK)(E:XK):Prop|mk (x l a:Addr) (ss:LS) (ns:LN) (us:LQ) (tps qs:LP) (rs:LS) (_:vs=[.ref x,.ref l,.ref a]) (_:Rw cw H x l a ss ns us tps qs rs) (_:∀(l:Addr) (ls:LQ) (H':Hp),L2.Same H H'->H l=none->H' l=some (.lst (ls.map V.ref))->ls.length<=196->All2 (PrAt H H' l) ls (flT (qX ss ns ss.length) qs rs)->Q (.ref l) H')
theorem All2.app9{R:α->β->Prop}{l1 l2:List α}{m1 f:List β}(a:All2 R l1 m1)(b:All2 R l2 f):All2 R (l1++l2) (m1++f):=by
 show⟨by rw[yt,yt,a.len,b.len],fun k x y c d=>?_⟩;by_cases e:k<l1.length
 .rw [yW e] at c;rw[yW (by rw[<- a.len];show e)] at d;show a.at_ k x y c d
 .rw [yB (by lk)] at c;rw[yB (by rw[<- a.len];lk),<- a.len] at d;show b.at_ _ x y c d
theorem cat_W{a b:Addr}{Q:VK}(c:G a=some (.lst xs))(d:G b=some (.lst ys))(hl:xs.length+ys.length<=2000)(q:∀ p,G p=none->Q (.ref p) (upd G p (.lst (xs++ys)))):qdD K (.ref a) (.ref b) G Q:=.inl ⟨a,b,_,_,rfl,rfl,c,d,yi hl (by decide),q⟩
theorem ok_tu(F:Fun K "turned" "turned" qaY f fd)(T:Txt K mg cc cw)(Km:DefOk P w K mg base CX0 9 "partners_in" ["web","pairs"] (spPn cw))(uh:MethOk P w K mg base CX0 7 cw "ties" ["self"] (spTs cw))(Uc:DefOk P w K mg base CX0 11 "can_turn" ["web","pairs","thing"] (spIr cw)):FnOk P w K mg base CX0 12 f fd ["web","pairs","row"] (spTu cw):=by
 show F.ok uq fun _ _ _ _ H vs Q E hr h=>?_
 .obtain⟨x,pl,a,ss,ns,ps,tps,qs,rs,rfl,R,q⟩:=h;have u:=jQ hr;obtain⟨wx,dd,ol,nn,hb,_⟩:=id R.web;have ha:=R.row;have ah:=R.rok.few;have h2:=R.rok.two;show⟨_,(qc (qH (qT (qP (qr Uc (hmR hr) qz (qa (pv 0) (qa (pv 1) (qa (pv 2) qd)))))) (qe jI) qo)
 (qc (qq (i:=3) uq.nd rfl (XB rfl) (qr Km (hmR hr) qz (qa (pv 0) (qa (pv 1) qd))))
 (qc (qq (i:=4) uq.nd rfl (XB rfl) (qI (za (K:=K) rfl) (qcS (K:=K) rfl rfl rfl rfl T.b_list T.b_zip (qa (pv 2) (qa (jx (qdF (K:=K) rfl) (pv 2) (jo qi) jS) qd))) (qcS (K:=K) rfl rfl rfl rfl T.b_list T.b_zip (qa (jx (qdF (K:=K) rfl) (pv 2) (jo qi) jS) (qa (pv 2) qd)))))
 (qe (qm (jh (sc:=qg qaY) (XN:=["web","pairs","row","partners","steps"]) ["tie","steps","partners"] 1 [4,3] rfl rfl rfl (by room) rfl (by room)
  (qK (K:=K) rfl (ji uh (hmR hr) (pv 0))) (fun _ _ _ _=>(qt (i:=0) (show(["tie","steps","partners"]:LS).Nodup by room) rfl (yP rfl))) qN
  (fun _ _ _ _=>(qW (qk (zS (K:=K) rfl u) (qS (zl (K:=K) rfl u) (qaL (qfB u) (pv 2) (qw (qx (K:=K) rfl u) (pv 0) qi (fun _ _=>rfl)) ⟨rfl,rfl,rfl,rfl⟩) (qw (qx (K:=K) rfl u) (pv 0) qi (fun _ _=>rfl)) (qu _)) (qS (zT (K:=K) rfl u) (pv 0) (pv 1) (by with_unfolding_all rfl)) (qu _))))
  (fun _ _ _ _=>(pv 0)))))))),?_⟩
  apply⟨x,pl,a,ss,ns,ps,tps,qs,rs,rfl,R,fun H1 s1=>?_⟩;show⟨_,rfl,qF (fun h=>by cases h) fun _=>?_⟩;apply⟨x,pl,ss,ns,ps,tps,qs,rfl,R.web.same s1,R.adj,R.prs.same s1,R.pgo,fun d H2 s2 ai hd=>?_⟩;have N:=s1.trans s2;have n:=N _ _ ha;apply vLZ ?_;apply .inl ⟨a,_,rfl,SqL.of n,fun Z ac=>?_⟩;rw[qbj,<- kN];have t1:=qC (Sr H2) (o:=.lst (rs.tail.map V.str)) ac;have A:upd H2 Z (.lst (rs.tail.map V.str)) Z=some (.lst (rs.tail.map V.str)):=qb;generalize upd H2 Z (.lst (rs.tail.map V.str))=G1 at t1 A;apply⟨a,Z,_,_,rfl,SqL.of (t1 _ _ n),SqL.of A,by rw[ya];show ah,fun l1 b G2 Z1=>?_⟩;have t2:=t1.trans Z1.sm;apply vLZ ?_;apply .inl ⟨a,_,rfl,SqL.of (t2 _ _ n),fun c2 ad=>?_⟩;rw[qbj,<- kN];have t3:=qC (Sr G2) (o:=.lst (rs.tail.map V.str)) ad;have B:upd G2 c2 (.lst (rs.tail.map V.str)) c2=some (.lst (rs.tail.map V.str)):=qb;generalize upd G2 c2 (.lst (rs.tail.map V.str))=G3 at t3 B;have S:=t2.trans t3;apply⟨c2,a,_,_,rfl,SqL.of B,SqL.of (S _ _ n),by rw[ya,xG];lk,fun l2 c G4 Y=>?_⟩;have t4:=S.trans Y.sm;have U:=t3.trans Y.sm
  have A1:=qd8 (qs:=stp rs) Z1 (by rw[qaH,xG];lk) fun j q e=>by
   obtain⟨X,z2⟩:=stp_at.mp e;show⟨X,by rw[YV];show z2⟩
  have A2:=qd8 (qs:=(stp rs).map fun q=>(q.2,q.1)) Y (by rw[ya,qaH,xG];lk) fun j q e=>by
   rw[yd] at e;obtain⟨q',e',rfl⟩:=yn.mp e;obtain⟨X,z2⟩:=stp_at.mp e';show⟨by rw[YV];show z2,X⟩
  have ak:b.length<=1000:=by rw[A1.len,qaH];lk
  have al:c.length<=1000:=by rw[A2.len,ya,qaH];lk
  show cat_W (U _ _ Z1.ls) Y.ls (by rw[ya,ya,A1.len,A2.len,ya,qaH];lk) fun st ag=>?_;have t5:=qC (Sr G4) (o:=.lst (b.map V.ref++c.map V.ref)) ag;have C:upd G4 st (.lst (b.map V.ref++c.map V.ref)) st=some (.lst (b.map V.ref++c.map V.ref)):=qb;generalize upd G4 st (.lst (b.map V.ref++c.map V.ref))=G5 at t5 C;have W:=t4.trans t5;have aa:PL G5 st (b++c) (qd9 rs):=⟨by rw[yC];show C,All2.app9 (A1.mono fun _ _ z=>(U.trans t5) _ _ z) (A2.mono fun _ _ z=>t5 _ _ z)⟩;have p:=N.trans W;have ae:=W _ _ hd;apply⟨x,wx,_,rfl,p _ _ hb,zH (by room),?_⟩;apply⟨x,ss,ns,rfl,R.web.same p,fun l ts G6 s6 aj hl af r=>?_⟩;have O:=p.trans s6;have L:=s6 _ _ ae;have D:=aa.same s6;show .inl ⟨⟨_,.of hl⟩,qG (xs:=ts.map V.ref) (fun i ys G=>G=G6/\∃ us:LQ,ys=us.map V.ref/\us.length<=i/\All2 (fun t ab=>G5 t=none/\G6 t=some (.tup [.str ab.1,.str ab.2])) us (flT ((qX ss ns ss.length).take i) qs rs)) ⟨rfl,[],rfl,yh _,.nil⟩ (fun i ys G _ m=>by rw[m.1];show .of hl) (fun i y ys G hy m=>?_) fun ys G m=>?_⟩
  .obtain⟨rfl,us,rfl,M,I⟩:=m;rw[yd] at hy;obtain⟨t,ht,rfl⟩:=yn.mp hy;have hi:i<ts.length:=(yc.mp ht).1;obtain⟨ab,J⟩:∃ ab,(qX ss ns ss.length)[i]?=some ab:=⟨_,yb (by rw[<- r.len];show hi)⟩;obtain⟨X,z2,z3⟩:=r.at_ i t ab ht J
   have s:flT ((qX ss ns ss.length).take (i+1)) qs rs=flT ((qX ss ns ss.length).take i) qs rs++(if (decide (pt qs ab.1=some ab.2) != decide (ab∈qd9 rs))=true then [ab] else []):=by
    unfold flT;rw[yD,J,yZ];show _++[ab].filter _=_;rw[yS,Yq]
   apply qcw ?_;apply⟨d,rfl,.inl ⟨_,.inl L⟩,?_⟩;apply .inl (qaD z3 (v:=.str ab.1) (qE (j:=0) rfl) ?_);show⟨_,DGet.k (k:=Sum.inr ab.1) L,?_⟩;rw[jY];apply .inl (qaD z3 (v:=.str ab.2) (qE (j:=1) rfl) ?_);show qe8 ?_;apply qeq D z3 ?_;show .inl ⟨rfl,rfl,?_⟩;have eb:eqV (.bl (decide (pt qs ab.1=some ab.2))) (.bl (decide ((ab.1,ab.2)∈qd9 rs)))=(decide (pt qs ab.1=some ab.2)==decide (ab∈qd9 rs)):=rfl;rw[yI rfl,eb,s];show⟨_,rfl,?_⟩;show if (decide (pt qs ab.1=some ab.2) != decide (ab∈qd9 rs))=true then _ else _
   cases am:(decide (pt qs ab.1=some ab.2) != decide (ab∈qd9 rs)) with
   | true =>
    show jU ?_;rw[yI rfl];apply⟨by rw[ya];show qh (by lk),rfl,us++[t],by rw[yC];rfl,by rw[yt];simp;lk,I.snoc ⟨X,z3⟩⟩
   | false =>
    show yq ?_;rw[yF (by decide),Yd];show⟨rfl,us,rfl,by lk,I⟩
  .obtain⟨rfl,us,rfl,M,I⟩:=m;have e:(ts.map V.ref).length=(qX ss ns ss.length).length:=by rw[ya,r.len]
   rw[e,yM] at I;rw[ya] at M;show⟨by rw[ya];show yR (qh (by lk)),fun g hg=>?_⟩;have s7:=qC O (o:=.lst (us.map V.ref)) hg;show q g us _ s7 (O.free hg) qb (by lk) (I.mono fun t ab z=>⟨p.free z.1,(fun e=>by rw[e,hg] at z;cases z.2),by rw[qf (fun e=>by rw[e,hg] at z;cases z.2)];show z.2⟩)
def adjR(rs:LS)(a b:Str):Prop:=∃ j:Nat,(rs[j]?=some a/\rs[j+1]?=some b)\/(rs[j]?=some b/\rs[j+1]?=some a)
theorem adjR.symm(h:adjR rs a b):adjR rs b a:=h.elim fun j z=>⟨j,z.symm⟩
theorem adjR.mem(h:adjR rs a b):a∈rs/\b∈rs:=h.elim fun j z=>z.elim (fun y=>⟨ye y.1,ye y.2⟩) fun y=>⟨ye y.2,ye y.1⟩
structure TurnR(f:Str->Option Str)(rs:LS):Prop where
 nd:rs.Nodup
 two:2<=rs.length
 sym:∀ a b,f a=some b->f b=some a
 alt:∀(j:Nat) r s t,rs[j]?=some r->rs[j+1]?=some s->rs[j+2]?=some t->(f s=some r↔¬ f s=some t)
 fst:∀ s t,rs[0]?=some s->rs[1]?=some t->f s=none\/f s=some t
 lst:∀ s t,rs[rs.length-1]?=some s->rs[rs.length-2]?=some t->f s=none\/f s=some t
theorem TurnR.near{f:Str->Option Str}(h:TurnR f rs)(n:a∈rs)(c:f a=some b):adjR rs a b:=by
 obtain⟨i,d⟩:=yf n;have o:i<rs.length:=(yc.mp d).1;have p:=h.two;by_cases m:i=0
 .subst m;obtain⟨t,e⟩:∃ t,rs[1]?=some t:=⟨_,yb (by lk)⟩;rcases h.fst a t d e with z | z
  .rw [z] at c;cases c
  .rw [c] at z;cases z;show⟨0,.inl ⟨d,e⟩⟩
 .by_cases hl:i=rs.length-1
  .obtain⟨t,e⟩:∃ t,rs[rs.length-2]?=some t:=⟨_,yb (by lk)⟩;rcases h.lst a t (by rw[<- hl];show d) e with z | z
   .rw [z] at c;cases c
   .rw [c] at z;cases z;show⟨rs.length-2,.inr ⟨e,by rw[show rs.length-2+1=i by lk];show d⟩⟩
  .obtain⟨r,l⟩:∃ r,rs[i-1]?=some r:=⟨_,yb (by lk)⟩;obtain⟨t,e⟩:∃ t,rs[i+1]?=some t:=⟨_,yb (by lk)⟩;have g:i-1+1=i:=by lk
   have j:i-1+2=i+1:=by lk
   have:=h.alt (i-1) r a t l (by rw[g];show d) (by rw[j];show e);by_cases z:f a=some t
   .rw [c] at z;cases z;show⟨i,.inl ⟨d,e⟩⟩
   .have z:=this.mpr z;rw[c] at z;cases z;show⟨i-1,.inr ⟨l,by rw[g];show d⟩⟩
def flipR(f:Str->Option Str)(rs:LS)(a b:Str):Prop:=(a∉rs/\f a=some b)\/(adjR rs a b/\f a≠some b)
theorem TurnR.xor{f:Str->Option Str}(h:TurnR f rs):flipR f rs a b↔¬ (f a=some b↔adjR rs a b):=by
 unfold flipR;constructor
 .rintro (⟨h1,c⟩ | ⟨h1,c⟩) e
  .show h1 (e.mp c).mem.1
  .show c (e.mpr h1)
 .intro e;by_cases h1:f a=some b
  .show .inl ⟨fun d=>e ⟨fun _=>h.near d h1,fun _=>h1⟩,h1⟩
  .by_cases c:adjR rs a b
   .show .inr ⟨c,h1⟩
   .show absurd ⟨fun z=>absurd z h1,fun z=>absurd z c⟩ e
theorem flipR.symm{f:Str->Option Str}(h:TurnR f rs)(e:flipR f rs a b):flipR f rs b a:=by
 rcases e with⟨h1,c⟩ | ⟨h1,c⟩
 .show .inl ⟨fun d=>?_,h.sym _ _ c⟩;show h1 (h.near d (h.sym _ _ c)).mem.2
 .show .inr ⟨h1.symm,fun z=>c (h.sym _ _ z)⟩
theorem adjR.at_(nd:rs.Nodup)(d:rs[i]?=some a)(h:adjR rs a b):rs[i+1]?=some b\/(1<=i/\rs[i-1]?=some b):=by
 obtain⟨j,⟨h1,c⟩ | ⟨h1,c⟩⟩:=h
 .have:=qA nd d h1;subst this;show .inl c
 .have:=qA nd d c;subst this;show .inr ⟨by lk,by simpa using h1⟩
theorem flipR.one{f:Str->Option Str}(h:TurnR f rs)(p:flipR f rs a b)(o:flipR f rs a c):b=c:=by
 rcases p with⟨h1,j⟩ | ⟨h1,j⟩
 .rcases o with⟨e,d⟩ | ⟨e,d⟩
  .rw [j] at d;show ym d
  .show absurd e.mem.1 h1
 .rcases o with⟨e,d⟩ | ⟨e,d⟩
  .show absurd h1.mem.1 e
  .obtain⟨i,l⟩:=yf h1.mem.1
   have g:∀{b c:Str},rs[i+1]?=some b->1<=i->rs[i-1]?=some c->f a≠some b->f a≠some c->False:=fun hb q hc r s=>by
    have m:i-1+1=i:=by lk
    have n:i-1+2=i+1:=by lk
    show s ((h.alt (i-1) _ a _ hc (by rw[m];show l) (by rw[n];show hb)).mpr r)
   rcases h1.at_ h.nd l with z1 | ⟨l1,z1⟩<;>rcases e.at_ h.nd l with z2 | ⟨l2,z2⟩
   .rw [z1] at z2;show ym z2
   .show(g z1 l2 z2 j d).elim
   .show(g z2 l1 z1 d j).elim
   .rw [z1] at z2;show ym z2
theorem TurnR.again{f:Str->Option Str}(h:TurnR f rs)(l:∀ a b,g a=some b↔flipR f rs a b):TurnR g rs:=by
 have on:∀{a b:Str},adjR rs a b->(g a=some b↔¬ f a=some b):=fun i=>by
  rw[l,h.xor];constructor
  .show fun e z=>e ⟨fun _=>i,fun _=>z⟩
  .show fun e z=>e (z.mpr i)
 have only:∀{a b:Str},a∈rs->g a=some b->adjR rs a b:=fun p e=>by
  rcases(l _ _).mp e with⟨h1,_⟩ | ⟨h1,_⟩
  .show absurd p h1
  .show h1
 show⟨h.nd,h.two,fun a b e=>(l _ _).mpr (((l _ _).mp e).symm h),fun j r s t m c d=>?_,fun s t c d=>?_,fun s t c d=>?_⟩
 .have n:adjR rs s r:=⟨j,.inr ⟨m,c⟩⟩;have o:adjR rs s t:=⟨j+1,.inl ⟨c,d⟩⟩;rw[on n,on o,h.alt j r s t m c d]
 .cases e:g s with
  | none=>show .inl rfl
  | some b =>
   have:=(only (ye c) e).at_ h.nd c;rcases this with z | ⟨z,_⟩
   .rw [d] at z;show .inr (by rw[<- e,e];show z.symm ▸ rfl)
   .omega
 .cases e:g s with
  | none=>show .inl rfl
  | some b =>
   have q:=h.two;have:=(only (ye c) e).at_ h.nd c;rcases this with z | ⟨_,z⟩
   .have:=(yc.mp z).1;lk
   .rw [show rs.length-1-1=rs.length-2 by lk,d] at z;show .inr (by rw[<- z])
theorem TurnR.inner{f:Str->Option Str}(h:TurnR f rs)(d:0<i)(h1:i+1<rs.length)(b:rs[i]?=some s):(f s).isSome=true:=by
 obtain⟨r,a⟩:∃ r,rs[i-1]?=some r:=⟨_,yb (by lk)⟩;obtain⟨t,c⟩:∃ t,rs[i+1]?=some t:=⟨_,yb h1⟩;have:=h.alt (i-1) r s t a (by rw[show i-1+1=i by lk];show b) (by rw[show i-1+2=i+1 by lk];show c)
 cases e:f s with
 | some _=>rfl
 | none =>
  rw[e] at this;have:=this.mpr (fun z=>by cases z);cases this
theorem qdu{f:Str->Option Str}(h:TurnR f rs)(e:∀ a b,g a=some b↔flipR f rs a b)(c:adjR rs a t)(i:f a=none\/f a=some t)(d:g a=none\/g a=some t):(g a).isSome=!(f a).isSome:=by
 rcases i with z | z
 .rw [(e a t).mpr (.inr ⟨c,by rw[z];show fun y=>by cases y⟩),z];rfl
 .rcases d with y | y
  .rw [y,z];rfl
  .show absurd ⟨fun _=>c,fun _=>z⟩ (h.xor.mp ((e a t).mp y))
theorem qea{f:Str->Option Str}(h:TurnR f rs)(g:rs[0]?=some a)(hb:rs[rs.length-1]?=some b):(rs.filter fun s=>(f s).isSome).length+2=rs.length+(if (f a).isSome then 1 else 0)+(if (f b).isSome then 1 else 0):=by
 have d:=h.two
 obtain⟨m,l⟩:∃ m,rs=a::(m++[b]):=by
  match rs,g,hb,d with
  | x::r,g,hb,d =>
   have t:x=a:=ym g;have p:r≠[]:=fun z=>by rw[z] at d;simp at d
   show⟨r.dropLast,?_⟩
   have e:r.getLast p=b:=by
    have hl:0<r.length:=ku.mpr p;rw[show(x::r).length-1=r.length-1+1 by simp;lk,List.getElem?_cons_succ] at hb;rw[List.getLast_eq_getElem];show(yc.mp hb).2
   rw[t,<- e,Y4]
 have n:rs.length=m.length+2:=by rw[l];simp
 have c:(m.filter fun s=>(f s).isSome)=m:=List.filter_eq_self.mpr fun s q=>by
  obtain⟨i,o⟩:=yf q;have j:=(yc.mp o).1;show h.inner (i:=i+1) (by lk) (by lk) ?_;rw[l,List.getElem?_cons_succ,yW j];show o
 rw[n,l,yS,yZ,c,yS,Yq];cases (f a).isSome<;>cases (f b).isSome<;>simp<;>lk
theorem qcD(f:ss.Nodup)(i:rs.Nodup)(c:∀ s∈rs,s∈ss)(p:Str->Bool):(ss.filter p).length=(rs.filter p).length+(ss.filter fun s=>p s&&!decide (s∈rs)).length:=by
 have e:(rs.filter p).length=(ss.filter fun s=>p s&&decide (s∈rs)).length:=xR
  (qcC (i.filter _) fun s d=>by
   obtain⟨a,b⟩:=yp.mp d;show yp.mpr ⟨c s a,by rw[b,yL a];rfl⟩)
  (qcC (f.filter _) fun s d=>by
   obtain⟨a,b⟩:=yp.mp d;obtain⟨g,h⟩:=(yY _ _).mp b;show yp.mpr ⟨yk h,g⟩)
 rw[e];clear e f c
 induction ss with
 | nil=>rfl
 | cons x r ih =>
  rw[yS,yS,yS];cases p x<;>cases decide (x∈rs)<;>simp<;>lk
theorem qa5:∀{qs:LP},(∀ q∈qs,q.1≠q.2)->qs.Pairwise (fun q r=>q.1≠r.1/\q.1≠r.2/\q.2≠r.1/\q.2≠r.2)->(qj qs).Nodup
 | [],_,_=>Kc
 | q::r,h,hp=>by
  obtain⟨j,l⟩:=kD.mp hp;have i:=qa5 (fun x f=>h x (yJ _ f)) l;show(q.1::q.2::qj r).Nodup
  have out:∀ n∈qj r,q.1≠n/\q.2≠n:=fun n g=>by
   obtain⟨x,f,e⟩:=Y6.mp g;obtain⟨a,b,c,d⟩:=j x f;simp only[yx,yQ,Yv] at e;rcases e with rfl | rfl
   .show⟨a,c⟩
   .show⟨b,d⟩
  show yo.mpr ⟨fun z=>?_,yo.mpr ⟨fun z=>(out _ z).2 rfl,i⟩⟩;rcases yx.mp z with z | z
  .show h q yU z
  .show(out _ z).1 rfl
theorem stpB_adj:(a,b)∈qd9 rs↔adjR rs a b:=by
 unfold qd9 adjR;rw[yz,YF];constructor
 .rintro (h | ⟨q,h,e⟩)
  .obtain⟨j,d⟩:=yf h;show⟨j,.inl (stp_at.mp d)⟩
  .obtain⟨j,d⟩:=yf h;cases e;show⟨j,.inr (stp_at.mp d)⟩
 .rintro ⟨j,⟨h1,c⟩ | ⟨h1,c⟩⟩
  .show .inl (ye (stp_at.mpr ⟨h1,c⟩))
  .show .inr ⟨(b,a),ye (stp_at.mpr ⟨h1,c⟩),rfl⟩
theorem flT_flip{d:LP}(h:TurnR (pt qs) rs):(a,b)∈flT d qs rs↔(a,b)∈d/\flipR (pt qs) rs a b:=by
 unfold flT;rw[yp,h.xor];show and_congr_right fun _=>?_;show(decide (pt qs a=some b) != decide ((a,b)∈qd9 rs))=true↔_;by_cases h1:pt qs a=some b<;>by_cases c:(a,b)∈qd9 rs
 .rw [yL h1,yL c];show⟨(fun z=>by cases z),fun z=>absurd ⟨fun _=>stpB_adj.mp c,fun _=>h1⟩ z⟩
 .rw [yL h1,yl c];show⟨fun _ z=>c (stpB_adj.mpr (z.mp h1)),fun _=>rfl⟩
 .rw [yl h1,yL c];show⟨fun _ z=>h1 (z.mpr (stpB_adj.mp c)),fun _=>rfl⟩
 .rw [yl h1,yl c];show⟨(fun z=>by cases z),fun z=>absurd ⟨fun y=>absurd y h1,fun y=>absurd (stpB_adj.mpr y) c⟩ z⟩
def tA(tps:LP)(a b:Str):Prop:=(a,b)∈tps\/(b,a)∈tps
theorem pt_some:s∈qj qs↔(pt qs s).isSome=true:=by
 cases e:pt qs s with
 | none=>show⟨fun z=>absurd z (pt_none.mp e),(fun z=>by cases z)⟩
 | some b=>show⟨fun _=>rfl,fun _=>Yo fun z=>by rw[pt_none.mpr z] at e;cases e⟩
structure PFn(ss:LS)(tps:LP)(f:Str->Option Str):Prop where
 sym:∀ a b,f a=some b->f b=some a
 tie:∀ a b,f a=some b->tA tps a b
noncomputable def qe9(f:Str->Option Str)(ss:LS):Nat:=(ss.filter fun s=>(f s).isSome).length
section
variable{ss:LS}{ns:LN}{tps qs:LP}{f g:Str->Option Str}
theorem PGo.fn(h:PGo ss tps qs):PFn ss tps (pt qs):=⟨fun a b e=>(qal h.nd).mp e,fun a b e=>by
 rcases qds e with z | z
 .show(h.inn _ z).1
 .show(h.inn _ z).1.symm⟩
theorem PGo.cnt(h:PGo ss tps qs)(c:ss.Nodup):2*qs.length=qe9 (pt qs) ss:=by
 rw[<- jk];show xR (qcC h.nd fun s a=>yp.mpr ⟨?_,pt_some.mp a⟩) (qcC (c.filter _) fun s a=>pt_some.mpr (yp.mp a).2);obtain⟨q,b,a⟩:=Y6.mp a;simp only[yx,yQ,Yv] at a;rcases a with rfl | rfl
 .show(h.inn q b).2.1
 .show(h.inn q b).2.2.1
theorem qeT:(snL f ss).length+qe9 f ss=ss.length:=by
 unfold snL qe9
 induction ss with
 | nil=>rfl
 | cons x r ih =>
  rw[yS,yS];cases (f x).isSome
  .rw [yI (show(!false)=true from rfl),yF Yl,yw,yw];lk
  .rw [yF (show ¬ (!true)=true by decide),yI (show true=true from rfl),yw,yw];lk
theorem qcX(hw:WOk ss ns)(p:Adj ss ns tps):(a,b)∈qX ss ns ss.length↔tA tps a b/\∃ i j:Nat,i<j/\ss[i]?=some a/\ss[j]?=some b:=by
 unfold qX;rw[Y6];constructor
 .rintro ⟨i,f,h⟩;have f:=xZ.mp f;obtain⟨s,l⟩:∃ s,ss[i]?=some s:=⟨_,yb f⟩;have d:ss.getD i ""=s:=by rw[Yn,l];rfl
  unfold qe6 at h;rw[d] at h;obtain⟨o,t,e⟩:=YF.mp h;cases e;obtain⟨h1,c⟩:=yp.mp t;obtain⟨q,r⟩:=qd5 hw.nd h1;have n:ss[ss.idxOf b]?=some b:=by rw[yb (YR q),xp]
  show⟨(p i _ _ _ l n).mp r,i,_,yk c,l,n⟩
 .rintro ⟨h,i,j,g,h1,c⟩;show⟨i,xZ.mpr (yc.mp h1).1,?_⟩;have d:ss.getD i ""=a:=by rw[Yn,h1];rfl
  have m:ss.idxOf b=j:=by
   have hb:=ye c;show qA hw.nd (by rw[yb (YR hb),xp]) c
  unfold qe6;rw[d];show YF.mpr ⟨b,yp.mpr ⟨?_,yL (by rw[m];show g)⟩,rfl⟩;rw[qaw hw.nd];show yp.mpr ⟨ye c,by rw[m];show(p i j a b h1 c).mpr h⟩
theorem dps_nd(hw:WOk ss ns):(qX ss ns ss.length).Nodup:=by
 show List.pairwise_flatMap.mpr ⟨fun i _=>?_,?_⟩
 .unfold qe6;show XZ.mpr ?_;have nd:((inB ss 0 (ns.getD i 0)).filter fun o=>decide (i<ss.idxOf o)).Nodup:=by rw[qaw hw.nd];show(hw.nd.filter _).filter _
  show nd.imp fun c e=>c (Prod.mk.inj e).2
 .show xt (fun{i j} a b g q d r f e=>?_) (List.pairwise_lt_range (n:=ss.length));have a:=xZ.mp a;have b:=xZ.mp b;unfold qe6 at d f;obtain⟨_,_,rfl⟩:=YF.mp d;obtain⟨_,_,rfl⟩:=YF.mp f;have e:=(Prod.mk.inj e).1;rw[Yn,Yn,yb a,yb b] at e;have:=qA hw.nd (yb a) (by rw[yb b];show congrArg some e.symm);lk
theorem qeU(hw:WOk ss ns)(A:Adj ss ns tps)(t:∀ ab∈tps,ab.1∈ss/\ab.2∈ss/\ab.1≠ab.2)(h:PFn ss tps g){L:LP}(f:∀ a b,(a,b)∈L↔(a,b)∈qX ss ns ss.length/\g a=some b)(H:L.Sublist (qX ss ns ss.length)):PGo ss tps L/\pt L=g:=by
 have mem:∀ q∈L,g q.1=some q.2/\tA tps q.1 q.2/\∃ i j:Nat,i<j/\ss[i]?=some q.1/\ss[j]?=some q.2:=fun q c=>by
  obtain⟨h1,G⟩:=(f q.1 q.2).mp c;show⟨G,(qcX hw A).mp h1⟩
 have inn:∀{a b:Str},tA tps a b->a∈ss/\b∈ss/\a≠b:=fun z=>z.elim (fun y=>t _ y) fun y=>⟨(t _ y).2.1,(t _ y).1,(t _ y).2.2.symm⟩
 have nd:(qj L).Nodup:=by
  show qa5 (fun q c=>(inn (mem q c).2.1).2.2) (xt (fun{q r} c I n=>?_) (H.nodup (dps_nd hw)));obtain⟨d,_,i,j,l1,o,p⟩:=mem q c;obtain⟨x,_,K,M,l2,D,E⟩:=mem r I;have w:=h.sym _ _ d;have F:=h.sym _ _ x;show⟨fun z=>?_,fun z=>?_,fun z=>?_,fun z=>?_⟩
  .rw [z,x] at d;show n (kC z (ym d).symm)
  .rw [z,F] at d;have e:=ym d;rw[z] at o;rw[<- e] at p;have:=qA hw.nd o E;have:=qA hw.nd p D;lk
  .rw [z,x] at w;have e:=ym w;rw[z] at p;rw[<- e] at o;have:=qA hw.nd o E;have:=qA hw.nd p D;lk
  .rw [z,F] at w;show n (kC (ym w).symm z)
 have C:∀ q∈L,(q∈tps\/(q.2,q.1)∈tps)/\q.1∈ss/\q.2∈ss/\q.1≠q.2:=fun q c=>⟨(mem q c).2.1,inn (mem q c).2.1⟩
 have hl:L.length<=30:=by
  have:=qcC (l:=qj L) (m:=ss) nd fun s v=>by
   obtain⟨q,c,v⟩:=Y6.mp v;simp only[yx,yQ,Yv] at v;rcases v with rfl | rfl
   .show(C q c).2.1
   .show(C q c).2.2.1
  rw[jk] at this;have:=hw.few;lk
 show⟨⟨C,nd,hl⟩,funext fun a=>qcV fun b=>?_⟩;rw[qbS nd];constructor
 .rintro (z | z)
  .show((f _ _).mp z).2
  .show h.sym _ _ ((f _ _).mp z).2
 .intro e;obtain⟨m1,J,ne⟩:=inn (h.tie _ _ e);obtain⟨i,B⟩:=yf m1;obtain⟨j,u⟩:=yf J;rcases kJ i j with l | l | l
  .show .inl ((f _ _).mpr ⟨(qcX hw A).mpr ⟨h.tie _ _ e,i,j,l,B,u⟩,e⟩)
  .subst l;rw[B] at u;show absurd (ym u) ne
  .show .inr ((f _ _).mpr ⟨(qcX hw A).mpr ⟨(h.tie _ _ e).symm,j,i,l,u,B⟩,h.sym _ _ e⟩)
theorem tps_ok(hw:WOk ss ns)(c:Adj ss ns tps)(d:∀ ab∈tps,ab.1∈ss/\ab.2∈ss/\ab.1≠ab.2)(h:PGo ss tps qs):PGo ss tps (qbF (qX ss ns ss.length) qs)/\pt (qbF (qX ss ns ss.length) qs)=pt qs:=
 qeU hw c d h.fn (fun a b=>by unfold qbF;rw[yp,Yg]) xD
end
theorem flip_ex{f:Str->Option Str}(h:TurnR f rs):∃ g:Str->Option Str,∀ a b,g a=some b↔flipR f rs a b:=
 ⟨fun a=>@dite _ (∃ b,flipR f rs a b) (Classical.propDecidable _) (fun z=>some z.choose) fun _=>none,fun a b=>by
  dsimp only;split
  .rename_i z
   show⟨fun e=>by rw[<- ym e];show z.choose_spec,fun e=>congrArg some (z.choose_spec.one h e)⟩
  .rename_i z
   show⟨(fun e=>by cases e),fun e=>absurd ⟨b,e⟩ z⟩⟩
section
variable{ss:LS}{tps qs:LP}{f g:Str->Option Str}{rs:LS}
theorem flip_fn(h:TurnR f rs)(i:PFn ss tps f)(d:∀ a b,adjR rs a b->tA tps a b)(c:∀ a b,g a=some b↔flipR f rs a b):PFn ss tps g:=
 ⟨fun a b e=>(c _ _).mpr (((c _ _).mp e).symm h),fun a b e=>((c _ _).mp e).elim (fun z=>i.tie _ _ z.2) fun z=>d _ _ z.1⟩
theorem flip_cnt(h:TurnR f rs)(e:∀ a b,g a=some b↔flipR f rs a b)(o:ss.Nodup)(d:∀ s∈rs,s∈ss)(c:rs[0]?=some a)(hb:rs[rs.length-1]?=some b):qe9 g ss+2=qe9 f ss+(if (f a).isSome then 0 else 2)+(if (f b).isSome then 0 else 2):=by
 have B:=h.two;have j:=h.again e;unfold qe9;rw[qcD o h.nd d,qcD (p:=fun s=>(f s).isSome) o h.nd d];have n:=qea h c hb;have i:=qea j c hb
 have A:(ss.filter fun s=>(g s).isSome&&!decide (s∈rs))=ss.filter fun s=>(f s).isSome&&!decide (s∈rs):=Xv fun s _=>by
  by_cases z:s∈rs
  .rw [yL z];simp
  .have:g s=f s:=qcV fun b=>by
    rw[e];show⟨fun y=>y.elim (fun x=>x.2) fun x=>absurd x.1.mem.1 z,fun y=>.inl ⟨z,y⟩⟩
   rw[this]
 rw[A];obtain⟨t,l⟩:∃ t,rs[1]?=some t:=⟨_,yb (by lk)⟩;obtain⟨u,m⟩:∃ u,rs[rs.length-2]?=some u:=⟨_,yb (by lk)⟩;have q:=qdu h e ⟨0,.inl ⟨c,l⟩⟩ (h.fst a t c l) (j.fst a t c l);have r:=qdu h e (a:=b) (t:=u) ⟨rs.length-2,.inr ⟨m,by rw[show rs.length-2+1=rs.length-1 by lk];show hb⟩⟩ (h.lst b u hb m) (j.lst b u hb m);rw[q,r] at i;generalize (rs.filter fun s=>(g s).isSome).length=C at i ⊢;generalize (rs.filter fun s=>(f s).isSome).length=D at n ⊢;cases v:(f a).isSome<;>cases w:(f b).isSome<;>rw[v,w] at n i<;>simp at n i ⊢<;>lk
theorem turns_turn(c:∀ a b,f a=some b->f b=some a)(nd:rs.Nodup)(d:2<=rs.length)(st:Turns A f rs)(h:∀ s,rs[0]?=some s->f s=none)(tl:∀ s t,rs[rs.length-1]?=some s->rs[rs.length-2]?=some t->f s=none\/f s=some t):TurnR f rs:=by
 show⟨nd,d,c,fun j r s t i h1 l=>?_,fun s t h1 _=>.inl (h s h1),tl⟩;have e:=(st j r s i h1).2;have g:=(st (j+1) s t h1 l).2;have:f s=some r↔f r=some s:=⟨fun z=>c _ _ z,fun z=>c _ _ z⟩;rw[this,e,g];lk
theorem turns_adj(st:Turns (tA tps) f rs):∀ a b,adjR rs a b->tA tps a b:=fun a b h=>by
 obtain⟨j,⟨h1,c⟩ | ⟨h1,c⟩⟩:=h
 .show(st j _ _ h1 c).1
 .show(st j _ _ h1 c).1.symm
theorem Aug.row(h:Aug (tA tps) (pt qs) rs)(hl:rs.length<=1000)(c:∀ ab∈tps,ab.1∈ss/\ab.2∈ss/\ab.1≠ab.2):RowG ss tps qs rs:=by
 show⟨h.nd,h.two,hl,fun r n=>?_,fun j ab e=>?_,h.hd,h.tl⟩
 .obtain⟨i,d⟩:=yf n;have m:=(yc.mp d).1;have q:=h.two;have inn:∀{a b:Str},tA tps a b->a∈ss/\b∈ss:=fun z=>z.elim (fun y=>⟨(c _ y).1,(c _ y).2.1⟩) fun y=>⟨(c _ y).2.1,(c _ y).1⟩;by_cases l:i+1<rs.length
  .show(inn (h.st i r _ d (yb l)).1).1
  .show(inn (h.st (i-1) _ r (yb (by lk)) (by rw[show i-1+1=i by lk];show d)).1).2
 .obtain⟨f,g⟩:=stp_at.mp e;obtain⟨o,p⟩:=h.st j _ _ f g;show⟨o,YN.mpr p⟩
theorem Aug.turn(h:Aug (tA tps) (pt qs) rs)(c:∀ a b,pt qs a=some b->pt qs b=some a):TurnR (pt qs) rs:=
 turns_turn c h.nd h.two h.st h.hd fun s t e _=>.inl (h.tl s e)
theorem turn_ok(hw:WOk ss ns)(m:Adj ss ns tps)(f:∀ ab∈tps,ab.1∈ss/\ab.2∈ss/\ab.1≠ab.2)(e:PGo ss tps qs)(h:Aug (tA tps) (pt qs) rs)(hl:rs.length<=1000):PGo ss tps (flT (qX ss ns ss.length) qs rs)/\(flT (qX ss ns ss.length) qs rs).length=qs.length+1:=by
 have c:=h.turn e.fn.sym;obtain⟨g,d⟩:=flip_ex c;obtain⟨j,n⟩:=qeU hw m f (flip_fn c e.fn (turns_adj h.st) d) (L:=flT (qX ss ns ss.length) qs rs) (fun a b=>by rw[flT_flip c,d]) xD;show⟨j,?_⟩;have o:=e.cnt hw.nd;have l:=j.cnt hw.nd;rw[n] at l;have p:=h.two;obtain⟨a,i⟩:∃ t,rs[0]?=some t:=⟨_,yb (by lk)⟩;obtain⟨b,hb⟩:∃ t,rs[rs.length-1]?=some t:=⟨_,yb (by lk)⟩;have:=flip_cnt c d hw.nd (h.row hl f).inn i hb;rw[h.hd a i,h.tl b hb] at this;simp at this;lk
end
theorem Kp:FnScope ["web","pairs","now","rows","row"] ["web","pairs"] (qg jP):=fS
def MxF(ss:LS)(tps qs:LP):Prop:=∃ S:FS,Fn (tA tps) (pt qs) S ss
structure Wt(cw:Addr)(H:Hp)(x:Addr)(ss:LS)(ns:LN)(tps:LP):Prop where
 web:WebAt cw H x ss ns
 adj:Adj ss ns tps
 ok:∀ ab∈tps,ab.1∈ss/\ab.2∈ss/\ab.1≠ab.2
theorem Wt.same(h:Wt cw H x ss ns tps)(s:L2.Same H H'):Wt cw H' x ss ns tps:=⟨h.web.same s,h.adj,h.ok⟩
theorem Wt.wok(h:Wt cw H x ss ns tps):WOk ss ns:=by obtain⟨_,_,_,_,_,_,_,_,z⟩:=h.web;show z
theorem Wt.wb(h:Wt cw H x ss ns tps)(g:PGo ss tps qs):Wb (tA tps) ss qs:=by
 show⟨⟨fun z=>Or.symm z,fun z e=>?_,fun{a b} e=>g.fn.sym a b e,fun{a b} e=>g.fn.tie a b e⟩,fun a b z=>z.elim (fun y=>(h.ok _ y).1) fun y=>(h.ok _ y).2.1,g.nd,h.wok.few,h.wok.nd⟩;rcases z with z | z
 .show(h.ok _ z).2.2 e
 .show(h.ok _ z).2.2 e.symm
theorem Wt.bes(h:Wt cw H x ss ns tps):∀(j:Nat) z u,ss[j]?=some z->(u∈inB ss 0 (ns.getD j 0)↔tA tps z u):=fun j z u e=>by
 rw[qaw h.wok.nd,yp];constructor
 .rintro ⟨h1,b⟩;show(h.adj j _ z u e (by rw[yb (YR h1),xp])).mp b
 .intro t;have a:u∈ss:=t.elim (fun y=>(h.ok _ y).2.1) fun y=>(h.ok _ y).1;show⟨a,(h.adj j _ z u e (by rw[yb (YR a),xp])).mpr t⟩
theorem qfa{a:Fo}{wt:LS}(h:FoD cf cw H0 H a ss ns qs S dn wt .non (tA tps))(W:Wb (tA tps) ss qs):Fn (tA tps) (pt qs) S ss:=by
 rcases h.en with⟨_,rfl,I,C,sg⟩ | ⟨t,r,e,_⟩
 .have b:∀ v,v∈dn↔S.rows v≠none:=fun v=>by have:=h.fo.evi v;rwa[Yd] at this
  show⟨I,W.gr,W.inn,W.nd,fun v u hv c=>(C.cl v u ((b v).mpr hv) c).imp id fun z=>⟨z.1,Yo fun y=>z.2 ((b u).mpr y)⟩,sg,fun v hv=>h.fo.evs v ((h.fo.evi v).mpr hv)⟩
 .cases e
def FRow(ss:LS)(tps qs:LP)(H:Hp)(v:V)(H':Hp):Prop:=L2.Same H H'/\((v=.non/\MxF ss tps qs)\/∃(r:Addr) (rs:LS),v=.ref r/\H r=none/\H' r=some (.lst (rs.map V.str))/\rs.length<=1000/\Aug (tA tps) (pt qs) rs)
inductive spGf(cw:Addr)(vs:List V)(H:Hp)(Q:VK)(E:XK):Prop|mk (x l:Addr) (ss:LS) (ns:LN) (us:LQ) (tps qs:LP) (_:vs=[.ref x,.ref l]) (_:Wt cw H x ss ns tps) (_:PL H l us qs) (_:PGo ss tps qs) (_:∀(t l2 r2:Addr) (ls:LQ) (ws:List V) (rs:LP) (H':Hp),L2.Same H H'->H' t=some (.tup [.ref l2,.ref r2])->PL H' l2 ls rs->H' r2=some (.lst ws)->rs.length=qs.length+ws.length->PGo ss tps rs->MxF ss tps rs->Q (.ref t) H')
theorem qfH{y:Addr}{Q:VK}(W:Wt cw G x ss ns tps)(n:PL G l us qs)(b:PGo ss tps qs)(f:G y=none)(i:G dx=none)(d:dx≠y)
  (h:∀ H0 H2 a S dn wt lo,a.x=y->FoD (cc 9) cw H0 H2 a ss ns qs S dn wt lo (tA tps)->L2.Same G H2->Q .non H2):spFi cc cw [.ref y,.ref x,.ref l] (upd (upd G dx (.own y)) y (.ins (cc 9) dx [])) Q E:=by
 have j:=qC (qC (Sr G) (o:=.own y) i) (o:=.ins (cc 9) dx []) (show upd G dx (.own y) y=none by rw[qf (Yh d)];show f);show⟨y,dx,x,l,ss,ns,us,tps,qs,tA tps,rfl,qb,W.web.same j,W.adj,W.wb b,W.wok.nm,W.bes,n.same j,b.few,b.inn,fun H0 H' a S dn wt lo m _ g p=>h H0 H' a S dn wt lo m g fun c o e=>?_⟩;show g.fo.sm c o (p c o ?_);rw[jv (fun z=>by rw[z,f] at e;cases e),qf (fun z=>by rw[z,f] at e;cases e),qf (fun z=>by rw[z,i] at e;cases e)];show e
theorem qgk{a:Fo}{wt:LS}{Q:VK}(d:FoD (cc 9) cw H0 H2 a ss ns qs S dn wt lo (tA tps))(i:Wb (tA tps) ss qs)(h:∀ v H',FRow ss tps qs H2 v H'->Q v H'):spFr cc cw [.ref a.x] H2 Q E:=by
 show⟨H0,a,ss,ns,qs,S,dn,wt,lo,_,rfl,d,fun e=>?_,fun t r e f g l hl=>?_⟩
 .subst e;show h _ _ ⟨L2.Same.refl _,.inl ⟨rfl,S,qfa d i⟩⟩
 .show h _ _ ⟨qC (Sr _) hl,.inr ⟨l,r,rfl,hl,qb,?_,g⟩⟩;rcases d.en with⟨b,_⟩ | ⟨t',m,b,c,_,_,j⟩
  .rw [e] at b;cases b
  .rw [e] at b;cases b;rw[f] at c;have:=congrArg List.length (show r.map V.str=m.map V.str by injection (ym c));rw[ya,ya] at this;lk
theorem ok_gf(F:Fun K "greatest_from" "greatest_from" jP f fd)(T:Txt K mg cc cw)(uW:DefOk P w K mg base CX0 10 "told_pairs" ["web","pairs"] (spTp cw))(KE:MakeOk P w K mg base CX0 10 (cc 9) "Forest" ["self","web","pairs"] (spFi cc cw))(Kw:MethOk P w K mg base CX0 1 (cc 9) "row" ["self"] (spFr cc cw))(Uv:DefOk P w K mg base CX0 12 "turned" ["web","pairs","row"] (spTu cw)):FnOk P w K mg base CX0 13 f fd ["web","pairs"] (spGf cw):=by
 show F.ok Kp fun _ _ _ _ H vs Q E L h=>?_
 .obtain⟨x,l,ss,ns,us,tps,qs,rfl,W,hP,hG,q⟩:=h;have hu:=jQ L;show⟨_,(qc (qq (i:=2) Kp.nd rfl (yP rfl) (qr uW (hmR L) qz (qa (pv 0) (qa (pv 1) qd))))
 (qc (qq (i:=3) Kp.nd rfl (yP rfl) (qM qd))
 (qc (qq (i:=4) Kp.nd rfl (yP rfl) (ji Kw (hmR L) (zt KE (hmR L) (qa (pv 0) (qa (pv 2) qd)))))
 (qc (qao yV (qk jR (pv 4) qY (qu _))
 (qc (qR (qbO (K:=K) rfl yT Yj Yk jj (pv 3) (qa (pv 4) qd)))
 (qc (qq (i:=2) Kp.nd rfl (yP rfl) (qr Uv (hmR L) qz (qa (pv 0) (qa (pv 2) (qa (pv 4) qd)))))
 (qe (qq (i:=4) Kp.nd rfl (yP rfl) (ji Kw (hmR L) (zt KE (hmR L) (qa (pv 0) (qa (pv 2) qd)))))))))
 (qe (qm (zE (qa (pv 2) (qa (pv 3) qd))))))))),?_⟩
  apply⟨x,l,ss,ns,us,tps,qs,rfl,W.web,W.adj,hP,hG,fun l1 ae H1 s1 ax D _ hA1=>?_⟩;apply⟨by decide,fun c M=>?_⟩;have s2:=qC (Sr H1) (o:=.lst []) M;have d:upd H1 c (.lst []) c=some (.lst []):=qb;have W2:=W.same (s1.trans s2);have s:=tps_ok W.wok W.adj W.ok hG
  have ac:(qbF (qX ss ns ss.length) qs).length=qs.length+0:=by
   have c1:=hG.cnt W.wok.nd;have c2:=s.1.cnt W.wok.nd;rw[s.2] at c2;lk
  have j:PL (upd H1 c (.lst [])) l1 ae (qbF (qX ss ns ss.length) qs):=⟨s2 _ _ D,hA1.mono fun _ _ z=>s2 _ _ z.2.2⟩;have ah:=s1.trans s2;generalize upd H1 c (.lst [])=G at ah d W2 j;generalize qbF (qX ss ns ss.length) qs=ps at j s ac;replace s:=s.1;apply fun y dx hy C I=>qfH W2 j s hy C I fun H0 H3 a S dn wt lo ea hD s3=>?_;subst ea;obtain⟨fx,ff,aj,_,_,_,ak⟩:=id hD.fo.obj;show⟨rfl,a.x,fx,ff,rfl,aj,ak _ (by room),?_⟩;apply qgk hD (W2.wb s) fun v H4 hv=>?_;have aq:=ah.trans s3;have ad:H c=none:=s1.free M;have ag:l1≠c:=fun e=>by rw[e,M] at D;cases D
  ext;obtain⟨Wv,B⟩:∃ Wv:Nat->L2.St->Hp->Prop,Wv=fun m σ J=>∃(p:Addr) (us:LQ) (ps:LP) (g:List V) (v:V),σ=[some (.ref x),some (.ref l),some (.ref p),some (.ref c),some v]/\L2.Same H J/\PL J p us ps/\p≠c/\PGo ss tps ps/\J c=some (.lst g)/\ps.length=qs.length+g.length/\m=8-ps.length /\
   ((v=.non/\MxF ss tps ps)\/∃(r:Addr) (rs:LS),v=.ref r/\r≠c/\J r=some (.lst (rs.map V.str))/\rs.length<=1000/\Aug (tA tps) (pt ps) rs):=⟨_,rfl⟩
  show⟨Wv,⟨_,by
   rw[B];show⟨l1,ae,ps,[],v,rfl,aq.trans hv.1,j.same (s3.trans hv.1),ag,s,hv.1 _ _ (s3 _ _ d),ac,rfl,hv.2.imp id ?_⟩;rintro⟨r,rs,e1,N,e3,e4,e5⟩;show⟨r,rs,e1,(fun z=>by rw[z,s3 _ _ d] at N;cases N),e3,e4,e5⟩⟩,fun m σ J aa=>?_⟩
  rw[B] at aa;obtain⟨p,us,ps,g,v,rfl,sJ,A,ao,gJ,d,hc,hm,hv⟩:=aa;ext
  have av:2*ps.length<=14:=by
   have:=gJ.cnt W.wok.nd;have h2:qe9 (pt ps) ss<=ss.length:=yE _ _;have:=W.wok.few;lk
  rcases hv with⟨rfl,mx⟩ | ⟨r,rs,rfl,nr,er,hl,au⟩
  .show⟨rfl,_,rfl,qF (fun h=>by simp at h) fun _=>?_⟩;apply⟨by show 2<=sizeLine;decide,fun t ht=>?_⟩;have s9:=qC (Sr J) (o:=.tup [.ref p,.ref c]) ht;show q t p c us g ps _ (sJ.trans s9) qb (A.same s9) (s9 _ _ d) hc gJ mx
  .show⟨rfl,_,rfl,jU ⟨fun ar H'=>∃ m',m'<m/\Wv m' ar H',fun _ _ z=>z,?_⟩⟩;apply⟨.inl ⟨rfl,_,SqL.of d⟩,?_⟩;apply⟨c,_,_,rfl,rfl,d,qh (by lk),?_⟩;have sU:=qaT sJ (o:=.lst (g++[.ref r])) ad;have Z:PL (upd J c (.lst (g++[.ref r]))) p us ps:=⟨by rw[qf ao];show A.1,A.2.mono fun t ab z=>by rw[qf (qac z d (fun e=>by cases e))];show z⟩;have R:upd J c (.lst (g++[.ref r])) r=some (.lst (rs.map V.str)):=by rw[qf nr];show er
   have u:upd J c (.lst (g++[.ref r])) c=some (.lst (g++[.ref r])):=qb;generalize upd J c (.lst (g++[.ref r]))=G1 at sU Z R u ⊢;have WU:=W.same sU;apply⟨x,p,r,ss,ns,us,tps,ps,rs,rfl,⟨WU.web,WU.adj,Z,gJ,R,au.row hl W.ok⟩,fun l3 af H5 s5 n an _ U=>?_⟩;obtain⟨g3,c3⟩:=turn_ok W.wok W.adj W.ok gJ au hl;generalize flT (qX ss ns ss.length) ps rs=p3 at U g3 c3;have n3:l3≠c:=fun e=>by rw[e,u] at n;cases n
   have Y:PL H5 l3 af p3:=⟨an,U.mono fun _ _ z=>z.2.2⟩;have ai:=sU.trans s5;have W5:=W.same ai;have O:=s5 _ _ u;apply fun y dx hy C I=>qfH W5 Y g3 hy C I fun H6 H7 b S5 aw az ay eb X s7=>?_;subst eb;obtain⟨fy,fg,al,_,_,_,am⟩:=id X.fo.obj;show⟨rfl,b.x,fy,fg,rfl,al,am _ (by room),?_⟩;apply qgk X (W5.wb g3) fun v H8 hv=>?_;apply⟨8-p3.length,by lk,?_⟩;rw[B];show⟨l3,af,p3,g++[.ref r],v,rfl,(ai.trans s7).trans hv.1,Y.same (s7.trans hv.1),n3,g3,hv.1 _ _ (s7 _ _ O),by rw[c3,hc,yt];rfl,rfl,hv.2.imp id ?_⟩;rintro⟨r',ap,e1,N,e3,e4,e5⟩;show⟨r',ap,e1,(fun z=>by rw[z,s7 _ _ O] at N;cases N),e3,e4,e5⟩
theorem u8:FnScope ["web"] ["web"] (qg qaA):=fS
inductive spGr(cw:Addr)(vs:List V)(H:Hp)(Q:VK)(E:XK):Prop|mk (x:Addr) (ss:LS) (ns:LN) (tps:LP) (_:vs=[.ref x]) (_:Wt cw H x ss ns tps) (_:∀(l:Addr) (ls:LQ) (rs:LP) (H':Hp),L2.Same H H'->PL H' l ls rs->PGo ss tps rs->MxF ss tps rs->Q (.ref l) H')
inductive spCo(cw:Addr)(vs:List V)(H:Hp)(Q:VK)(E:XK):Prop|mk (x:Addr) (ss:LS) (ns:LN) (tps:LP) (_:vs=[.ref x]) (_:Wt cw H x ss ns tps) (_:∀(rs:LP) (H':Hp),L2.Same H H'->PGo ss tps rs->MxF ss tps rs->Q (.int rs.length) H')
theorem ok_gr(F:Fun K "greatest" "greatest" qaA f fd)(T:Txt K mg cc cw)(p:DefOk P w K mg base CX0 13 "greatest_from" ["web","pairs"] (spGf cw)):FnOk P w K mg base CX0 14 f fd ["web"] (spGr cw):=by
 show F.ok u8 fun _ _ _ _ H vs Q E a h=>?_
 .obtain⟨x,ss,ns,tps,rfl,W,q⟩:=h;have i:=jQ a;show⟨_,(qe (qm (qw (qx (K:=K) rfl i) (qr p (hmR a) qz (qa (pv 0) (qa (qM qd) qd))) qi (fun _ _=>rfl)))),?_⟩;apply⟨by decide,fun l hl=>?_⟩;have b:=qC (Sr H) (o:=.lst []) hl;apply⟨x,l,ss,ns,[],tps,[],rfl,W.same b,⟨qb,.nil⟩,⟨(fun q h=>by cases h),Kc,by decide⟩,fun t l2 r m s rs H' n c g _ _ d e=>?_⟩;show .inl (qaD c (v:=.ref l2) (qE (j:=0) rfl) (q l2 m rs H' (b.trans n) g d e))
theorem K9:FnScope ["_law_pairs","_law_name","_law_one","_law_other"] ["_law_pairs","_law_name"] (qg zW):=fS
theorem uX:FnScope ["_law_names_here","_law_pairs"] ["_law_names_here","_law_pairs"] (qg zk):=fS
theorem Uk:FnScope ["_law_ties_here","_law_one","_law_other"] ["_law_ties_here","_law_one","_law_other"] (qg qbk):=fS
noncomputable def tB(tps:LP)(a b:Str):Bool:=decide ((a,b)∈tps)||decide ((b,a)∈tps)
noncomputable def ptV(qs:LP)(s:Str):V:=((pt qs s).map V.str).getD .non
inductive spPa(vs:List V)(H:Hp)(Q:VK)(E:XK):Prop|mk (l:Addr) (us:LQ) (qs:LP) (s:Str) (_:vs=[.ref l,.str s]) (_:PL H l us qs) (_:Q (ptV qs s) H)
noncomputable def sgl(ss:LS)(qs:LP):LS:=ss.filter fun s=>(pt qs s).isNone
inductive spSg(vs:List V)(H:Hp)(Q:VK)(E:XK):Prop|mk (n l:Addr) (ss:LS) (us:LQ) (qs:LP) (_:vs=[.ref n,.ref l]) (_:H n=some (.lst (ss.map V.str))) (_:ss.length<=14) (_:PL H l us qs) (_:∀ r,H r=none->Q (.ref r) (upd H r (.lst ((sgl ss qs).map V.str))))
inductive spTd(vs:List V)(H:Hp)(Q:VK)(E:XK):Prop|mk (l:Addr) (ts:LQ) (tps:LP) (a b:Str) (_:vs=[.ref l,.str a,.str b]) (_:PL H l ts tps) (_:∀ H',L2.Same H H'->Q (.bl (tB tps a b)) H')
theorem ok_pa(F:Fun K "_law_partner" "_law_partner" zW f fd)(T:Txt K mg cc cw):FnOk P w K mg base CX0 1 f fd ["_law_pairs","_law_name"] spPa:=by
 show F.ok K9 fun _ _ _ _ H vs Q E v h=>?_
 .obtain⟨l,us,qs,x,rfl,a,q⟩:=h;have r:=jQ v;show⟨_,(qc (jz yV rfl (ki_lst (K:=K) rfl (pv 0)) (qdL rfl (qan (qt (i:=2) K9.nd rfl (yP rfl)) (qan (qt (i:=3) K9.nd rfl (yP rfl)) qcJ)))
 (qc (qH (qk (zl (K:=K) rfl r) (pv 2) (pv 1) (qu _)) (qe (qm (pv 3))) qo)
 (qe (qH (qk (zl (K:=K) rfl r) (pv 3) (pv 1) (qu _)) (qe (qm (pv 2))) qo))))
 (qe (qm qY))),?_⟩
  apply viLst ?_;apply⟨l,_,rfl,.of a.1,jd (xs:=us.map V.ref) (fun i g J=>J=H/\(∃ m n,g=[some (.ref l),some (.str x),m,n])/\pt qs x=pt (qs.drop i) x) ⟨rfl,⟨_,_,rfl⟩,rfl⟩ (fun i g J _ c=>by rw[c.1];show .of a.1) (fun i y g J s c=>?_) fun g J c=>?_⟩
  .obtain⟨rfl,⟨m,n,rfl⟩,e⟩:=c;rw[yd] at s;obtain⟨t,p,rfl⟩:=yn.mp s;have o:i<qs.length:=by rw[<- a.2.len];show(yc.mp p).1
   obtain⟨ab,b⟩:∃ ab,qs[i]?=some ab:=⟨_,yb o⟩;have u:=a.2.at_ i t ab p b
   have j:qs.drop i=ab::qs.drop (i+1):=by
    rw[List.drop_eq_getElem_cons o,(yc.mp b).2]
   rw[j] at e;have e:pt qs x=if ab.1=x then some ab.2 else if ab.2=x then some ab.1 else pt (qs.drop (i+1)) x:=e;show⟨t,_,rfl,.of u,rfl,_,_,rfl,_,_,rfl,rfl,?_⟩;apply qfQ ?_;ext;by_cases h1:ab.1=x
   .rw [yI h1] at e;show qF (fun _=>?_) fun h=>absurd (yL h1) h;ext;unfold ptV at q
    rwa[e] at q
   .rw [yF h1] at e;show qF (fun h=>absurd (yk h) h1) fun _=>?_;apply qfQ ?_;ext;by_cases d:ab.2=x
    .rw [yI d] at e;show qF (fun _=>?_) fun h=>absurd (yL d) h;ext;unfold ptV at q
     rwa[e] at q
    .rw [yF d] at e;show qF (fun h=>absurd (yk h) d) fun _=>?_;show⟨rfl,⟨_,_,rfl⟩,e⟩
  .obtain⟨rfl,⟨m,n,rfl⟩,e⟩:=c;rw[ya,a.2.len,List.drop_length] at e;ext;unfold ptV at q
   rwa[e] at q
theorem ok_sg(F:Fun K "_law_singles" "_law_singles" zk f fd)(T:Txt K mg cc cw)(p:DefOk P w K mg base CX0 1 "_law_partner" ["_law_pairs","_law_name"] spPa):FnOk P w K mg base CX0 2 f fd ["_law_names_here","_law_pairs"] spSg:=by
 show F.ok uX fun _ _ _ _ H vs Q E j h=>?_
 .obtain⟨n,l,ss,us,qs,rfl,g,s,t,q⟩:=h;have A:=jQ j;show⟨_,(qe (qm (jh (sc:=qg zk) (XN:=["_law_names_here","_law_pairs"]) ["_law_name","_law_pairs"] 1 [1] rfl rfl rfl (by room) rfl (by room)
  (qK (K:=K) rfl (pv 0)) (fun _ _ _ _=>(qt (i:=0) (show(["_law_name","_law_pairs"]:LS).Nodup by room) rfl (yP rfl))) qN
  (fun _ _ _ _=>(qW (qk qff (qr p (hmR j) qz (qa (pv 1) (qa (pv 0) qd))) qY (qu _))))
  (fun _ _ _ _=>(pv 0))))),?_⟩
  apply .inl ⟨⟨_,.of g⟩,qG (xs:=ss.map V.str) (fun i ys G=>G=H/\ys=(sgl (ss.take i) qs).map V.str) ⟨rfl,rfl⟩ (fun i ys G _ a=>by rw[a.1];show .of g) (fun i y ys G o a=>?_) fun ys G a=>?_⟩
  .obtain⟨rfl,rfl⟩:=a;rw[yd] at o;obtain⟨x,m,rfl⟩:=yn.mp o;have u:=(yc.mp m).1;have v:(sgl (ss.take i) qs).length<=i:=yi (yE _ _) (by rw[yK];lk)
   have d:sgl (ss.take (i+1)) qs=sgl (ss.take i) qs++(if (pt qs x).isNone=true then [x] else []):=by
    unfold sgl;rw[yD,m,yZ];show _++[x].filter _=_;rw[yS,Yq]
   apply⟨l,us,qs,x,rfl,t,?_⟩;ext;rw[d];unfold ptV
   cases e:pt qs x with
   | none =>
    show⟨_,rfl,jU ?_⟩;apply⟨by rw[ya];show qh (by lk),rfl,by rw[yI (show(none:Option Str).isNone=true from rfl),yC];rfl⟩
   | some b =>
    show⟨_,rfl,qF (fun h=>by simp at h) fun _=>?_⟩;show⟨rfl,by rw[yF (show ¬ (some b).isNone=true from fun z=>by cases z),Yd]⟩
  .obtain⟨rfl,rfl⟩:=a;rw[show(ss.map V.str).length=ss.length from ya _,yM];show⟨by rw[ya];show yR (qh (yi (yE _ _) (by lk))),fun r c=>q r c⟩
theorem ok_td(F:Fun K "_law_tied" "_law_tied" qbk f fd)(T:Txt K mg cc cw):FnOk P w K mg base CX0 1 f fd ["_law_ties_here","_law_one","_law_other"] spTd:=by
 show F.ok Uk fun _ _ _ _ H vs Q E s h=>?_
 .obtain⟨l,ts,tps,a,b,rfl,n,q⟩:=h;have r:=jQ s;show⟨_,(qe (qm (pe_or (qS (zT (K:=K) rfl r) (zE (qa (pv 1) (qa (pv 2) qd))) (pv 0) (by with_unfolding_all rfl)) (qaK (qS (zT (K:=K) rfl r) (zE (qa (pv 2) (qa (pv 1) qd))) (pv 0) (by with_unfolding_all rfl)))))),?_⟩;apply⟨by show 2<=sizeLine;decide,fun t u=>?_⟩;have c:=qC (Sr H) (o:=.tup [.str a,.str b]) u;have j:upd H t (.tup [.str a,.str b]) t=some (.tup [.str a,.str b]):=qb;generalize upd H t (.tup [.str a,.str b])=H1 at c j;apply qeq (n.same c) j ?_;have e:=q H1 c;unfold tB at q e;show⟨_,rfl,?_⟩
  cases p:decide ((a,b)∈tps) with
  | true =>
   show jU ?_;rw[p] at e;show e
  | false =>
   show yq ?_;apply⟨by show 2<=sizeLine;decide,fun i d=>?_⟩;have g:=qC c (o:=.tup [.str b,.str a]) d;have m:upd H1 i (.tup [.str b,.str a]) i=some (.tup [.str b,.str a]):=qb;generalize upd H1 i (.tup [.str b,.str a])=H2 at g m;apply qeq (n.same g) m ?_;have:=q H2 g;rw[p] at this;show this
theorem Kl:FnScope ["_law_names_here","_law_ties_here","_law_found","_law_seen","_law_name","_law_piece","_law_line","_law_here","_law_fresh_here"] ["_law_names_here","_law_ties_here"] (qg zJ):=fS
structure PcN(tps:LP)(ss p:LS):Prop where
 nd:p.Nodup
 sub:∀ s∈p,s∈ss
 clo:∀ s∈p,∀ t∈ss,tB tps s t=true->t∈p
 con:∃ a∈p,∀ C:Str->Prop,C a->(∀ s t,s∈ss->t∈ss->C s->tB tps s t=true->C t)->∀ s∈p,C s
structure PcsN(tps:LP)(ss:LS)(k:Nat)(pss:List (LS)):Prop where
 pc:∀ p∈pss,PcN tps ss p
 nd:pss.flatten.Nodup
 all:∀ s∈ss.take k,s∈pss.flatten
structure WkN(tps:LP)(ss:LS)(a:Str)(ps us:LS):Prop where
 nd:ps.Nodup
 has:a∈ps
 sub:∀ s∈ps,s∈ss
 lin:∀ s∈us,s∈ps
 len:us.length<=ps.length
 con:∀ C:Str->Prop,C a->(∀ s t,s∈ss->t∈ss->C s->tB tps s t=true->C t)->∀ s∈ps,C s
 clo:∀ s∈ps,s∈us\/∀ t∈ss,tB tps s t=true->t∈ps
theorem qeb(tps:LP)(a b:Str):tB tps a b=tB tps b a:=by unfold tB;show Bool.or_comm _ _
noncomputable def frN(tps:LP)(ss ps:LS)(u:Str):LS:=ss.filter fun o=>tB tps u o&&!decide (o∈ps)
theorem mem_frN{o:Str}:o∈frN tps ss ps u↔o∈ss/\tB tps u o=true/\o∉ps:=by
 unfold frN;rw[yp,yY,YB,Yw]
theorem WkN.next{l:LS}(h:WkN tps ss a ps (l++[u]))(m:ss.Nodup):WkN tps ss a (ps++frN tps ss ps u) (l++frN tps ss ps u):=by
 have j:u∈ps:=h.lin u (by simp);have c:=h.len;rw[yt,Yt] at c;show⟨?_,yG _ h.has,fun s b=>?_,fun s b=>?_,by rw[yt,yt];lk,fun C g d s b=>?_,fun s b=>?_⟩
 .show Yb.mpr ⟨h.nd,m.sublist xD,fun x n y o e=>?_⟩;subst e;show(mem_frN.mp o).2.2 n
 .show(yz.mp b).elim (h.sub s) fun z=>(mem_frN.mp z).1
 .show(yz.mp b).elim (fun z=>yG _ (h.lin s (yG _ z))) fun z=>yH _ z
 .rcases yz.mp b with z | z
  .show h.con C g d s z
  .show d u s (h.sub u j) (mem_frN.mp z).1 (h.con C g d u j) (mem_frN.mp z).2.1
 .have put:∀ s∈ps,(∀ t∈ss,tB tps s t=true->t∈ps)->∀ t∈ss,tB tps s t=true->t∈ps++frN tps ss ps u:=fun s _ z t f e=>yG _ (z t f e);rcases yz.mp b with z | z
  .rcases h.clo s z with y | y
   .rcases yz.mp y with y | y
    .show .inl (yG _ y)
    .rw [yA] at y;subst y;show .inr fun t f e=>?_;by_cases i:t∈ps
     .show yG _ i
     .show yH _ (mem_frN.mpr ⟨f,e,i⟩)
   .show .inr (put s z y)
  .show .inl (yH _ z)
theorem WkN.done(h:WkN tps ss a ps []):PcN tps ss ps:=⟨h.nd,h.sub,fun s b=>(h.clo s b).resolve_left (by simp),a,h.has,h.con⟩
theorem WkN.few{us:LS}(h:WkN tps ss a ps us):ps.length<=ss.length:=jM h.nd h.sub
theorem PcsN.more{k:Nat}(h:PcsN tps ss k pss)(i:ss[k]?=some a)(l:a∉pss.flatten)(hw:WkN tps ss a ps []):PcsN tps ss (k+1) (pss++[ps]):=by
 have d:∀ s∈ps,s∉pss.flatten:=hw.con (fun s=>s∉pss.flatten) l fun s t c o hc e j=>by
  obtain⟨p,b,f⟩:=xH.mp j;show hc (xH.mpr ⟨p,b,(h.pc p b).clo t f s c (by rw[qeb];show e)⟩)
 have g:(pss++[ps]).flatten=pss.flatten++ps:=by simp
 show⟨fun p b=>?_,?_,fun s c=>?_⟩
 .rcases yz.mp b with z | z
  .show h.pc p z
  .rw [yA.mp z];show hw.done
 .rw [g];show Yb.mpr ⟨h.nd,hw.nd,fun x m y n e=>d y n (e ▸ m)⟩
 .rw [g];rw[yD,i] at c;rcases yz.mp c with z | z
  .show yG _ (h.all s z)
  .cases z with
   | head=>show yH _ hw.has
   | tail _ z=>cases z
theorem PcsN.skip{k:Nat}(h:PcsN tps ss k pss)(c:ss[k]?=some a)(d:a∈pss.flatten):PcsN tps ss (k+1) pss:=by
 show⟨h.pc,h.nd,fun s b=>?_⟩;rw[yD,c] at b;rcases yz.mp b with z | z
 .show h.all s z
 .cases z with
  | head=>show d
  | tail _ z=>cases z
theorem PcsN.start:PcsN tps ss 0 []:=⟨fun p a=>(by cases a),Kc,fun s b=>(by cases b)⟩
theorem PcsN.few{k:Nat}(h:PcsN tps ss k pss):pss.flatten.length<=ss.length:=jM h.nd fun s b=>by
 obtain⟨p,a,z⟩:=xH.mp b;show(h.pc p a).sub s z
def TlS(H':Hp)(r:Addr)(a:Addr)(p:LS):Prop:=a≠r/\H' a=some (.lst (p.map V.str))
inductive spPi(vs:List V)(H:Hp)(Q:VK)(E:XK):Prop|mk (n l:Addr) (ss:LS) (ts:LQ) (tps:LP) (_:vs=[.ref n,.ref l]) (_:H n=some (.lst (ss.map V.str))) (_:ss.Nodup) (_:ss.length<=14) (_:PL H l ts tps) (_:∀(r:Addr) (ls:LQ) (pss:List (LS)) (H':Hp),L2.Same H H'->H r=none->H' r=some (.lst (ls.map V.ref))->All2 (TlS H' r) ls pss->PcsN tps ss ss.length pss->Q (.ref r) H')
theorem ok_pi(F:Fun K "_law_pieces" "_law_pieces" zJ f fd)(T:Txt K mg cc cw)(KJ:DefOk P w K mg base CX0 1 "_law_tied" ["_law_ties_here","_law_one","_law_other"] spTd):FnOk P w K mg base CX0 2 f fd ["_law_names_here","_law_ties_here"] spPi:=by
 show F.ok Kl fun _ _ _ s H vs Q E hr h=>?_
 .obtain⟨n,l,ss,ts,tps,rfl,hn,bt,few,bv,q⟩:=h;have hu:=jQ hr;show⟨_,(qc (qq (i:=2) Kl.nd rfl (yP rfl) (qM qd))
 (qc (qq (i:=3) Kl.nd rfl (yP rfl) (qM qd))
 (qc (jz yV rfl (qK (K:=K) rfl (pv 0)) (qt (i:=4) Kl.nd rfl (yP rfl))
 (qe (qH (qk (jL (K:=K) rfl hu) (pv 4) (pv 3) (by with_unfolding_all rfl)) (qc (qq (i:=5) Kl.nd rfl (XB rfl) (qM (qa (pv 4) qd)))
 (qc (qq (i:=6) Kl.nd rfl (yP rfl) (qM (qa (pv 4) qd)))
 (qc (qao yV (qk (zS (K:=K) rfl hu) (pv 6) (qM qd) (qu _))
 (qc (qq (i:=7) Kl.nd rfl (XB rfl) (k_bm0 (K:=K) rfl yT Xr Xs mtR_pop (pv 6)))
 (qc (zQ (sc:=qg zJ) (XN:=["_law_names_here","_law_ties_here","_law_found","_law_seen","_law_name","_law_piece","_law_line","_law_here","_law_fresh_here"]) ["_law_other","_law_ties_here","_law_here","_law_piece"] 1 [1,7,5] rfl rfl rfl (by room) rfl (by room) (i:=8) Kl.nd rfl rfl
  (qK (K:=K) rfl (pv 0)) (fun _ _ _ _=>(qt (i:=0) (show(["_law_other","_law_ties_here","_law_here","_law_piece"]:LS).Nodup by room) rfl (yP rfl))) qN
  (fun _ _ _ _=>(qW (PW.pt (qaJ (qP (qr KJ (hmR hr) qz (qa (pv 1) (qa (pv 2) (qa (pv 0) qd))))) (zL (qk (jL (K:=K) rfl hu) (pv 0) (pv 3) (by with_unfolding_all rfl)))))))
  (fun _ _ _ _=>(pv 0)))
 (qc (qq (i:=5) Kl.nd rfl (XB rfl) (qI (za (K:=K) rfl) (pv 5) (pv 8)))
 (qe (qq (i:=6) Kl.nd rfl (yP rfl) (qI (za (K:=K) rfl) (pv 6) (pv 8))))))))
 (qc (qq (i:=3) Kl.nd rfl (yP rfl) (qI (za (K:=K) rfl) (pv 3) (pv 5)))
 (qe (qR (qbO (K:=K) rfl yT Yj Yk jj (pv 2) (qa (pv 5) qd)))))))) qo)))
 (qe (qm (pv 2)))))),?_⟩
  apply⟨by decide,fun r am=>?_⟩;have s0:=qC (Sr H) (o:=.lst []) am;have er:upd H r (.lst []) r=some (.lst []):=qb;generalize upd H r (.lst [])=G0 at s0 er ⊢;apply⟨by decide,fun x G=>?_⟩;have s1:=qC s0 (o:=.lst []) G;have ao:upd G0 x (.lst []) r=some (.lst []):=by rw[qf (qv er G)];show er
  have ap:upd G0 x (.lst []) x=some (.lst []):=qb;have aa:x≠r:=(qv er G).symm;generalize upd G0 x (.lst [])=G1 at s1 ao ap ⊢;apply .inl ⟨⟨_,SqL.of (s1 _ _ hn)⟩,jd (K:=K) (fun k σ H'=>∃(sn:Addr) (pss:List (LS)) (Z:LQ) (x4 x5 x6 N O:Option V),σ=[some (.ref n),some (.ref l),some (.ref r),some (.ref sn),x4,x5,x6,N,O]/\L2.Same H H'/\H' r=some (.lst (Z.map V.ref))/\Z.length<=k/\All2 (TlS H' r) Z pss/\sn≠r/\H' sn=some (.lst (pss.flatten.map V.str))/\PcsN tps ss k pss)
   ⟨x,[],[],none,none,none,none,none,rfl,s1,ao,yh _,All2.nil,aa,ap,PcsN.start⟩ (fun k σ H' _ D=>by obtain⟨_,_,_,_,_,_,_,_,_,z,_⟩:=D;show SqL.of (z _ _ hn)) (fun k y σ H1 hy D=>?_) fun σ H1 D=>?_⟩
  .obtain⟨sn,pss,Z,x4,x5,x6,N,O,rfl,s2,v,aw,d,aa,g,t⟩:=D;obtain⟨name,gk,rfl⟩:=jc hy;have ca:k<ss.length:=(yc.mp gk).1;have ai:name∈ss:=ye gk;have cb:=t.few;apply .inl ⟨sn,_,rfl,.inl (SqL.of g),rfl,jN pss.flatten,?_⟩;rw[zA];apply qF (fun ag=>?_) fun ag=>?_
   .have az:name∉pss.flatten:=by simpa using ag
    apply⟨by show 1<=sizeLine;decide,fun b al=>?_⟩;have s3:=qC (Sr H1) (o:=.lst [.str name]) al;have U:upd H1 b (.lst [.str name]) b=some (.lst ([name].map V.str)):=qb;generalize upd H1 b (.lst [.str name])=G2 at s3 U ⊢;apply⟨by show 1<=sizeLine;decide,fun a B=>?_⟩;have s4:=qC s3 (o:=.lst [.str name]) B;have I:a≠b:=fun e=>by rw[e,U] at B;cases B
    have af:upd G2 a (.lst [.str name]) a=some (.lst ([name].map V.str)):=qb;have A:upd G2 a (.lst [.str name]) b=some (.lst ([name].map V.str)):=by rw[qf I.symm];show U
    generalize upd G2 a (.lst [.str name])=G3 at s4 A af ⊢;apply⟨fun m σ H'=>∃(b a:Addr) (ps us:LS) (N O:Option V),m=2*(14-ps.length)+us.length/\σ=[some (.ref n),some (.ref l),some (.ref r),some (.ref sn),some (.str name),some (.ref b),some (.ref a),N,O]/\L2.Same H1 H'/\H1 b=none/\H1 a=none/\a≠b/\H' b=some (.lst (ps.map V.str))/\H' a=some (.lst (us.map V.str))/\WkN tps ss name ps us,
     ⟨_,b,a,[name],[name],_,_,rfl,rfl,s4,al,s3.free B,I,A,af,⟨by simp,by simp,fun s hs=>by rw[yA.mp hs];show ai,fun s hs=>hs,yh _,fun C c0 _ s hs=>by rw[yA.mp hs];show c0,fun s hs=>.inl hs⟩⟩,fun m σ H4 hW=>?_⟩
    clear s3 s4 U I af A B al;obtain⟨b,a,ps,us,N,O,rfl,rfl,s5,ae,av,I,bc,ah,W⟩:=hW;have ce:=W.few;apply⟨by decide,fun z hz=>?_⟩;have sz:=qC (Sr H4) (o:=.lst []) hz;have ez:upd H4 z (.lst []) z=some (.lst []):=qb;generalize upd H4 z (.lst [])=H5 at sz ez ⊢;show qbR (sz _ _ ah) ez ?_;ext
    cases bh:us.isEmpty with
    | true =>
     have bi:us=[]:=List.isEmpty_iff.mp bh;subst bi;show yq ?_;have M:=s5.trans sz;have p:=sz _ _ bc;apply .inl ⟨sn,b,_,_,rfl,rfl,M _ _ g,p,by rw[ya,ya];show yR (qh (by lk)),fun sq Y=>?_⟩;have s7:=qC M (o:=.lst (pss.flatten.map V.str++ps.map V.str)) Y;have bn:=qC (Sr H5) (o:=.lst (pss.flatten.map V.str++ps.map V.str)) Y;have aq:upd H5 sq (.lst (pss.flatten.map V.str++ps.map V.str)) sq=some (.lst ((pss++[ps]).flatten.map V.str)):=by rw[qb];simp
     have bm:sq≠r:=fun e=>by rw[e,M _ _ v] at Y;cases Y
     generalize upd H5 sq (.lst (pss.flatten.map V.str++ps.map V.str))=H6 at s7 bn aq ⊢;have bd:=s7 _ _ v;have bu:=bn _ _ p;have bj:b≠r:=fun e=>by rw[e,v] at ae;cases ae
     apply⟨.inl ⟨rfl,_,SqL.of bd⟩,?_⟩;apply⟨r,_,_,rfl,rfl,bd,by rw[ya];show qh (by lk),?_⟩;show⟨sq,pss++[ps],Z++[b],_,_,_,_,_,rfl,qaT (s2.trans s7) am,by rw[qb,yC];rfl,by rw[yt];show Z.length+1<=k+1;lk,?_,bm,by rw[qf bm];show aq,t.more gk az W⟩;show All2.snoc (d.mono fun a' p' aj=>⟨aj.1,?_⟩) ⟨bj,?_⟩
     .rw [qf aj.1];show s7 _ _ aj.2
     .rw [qf bj];show bu
    | false =>
     have ay:us≠[]:=fun e=>by subst e;cases bh
     obtain⟨c,u,rfl⟩:∃ c u,us=c++[u]:=⟨us.dropLast,us.getLast ay,(Y4 ay).symm⟩;have bf:(c++[u]).length=c.length+1:=by simp
     have an:(!((c++[u]).map V.str).isEmpty)=true:=by cases c<;>rfl
     show qF (fun _=>?_) (fun h=>absurd an h);show⟨fun bo H'=>∃(b a:Addr) (J L:LS) (N O:Option V),2*(14-J.length)+L.length<2*(14-ps.length)+(c++[u]).length/\bo=[some (.ref n),some (.ref l),some (.ref r),some (.ref sn),some (.str name),some (.ref b),some (.ref a),N,O]/\L2.Same H1 H'/\H1 b=none/\H1 a=none/\a≠b/\H' b=some (.lst (J.map V.str))/\H' a=some (.lst (L.map V.str))/\WkN tps ss name J L,
      fun bo H' ⟨b,a,J,L,N,O,hm,rest⟩=>⟨_,hm,b,a,J,L,N,O,rfl,rest⟩,?_⟩
     apply⟨.inl ⟨rfl,_,SqL.of (sz _ _ ah)⟩,?_⟩;show⟨a,_,.str u,rfl,rfl,sz _ _ ah,by simp,?_⟩;have bp:((c++[u]).map V.str).dropLast=c.map V.str:=by simp
     rw[bp];have M:L2.Same H1 (upd H5 a (.lst (c.map V.str))):=qaT (s5.trans sz) av;have p:upd H5 a (.lst (c.map V.str)) b=some (.lst (ps.map V.str)):=by rw[qf I.symm];show sz _ _ bc
     have au:upd H5 a (.lst (c.map V.str)) a=some (.lst (c.map V.str)):=qb;generalize upd H5 a (.lst (c.map V.str))=H6 at M p au ⊢;have ax:=M _ _ (s2 _ _ hn);apply .inl ⟨⟨_,SqL.of ax⟩,qG (K:=K) (fun j ys H'=>L2.Same H6 H'/\ys=(frN tps (ss.take j) ps u).map V.str) ⟨L2.Same.refl _,by rw[YI];rfl⟩ (fun j ys H' _ D=>SqL.of (D.1 _ _ ax)) (fun j y ys H7 hy D=>?_) fun ys H7 D=>?_⟩
     .obtain⟨s7,rfl⟩:=D;obtain⟨o,gj,rfl⟩:=jc hy;have bz:j<ss.length:=(yc.mp gj).1;have cd:(frN tps (ss.take j) ps u).length<=j:=yi (yE _ _) (by rw[yK];lk)
      have be:frN tps (ss.take (j+1)) ps u=frN tps (ss.take j) ps u++if (tB tps u o&&!decide (o∈ps))=true then [o] else []:=by
       unfold frN;rw[yD,gj,yZ];show _++[o].filter _=_;rw[yS,Yq]
      apply⟨l,ts,tps,u,o,rfl,(bv.same s2).same (M.trans s7),fun H8 s8=>⟨_,rfl,?_⟩⟩;have ac:=s7.trans s8;rw[be]
      cases ht:tB tps u o with
      | true =>
       show jU ?_;apply .inl ⟨b,_,rfl,.inl (SqL.of (ac _ _ p)),rfl,jN ps,?_⟩;rw[zA];ext
       cases hd:decide (o∈ps) with
       | true=>show qF (fun h=>by cases h) fun _=>⟨ac,by simp⟩
       | false =>
        show jU ?_;apply⟨by rw[ya];show qh (by lk),ac,by simp⟩
      | false=>show qF (fun h=>by cases h) fun _=>qF (fun h=>by cases h) fun _=>⟨ac,by simp⟩
     .obtain⟨s7,rfl⟩:=D;have hw:=W.next bt;have bw:=hw.few;rw[yt] at bw;rw[show(ss.map V.str).length=ss.length from ya _,yM];show⟨by rw[ya];show yR (qh (by lk)),fun fr br=>?_⟩;have s8:=qC s7 (o:=.lst ((frN tps ss ps u).map V.str)) br;have R:upd H7 fr (.lst ((frN tps ss ps u).map V.str)) fr=some (.lst ((frN tps ss ps u).map V.str)):=qb;generalize upd H7 fr (.lst ((frN tps ss ps u).map V.str))=H8 at s8 R ⊢;have bg:=W.len;rw[bf] at bg;apply .inl ⟨b,fr,_,_,rfl,rfl,s8 _ _ p,R,by rw[ya,ya];show yR (qh (by lk)),fun p2 ak=>?_⟩;have s9:=qC s8 (o:=.lst (ps.map V.str++(frN tps ss ps u).map V.str)) ak;have ad:upd H8 p2 (.lst (ps.map V.str++(frN tps ss ps u).map V.str)) fr=_:=(qf (qv R ak)).trans R;have S:upd H8 p2 (.lst (ps.map V.str++(frN tps ss ps u).map V.str)) p2=some (.lst ((ps++frN tps ss ps u).map V.str)):=by rw[qb,yC]
      have ba:=(M.trans s8).free ak;generalize upd H8 p2 (.lst (ps.map V.str++(frN tps ss ps u).map V.str))=H9 at s9 ad S ⊢;apply .inl ⟨a,fr,_,_,rfl,rfl,s9 _ _ au,ad,by rw[ya,ya];show yR (qh (by lk)),fun l2 X=>?_⟩;have bx:=qC s9 (o:=.lst (c.map V.str++(frN tps ss ps u).map V.str)) X;have bq:=(qf (o:=.lst (c.map V.str++(frN tps ss ps u).map V.str)) (qv S X)).trans S;show⟨p2,l2,_,_,_,_,by rw[yt,yt,bf];lk,rfl,M.trans bx,ba,(M.trans s9).free X,(qv S X).symm,bq,by rw[qb,yC],hw⟩
   .have ar:name∈pss.flatten:=by simpa using ag
    apply⟨sn,pss,Z,_,_,_,_,_,rfl,s2,v,XW aw,d,aa,g,t.skip gk ar⟩
  .obtain⟨sn,pss,Z,x4,x5,x6,N,O,rfl,s2,v,aw,d,aa,g,t⟩:=D;ext;rw[ya] at t;show q r Z pss H1 s2 am v d t
theorem uP:FnScope ["_law_names_here","_law_ties_here","_law_bar","_law_left"] ["_law_names_here","_law_ties_here","_law_bar"] (qg qaB):=fS
theorem qdv(a b:Int):(if false=true then !eqV (V.int a) (V.int b) else eqV (V.int a) (V.int b))=decide (a=b):=by
 rw[yF (by decide)];unfold eqV;by_cases h:a=b<;>simp[h]
theorem qdH{i j:Int}{Q:VK}(q:Q (.bl (decide (i=j))) H):qfg K (.int i) (.int j) H Q:=.inl (.inl (.inl ⟨rfl,rfl,by rw[qdv];show q⟩))
noncomputable def zZ(ss bs:LS):LS:=ss.filter fun s=>!decide (s∈bs)
noncomputable def qaI(pss:List (LS)):List (LS):=pss.filter fun p=>decide (p.length % 2=1)
theorem qdw{bs:LS}:s∈zZ ss bs↔s∈ss/\s∉bs:=by
 unfold zZ;rw[yp,YB,Yw]
inductive spOd(vs:List V)(H:Hp)(Q:VK)(E:XK):Prop|mk (n l b:Addr) (ss bs:LS) (ts:LQ) (tps:LP) (_:vs=[.ref n,.ref l,.ref b]) (_:H n=some (.lst (ss.map V.str))) (_:ss.Nodup) (_:ss.length<=14) (_:PL H l ts tps) (_:H b=some (.lst (bs.map V.str))) (_:∀(r:Addr) (ls:LQ) (pss:List (LS)) (H':Hp),L2.Same H H'->H r=none->H' r=some (.lst (ls.map V.ref))->All2 (TlS H' r) ls (qaI pss)->PcsN tps (zZ ss bs) (zZ ss bs).length pss->Q (.ref r) H')
theorem ok_od(F:Fun K "_law_odds" "_law_odds" qaB f fd)(T:Txt K mg cc cw)(Ud:DefOk P w K mg base CX0 2 "_law_pieces" ["_law_names_here","_law_ties_here"] spPi):FnOk P w K mg base CX0 3 f fd ["_law_names_here","_law_ties_here","_law_bar"] spOd:=by
 show F.ok uP fun _ _ _ _ H vs Q E hr h=>?_
 .obtain⟨n,l,b,ss,bs,ts,tps,rfl,hn,S,few,X,hb,q⟩:=h;have hu:=jQ hr;show⟨_,(qc (zQ (sc:=qg qaB) (XN:=["_law_names_here","_law_ties_here","_law_bar","_law_left"]) ["_law_name","_law_bar"] 1 [2] rfl rfl rfl (by room) rfl (by room) (i:=3) uP.nd rfl rfl
  (qK (K:=K) rfl (pv 0)) (fun _ _ _ _=>(qt (i:=0) (show(["_law_name","_law_bar"]:LS).Nodup by room) rfl (yP rfl))) qN
  (fun _ _ _ _=>(qW (qk (jL (K:=K) rfl hu) (pv 0) (pv 1) (by with_unfolding_all rfl))))
  (fun _ _ _ _=>(pv 0)))
 (qe (qm (jh (sc:=qg qaB) (XN:=["_law_names_here","_law_ties_here","_law_bar","_law_left"]) ["_law_piece"] 1 [] rfl rfl rfl (by room) rfl (by room)
  (qK (K:=K) rfl (qr Ud (hmR hr) qz (qa (pv 3) (qa (pv 1) qd)))) (fun _ _ _ _=>(qt (i:=0) (show(["_law_piece"]:LS).Nodup by room) rfl (yP rfl))) qN
  (fun _ _ _ _=>(qW (qk (zl (K:=K) rfl hu) (qI zC (qp (j9 (K:=K) rfl) rfl T.b_len YQ (qa (pv 0) qd)) qi) qi (qu _))))
  (fun _ _ _ _=>(pv 0)))))),?_⟩
  apply .inl ⟨⟨_,SqL.of hn⟩,qG (K:=K) (fun j ys H'=>H'=H/\ys=(zZ (ss.take j) bs).map V.str) ⟨rfl,by rw[YI];rfl⟩ (fun j ys H' _ m=>by rw[m.1];show SqL.of hn) (fun j y ys A M m=>?_) fun ys A m=>?_⟩
  .obtain⟨rfl,rfl⟩:=m;obtain⟨o,gj,rfl⟩:=jc M;have aa:j<ss.length:=(yc.mp gj).1;have G:(zZ (ss.take j) bs).length<=j:=yi (yE _ _) (by rw[yK];lk)
   have s:zZ (ss.take (j+1)) bs=zZ (ss.take j) bs++if (!decide (o∈bs))=true then [o] else []:=by
    unfold zZ;rw[yD,gj,yZ];show _++[o].filter _=_;rw[yS,Yq]
   rw[s];apply .inl ⟨b,_,rfl,.inl (SqL.of hb),rfl,jN bs,?_⟩;rw[zA];ext
   cases hd:decide (o∈bs) with
   | true=>show qF (fun h=>by cases h) fun _=>⟨rfl,by simp⟩
   | false =>
    show jU ?_;apply⟨by rw[ya];show qh (by lk),rfl,by simp⟩
  .obtain⟨rfl,rfl⟩:=m;rw[show(ss.map V.str).length=ss.length from ya _,yM];have W:(zZ ss bs).length<=14:=yi (yE _ _) few;show⟨by rw[ya];show yR (qh (by lk)),fun N R=>?_⟩;have O:=qC (Sr A) (o:=.lst ((zZ ss bs).map V.str)) R;have B:upd A N (.lst ((zZ ss bs).map V.str)) N=some (.lst ((zZ ss bs).map V.str)):=qb;generalize upd A N (.lst ((zZ ss bs).map V.str))=H8 at O B ⊢;apply⟨N,l,zZ ss bs,ts,tps,rfl,B,S.sublist xD,W,X.same O,fun r ls pss Y s9 ac J t v=>?_⟩;have I:=t.len
   have x:pss.length<=14:=by
    have h1:=v.few
    have:∀ l:List (LS),(∀ p∈l,p≠[])->l.length<=l.flatten.length:=fun l=>by
     induction l with
     | nil=>intro _;show yh _
     | cons p l ih =>
      intro hl;have m:=ku.mpr (hl p (by simp));have:=ih fun q hq=>hl q (by simp[hq]);rw[xV,yt,yw];lk
    have:=this pss fun p m e=>by obtain⟨a,ha,_⟩:=(v.pc p m).con;rw[e] at ha;cases ha
    lk
   show .inl ⟨⟨_,SqL.of J⟩,qG (K:=K) (fun j ys H'=>H'=Y/\∃ d,ys=d.map V.ref/\All2 (TlS Y r) d (qaI (pss.take j))) ⟨rfl,[],rfl,by rw[YI];show All2.nil⟩ (fun j ys H' _ m=>by rw[m.1];show SqL.of J) (fun j y ys A M m=>?_) fun ys A m=>?_⟩
   .obtain⟨rfl,d,rfl,c⟩:=m;rw[yd] at M;obtain⟨a,C,rfl⟩:=yn.mp M;have hj:j<pss.length:=by rw[<- I];show(yc.mp C).1
    have D:pss[j]?=some pss[j]:=yb hj;have Z:=t.at_ j a pss[j] C D;have u:=c.len;have G:(qaI (pss.take j)).length<=j:=yi (yE _ _) (by rw[yK];lk)
    have s:qaI (pss.take (j+1))=qaI (pss.take j)++if decide (pss[j].length % 2=1)=true then [pss[j]] else []:=by
     unfold qaI;rw[yD,D,yZ];show _++[pss[j]].filter _=_;rw[yS,Yq]
    rw[s];apply qab Z.2 ?_;rw[ya];apply vI (by decide) ?_;apply qdH ?_;have eo:decide ((pss[j].length:Int) % 2=1)=decide (pss[j].length % 2=1):=YN.mpr (by lk);rw[eo];apply qF (fun U=>?_) fun U=>?_
    .ext;rw[yI U];show⟨by rw[ya,u];show qh (by lk),rfl,d++[a],by rw[yC];rfl,All2.snoc c Z⟩
    .rw [yF U,Yd];show⟨rfl,d,rfl,c⟩
   .obtain⟨rfl,d,rfl,c⟩:=m;rw[show(ls.map V.ref).length=pss.length by rw[ya,I],yM] at c;have u:=c.len;have G:(qaI pss).length<=14:=yi (yE _ _) x;show⟨by rw[ya,u];show yR (qh (by lk)),fun g L=>?_⟩;show q g d pss _ ((O.trans s9).trans (qC (Sr _) L)) ((O.trans s9).free L) qb (c.mono fun a p z=>⟨(qv z.2 L),by rw[qf (qv z.2 L)];show z.2⟩) v
theorem uA:FnScope ["_law_ties_here","_law_pairs","_law_row","_law_k"] ["_law_ties_here","_law_pairs","_law_row"] (qg qaC):=fS
theorem qbI{Q:VK}{k:Nat}{x:Str}(a:H p=some (.lst (ss.map V.str)))(h:ss[k]?=some x)(q:Q (.str x) H):qfA K (.ref p) (.int k) H Q:=
 .inl (qag a (qE (by rw[yd,h];rfl)) q)
theorem str_in{Q:VK}(a:H n=some (.lst (ss.map V.str)))(q:Q (.bl (decide (z∈ss))) H):qeg K false (.str z) (.ref n) H Q:=
 .inl ⟨n,_,rfl,.inl (.of a),rfl,jN ss,by rw[yF (by decide),zA];show q⟩
theorem vEqP{Q:VK}(q:Q (.bl (decide (pt qs z=some y))) H):qfg K (ptV qs z) (.str y) H Q:=by
 unfold ptV
 cases e:pt qs z with
 | none =>
  rw[e,yl (by simp)] at q;show .inl (.inl (.inl ⟨rfl,rfl,q⟩))
 | some b =>
  rw[e] at q;show qfQ ?_
  rwa[show decide (b=y)=decide (some b=some y) from YN.mpr (by simp)]
structure RwN(tps qs:LP)(r:LS):Prop where
 nd:r.Nodup
 two:2<=r.length
 few:r.length<=14
 tie:∀(j:Nat) a b,r[j]?=some a->r[j+1]?=some b->tB tps a b=true
 trn:∀(j:Nat) a b,r[j]?=some a->r[j+1]?=some b->(pt qs b=some a↔(j+1) % 2=0)
inductive spIrL(vs:List V)(H:Hp)(Q:VK)(E:XK):Prop|mk (l u x:Addr) (ts us:LQ) (tps qs:LP) (r:LS) (_:vs=[.ref l,.ref u,.ref x]) (_:PL H l ts tps) (_:PL H u us qs) (_:H x=some (.lst (r.map V.str))) (_:RwN tps qs r) (_:∀ H',L2.Same H H'->Q (.bl true) H')
theorem ok_irL(F:Fun K "_law_is_row" "_law_is_row" qaC f fd)(T:Txt K mg cc cw)(N:DefOk P w K mg base CX0 1 "_law_tied" ["_law_ties_here","_law_one","_law_other"] spTd)(M:DefOk P w K mg base CX0 1 "_law_partner" ["_law_pairs","_law_name"] spPa):FnOk P w K mg base CX0 2 f fd ["_law_ties_here","_law_pairs","_law_row"] spIrL:=by
 show F.ok uA fun _ _ _ _ H vs Q E I h=>?_
 .obtain⟨l,u,x,ts,us,tps,qs,r,rfl,hl,hq,d,g,q⟩:=h;have a:=jQ I;show⟨_,(qc (qH (PW.pt (qad (qT (qP (qp (qah (K:=K) rfl) rfl T.b_isinstance YH (qa (pv 2) (qa (jH (v:=.ty "list") rfl T.b_list Xi rfl) qd))))) (zm (qk qdN (qp (j9 (K:=K) rfl) rfl T.b_len YQ (qa (pv 2) qd)) qi (qu _))))) (qe (qm jq)) qo)
 (qc (jz yV rfl (jJ rfl T.b_range (qa (qp (j9 (K:=K) rfl) rfl T.b_len YQ (qa (pv 2) qd)) qd)) (qt (i:=3) uA.nd rfl (yP rfl))
 (qc (qH (PW.pt (qad (qT (qP (qp (qah (K:=K) rfl) rfl T.b_isinstance YH (qa (qw (qx (K:=K) rfl a) (pv 2) (pv 3) (fun _ _=>rfl)) (qa (jH (v:=.ty "str") rfl T.b_str boot_str rfl) qd))))) (zm (qk (zT (K:=K) rfl a) (qw (qx (K:=K) rfl a) (pv 2) (pv 3) (fun _ _=>rfl)) (jx (qdF (K:=K) rfl) (pv 2) jS (jo (pv 3))) (by with_unfolding_all rfl))))) (qe (qm jq)) qo)
 (qc (qH (PW.pt (qaJ (qk qdy (pv 3) qi (qu _)) (zL (qT (qP (qr N (hmR I) qz (qa (pv 0) (qa (qw (qx (K:=K) rfl a) (pv 2) (qI qbJ (pv 3) qi) (fun _ _=>rfl)) (qa (qw (qx (K:=K) rfl a) (pv 2) (pv 3) (fun _ _=>rfl)) qd))))))))) (qe (qm jq)) qo)
 (qe (qH (PW.pt (qaJ (qk qdy (pv 3) qi (qu _)) (zL (qk (zS (K:=K) rfl a) (qS (zl (K:=K) rfl a) (qr M (hmR I) qz (qa (pv 1) (qa (qw (qx (K:=K) rfl a) (pv 2) (pv 3) (fun _ _=>rfl)) qd))) (qw (qx (K:=K) rfl a) (pv 2) (qI qbJ (pv 3) qi) (fun _ _=>rfl)) (qu _)) (qS (zl (K:=K) rfl a) (qI zC (pv 3) qi) qi (qu _)) (qu _))))) (qe (qm jq)) qo)))))
 (qe (qm jq)))),?_⟩
  apply qbw (.inl (.lst d)) rfl (zR K "list" (by simp) "list" (by simp)) ?_;apply yq ?_;apply qab d ?_;rw[ya];ext;have h2:=g.two;have W:=g.few;show qF (fun h=>absurd (yk h) (by lk)) fun _=>?_;apply qab d ?_;rw[ya];apply⟨_,rfl,by lk,by lk,zB (fun i L H'=>L2.Same H H'/\∃ J,L=[some (.ref l),some (.ref u),some (.ref x),J]) ⟨L2.Same.refl H,_,rfl⟩ (fun i L H1 X n=>?_) fun L H1 n=>?_⟩
  .obtain⟨C,J,rfl⟩:=n;have m:i<r.length:=by simpa using X
   obtain⟨z,hz⟩:∃ z,r[i]?=some z:=⟨_,yb m⟩;have e:=C _ _ d;rw[kA];apply qbI e hz ?_;apply qbw (.inl (.str z)) rfl (zR K "str" (by simp) "str" (by simp)) ?_;apply yq ?_;apply qbI e hz ?_;apply .inl ⟨x,_,rfl,SqL.of e,fun p n=>?_⟩;rw[qaR,<- List.map_take];have t:=qC C (o:=.lst ((r.take i).map V.str)) n;have ep:upd H1 p (.lst ((r.take i).map V.str)) p=some (.lst ((r.take i).map V.str)):=qb;generalize upd H1 p (.lst ((r.take i).map V.str))=H2 at t ep ⊢;have s:=t _ _ d;apply str_in ep ?_
   have G:z∉r.take i:=fun Z=>by
    obtain⟨j,Y,A⟩:=List.mem_take_iff_getElem.mp Z;have D:j<i:=yj Y (Nat.min_le_left _ _);have S:=(yc.mp hz).2;show(Yz.mp g.nd) j i (by lk) m D (A.trans S.symm)
   rw[yl G];apply yq ?_;ext;by_cases U:i=0
   .subst U;show qF (fun h=>absurd (yk h) (by lk)) fun _=>?_;show yq ?_;apply qF (fun h=>absurd (yk h) (by lk)) fun _=>?_;show yq ?_;apply⟨t,_,rfl⟩
   .obtain⟨j,rfl⟩:∃ j,i=j+1:=⟨i-1,by lk⟩;obtain⟨y,B⟩:∃ y,r[j]?=some y:=⟨_,yb (by lk)⟩;show qF (fun _=>?_) fun h=>absurd (yL (by lk)) h;ext;have A:((j+1:Nat):Int)-1=(j:Int):=by lk
    rw[A];show qbI s B ?_;apply qbI s hz ?_;apply⟨l,ts,tps,y,z,rfl,hl.same t,fun H3 s3=>?_⟩;rw[g.tie j y z B hz];have c:=t.trans s3;show⟨_,rfl,qF (fun h=>by cases h) fun _=>?_⟩;apply qF (fun _=>?_) fun h=>absurd (yL (by lk)) h;apply qbI (c _ _ d) hz ?_;apply⟨u,us,qs,z,rfl,hq.same c,?_⟩;ext;rw[A];show qbI (c _ _ d) B ?_;apply vEqP ?_;apply vI (by decide) ?_;apply qdH ?_;have O:decide (pt qs z=some y)=decide (((j+1:Nat):Int) % 2=0):=YN.mpr ((g.trn j y z B hz).trans (by lk));rw[O];show .inl ⟨rfl,rfl,_,rfl,?_⟩;have R:∀ b:Bool,(if true=true then !eqV (V.bl b) (V.bl b) else eqV (V.bl b) (V.bl b))=false:=fun b=>by cases b<;>rfl
    rw[R];show yq ?_;apply⟨c,_,rfl⟩
  .obtain⟨C,J,rfl⟩:=n;apply q H1 C
theorem ue:FnScope ["_law_names_here","_law_pairs","_law_row","_law_steps","_law_kept"] ["_law_names_here","_law_pairs","_law_row"] (qg jZ):=fS
theorem qeV{a:Addr}{Q:VK}(h:PL H l ts tps)(w:H a=some (.tup [.str s,.str t]))(q:Q (.bl (!decide ((s,t)∈tps))) H):qeg K true (.ref a) (.ref l) H Q:=by
 have z:=qeq (K:=K) (Q:=fun v H'=>v=.bl (decide ((s,t)∈tps))/\H'=H) h w ⟨rfl,rfl⟩;rcases z with⟨p,xs,d,_,c,_⟩ | ⟨p,o,e,g,c,_⟩ | ⟨p,xs,e,n,d,c,f,i,j,_⟩
 .cases c
 .cases e;rcases g with⟨kvs,k,e | ⟨x,e⟩,_⟩ | ⟨kvs,k,b,e | ⟨x,e⟩,_⟩<;>(rw[h.1] at e;cases e)
 .show .inr (.inr ⟨p,xs,e,n,d,c,f,i,?_⟩)
  have m:xs.any e=decide ((s,t)∈tps):=by
   have:=j;rw[yF (by decide)] at this;cases r:xs.any e<;>cases u:decide ((s,t)∈tps)<;>rw[r,u] at this<;>first | rfl | (cases this)
  rw[yI rfl,m];show q
noncomputable def kpN(qs st:LP):LP:=qs.filter fun q=>!decide (q∈st)&&!decide ((q.2,q.1)∈st)
noncomputable def nwN(qs st:LP):LP:=st.filter fun q=>!tB qs q.1 q.2
inductive spTuL(vs:List V)(H:Hp)(Q:VK)(E:XK):Prop|mk (n u x:Addr) (us:LQ) (qs:LP) (r:LS) (_:vs=[.ref n,.ref u,.ref x]) (_:PL H u us qs) (_:qs.length<=30) (_:H x=some (.lst (r.map V.str))) (_:1<=r.length) (_:r.length<=14) (_:∀(l:Addr) (vs:LQ) (H':Hp),L2.Same H H'->H l=none->PL H' l vs (kpN qs (stp r)++nwN qs (stp r))->Q (.ref l) H')
theorem ok_tuL(F:Fun K "_law_turned" "_law_turned" jZ f fd)(T:Txt K mg cc cw)(KJ:DefOk P w K mg base CX0 1 "_law_tied" ["_law_ties_here","_law_one","_law_other"] spTd):FnOk P w K mg base CX0 2 f fd ["_law_names_here","_law_pairs","_law_row"] spTuL:=by
 show F.ok ue fun _ _ _ _ H vs Q E hr h=>?_
 .obtain⟨n,u,x,us,qs,r,rfl,hq,ae,hx,h1,ak,q⟩:=h;have hu:=jQ hr;show⟨_,(qc (qq (i:=3) ue.nd rfl (XB rfl) (jh (sc:=qg jZ) (XN:=["_law_names_here","_law_pairs","_law_row","_law_steps","_law_kept"]) ["_law_k","_law_row"] 1 [2] rfl rfl rfl (by room) rfl (by room)
  (jJ rfl T.b_range (qa (qI qbJ (qp (j9 (K:=K) rfl) rfl T.b_len YQ (qa (pv 2) qd)) qi) qd)) (fun _ _ _ _=>(qt (i:=0) (show(["_law_k","_law_row"]:LS).Nodup by room) rfl (yP rfl))) qN
  (fun _ _ _ _=>jK)
  (fun _ _ _ _=>(zE (qa (qw (qx (K:=K) rfl hu) (pv 1) (pv 0) (fun _ _=>rfl)) (qa (qw (qx (K:=K) rfl hu) (pv 1) (qI (za (K:=K) rfl) (pv 0) qi) (fun _ _=>rfl)) qd))))))
 (qc (zQ (sc:=qg jZ) (XN:=["_law_names_here","_law_pairs","_law_row","_law_steps","_law_kept"]) ["_law_tie","_law_steps"] 1 [3] rfl rfl rfl (by room) rfl (by room) (i:=4) ue.nd rfl rfl
  (qK (K:=K) rfl (pv 1)) (fun _ _ _ _=>(qt (i:=0) (show(["_law_tie","_law_steps"]:LS).Nodup by room) rfl (yP rfl))) qN
  (fun _ _ _ _=>(qW (PW.pt (qaJ (qk (jL (K:=K) rfl hu) (pv 0) (pv 1) (by with_unfolding_all rfl)) (zL (qk (jL (K:=K) rfl hu) (qeM (K:=K) rfl (pv 0) (jo (qa0 zD qi))) (pv 1) (by with_unfolding_all rfl)))))))
  (fun _ _ _ _=>(pv 0)))
 (qe (qm (qI (za (K:=K) rfl) (pv 4) (jh (sc:=qg jZ) (XN:=["_law_names_here","_law_pairs","_law_row","_law_steps","_law_kept"]) ["_law_step","_law_pairs"] 1 [1] rfl rfl rfl (by room) rfl (by room)
  (qK (K:=K) rfl (pv 3)) (fun _ _ _ _=>(qt (i:=0) (show(["_law_step","_law_pairs"]:LS).Nodup by room) rfl (yP rfl))) qN
  (fun _ _ _ _=>(qW (qT (qP (qr KJ (hmR hr) qz (qa (pv 1) (qa (qw (qx (K:=K) rfl hu) (pv 0) qi (fun _ _=>rfl)) (qa (qw (qx (K:=K) rfl hu) (pv 0) qi (fun _ _=>rfl)) qd))))))))
  (fun _ _ _ _=>(pv 0)))))))),?_⟩
  apply qab hx ?_;rw[ya];ext;have af:(stp r).length=r.length-1:=by unfold stp;rw[List.length_zip,xG];lk
  have stp_at:∀(j:Nat) a b,r[j]?=some a->r[j+1]?=some b->(stp r)[j]?=some (a,b):=fun j a b J hb=>by
   unfold stp;rw[xn];show⟨J,by rw[YV];show hb⟩
  show⟨_,rfl,by lk,by lk,qa3 (fun j ys H'=>L2.Same H H'/\∃ C:LQ,ys=C.map V.ref/\All2 (fun t ab=>H' t=some (.tup [.str ab.1,.str ab.2])) C ((stp r).take j)) ⟨L2.Same.refl H,[],rfl,by rw[YI];show All2.nil⟩ (fun j ys H1 hj c=>?_) fun ys H1 c=>?_⟩
  .obtain⟨s1,C,rfl,J⟩:=c;have ai:j+1<r.length:=by lk
   have e1:r[j]?=some r[j]:=yb (by lk);have e2:r[j+1]?=some r[j+1]:=yb ai;have ag:=s1 _ _ hx;have A:=J.len;rw[yK] at A;rw[kA];apply jU ?_;apply qbI ag e1 ?_;ext;have ej:(j:Int)+1=((j+1:Nat):Int):=by lk
   rw[ej];show qbI ag e2 ?_;apply⟨(by decide:2<=sizeLine),fun t O=>?_⟩;have s2:=qC s1 (o:=.tup [.str r[j],.str r[j+1]]) O;have Z:=qC (Sr H1) (o:=.tup [.str r[j],.str r[j+1]]) O;show⟨by rw[ya];show qh (by lk),s2,C++[t],by rw[yC];rfl,?_⟩;rw[yD,stp_at j _ _ e1 e2];show All2.snoc (J.mono fun _ _ z=>Z _ _ z) qb
  .obtain⟨s1,C,rfl,J⟩:=c;rw[show((r.length:Int)-1).toNat=(stp r).length by rw[af];lk,yM] at J;have A:=J.len;show⟨by rw[ya,A,af];show yR (qh (by lk)),fun g hg=>?_⟩;have s2:=qC s1 (o:=.lst (C.map V.ref)) hg;have Z:=qC (Sr H1) (o:=.lst (C.map V.ref)) hg;have hS:PL (upd H1 g (.lst (C.map V.ref))) g C (stp r):=⟨qb,J.mono fun _ _ z=>Z _ _ z⟩;generalize upd H1 g (.lst (C.map V.ref))=H2 at s2 hS ⊢;have D:=hq.same s2;have N:=hq.2.len;apply .inl ⟨⟨_,SqL.of D.1⟩,qG (K:=K) (fun j ys H'=>L2.Same H2 H'/\∃ l:LQ,ys=l.map V.ref/\All2 (fun t ab=>H' t=some (.tup [.str ab.1,.str ab.2])) l (kpN (qs.take j) (stp r))) ⟨L2.Same.refl H2,[],rfl,by rw[YI];show All2.nil⟩ (fun j ys H' _ c=>SqL.of (c.1 _ _ D.1)) (fun j y ys R hy c=>?_) fun ys R c=>?_⟩
   .obtain⟨s3,l,rfl,e⟩:=c;rw[yd] at hy;obtain⟨t,O,rfl⟩:=yn.mp hy;have hj:j<qs.length:=by rw[<- N];show(yc.mp O).1
    have d:qs[j]?=some qs[j]:=yb hj;generalize qs[j]=ab at d;have S:=s3 _ _ (D.2.at_ j t ab O d);have W:=e.len;have ac:(kpN (qs.take j) (stp r)).length<=j:=yi (yE _ _) (by rw[yK];lk)
    have Y:kpN (qs.take (j+1)) (stp r)=kpN (qs.take j) (stp r)++if (!decide (ab∈stp r)&&!decide ((ab.2,ab.1)∈stp r))=true then [ab] else []:=by
     unfold kpN;rw[yD,d,yZ];show _++[ab].filter _=_;rw[yS,Yq]
    rw[Y];apply qeV (hS.same s3) S ?_;show⟨_,rfl,?_⟩;rw[show decide ((ab.1,ab.2)∈stp r)=decide (ab∈stp r) from rfl]
    cases al:decide (ab∈stp r) with
    | true=>show qF (fun h=>by cases h) fun _=>qF (fun h=>by cases h) fun _=>⟨s3,l,rfl,by simpa using e⟩
    | false =>
     show jU ?_;apply⟨1,rfl,_,rfl,rfl,t,_,_,rfl,SqT.of S,fun p c=>?_⟩;have G:=qC s3 (o:=.tup [.str ab.2,.str ab.1]) c;have B:=qC (Sr R) (o:=.tup [.str ab.2,.str ab.1]) c;have ep:upd R p (.tup [.str ab.2,.str ab.1]) p=some (.tup [.str ab.2,.str ab.1]):=qb;generalize upd R p (.tup [.str ab.2,.str ab.1])=H4 at G B ep ⊢;have L:=e.mono fun _ _ z=>B _ _ z;apply qeV (hS.same G) ep ?_;show⟨_,rfl,?_⟩
     cases am:decide ((ab.2,ab.1)∈stp r) with
     | true=>show qF (fun h=>by cases h) fun _=>⟨G,l,rfl,by simpa using L⟩
     | false =>
      show jU ?_;apply⟨by rw[ya,W];show qh (by lk),G,l++[t],by rw[yC];rfl,All2.snoc L (B _ _ S)⟩
   .obtain⟨s3,l,rfl,e⟩:=c;rw[show(us.map V.ref).length=qs.length by rw[ya,N],yM] at e;have W:=e.len;have ac:(kpN qs (stp r)).length<=30:=yi (yE _ _) ae;show⟨by rw[ya,W];show yR (qh (by lk)),fun k hk=>?_⟩;have G:=qC s3 (o:=.lst (l.map V.ref)) hk;have B:=qC (Sr R) (o:=.lst (l.map V.ref)) hk;have hK:PL (upd R k (.lst (l.map V.ref))) k l (kpN qs (stp r)):=⟨qb,e.mono fun _ _ z=>B _ _ z⟩;generalize upd R k (.lst (l.map V.ref))=H4 at G hK ⊢;have U:=hS.same G;have aj:=D.same G;apply .inl ⟨⟨_,SqL.of U.1⟩,qG (K:=K) (fun j ys H'=>L2.Same H4 H'/\∃ v:LQ,ys=v.map V.ref/\All2 (fun t ab=>H' t=some (.tup [.str ab.1,.str ab.2])) v (nwN qs ((stp r).take j))) ⟨L2.Same.refl H4,[],rfl,by rw[YI];show All2.nil⟩ (fun j ys H' _ c=>SqL.of (c.1 _ _ U.1)) (fun j y ys H5 hy c=>?_) fun ys H5 c=>?_⟩
    .obtain⟨s5,v,rfl,s⟩:=c;rw[yd] at hy;obtain⟨t,O,rfl⟩:=yn.mp hy;have hj:j<(stp r).length:=by rw[<- A];show(yc.mp O).1
     have d:(stp r)[j]?=some (stp r)[j]:=yb hj;generalize (stp r)[j]=ab at d;have S:=s5 _ _ (U.2.at_ j t ab O d);have X:=s.len;have ad:(nwN qs ((stp r).take j)).length<=j:=yi (yE _ _) (by rw[yK];lk)
     have Y:nwN qs ((stp r).take (j+1))=nwN qs ((stp r).take j)++if (!tB qs ab.1 ab.2)=true then [ab] else []:=by
      unfold nwN;rw[yD,d,yZ];show _++[ab].filter _=_;rw[yS,Yq]
     rw[Y];apply .inl (qaD S (i:=0) rfl ?_);apply .inl (qaD S (i:=1) rfl ?_);apply⟨u,us,qs,_,_,rfl,aj.same s5,fun H6 s6=>?_⟩;have I:=s5.trans s6;have M:=s.mono fun _ _ z=>s6 _ _ z;show⟨_,rfl,?_⟩
     cases an:tB qs ab.1 ab.2 with
     | true=>show qF (fun h=>by cases h) fun _=>⟨I,v,rfl,by simpa using M⟩
     | false =>
      show jU ?_;apply⟨by rw[ya,X];show qh (by lk),I,v++[t],by rw[yC];rfl,All2.snoc M (s6 _ _ S)⟩
    .obtain⟨s5,v,rfl,s⟩:=c;rw[show(C.map V.ref).length=(stp r).length by rw[ya,A],yM] at s;have X:=s.len;have ad:(nwN qs (stp r)).length<=14:=yi (yE _ _) (by lk);show⟨by rw[ya,X];show yR (qh (by lk)),fun m hm=>?_⟩;have s6:=qC s5 (o:=.lst (v.map V.ref)) hm;have I:=qC (Sr H5) (o:=.lst (v.map V.ref)) hm;have hN:PL (upd H5 m (.lst (v.map V.ref))) m v (nwN qs (stp r)):=⟨qb,s.mono fun _ _ z=>I _ _ z⟩;generalize upd H5 m (.lst (v.map V.ref))=H6 at s6 hN ⊢;have aa:=hK.same s6;apply .inl ⟨k,m,_,_,rfl,rfl,aa.1,hN.1,by rw[ya,ya];show yR (qh (by lk)),fun z hz=>?_⟩;have s7:=qC (Sr H6) (o:=.lst (l.map V.ref++v.map V.ref)) hz;have ah:=(s2.trans G).trans s6;show q z (l++v) _ (ah.trans s7) (ah.free hz) ⟨by rw[qb,yC],?_⟩;show All2.app9 (aa.2.mono fun _ _ z=>s7 _ _ z) (hN.2.mono fun _ _ z=>s7 _ _ z)
theorem mem_stp:q∈stp r↔∃ j:Nat,r[j]?=some q.1/\r[j+1]?=some q.2:=by
 unfold stp;rw[xN];constructor
 .rintro ⟨j,h⟩;rw[xn,YV] at h;show⟨j,h⟩
 .rintro ⟨j,h1,a⟩;show⟨j,?_⟩;rw[xn,YV];show⟨h1,a⟩
theorem tB_pt(c:(qj qs).Nodup):tB qs a b=true↔pt qs a=some b:=by
 unfold tB;rw[ki,Yg,Yg];show(qbS c).symm
structure Trn(A:Str->Str->Prop)(f:Str->Option Str)(r:LS):Prop where
 nd:r.Nodup
 st:Turns A f r
 par:∀(i:Nat) s b,r[i]?=some s->f s=some b->(i % 2=1/\r[i+1]?=some b)\/(i % 2=0/\0<i/\r[i-1]?=some b)
theorem qeW(f:(qj qs).Nodup)(nd:r.Nodup)(st:Turns A (pt qs) r)(d:∀ s,r[0]?=some s->pt qs s=none)(tl:∀ s,r.length % 2=0->r[r.length-1]?=some s->pt qs s=none):Trn A (pt qs) r:=by
 show⟨nd,st,fun i s b g e=>?_⟩;have j:=(yc.mp g).1;rcases xj i with z | z
 .have c:0<i:=Nat.pos_of_ne_zero fun h=>by
   subst h;rw[d s g] at e;cases e
  have a:r[i-1]?=some r[i-1]:=yb (by lk);have:=(st (i-1) _ _ a (by rw[show i-1+1=i by lk];show g)).2.mpr (by lk);rw[qal f,e] at this;cases this;show .inr ⟨z,c,a⟩
 .by_cases hl:i+1<r.length
  .have a:r[i+1]?=some r[i+1]:=yb hl;have:=(st i _ _ g a).2.mpr z;rw[e] at this;cases this;show .inl ⟨z,a⟩
  .rw [tl s (by lk) (by rw[show r.length-1=i by lk];show g)] at e;cases e
theorem Aug.trn(h:Aug A (pt qs) r)(a:(qj qs).Nodup):Trn A (pt qs) r:=qeW a h.nd h.st h.hd fun s _=>h.tl s
theorem zX(h:Trn A (pt qs) r)(c:(qj qs).Nodup):q∈nwN qs (stp r)↔∃ j:Nat,j % 2=0/\r[j]?=some q.1/\r[j+1]?=some q.2:=by
 unfold nwN;rw[yp,mem_stp,YB,XV,Ne,tB_pt c];constructor
 .rintro ⟨⟨j,h1,a⟩,b⟩;show⟨j,?_,h1,a⟩;have:=(h.st j _ _ h1 a).2;rcases xj j with e | e
  .show e
  .show absurd (this.mpr e) b
 .rintro ⟨j,e,h1,a⟩;show⟨⟨j,h1,a⟩,fun z=>?_⟩;have:=(h.st j _ _ h1 a).2.mp z;lk
theorem qbl(h:Trn A (pt qs) r)(m:(qj qs).Nodup)(e:pt qs a=some b)(j:a∈r):(a,b)∈stp r\/(b,a)∈stp r:=by
 obtain⟨i,f,d⟩:=YX j;have c:r[i]?=some a:=by rw[yb f,d]
 rcases h.par i a b c e with⟨_,g⟩ | ⟨_,l,g⟩
 .show .inl (mem_stp.mpr ⟨i,c,g⟩)
 .show .inr (mem_stp.mpr ⟨i-1,g,by rw[show i-1+1=i by lk];show c⟩)
theorem qa6(h:Trn A (pt qs) r)(b:(qj qs).Nodup):q∈kpN qs (stp r)↔q∈qs/\q.1∉r/\q.2∉r:=by
 unfold kpN;rw[yp,yY,YB,YB,Yw,Yw];constructor
 .rintro ⟨c,h1,a⟩;have e:pt qs q.1=some q.2:=qes b (.inl c);show⟨c,fun z=>?_,fun z=>?_⟩
  .show(qbl h b e z).elim h1 a
  .show(qbl h b ((qal b).mp e) z).elim a h1
 .rintro ⟨c,h1,a⟩;show⟨c,fun z=>?_,fun z=>?_⟩
  .obtain⟨j,g,_⟩:=mem_stp.mp z;show h1 (ye g)
  .obtain⟨j,g,_⟩:=mem_stp.mp z;show a (ye g)
def ApN(q r:Str×Str):Prop:=q.1≠r.1/\q.1≠r.2/\q.2≠r.1/\q.2≠r.2
theorem qdx:∀{qs:LP},(qj qs).Nodup->(∀ q∈qs,q.1≠q.2)/\qs.Pairwise ApN
 | [],_=>⟨fun q h=>(by cases h),.nil⟩
 | q::r,h=>by
  have h:(q.1::q.2::qj r).Nodup:=h;obtain⟨h1,c⟩:=yo.mp h;obtain⟨a,d⟩:=yo.mp c;obtain⟨f,g⟩:=qdx d;show⟨fun x hx=>?_,kD.mpr ⟨fun x hx=>?_,g⟩⟩
  .rcases yx.mp hx with rfl | hx
   .show fun e=>h1 (e ▸ yU)
   .show f x hx
  .have m1:x.1∈qj r:=Y6.mpr ⟨x,hx,by simp⟩;have b:x.2∈qj r:=Y6.mpr ⟨x,hx,by simp⟩;show⟨fun e=>h1 (e ▸ yJ _ m1),fun e=>h1 (e ▸ yJ _ b),fun e=>a (e ▸ m1),fun e=>a (e ▸ b)⟩
theorem qeu(h:Trn A (pt qs) r)(c:(qj qs).Nodup):(qj (kpN qs (stp r)++nwN qs (stp r))).Nodup:=by
 obtain⟨M,N⟩:=qdx c
 have inj:∀(i j:Nat) s,r[i]?=some s->r[j]?=some s->i=j:=fun i j s u v=>by
  obtain⟨G,C⟩:=yc.mp u;obtain⟨H,D⟩:=yc.mp v;rcases kJ i j with z | z | z
  .show absurd (C.trans D.symm) ((Yz.mp h.nd) i j G H z)
  .show z
  .show absurd (D.trans C.symm) ((Yz.mp h.nd) j i H G z)
 show qa5 (fun q f=>?_) (List.pairwise_append.mpr ⟨N.sublist xD,?_,fun q f x w=>?_⟩)
 .rcases yz.mp f with z | z
  .show M q ((qa6 h c).mp z).1
  .obtain⟨j,_,l,n⟩:=(zX h c).mp z;intro e;rw[e] at l;have:=inj _ _ _ l n;lk
 .have y:(stp r).Pairwise fun q x=>(∃ j:Nat,j % 2=0/\r[j]?=some q.1/\r[j+1]?=some q.2)->(∃ j:Nat,j % 2=0/\r[j]?=some x.1/\r[j+1]?=some x.2)->ApN q x:=by
   rw[Yz];intro i j u v L;rintro⟨a,O,d,g⟩ ⟨b,P,m,B⟩;have o:(stp r)[i]?=some (stp r)[i]:=yb u;have t:(stp r)[j]?=some (stp r)[j]:=yb v;unfold stp at o t;rw[xn,YV] at o t;have J:=inj _ _ _ d o.1;have K:=inj _ _ _ m t.1;subst J K;show⟨fun e=>?_,fun e=>?_,fun e=>?_,fun e=>?_⟩
   .rw [e] at d;have:=inj _ _ _ d m;lk
   .rw [e] at d;have:=inj _ _ _ d B;lk
   .rw [e] at g;have:=inj _ _ _ g m;lk
   .rw [e] at g;have:=inj _ _ _ g B;lk
  have:=(y.sublist (xD (p:=fun q=>!tB qs q.1 q.2)));show this.imp_of_mem fun f w z=>z ((zX h c).mp f) ((zX h c).mp w)
 .obtain⟨_,E,F⟩:=(qa6 h c).mp f;obtain⟨j,_,l,n⟩:=(zX h c).mp w;have m1:=ye l;have I:=ye n;show⟨fun e=>E (e ▸ m1),fun e=>E (e ▸ I),fun e=>F (e ▸ m1),fun e=>F (e ▸ I)⟩
theorem mem_names:s∈qj qs↔∃ q∈qs,s=q.1\/s=q.2:=by
 unfold qj;rw[Y6];simp
noncomputable def tlN(qs:LP)(r:LS):LP:=kpN qs (stp r)++nwN qs (stp r)
theorem Trn.names(T:Trn A (pt qs) r)(d:(qj qs).Nodup):s∈qj (tlN qs r)↔(s∉r/\s∈qj qs)\/(s∈r/\(r.length % 2=1->r[r.length-1]?≠some s)):=by
 have inj:∀(i j:Nat) s,r[i]?=some s->r[j]?=some s->i=j:=fun i j s a b=>qA T.nd a b
 have app:s∈qj (tlN qs r)↔s∈qj (kpN qs (stp r))\/s∈qj (nwN qs (stp r)):=by
  unfold tlN qj;rw[xY,yz]
 rw[app];constructor
 .rintro (k | k)
  .obtain⟨q,h,e⟩:=mem_names.mp k;obtain⟨f,m,t⟩:=(qa6 T d).mp h;show .inl ⟨by rcases e with rfl | rfl<;>assumption,mem_names.mpr ⟨q,f,e⟩⟩
  .obtain⟨q,h,e⟩:=mem_names.mp k;obtain⟨j,p,l,c⟩:=(zX T d).mp h;have l2:=(yc.mp c).1;rcases e with rfl | rfl
   .show .inr ⟨ye l,fun _ e=>by have:=inj _ _ _ l e;lk⟩
   .show .inr ⟨ye c,fun _ e=>by have:=inj _ _ _ c e;lk⟩
 .rintro (⟨f,m⟩ | ⟨f,m⟩)
  .obtain⟨q,h,e⟩:=mem_names.mp m
   have st:∀{x y:Str},(x,y)∈stp r\/(y,x)∈stp r->x∈r/\y∈r:=fun z=>by
    rcases z with z | z<;>obtain⟨j,l,c⟩:=mem_stp.mp z
    .show⟨ye l,ye c⟩
    .show⟨ye c,ye l⟩
   have ep:pt qs q.1=some q.2:=qes d (.inl h);show .inl (mem_names.mpr ⟨q,(qa6 T d).mpr ⟨h,fun y=>?_,fun y=>?_⟩,e⟩)
   .have:=st (qbl T d ep y);rcases e with rfl | rfl
    .show f this.1
    .show f this.2
   .have:=st (qbl T d ((qal d).mp ep) y);rcases e with rfl | rfl
    .show f this.2
    .show f this.1
  .obtain⟨i,o,n⟩:=YX f;have g:r[i]?=some s:=by rw[yb o,n]
   rcases xj i with y | y
   .have hl:i+1<r.length:=Yo fun z=>m (by lk) (by rw[show r.length-1=i by lk];show g);have c:r[i+1]?=some r[i+1]:=yb hl;show .inr (mem_names.mpr ⟨(s,r[i+1]),(zX T d).mpr ⟨i,y,g,c⟩,.inl rfl⟩)
   .have c:r[i-1]?=some r[i-1]:=yb (by lk);show .inr (mem_names.mpr ⟨(r[i-1],s),(zX T d).mpr ⟨i-1,by lk,c,by rw[show i-1+1=i by lk];show g⟩,.inr rfl⟩)
theorem qcE(st:Turns A (pt qs) r)(b:(qj qs).Nodup)(g:r[i]?=some s)(c:0<i)(hl:i % 2=1->i+1<r.length):s∈qj qs:=Yo fun z=>by
 have en:=pt_none.mpr z;have d:=(yc.mp g).1;rcases xj i with y | y
 .have a:r[i-1]?=some r[i-1]:=yb (by lk);have:=(st (i-1) _ _ a (by rw[show i-1+1=i by lk];show g)).2.mpr (by lk);rw[qal b,en] at this;cases this
 .have:=(st i _ _ g (yb (hl y))).2.mpr y;rw[en] at this;cases this
theorem tl_len(h:Aug A (pt qs) r)(c:(qj qs).Nodup):(kpN qs (stp r)++nwN qs (stp r)).length=qs.length+1:=by
 have u:=h.two;have o:=h.ev;obtain⟨a,d⟩:∃ a,r[0]?=some a:=⟨_,yb (by lk)⟩;obtain⟨b,f⟩:∃ b,r[r.length-1]?=some b:=⟨_,yb (by lk)⟩;have q:a∉qj qs:=pt_none.mp (h.hd a d);have t:b∉qj qs:=pt_none.mp (h.tl b f)
 have j:a≠b:=fun e=>by
  rw[e] at d;have:=qA h.nd d f;lk
 have l:(a::b::qj qs).Nodup:=yo.mpr ⟨fun z=>(yx.mp z).elim j q,yo.mpr ⟨t,c⟩⟩
 have:=((YW (qeu (h.trn c) c) l).mpr fun s=>by
  have k:=(h.trn c).names c (s:=s);unfold tlN at k;rw[k,yx,yx];constructor
  .rintro (⟨_,y⟩ | ⟨y,_⟩)
   .show .inr (.inr y)
   .obtain⟨i,p,m⟩:=YX y;have g:r[i]?=some s:=by rw[yb p,m]
    by_cases n:i=0
    .subst n;rw[d] at g;show .inl (ym g).symm
    by_cases hl:i=r.length-1
    .subst hl;rw[f] at g;show .inr (.inl (ym g).symm)
    show .inr (.inr (qcE h.st c g (by lk) fun _=>by lk))
  .rintro (rfl | rfl | y)
   .show .inr ⟨ye d,fun _=>by lk⟩
   .show .inr ⟨ye f,fun _=>by lk⟩
   .by_cases z:s∈r
    .show .inr ⟨z,fun _=>by lk⟩
    .show .inl ⟨z,y⟩).length_eq
 rw[yw,yw,jk,jk] at this;lk
theorem neI9{i j:Int}{Q:VK}(q:Q (.bl (!decide (i=j))) H):qep K true (.int i) (.int j) H Q:=.inl ⟨rfl,rfl,by
 have:=qdv i j;rw[yF (by decide)] at this;rw[yI rfl,this];show q⟩
noncomputable def brN(ss:LS)(tps:LP)(rs:LS):LS:=(zZ ss rs).filter fun s=>!(rs.filter fun o=>tB tps s o).isEmpty
structure NnN(ss:LS)(tps qs:LP)(rs:LS):Prop where
 fil:ss.filter (fun s=>decide (s∈rs))=rs
 al:∀ s∈sgl ss qs,s∈rs
 odd:∀ pss,PcsN tps (zZ ss (brN ss tps rs)) (zZ ss (brN ss tps rs)).length pss->(qaI pss).length=(brN ss tps rs).length+(sgl ss qs).length/\(qaI pss).flatten.Perm rs
noncomputable def rdN(ss:LS)(S:FS):LS:=ss.filter fun s=>(S.rows s).isSome
theorem tB_tA:tB tps a b=true↔tA tps a b:=by
 unfold tB tA;rw[ki,Yg,Yg]
theorem Shuf.mem(sh:Shuf tps ups)(h:ab∈ups):ab∈tps\/(ab.2,ab.1)∈tps:=by
 obtain⟨f,d,a⟩:=sh;obtain⟨k,b⟩:=yf (d.mem_iff.mp h);obtain⟨c,hc⟩:∃ c,tps[k]?=some c:=⟨_,yb (by rw[a.len];show(yc.mp b).1)⟩;rcases a.at_ k c ab hc b with e | e
 .rw [e];show .inl (ye hc)
 .rw [e];show .inr (ye hc)
theorem Shuf.len(sh:Shuf tps ups):ups.length=tps.length:=by
 obtain⟨c,b,a⟩:=sh;rw[b.length_eq,a.len]
section
variable{ss:LS}{tps qs:LP}{S:FS}
theorem mem_rd:s∈rdN ss S↔s∈ss/\S.rows s≠none:=by unfold rdN;rw[yp,isS]
theorem qeX(F:Fn (tA tps) (pt qs) S ss):s∈brN ss tps (rdN ss S)↔s∈qdJ S ss:=by
 unfold brN;rw[yp,qdw,mem_bar,YB,XV,Ne,List.isEmpty_iff];constructor
 .rintro ⟨⟨h1,b⟩,c⟩;have h:S.rows s=none:=Yo fun z=>b (mem_rd.mpr ⟨h1,z⟩);obtain⟨o,i⟩:=List.exists_mem_of_ne_nil _ c;obtain⟨f,g⟩:=yp.mp i;obtain⟨m,d⟩:=mem_rd.mp f;rcases F.cl o s d (F.gr.as (tB_tA.mp g)) with e | e
  .show absurd h (F.fi.evE d e)
  .show⟨h1,e⟩
 .rintro ⟨h1,b,c⟩;show⟨⟨h1,fun z=>(mem_rd.mp z).2 c⟩,fun e=>?_⟩;obtain⟨z,hz⟩:=some_of b;obtain⟨j,⟨r,l⟩,_⟩:=F.fi.odd s z hz;have a:S.rows z≠none:=by rw[l];show fun y=>by cases y
  have:z∈(rdN ss S).filter fun o=>tB tps s o:=yp.mpr ⟨mem_rd.mpr ⟨F.es z a,a⟩,tB_tA.mpr (F.gr.as j)⟩;rw[e] at this;cases this
theorem Fn.hang(F:Fn (tA tps) (pt qs) S ss)(hv:S.rows v≠none){C:Str->Prop}(o:∀ s t,S.bas s=S.bas v->S.bas t=S.bas v->C s->tA tps s t->C t)(n:C (S.bas v)):C v:=by
 obtain⟨r,c⟩:=some_of hv;obtain⟨w,t,h1,e,q⟩:=F.fi.bse v r c;obtain⟨b,d⟩:=(F.fi.alt _ _ h1).tl;obtain⟨l,i⟩:=(F.fi.alt _ _ c).tl;have st:=(F.fi.alt _ _ c).st
 have g:∀(k:Nat) x,r[b.length+k]?=some x->S.bas x=S.bas v/\C x:=by
  intro k
  induction k with
  | zero =>
   intro x a;rw[e,d,Yc,yB (by lk),Nat.add_zero,Xy] at a;cases a;show⟨F.fi.idm v r c,n⟩
  | succ k ih =>
   intro x a;obtain⟨y,j⟩:∃ y,r[b.length+k]?=some y:=⟨_,yb (by have:=(yc.mp a).1;lk)⟩;obtain⟨m,p⟩:=ih y j;have u:=(st _ y x j a).1
   have f:x∈t:=by
    rw[e,yB (by rw[d,yt,Yt];lk)] at a;show ye a
   have h:=q x f;show⟨h,o y x m h p u⟩
 have l1:r.length=l.length+1:=by rw[i,yt,Yt]
 have l2:r.length=b.length+1+t.length:=by rw[e,d,yt,yt,Yt]
 show(g (r.length-1-b.length) v ?_).2;rw[show b.length+(r.length-1-b.length)=l.length by lk,i,yB (yh _),Xy];rfl
noncomputable def lfN(ss:LS)(tps:LP)(S:FS):LS:=zZ ss (brN ss tps (rdN ss S))
theorem qcF(F:Fn (tA tps) (pt qs) S ss):s∈lfN ss tps S↔s∈ss/\¬ (S.par s≠none/\S.rows s=none):=by
 unfold lfN;rw[qdw,qeX F,mem_bar];show⟨fun z=>⟨z.1,fun y=>z.2 ⟨z.1,y⟩⟩,fun z=>⟨z.1,fun y=>z.2 y.2⟩⟩
theorem qec(F:Fn (tA tps) (pt qs) S ss){p:LS}(c:PcN tps (lfN ss tps S) p)(j:a∈p)(d:S.rows a≠none)(x:Str):x∈p↔x∈qcU S ss (S.bas a):=by
 have inl:∀ s,S.rows s≠none->s∈lfN ss tps S:=fun s h=>(qcF F).mpr ⟨F.es s h,fun z=>h z.2⟩;constructor
 .obtain⟨m,_,b⟩:=c.con
  have step:∀ s t,t∈lfN ss tps S->s∈qcU S ss (S.bas a)->tB tps s t=true->t∈qcU S ss (S.bas a):=fun s t g f e=>by
   obtain⟨_,l,w⟩:=mem_cls.mp f;obtain⟨A,B⟩:=(qcF F).mp g;rcases F.cl s t l (tB_tA.mp e) with z | z
   .show mem_cls.mpr ⟨A,F.fi.evE l z,z.trans w⟩
   .show absurd z B
  have all:=b (fun s=>s∈qcU S ss (S.bas a)↔m∈qcU S ss (S.bas a)) Iff.rfl fun s t f g h e=>⟨fun z=>h.mp (step t s f z (by rw[qeb];show e)),fun z=>step s t g (h.mpr z) e⟩;have q:=(all a j).mp (mem_cls.mpr ⟨F.es a d,d,rfl⟩);show fun i=>(all x i).mpr q
 .intro i;obtain⟨_,D,E⟩:=mem_cls.mp i
  have one:∀ v,S.rows v≠none->S.bas v=S.bas a->(v∈p↔S.bas a∈p):=fun v hv hb=>by
   have:=F.hang hv (C:=fun y=>y∈p↔S.bas a∈p) (fun s t n o h e=>?_) (by rw[hb]);show this;have r:=inl s (F.fi.evE hv n);have u:=inl t (F.fi.evE hv o);rw[<- h];show⟨fun z=>c.clo t z s r (by rw[qeb];show tB_tA.mpr e),fun z=>c.clo s z t u (tB_tA.mpr e)⟩
  show(one x D E).mpr ((one a d rfl).mp j)
theorem qeY(F:Fn (tA tps) (pt qs) S ss){p:LS}(c:PcN tps (lfN ss tps S) p):p.length % 2=1↔∃ a∈p,S.rows a≠none:=by
 constructor
 .intro n;show Yo fun hc=>?_
  have:=qer (g:=pt qs) _ (X:=p) (yh _) c.nd fun x d=>by
   obtain⟨l,_⟩:=(qcF F).mp (c.sub x d)
   cases e:pt qs x with
   | none=>show absurd ⟨x,d,F.sng x l e⟩ hc
   | some y =>
    have b:=F.gr.fa e;show⟨y,c.clo x d y ((qcF F).mpr ⟨F.inn _ _ (F.gr.as b),fun⟨m,_⟩=>?_⟩) (tB_tA.mpr b),rfl,Yh (F.gr.ir b),F.gr.fs e⟩;obtain⟨z,hz⟩:=some_of m;obtain⟨_,_,o,r,i,j⟩:=F.fi.odd y z hz;rw[F.gr.fs e] at i;cases i;show hc ⟨x,d,by rw[j];show fun z=>by cases z⟩
  lk
 .rintro ⟨a,b,f⟩;obtain⟨r,h⟩:=some_of f;have hb:S.rows (S.bas a)≠none:=F.fi.evE f (F.fi.idm a r h);rw[((YW c.nd (F.nd.filter _)).mpr (qec F c b f)).length_eq];show F.cls_odd (mem_bas.mpr ⟨F.es _ hb,hb,F.fi.idm a r h⟩)
theorem Fn.nnN(F:Fn (tA tps) (pt qs) S ss):NnN ss tps qs (rdN ss S):=by
 show⟨?_,fun s d=>?_,fun pss h=>?_⟩
 .show _=ss.filter fun s=>(S.rows s).isSome;show Xv fun s d=>?_;rw[xk,Yg,mem_rd,isS];show⟨fun z=>z.2,fun z=>⟨d,z⟩⟩
 .obtain⟨h1,f⟩:=yp.mp d;show mem_rd.mpr ⟨h1,F.sng s h1 (Xz.mp f)⟩
 have h:PcsN tps (lfN ss tps S) (lfN ss tps S).length pss:=h;have g:=h.all;rw[yM] at g;obtain⟨J,K⟩:=List.pairwise_flatten.mp h.nd
 have j:∀{p},p∈qaI pss↔p∈pss/\∃ a∈p,S.rows a≠none:=fun{p}=>by
  unfold qaI;rw[yp,Yg];show⟨fun z=>⟨z.1,(qeY F (h.pc p z.1)).mp z.2⟩,fun z=>⟨z.1,(qeY F (h.pc p z.1)).mpr z.2⟩⟩
 have A:(qaI pss).Pairwise fun p q=>∀ x∈p,∀ y∈q,x≠y:=K.filter _;have n:(qaI pss).flatten.Nodup:=List.pairwise_flatten.mpr ⟨fun p c=>J p (j.mp c).1,A⟩
 have mem:∀ s,s∈(qaI pss).flatten↔s∈rdN ss S:=fun s=>by
  rw[mem_rd,xH];constructor
  .rintro ⟨p,c,d⟩;obtain⟨h1,a,f,E⟩:=j.mp c;obtain⟨H,I,_⟩:=mem_cls.mp ((qec F (h.pc p h1) f E s).mp d);show⟨H,I⟩
  .rintro ⟨h1,f⟩;obtain⟨p,c,d⟩:=xH.mp (g s ((qcF F).mpr ⟨h1,fun z=>f z.2⟩));show⟨p,j.mpr ⟨c,s,d,f⟩,d⟩
 show⟨?_,(YW n (F.nd.filter _)).mpr mem⟩
 have o:∀ p∈qaI pss,p.headD ""∈p:=fun p c=>by
  obtain⟨_,a,f,_⟩:=j.mp c
  cases p with
  | nil=>cases f
  | cons x r=>show yU
 have i:∀ p∈qaI pss,S.rows (p.headD "")≠none:=fun p c=>(mem_rd.mp ((mem _).mp (xH.mpr ⟨p,c,o p c⟩))).2;have m:∀ p (c:p∈qaI pss) x,x∈p↔x∈qcU S ss (S.bas (p.headD "")):=fun p c=>qec F (h.pc p (j.mp c).1) (o p c) (i p c)
 have l:((qaI pss).map fun p=>S.bas (p.headD "")).Nodup:=XZ.mpr (A.imp_of_mem fun{p q} c G t e=>by
  have w:=o p c;show t _ w _ ?_ rfl;rw[m q G,<- e,<- m p c];show w)
 have u:((qaI pss).map fun p=>S.bas (p.headD "")).length=(qbH S ss).length:=xR
  (qcC l fun b hb=>by
   obtain⟨p,c,rfl⟩:=YF.mp hb;obtain⟨r,v⟩:=some_of (i p c);have hb:S.rows (S.bas (p.headD ""))≠none:=F.fi.evE (i p c) (F.fi.idm _ r v);show mem_bas.mpr ⟨F.es _ hb,hb,F.fi.idm _ r v⟩)
  (qcC (F.nd.filter _) fun b hb=>by
   obtain⟨B,C,D⟩:=mem_bas.mp hb;obtain⟨p,c,d⟩:=xH.mp ((mem b).mpr (mem_rd.mpr ⟨B,C⟩));show YF.mpr ⟨p,c,?_⟩;show((mem_cls.mp ((m p c b).mp d)).2.2.symm.trans D))
 rw[ya] at u;rw[u,F.count];have L:(brN ss tps (rdN ss S)).length=(qdJ S ss).length:=((YW ((F.nd.filter _).filter _) (F.nd.filter _)).mpr fun s=>qeX F).length_eq;have M:(sgl ss qs).length=(snL (pt qs) ss).length:=congrArg List.length (Xv fun s _=>by cases pt qs s<;>rfl);lk
theorem qeZ(c:(qj qs).Nodup)(b:ss.Nodup)(a:∀ s∈qj qs,s∈ss):(snL (pt qs) ss).length+2*qs.length=ss.length:=by
 have e:2*qs.length=(ss.filter fun s=>(pt qs s).isSome).length:=by
  rw[<- jk];show xR (qcC c fun s h=>yp.mpr ⟨a s h,pt_some.mp h⟩) (qcC (b.filter _) fun s h=>pt_some.mpr (yp.mp h).2)
 rw[e];unfold snL;clear e b a
 induction ss with
 | nil=>rfl
 | cons x r ih =>
  rw[yS,yS];cases (pt qs x).isSome
  .rw [yI (show(!false)=true from rfl),yF Yl,yw,yw];lk
  .rw [yF (show ¬ (!true)=true by decide),yI (show true=true from rfl),yw,yw];lk
theorem qfb(G:Gr (tA tps) (pt qs)){rs:LP}(b:(qj rs).Nodup)(a:∀ q∈rs,tA tps q.1 q.2):Gr (tA tps) (pt rs):=
 ⟨G.as,G.ir,fun e=>(qal b).mp e,fun e=>(qds e).elim (fun z=>a _ z) fun z=>G.as (a _ z)⟩
theorem Fn.none(F:Fn (tA tps) (pt qs) S ss)(g:PGo ss tps qs)(h:Aug (tA tps) (pt qs) r):False:=by
 have d:=qeu (h.trn g.nd) g.nd;have hl:=tl_len h g.nd
 have c:∀ q∈kpN qs (stp r)++nwN qs (stp r),tA tps q.1 q.2:=fun q a=>by
  rcases yz.mp a with z | z
  .show(g.inn q ((qa6 (h.trn g.nd) g.nd).mp z).1).1
  .obtain⟨j,_,i,l⟩:=(zX (h.trn g.nd) g.nd).mp z;show(h.st j _ _ i l).1
 have f:∀{rs:LP},(∀ q∈rs,tA tps q.1 q.2)->∀ s∈qj rs,s∈ss:=fun k s b=>by
  obtain⟨q,a,e⟩:=mem_names.mp b;rcases e with rfl | rfl
  .show F.inn _ _ (k q a)
  .show F.inn _ _ (F.gr.as (k q a))
 have o:=qeZ g.nd F.nd (f fun q a=>(g.inn q a).1);have p:=qeZ d F.nd (f c);have t:=F.most (qfb F.gr d c)
 have v:(ss.filter fun u=>!(pt (kpN qs (stp r)++nwN qs (stp r)) u).isSome&&(S.rows u).isSome).length<=(snL (pt (kpN qs (stp r)++nwN qs (stp r))) ss).length:=qcC (F.nd.filter _) fun s b=>by
  obtain⟨m,n⟩:=yp.mp b;show yp.mpr ⟨m,(yY _ _ ▸ n).1⟩
 lk
theorem qbT:∀{l m:LP},All2 (fun a b=>b=a\/b=(a.2,a.1)) l m->(qj m).Perm (qj l)
 | [],[],_=>.refl _
 | [],_::_,h=>by have:=h.len;cases this
 | _::_,[],h=>by have:=h.len;cases this
 | a::l,b::m,h=>by
  have c:=qbT (l:=l) (m:=m) ⟨Nat.succ.inj h.len,fun k x y d f=>h.at_ (k+1) x y d f⟩;have e:=h.at_ 0 a b rfl rfl;show(b.1::b.2::qj m).Perm (a.1::a.2::qj l);rcases e with rfl | rfl
  .show(c.cons _).cons _
  .show(List.Perm.swap _ _ _).trans ((c.cons _).cons _)
theorem Shuf.names(sh:Shuf qs ups):(qj ups).Perm (qj qs):=by
 obtain⟨ps,b,a⟩:=sh;show(b.flatMap_right _).trans (qbT a)
theorem Shuf.back(sh:Shuf qs ups)(h:q∈qs):q∈ups\/(q.2,q.1)∈ups:=by
 obtain⟨ps,f,a⟩:=sh;obtain⟨k,b⟩:=yf h;obtain⟨c,hc⟩:∃ c,ps[k]?=some c:=⟨_,yb (by rw[<- a.len];show(yc.mp b).1)⟩;have d:=f.mem_iff.mpr (ye hc);rcases a.at_ k q c b hc with e | e
 .show .inl (e ▸ d)
 .show .inr (e ▸ d)
theorem Shuf.pgo(sh:Shuf qs ups)(g:PGo ss tps qs):PGo ss tps ups:=by
 show⟨fun q a=>?_,sh.names.nodup_iff.mpr g.nd,by rw[sh.len];show g.few⟩;rcases sh.mem a with z | z
 .show g.inn q z
 .obtain⟨b,c,d,e⟩:=g.inn _ z;show⟨b.symm,d,c,e.symm⟩
theorem Shuf.pt(sh:Shuf qs ups)(g:PGo ss tps qs):pt ups=pt qs:=by
 funext a;show qcV fun b=>?_;rw[qbS (sh.pgo g).nd,qbS g.nd];constructor
 .rintro (z | z)
  .show sh.mem z
  .show(sh.mem z).symm
 .rintro (z | z)
  .show sh.back z
  .show(sh.back z).symm
end
noncomputable def qcY:V->Bool
 | .str x=>jW x
 | _=>false
def OdV(H:Hp)(v:V):Prop:=(zM v=true/\∀ s,v=.str s->s.length<=1000)\/∃ a,v=.ref a/\(H a=some (.lst [.str "a"])\/H a=some (.tup [.str "a",.str "b"])\/H a=some (.dK []))
theorem OdV.same{v:V}(h:OdV H v)(s:L2.Same H H'):OdV H' v:=h.imp id fun⟨a,e,z⟩=>⟨a,e,z.imp (s _ _) fun y=>y.imp (s _ _) (s _ _)⟩
theorem OdV.ty{v:V}(h:OdV H v):∃ t∈["NoneType","bool","int","str","list","tuple","dict"],TyOf K H v (.type t)/\(qe5 t "str"=true->∃ x,v=.str x/\x.length<=1000)/\(qe5 t "str"=false->qcY v=false):=by
 rcases h with⟨f,l⟩ | ⟨a,rfl,e | e | e⟩
 .cases v with
  | non=>show⟨_,by simp,.non,(fun z=>absurd z (by decide)),fun _=>rfl⟩
  | bl b=>show⟨_,by simp,.bl b,(fun z=>absurd z (by decide)),fun _=>rfl⟩
  | int i=>show⟨_,by simp,.int i,(fun z=>absurd z (by decide)),fun _=>rfl⟩
  | str x=>show⟨_,by simp,.str x,(fun _=>⟨x,rfl,l x rfl⟩),fun z=>absurd z (by decide)⟩
  | _=>cases f
 .show⟨_,by simp,.lst e,(fun z=>absurd z (by decide)),fun _=>rfl⟩
 .show⟨_,by simp,.tup e,(fun z=>absurd z (by decide)),fun _=>rfl⟩
 .show⟨_,by simp,.dK e,(fun z=>absurd z (by decide)),fun _=>rfl⟩
theorem OdV.ne_self{v:V}{Q:VK}(h:OdV H v)(q:Q (.bl false) H):qep K true v v H Q:=by
 rcases h with⟨f,_⟩ | ⟨a,rfl,e | e | e⟩
 .show .inl ⟨f,f,by rw[yI rfl,eqV_self f];show q⟩
 .show .inr (.inl ⟨a,a,true,1,rfl,rfl,by decide,?_,q⟩)
  show EqT.lst (K:=K) (n:=0) (e:=fun _=>true) (SqL.of e) (SqL.of e) rfl fun j x y b c=>by
   match j,b,c with
   | 0,b,c=>cases b;cases c;show EqD.flat (K:=K) (H:=H) (n:=0) (x:=.str "a") (y:=.str "a") rfl rfl
 .show .inr (.inl ⟨a,a,true,1,rfl,rfl,by decide,?_,q⟩)
  show EqT.tup (K:=K) (n:=0) (e:=fun _=>true) (SqT.of e) (SqT.of e) fun j x y b c=>by
   match j,b,c with
   | 0,b,c=>cases b;cases c;show EqD.flat (K:=K) (H:=H) (n:=0) (x:=.str "a") (y:=.str "a") rfl rfl
   | 1,b,c=>cases b;cases c;show EqD.flat (K:=K) (H:=H) (n:=0) (x:=.str "b") (y:=.str "b") rfl rfl
 .show .inr (.inr ⟨a,_,rfl,rfl,e,q⟩)
def NoP(ss:LS)(v:V):Prop:=∀ x,v=.str x->jW x=true->x∉ss
inductive spNameG(vs:List V)(H:Hp)(Q:VK)(E:XK):Prop|mk (v:_) (_:vs=[v]) (_:OdV H v) (_:∀ H',L2.Same H H'->Q (.bl (qcY v)) H')
inductive spPlaceG(vs:List V)(H:Hp)(Q:VK)(E:XK):Prop|mk (d:Addr) (ss:LS) (v:V) (_:vs=[.ref d,v]) (_:H d=some (.dK (qby ss 0))) (_:OdV H v) (_:NoP ss v) (_:∀ H',L2.Same H H'->Q (.bl false) H')
inductive spHasG(cw:Addr)(vs:List V)(H:Hp)(Q:VK)(E:XK):Prop|mk (x:Addr) (ss:LS) (ns:LN) (v:V) (_:vs=[.ref x,v]) (_:WebAt cw H x ss ns) (_:OdV H v) (_:NoP ss v) (_:∀ H',L2.Same H H'->Q (.bl false) H')
inductive spNumG(cc:Nat->Addr)(cw:Addr)(vs:List V)(H:Hp)(u2_:VK)(E:XK):Prop|mk (x:Addr) (ss:LS) (ns:LN) (v:V) (_:vs=[.ref x,v]) (_:WebAt cw H x ss ns) (_:OdV H v) (_:NoP ss v) (_:Rz cc H E (0,v))
theorem ok_nameG(F:Fun K "is_name" "is_name" zi f fd)(T:Txt K mg cc cw):FnOk P w K mg base CX0 1 f fd ["thing"] spNameG:=by
 show F.ok uE fun _ _ _ _ H vs Q E B h=>?_
 .obtain⟨v,rfl,hv,q⟩:=h;show⟨_,(qc (qH (PW.pt (qad (qT (qP (qp (qah (K:=K) rfl) rfl T.b_isinstance YH (qa (pv 0) (qa (jH (v:=.ty "str") rfl T.b_str boot_str rfl) qd))))) (zm (qT (qc2 qeB qeB qi (qp (j9 (K:=K) rfl) rfl T.b_len YQ (qa (pv 0) qd)) (qbc rfl T.g_LONGEST_NAME)))))) (qe (qm jq)) qo)
 (qe (qm (qp (qeo (K:=K) rfl rfl) rfl T.b_all boot_all (qa (jh (sc:=qg zi) (XN:=["thing"]) ["sign"] 1 [] rfl rfl rfl (by room) rfl (by room)
  (qK (K:=K) rfl (pv 0)) (fun _ _ _ _=>(qt (i:=0) (show(["sign"]:LS).Nodup by room) rfl (yP rfl))) qN
  (fun _ _ _ _=>jK)
  (fun _ _ _ _=>(qc1 qeB qeB qaE (pv 0) qaE))) qd))))),?_⟩
  obtain⟨t,r,ty,p,u⟩:=hv.ty (K:=K);apply qbw (.inl ty) rfl (zR K t r "str" (by simp)) ?_;apply qF (fun h=>?_) fun h=>?_
  .ext;have z:=q H (Sr H);rw[u (by simpa using h)] at z;show z
  .obtain⟨x,rfl,y⟩:=p (by simpa using h);apply qfw (yi y (by decide)) ?_;ext;have e:=q;simp only[qcY,jW] at e
   have a:¬ (1<=x.length/\x.length<=6)->∀ H',L2.Same H H'->Q (.bl false) H':=fun hc H' p=>by
    have z:=e H' p;rw[yF hc] at z;show z
   show qF (fun h1=>?_) fun h1=>?_
   .ext;show qF (fun g=>?_) fun g=>?_
    .ext;show a (fun h=>?_) H (Sr H);simp only[YB,Yw] at g;lk
    .ext
     have m:1<=x.length/\x.length<=6:=by
      have A:=yk h1;simp only[YB,Yw,Classical.not_not] at g;lk
     rw[yI m] at e;show qbX (fun i ys H'=>H'=H/\ys=((x.cps.toList.take i).map sg).map V.bl) ⟨rfl,by simp⟩ (fun i c ys H' hc n=>?_) fun ys H' n=>?_
     .obtain⟨rfl,rfl⟩:=n;apply jU ?_;ext
      have hl:(List.map V.bl (List.map sg (List.take i x.cps.toList))).length<sizeLine:=by
       rw[ya,ya,yK];show qh (yi (X3 _ _) (by simpa [Str.length] using(show x.length<=1000 by lk)))
      have d:∀ b,b=sg c->(List.map V.bl (List.map sg (List.take i x.cps.toList)))++[V.bl b]=List.map V.bl (List.map sg (List.take (i+1) x.cps.toList)):=by
       intro b hb;have s:x.cps.toList[i]?=some c:=by simpa using hc
       rw[hb,yD,s];simp
      show qF (fun j=>?_) fun j=>?_
      .ext;show⟨hl,rfl,d _ (by unfold sg;rw[yI j])⟩
      .show⟨hl,rfl,d _ (by unfold sg;rw[yF j])⟩
     .obtain⟨rfl,rfl⟩:=n;have r:x.cps.toList.take x.cps.size=x.cps.toList:=by rw[<- xz,yM]
      rw[r];show⟨?_,fun l hl=>?_⟩
      .rw [ya,ya];show yR (qh (by simpa [Str.length] using(show x.length<=1000 by lk)))
      .ext;show⟨l,x.cps.toList.map sg,rfl,SqL.of qb,?_⟩;have z:=e _ (qC (Sr H') (o:=.lst ((x.cps.toList.map sg).map V.bl)) hl);rw[ky];show z
   .ext;show a (fun h=>h1 (yL (by lk))) H (Sr H)
theorem ok_placeG(F:Fun K "is_place" "is_place" zG f fd)(g:DefOk P w K mg base CX0 1 "is_name" ["thing"] spNameG):FnOk P w K mg base CX0 2 f fd ["numbers","thing"] spPlaceG:=by
 show F.ok uw fun _ _ _ _ H vs Q E e h=>?_
 .obtain⟨d,ss,v,rfl,i,hv,a,q⟩:=h;have j:=jQ e;show⟨_,(qe (qm (qa8 (qr g (hmR e) qz (qa (pv 1) qd)) (qaK (qS (zT (K:=K) rfl j) (pv 1) (pv 0) (by with_unfolding_all rfl)))))),?_⟩;apply⟨v,rfl,hv,fun H1 b=>?_⟩;ext
  cases c:qcY v with
  | false=>show qF (fun h=>by cases h) fun _=>q H1 b
  | true =>
   show jU ?_;obtain⟨x,rfl⟩:∃ x,v=.str x:=by cases v<;>first | show⟨_,rfl⟩ | cases c
   apply .inr (.inl ⟨d,_,rfl,DGet.k (k:=Sum.inr x) (b d _ i),?_⟩);rw[qaG,yl (a x rfl c)];show q H1 b
theorem ok_hasG(F:Fun K "has_place" "Web.has_place" jr f fd)(T:Txt K mg cc cw)(b:DefOk P w K mg base CX0 2 "is_place" ["numbers","thing"] spPlaceG):FnOk P w K mg base CX0 3 f fd ["self","thing"] (spHasG cw):=by
 show F.ok K5 fun _ _ _ _ H vs Q E e h=>?_
 .obtain⟨x,ss,ns,v,rfl,⟨dx,d,ol,n,g,c,j,i,hw⟩,hv,a,q⟩:=h;show⟨_,(qe (qm (qr b (hmR e) qz (qa (qy (K:=K) rfl (pv 0) rfl) (qa (pv 1) qd))))),?_⟩;apply .inl ⟨x,cw,dx,_,.ref d,rfl,g,T.wcl,T.wn,jX,?_⟩;apply⟨d,ss,v,rfl,c,hv,a,q⟩
theorem ok_numG(F:Fun K "number_of" "Web.number_of" jt f fd)(T:Txt K mg cc cw)(e:MethOk P w K mg base CX0 3 cw "has_place" ["self","thing"] (spHasG cw))
  (g:XMakeOk P w K mg base 2 (cc 0) "NoPlace" ["self","found"] (spX (cc 0) (qfi 0))):FnOk P w K mg base (CX1 P w) 4 f fd ["self","place"] (spNumG cc cw):=by
 show F.ok1 K6 (fun vs H Q E h=>?_) fun _ _ _ _ H vs Q E b h=>?_
 .cases h;subst_vars;rfl
 .obtain⟨x,ss,ns,v,rfl,c,hv,a,hz⟩:=h;have i:=jQ b;obtain⟨dx,d,ol,n,j,m,p,o,hw⟩:=id c;show⟨_,(qc (qH (qT (qP (qB e (hmR b) (pv 0) (qa (pv 1) qd)))) (qe (k_raise (K:=K) rfl qdh (pe_xm g (hmR b) (qa (pv 1) qd)))) qo)
 (qe (qm (qw (qx (K:=K) rfl i) (qy (K:=K) rfl (pv 0) rfl) (pv 1) (fun _ _=>rfl))))),?_⟩
  apply⟨x,dx,_,rfl,j,zH (by room),?_⟩;apply⟨x,ss,ns,v,rfl,c,hv,a,fun H1 l=>?_⟩;apply jU ?_;apply raise_done (T.xat 0 (by decide)) (hz.later l)
theorem ua:FnScope ["self","place"] ["self","place"] (qg jw):=fS
theorem FoD.same{a:Fo}{wt:LS}(h:FoD cf cw H0 H a ss ns qs S dn wt lo A)(s:L2.Same H H'):FoD cf cw H0 H' a ss ns qs S dn wt lo A:=
 ⟨h.fo.same s,h.en.elim .inl fun⟨t,r,e,b,z⟩=>.inr ⟨t,r,e,s _ _ b,z⟩⟩
noncomputable def rtN(S:FS)(lo:V)(s:Str):Option (LS):=if lo=.non then S.rows s else none
inductive spRo(cc:Nat->Addr)(cw:Addr)(vs:List V)(H:Hp)(Q:VK)(E:XK):Prop|mk (H0:Hp) (a:Fo) (ss:LS) (ns:LN) (qs:LP) (S:FS) (dn wt:LS) (lo:V) (A:Str->Str->Prop) (z:Str) (_:vs=[.ref a.x,.str z]) (_:FoD (cc 9) cw H0 H a ss ns qs S dn wt lo A) (_:z∈ss) (_:(rtN S lo z=none->∀ H',L2.Same H H'->Q .non H')) (_:∀ r,rtN S lo z=some r->∀(l:Addr) (H':Hp),L2.Same H H'->H l=none->H' l=some (.lst (r.map V.str))->Q (.ref l) H')
inductive spRoB(cc:Nat->Addr)(cw:Addr)(vs:List V)(H:Hp)(u2_:VK)(E:XK):Prop|mk (H0:Hp) (a:Fo) (ss:LS) (ns:LN) (qs:LP) (S:FS) (dn wt:LS) (lo:V) (A:Str->Str->Prop) (v:V) (_:vs=[.ref a.x,v]) (_:FoD (cc 9) cw H0 H a ss ns qs S dn wt lo A) (_:OdV H v) (_:NoP ss v) (_:Rz cc H E (0,v))
theorem ok_ro(F:Fun K "row_to" "Forest.row_to" jw f fd)(T:Txt K mg cc cw)(u:MethOk P w K mg base CX0 4 cw "number_of" ["self","place"] (spNum cw)):FnOk P w K mg base CX0 5 f fd ["self","place"] (spRo cc cw):=by
 show F.ok ua fun _ _ _ _ H vs Q E o h=>?_
 .obtain⟨H0,a,ss,ns,qs,S,dn,wt,lo,B,z,rfl,n,hz,i,q⟩:=h;have p:=jQ o;show⟨_,(qc (qR (qB u (hmR o) (qy (K:=K) rfl (pv 0) rfl) (qa (pv 1) qd)))
 (qc (qH (PW.pt (qad (qk jR (qy (K:=K) rfl (pv 0) rfl) qY (qu _)) (zm (qk (jL (K:=K) rfl p) (pv 1) (qy (K:=K) rfl (pv 0) rfl) (by with_unfolding_all rfl))))) (qe (qm qY)) qo)
 (qe (qm (zF (qbu (K:=K) rfl rfl) rfl T.b_list Xi (qa (qw (qx (K:=K) rfl p) (qy (K:=K) rfl (pv 0) rfl) (pv 1) (fun _ _=>rfl)) qd)))))),?_⟩
  have h:=n.fo;have d:=h.web.same h.sm;obtain⟨D,G,ol,I,hb,_⟩:=id d;obtain⟨j,y⟩:=yf hz;apply .inl (h.obj.rd T 0 rfl ?_);show⟨a.b,D,_,rfl,hb,zH (by room),?_⟩;apply⟨a.b,ss,ns,z,j,rfl,d,y,fun H1 g=>?_⟩;have h1:=h.same g;apply .inl (h1.obj.rd T 7 rfl ?_);ext;rcases n.en with⟨rfl,_⟩ | ⟨t,r,rfl,_⟩
  .show⟨rfl,_,rfl,qF (fun h=>by simp at h) fun _=>?_⟩;apply .inl (h1.obj.rd T 2 rfl ?_);obtain⟨A,s,_,C⟩:=h1.row;have c:=C z;have v:rtN S .non z=S.rows z:=yI rfl;rw[v] at i q;show .inr (.inl ⟨a.dr,_,rfl,DGet.k (k:=Sum.inr z) s,?_⟩)
   cases e:S.rows z with
   | none =>
    rw[e] at c;rw[show zh A (.inr z:Key)=none from c];show⟨_,rfl,jU ?_⟩;apply i e H1 g
   | some r =>
    rw[e] at c;obtain⟨t,k,x,_⟩:=c;rw[k];show⟨_,rfl,qF (fun h=>by cases h) fun _=>?_⟩;apply .inl (h1.obj.rd T 2 rfl ?_);ext;have m:=DGet.k (k:=Sum.inr z) s;rw[k] at m;show .inr ⟨a.dr,.ref t,rfl,m,?_⟩;apply .inl ⟨t,_,rfl,.inl (.of x),fun l hl=>q r e l _ (g.trans (qC (Sr H1) hl)) (g.free hl) qb⟩
  .show⟨rfl,_,rfl,jU (jU ?_)⟩;apply i (yF (fun z=>by cases z)) H1 g
theorem ok_roB(F:Fun K "row_to" "Forest.row_to" jw f fd)(T:Txt K mg cc cw)(i:MethOk P w K mg base (CX1 P w) 4 cw "number_of" ["self","place"] (spNumG cc cw)):FnOk P w K mg base (CX1 P w) 5 f fd ["self","place"] (spRoB cc cw):=by
 show F.ok1 ua (fun vs H Q E h=>?_) fun _ _ _ _ H vs Q E e h=>?_
 .cases h;subst_vars;rfl
 .obtain⟨H0,a,ss,ns,qs,S,dn,wt,lo,B,v,rfl,j,hv,d,hz⟩:=h;have g:=jQ e;show⟨_,(qc (qR (qdi i (hmR e) qdh (qy (K:=K) rfl (pv 0) rfl) (qa (pv 1) qd)))
 (qc (qH (PW.pt (qad (qk jR (qy (K:=K) rfl (pv 0) rfl) qY (qu _)) (zm (qk (jL (K:=K) rfl g) (pv 1) (qy (K:=K) rfl (pv 0) rfl) (by with_unfolding_all rfl))))) (qe (qm qY)) qo)
 (qe (qm (zF (qbu (K:=K) rfl rfl) rfl T.b_list Xi (qa (qw (qx (K:=K) rfl g) (qy (K:=K) rfl (pv 0) rfl) (pv 1) (fun _ _=>rfl)) qd)))))),?_⟩
  have h:=j.fo;have c:=h.web.same h.sm;obtain⟨l,m,ol,n,hb,_⟩:=id c;apply .inl (h.obj.rd T 0 rfl ?_);show⟨a.b,l,_,rfl,hb,zH (by room),?_⟩;apply⟨a.b,ss,ns,v,rfl,c,hv,d,hz⟩
theorem KN:FnScope ["_law_forest","_law_thing","_law_told","e"] ["_law_forest","_law_thing"] (qg zY):=fS
inductive spOddG(vs:List V)(H:Hp)(Q:VK)(E:XK):Prop|mk (p:Addr) (_:vs=[.ref p]) (_:Box H p) (_:∀(v:V) (H':Hp),BB p H H'->OdV H' v->qcY v=false->Q v H')
theorem ok_oddG(F:Fun K "_law_odd" "_law_odd" qbC f fd)(W:DefOk P w K mg base CX0 1 "_law_take" ["_law_box_here","_law_many"] spTake):FnOk P w K mg base CX0 2 f fd ["_law_box_here"] spOddG:=by
 show F.ok Us fun _ A _ s H vs Q E G h=>?_
 .obtain⟨p,rfl,S,q⟩:=h;have Z:=jQ G;obtain⟨es,lp,q0,q2,j0,q3,q4,T,aa,i,N⟩:=odd_parts;rw[i];show⟨_,(qe (qm (qw (qx (K:=K) rfl Z) (qM (N _ _ _ (fun _ _=>qY) (fun _ _ _=>qi) (fun _ _ _=>jq) (fun _ _ _=>qaE) (fun _ _ _ h=>qM h) (fun _ _ _ _ h=>zE h) (fun _=>zo) (fun _ _ _ _=>qa0 zD qi) qd fun _ _ _ _ X G Y=>qa X G Y)) (qr W (hmR G) qz (qa (pv 0) (qa qi qd))) (fun _ _=>rfl)))),?_⟩;apply⟨by show 1<=sizeLine;decide,fun l1 h1=>?_⟩;have j:=(BB.refl S).new (o:=.lst [.str "a"]) h1;have n1:=S.apart h1;have f1:=h1;have a:upd H l1 (.lst [.str "a"]) l1=some (.lst [.str "a"]):=qb;generalize upd H l1 (.lst [.str "a"])=H1 at j a ⊢;apply⟨by show 2<=sizeLine;decide,fun y t=>?_⟩;have l:=j.new (o:=.tup [.str "a",.str "b"]) t;have n2:=j.apart t;have f2:=j.free t;have U:=qC (Sr H1) (o:=.tup [.str "a",.str "b"]) t;have b:upd H1 y (.tup [.str "a",.str "b"]) y=some (.tup [.str "a",.str "b"]):=qb;replace a:=U _ _ a;generalize upd H1 y (.tup [.str "a",.str "b"])=H2 at l a b ⊢;clear U j t;ext;intro n u;have z:=l.new (o:=.dK []) u;have n3:=l.apart u;have f3:=l.free u;have O:=qC (Sr H2) (o:=.dK []) u;have c:upd H2 n (.dK []) n=some (.dK []):=qb;replace a:=O _ _ a;replace b:=O _ _ b;generalize upd H2 n (.dK [])=J at z a b c ⊢;clear O l u;apply vU ?_;apply⟨by show 10<=sizeLine;decide,fun L C=>?_⟩;generalize x:[V.non,V.int 0,V.bl true,V.str "",V.str "A",V.ref l1,V.ref y,V.ref n,V.int (-1),V.str "zzzzzzz"]=xs;have M:=z.new (o:=.lst xs) C;have n4:=z.apart C;have I:=qC (Sr J) (o:=.lst xs) C;have B:upd J L (.lst xs) L=some (.lst xs):=qb;replace a:=I _ _ a;replace b:=I _ _ b;replace c:=I _ _ c;generalize upd J L (.lst xs)=H4 at M a b c B ⊢;clear I z C;apply⟨p,10,rfl,M.2,by decide,by decide,fun r R r0 r1 m=>?_⟩;replace a:=m.1 _ _ n1 a;replace b:=m.1 _ _ n2 b;replace c:=m.1 _ _ n3 c;replace B:=m.1 _ _ n4 B;have hl:xs.length=10:=by rw[<- x];rfl
  obtain⟨v,ix,hv⟩:=qdc (xs:=xs) r0 (by lk);show .inl (qag B ix ?_);have D:=ye hv;rw[<- x] at D;simp only[yx,yQ,Yv] at D;show q v R (M.trans m) ?_ (by rcases D with rfl | rfl | rfl | rfl | rfl | rfl | rfl | rfl | rfl | rfl<;>first | rfl | room);have d:∀{v:V},zM v=true->(∀ s,v=.str s->s.length<=1000)->OdV R v:=fun h g=>.inl ⟨h,g⟩;rcases D with rfl | rfl | rfl | rfl | rfl | rfl | rfl | rfl | rfl | rfl
  .show d rfl fun s e=>by cases e
  .show d rfl fun s e=>by cases e
  .show d rfl fun s e=>by cases e
  .show d rfl fun s e=>by cases e;room
  .show d rfl fun s e=>by cases e;room
  .show .inr ⟨l1,rfl,.inl a⟩
  .show .inr ⟨y,rfl,.inr (.inl b)⟩
  .show .inr ⟨n,rfl,.inr (.inr c)⟩
  .show d rfl fun s e=>by cases e
  .show d rfl fun s e=>by cases e;room
inductive spRf(cc:Nat->Addr)(cw:Addr)(vs:List V)(H:Hp)(Q:VK)(E:XK):Prop|mk (H0:Hp) (a:Fo) (ss:LS) (ns:LN) (qs:LP) (S:FS) (dn wt:LS) (lo:V) (A:Str->Str->Prop) (v:V) (_:vs=[.ref a.x,v]) (_:FoD (cc 9) cw H0 H a ss ns qs S dn wt lo A) (_:OdV H v) (_:NoP ss v) (_:∀ H',L2.Same H H'->Q (.bl true) H')
theorem ok_rf(F:Fun K "_law_refused" "_law_refused" zY f fd)(T:Txt K mg cc cw)(A:MethOk P w K mg base (CX1 P w) 5 (cc 9) "row_to" ["self","place"] (spRoB cc cw)):FnOk P w K mg base CX0 6 f fd ["_law_forest","_law_thing"] (spRf cc cw):=by
 show F.ok KN fun _ _ _ _ H vs Q E t h=>?_
 .obtain⟨H0,r,ss,ns,qs,S,dn,wt,lo,B,v,rfl,s,hv,o,q⟩:=h;have u:=jQ t;show⟨_,(qc (qq (i:=2) KN.nd rfl (yP rfl) qY)
 (qc (ps_try rfl rfl rfl qo)
 (qc (qH (PW.pt (qad (qT (qP (qp (qah (K:=K) rfl) rfl T.b_isinstance YH (qa (pv 2) (qa (qdK (v:=.ref (cc 0)) rfl T.m_NoPlace rfl) qd))))) (zm (qk (zS (K:=K) rfl u) (qy (K:=K) rfl (pv 2) rfl) (pv 1) (qu _))))) (qe (qm jq)) qo)
 (qe (qm (qS (zl (K:=K) rfl u) (qp (qah (K:=K) rfl) rfl T.b_isinstance YH (qa (qy (K:=K) rfl (pv 2) rfl) (qa (jH (v:=.ty "bool") rfl T.b_bool boot_bool rfl) qd))) (qp (qah (K:=K) rfl) rfl T.b_isinstance YH (qa (pv 1) (qa (jH (v:=.ty "bool") rfl T.b_bool boot_bool rfl) qd))) (qu _))))))),?_⟩
  apply⟨fun L c n H'=>∃ b,c=.ref (cc 0)/\n=some b/\L2.Same H H'/\H' b=some (.xd [(qfi 0,v)])/\L=[some (.ref r.x),some v,some .non,none],_,fun pn xe qdh=>(qe (qR (qdi A (hmR t) qdh (pv 0) (qa (pv 1) qd)))),?_,fun a C D M H' I e=>?_⟩
  .ext;show s.fo.obj.me (by decide) ?_;apply⟨H0,r,ss,ns,qs,S,dn,wt,lo,B,v,rfl,s,hv,o,fun b H' s' j=>⟨b,rfl,rfl,s',j,rfl⟩⟩
  .obtain⟨b,hc,rfl,z,j,rfl⟩:=I;cases hc;show⟨_,(ph_as (K:=K) rfl KN.nd (i:=3) rfl rfl rfl T.m_OnceError (qe (qq (i:=2) KN.nd rfl (yP rfl) (pv 3))) ph_nil),?_⟩;show⟨true,T.mroO 0 (by decide),T.xat 1 (by decide),T.xat 0 (by decide),jU ?_⟩;ext;have ty:TyX K H' (.ref a) (.ref (cc 0)):=.inr ⟨a,cc 0,some b,rfl,rfl,.inr e,T.xat 0 (by decide),fun d J=>by cases J;show⟨_,j⟩⟩;have g:=hv.same z;obtain⟨l,p,m,_⟩:=g.ty (K:=K);have y:=zR K l p "bool" (by simp);show qbw ty rfl (T.kit 0 0 (by decide) (by decide)) ?_;apply qF (fun h=>by simp at h) fun _=>?_;apply .inr ⟨a,cc 0,b,_,v,rfl,.inr e,T.xat 0 (by decide),T.na 0 (by decide),j,rfl,?_⟩;apply g.ne_self ?_;apply yq ?_;apply .inr ⟨a,cc 0,b,_,v,rfl,.inr e,T.xat 0 (by decide),T.na 0 (by decide),j,rfl,?_⟩;apply qbw (.inl m) rfl y ?_;apply qbw (.inl m) rfl y ?_;show .inl (.inl (.inl ⟨rfl,rfl,?_⟩));have G:(if false=true then !eqV (V.bl (qe5 l "bool")) (V.bl (qe5 l "bool")) else eqV (V.bl (qe5 l "bool")) (V.bl (qe5 l "bool")))=true:=by simp[eqV]
   rw[G];show q _ z
theorem Kz:FnScope ["_law_names_here","_law_ties_here","_law_pairs","_law_reached","_law_bar","_law_odds_here","_law_inside","_law_piece"] ["_law_names_here","_law_ties_here","_law_pairs","_law_reached"] (qg zK):=fS
theorem qca{a b:Addr}(d:H a=some (.lst (ss.map V.str)))(hb:H b=some (.lst (rs.map V.str))):EqT K H 1 a b (decide (ss=rs)):=by
 by_cases hl:ss.length=rs.length
 .have z:=EqT.lst (K:=K) (H:=H) (n:=0) (e:=fun j=>eqV (.str (ss.getD j "")) (.str (rs.getD j ""))) (SqL.of d) (SqL.of hb) (by rw[ya,ya];show hl) fun j x y h1 c=>by
   rw[yd] at h1 c;obtain⟨u,f,rfl⟩:=yn.mp h1;obtain⟨v,hv,rfl⟩:=yn.mp c;rw[Yn,Yn,f,hv];show .flat rfl rfl
  have e:(List.range (ss.map V.str).length).all (fun j=>eqV (.str (ss.getD j "")) (.str (rs.getD j "")))=decide (ss=rs):=by
   rw[xk,YM,Yg];constructor
   .intro h;show List.ext_getElem hl fun i h1 c=>?_;have:=h i (xZ.mpr (by rw[ya];show h1));rw[qb9,Yn,Yn,yb h1,yb c] at this;show yk this
   .rintro rfl j _;rw[qb9];show yL rfl
  rw[e] at z;show z
 .rw [yl (fun e=>hl (by rw[e]))];show .lstL (SqL.of d) (SqL.of hb) (by rw[ya,ya];show hl)
inductive spSw(vs:List V)(H:Hp)(Q:VK)(E:XK):Prop|mk (n l u x:Addr) (ss:LS) (ts us:LQ) (tps qs:LP) (rs:LS) (_:vs=[.ref n,.ref l,.ref u,.ref x]) (_:H n=some (.lst (ss.map V.str))) (_:ss.Nodup) (_:ss.length<=14) (_:PL H l ts tps) (_:PL H u us qs) (_:H x=some (.lst (rs.map V.str))) (_:rs.length<=14) (_:NnN ss tps qs rs) (_:∀ H',L2.Same H H'->Q (.bl true) H')
theorem ok_sw(F:Fun K "_law_shown" "_law_shown" zK f fd)(T:Txt K mg cc cw)(KJ:DefOk P w K mg base CX0 1 "_law_tied" ["_law_ties_here","_law_one","_law_other"] spTd)(Uw:DefOk P w K mg base CX0 3 "_law_odds" ["_law_names_here","_law_ties_here","_law_bar"] spOd)(KU:DefOk P w K mg base CX0 2 "_law_singles" ["_law_names_here","_law_pairs"] spSg):FnOk P w K mg base CX0 4 f fd ["_law_names_here","_law_ties_here","_law_pairs","_law_reached"] spSw:=by
 show F.ok Kz fun _ _ _ s H vs Q E hr h=>?_
 .obtain⟨n,l,u,x,ss,ts,us,tps,qs,rs,rfl,hn,az,few,hl,hq,hx,bd,hN,q⟩:=h;have hu:=jQ hr;show⟨_,(qc (zQ (sc:=qg zK) (XN:=["_law_names_here","_law_ties_here","_law_pairs","_law_reached","_law_bar","_law_odds_here","_law_inside","_law_piece"]) ["_law_name","_law_reached"] 1 [3] rfl rfl rfl (by room) rfl (by room) (i:=4) Kz.nd rfl rfl
  (qK (K:=K) rfl (pv 0)) (fun _ _ _ _=>(qt (i:=0) (show(["_law_name","_law_reached"]:LS).Nodup by room) rfl (yP rfl))) qN
  (fun _ _ _ _=>(qW (qk (jL (K:=K) rfl hu) (pv 0) (pv 1) (by with_unfolding_all rfl))))
  (fun _ _ _ _=>(pv 0)))
 (qc (zQ (sc:=qg zK) (XN:=["_law_names_here","_law_ties_here","_law_pairs","_law_reached","_law_bar","_law_odds_here","_law_inside","_law_piece"]) ["_law_name","_law_reached","_law_ties_here"] 1 [3,1] rfl rfl rfl (by room) rfl (by room) (i:=4) Kz.nd rfl rfl
  (qK (K:=K) rfl (pv 4)) (fun _ _ _ _=>(qt (i:=0) (show(["_law_name","_law_reached","_law_ties_here"]:LS).Nodup by room) rfl (XB rfl))) qN
  (fun _ _ _ _=>(qW (qk (zS (K:=K) rfl hu) (pe_compIn ["_law_other","_law_ties_here","_law_name"] 1 [2,0] rfl (by room) rfl (by room)
  (qK (K:=K) rfl (pv 1)) (fun _ _ _ _=>(qt (i:=0) (show(["_law_other","_law_ties_here","_law_name"]:LS).Nodup by room) rfl (yP rfl))) qN
  (fun _ _ _ _=>(qW (qP (qr KJ (hmR hr) qz (qa (pv 1) (qa (pv 2) (qa (pv 0) qd)))))))
  (fun _ _ _ _=>(pv 0))) (qM qd) (qu _))))
  (fun _ _ _ _=>(pv 0)))
 (qc (qq (i:=5) Kz.nd rfl (yP rfl) (qr Uw (hmR hr) qz (qa (pv 0) (qa (pv 1) (qa (pv 4) qd)))))
 (qc (qH (qk (zS (K:=K) rfl hu) (qI qbJ (qp (j9 (K:=K) rfl) rfl T.b_len YQ (qa (pv 5) qd)) (qp (j9 (K:=K) rfl) rfl T.b_len YQ (qa (pv 4) qd))) (qp (j9 (K:=K) rfl) rfl T.b_len YQ (qa (qr KU (hmR hr) qz (qa (pv 0) (qa (pv 2) qd))) qd)) (qu _)) (qe (qm jq)) qo)
 (qc (qq (i:=6) Kz.nd rfl (yP rfl) (qM qd))
 (qc (jz yV rfl (qK (K:=K) rfl (pv 5)) (qt (i:=7) Kz.nd rfl (yP rfl))
 (qe (qq (i:=6) Kz.nd rfl (yP rfl) (qI (za (K:=K) rfl) (pv 6) (pv 7)))))
 (qe (qm (qS (zl (K:=K) rfl hu) (qp (qb2 (K:=K) rfl) rfl T.b_sorted boot_sorted (qa (pv 6) qd)) (qp (qb2 (K:=K) rfl) rfl T.b_sorted boot_sorted (qa (pv 3) qd)) (qu _)))))))))),?_⟩
  apply .inl ⟨⟨_,SqL.of hn⟩,qG (K:=K) (fun j ys H'=>H'=H/\ys=(zZ (ss.take j) rs).map V.str) ⟨rfl,by rw[YI];rfl⟩ (fun j ys H' _ a=>by rw[a.1];show SqL.of hn) (fun j y ys U M a=>?_) fun ys U a=>?_⟩
  .obtain⟨rfl,rfl⟩:=a;obtain⟨o,gj,rfl⟩:=jc M;have ah:j<ss.length:=(yc.mp gj).1;have ay:(zZ (ss.take j) rs).length<=j:=yi (yE _ _) (by rw[yK];lk)
   have m:zZ (ss.take (j+1)) rs=zZ (ss.take j) rs++if (!decide (o∈rs))=true then [o] else []:=by
    unfold zZ;rw[yD,gj,yZ];show _++[o].filter _=_;rw[yS,Yq]
   rw[m];apply .inl ⟨x,_,rfl,.inl (SqL.of hx),rfl,jN rs,?_⟩;rw[zA];ext
   cases hd:decide (o∈rs) with
   | true=>show qF (fun h=>by cases h) fun _=>⟨rfl,by simp⟩
   | false =>
    show jU ?_;apply⟨by rw[ya];show qh (by lk),rfl,by simp⟩
  .obtain⟨rfl,rfl⟩:=a;rw[show(ss.map V.str).length=ss.length from ya _,yM];have ba:(zZ ss rs).length<=14:=yi (yE _ _) few;show⟨by rw[ya];show yR (qh (by lk)),fun b1 C=>?_⟩;have s3:=qC (Sr U) (o:=.lst ((zZ ss rs).map V.str)) C;have ap:=qC (Sr U) (o:=.lst ((zZ ss rs).map V.str)) C;have A:upd U b1 (.lst ((zZ ss rs).map V.str)) b1=some (.lst ((zZ ss rs).map V.str)):=qb;generalize upd U b1 (.lst ((zZ ss rs).map V.str))=H3 at s3 ap A ⊢;have bi:=ap _ _ hx;apply .inl ⟨⟨_,SqL.of A⟩,qG (K:=K) (fun j ys H'=>L2.Same H3 H'/\ys=(((zZ ss rs).take j).filter fun s=>!(rs.filter fun o=>tB tps s o).isEmpty).map V.str) ⟨L2.Same.refl H3,by rw[YI];rfl⟩ (fun j ys H' _ a=>SqL.of (a.1 _ _ A)) (fun j y ys W M a=>?_) fun ys W a=>?_⟩
   .obtain⟨s8,rfl⟩:=a;obtain⟨o,gj,rfl⟩:=jc M;have ah:j<(zZ ss rs).length:=(yc.mp gj).1;have an:=s8 _ _ bi;have ay:(((zZ ss rs).take j).filter fun s=>!(rs.filter fun o=>tB tps s o).isEmpty).length<=j:=yi (yE _ _) (by rw[yK];lk)
    have m:(((zZ ss rs).take (j+1)).filter fun s=>!(rs.filter fun o=>tB tps s o).isEmpty)=(((zZ ss rs).take j).filter fun s=>!(rs.filter fun o=>tB tps s o).isEmpty)++if (!(rs.filter fun z=>tB tps o z).isEmpty)=true then [o] else []:=by
     rw[yD,gj,yZ];show _++[o].filter _=_;rw[yS,Yq]
    rw[m];apply .inl ⟨⟨_,SqL.of an⟩,qG (K:=K) (fun i zs H'=>L2.Same W H'/\zs=((rs.take i).filter fun z=>tB tps o z).map V.str) ⟨L2.Same.refl W,by rw[YI];rfl⟩ (fun i zs H' _ a=>SqL.of (a.1 _ _ an)) (fun i z zs J hz a=>?_) fun zs J a=>?_⟩
    .obtain⟨sJ,rfl⟩:=a;obtain⟨c,gc,rfl⟩:=jc hz;have bn:i<rs.length:=(yc.mp gc).1;have ai:((rs.take i).filter fun z=>tB tps o z).length<=i:=yi (yE _ _) (by rw[yK];lk);rw[yD,gc,yZ];apply⟨l,ts,tps,o,c,rfl,(hl.same (s3.trans s8)).same sJ,fun J2 aq=>⟨_,rfl,qF (fun ho=>?_) fun ho=>?_⟩⟩
     .ext;show⟨by rw[ya];show qh (by lk),sJ.trans aq,?_⟩;rw[show(some c).toList=[c] from rfl,yS,yI ho,yC];rfl
     .show⟨sJ.trans aq,?_⟩;rw[show(some c).toList=[c] from rfl,yS,yF ho,Yq,Yd]
    .obtain⟨sJ,rfl⟩:=a;rw[show(rs.map V.str).length=rs.length from ya _,yM];have ai:(rs.filter fun z=>tB tps o z).length<=14:=yi (yE _ _) bd;show⟨by rw[ya];show yR (qh (by lk)),fun p a=>?_⟩;have sp:=qC (s8.trans sJ) (o:=.lst ((rs.filter fun z=>tB tps o z).map V.str)) a;have ep:upd J p (.lst ((rs.filter fun z=>tB tps o z).map V.str)) p=some (.lst ((rs.filter fun z=>tB tps o z).map V.str)):=qb;generalize upd J p (.lst ((rs.filter fun z=>tB tps o z).map V.str))=J1 at sp ep ⊢;apply⟨by decide,fun z hz=>?_⟩;have sz:=qC sp (o:=.lst []) hz;have ar:=qC (Sr J1) (o:=.lst []) hz;have ez:upd J1 z (.lst []) z=some (.lst []):=qb;generalize upd J1 z (.lst [])=J2 at sz ar ez ⊢;show qbR (ar _ _ ep) ez ?_;show⟨_,rfl,?_⟩;rw[List.isEmpty_map]
     cases he:(rs.filter fun z=>tB tps o z).isEmpty with
     | true=>show qF (fun h=>by cases h) fun _=>⟨sz,by simp⟩
     | false =>
      show jU ?_;apply⟨by rw[ya];show qh (by lk),sz,by simp⟩
   .obtain⟨s8,rfl⟩:=a;rw[show((zZ ss rs).map V.str).length=(zZ ss rs).length from ya _,yM];have bp:(brN ss tps rs).length<=14:=yi (yE _ _) ba;show⟨by rw[ya];show yR (qh (show(brN ss tps rs).length<=1000 by lk)),fun Y v=>?_⟩
    change _
    have bm:=s3.trans s8;have s9:=qC bm (o:=.lst ((brN ss tps rs).map V.str)) v;have B:upd W Y (.lst ((brN ss tps rs).map V.str)) Y=some (.lst ((brN ss tps rs).map V.str)):=qb;have aj:=hN.odd;have eB:((zZ ss rs).filter fun s=>!(rs.filter fun o=>tB tps s o).isEmpty)=brN ss tps rs:=rfl;rw[eB];generalize upd W Y (.lst ((brN ss tps rs).map V.str))=H9 at s9 B ⊢;apply⟨n,l,Y,ss,brN ss tps rs,ts,tps,rfl,s9 _ _ hn,az,few,hl.same s9,B,fun od ls pss G ao bo g e bc=>?_⟩;obtain⟨br,I⟩:=aj pss bc;have b:=e.len;have r:=s9.trans ao;apply qab g ?_;rw[ya,b];apply qab (ao _ _ B) ?_;rw[ya];apply⟨n,u,ss,us,qs,rfl,r _ _ hn,few,hq.same r,fun al ag=>?_⟩;have L:=qC r (o:=.lst ((sgl ss qs).map V.str)) ag;have d:=qC (Sr G) (o:=.lst ((sgl ss qs).map V.str)) ag;have aa:upd G al (.lst ((sgl ss qs).map V.str)) al=some (.lst ((sgl ss qs).map V.str)):=qb;generalize upd G al (.lst ((sgl ss qs).map V.str))=S at L d aa ⊢;apply qab aa ?_;rw[ya];apply neI9 ?_;rw[yL (by lk)];apply yq ?_;have am:=L _ _ hx;replace g:=d _ _ g;replace e:=e.mono fun _ _ z=>(show TlS S od _ _ from⟨z.1,d _ _ z.2⟩);apply⟨by decide,fun i0 aw=>?_⟩;have si:=qC (Sr S) (o:=.lst []) aw;have ei:upd S i0 (.lst []) i0=some (.lst (([]:LS).map V.str)):=qb;generalize upd S i0 (.lst [])=J3 at si ei ⊢
    have ak:∀ j,((qaI pss).take j).flatten.length<=14:=fun j=>by
     have h1:((qaI pss).take j).flatten.length+((qaI pss).drop j).flatten.length=(qaI pss).flatten.length:=by rw[<- yt,<- kx,List.take_append_drop]
     have h2:=I.length_eq;lk
    apply .inl ⟨⟨_,SqL.of (si _ _ g)⟩,jd (K:=K) (fun j σ J'=>L2.Same S J'/\∃(N:Addr) (y8:Option V),σ=[some (.ref n),some (.ref l),some (.ref u),some (.ref x),some (.ref Y),some (.ref od),some (.ref N),y8]/\J' N=some (.lst (((qaI pss).take j).flatten.map V.str))) ⟨si,i0,_,rfl,by rw[YI];show ei⟩ (fun j σ J' _ a=>SqL.of (a.1 _ _ g)) (fun j y σ X M a=>?_) fun σ X a=>?_⟩
    .obtain⟨s4,N,y8,rfl,e1⟩:=a;rw[yd] at M;obtain⟨t,ht,rfl⟩:=yn.mp M;have hj:j<(qaI pss).length:=by rw[<- b];show(yc.mp ht).1
     have D:(qaI pss)[j]?=some (qaI pss)[j]:=yb hj;have et:=s4 _ _ (e.at_ j t _ ht D).2;have C:=ak j;have v:=ak (j+1);rw[yD,D,kx,yt] at v;have af:((some (qaI pss)[j]).toList).flatten=(qaI pss)[j]:=by simp
     rw[af] at v;apply .inl ⟨N,t,_,_,rfl,rfl,e1,et,by rw[ya,ya];show yR (qh (by lk)),fun i2 ax=>?_⟩;show⟨s4.trans (qC (Sr X) ax),i2,_,rfl,?_⟩;rw[qb,yD,D,kx,af,yC]
    .obtain⟨s4,N,y8,rfl,e1⟩:=a;rw[show(ls.map V.ref).length=(qaI pss).length by rw[ya,b],yM] at e1;have bq:=I.length_eq;apply⟨N,_,rfl,SqL.of e1,by lk,fun Z O au bg be=>?_⟩;have s5:=qC (Sr X) (o:=.lst (O.map V.str)) au;have ac:upd X Z (.lst (O.map V.str)) Z=some (.lst (O.map V.str)):=qb;generalize upd X Z (.lst (O.map V.str))=J5 at s5 ac ⊢;have bj:=s5 _ _ (s4 _ _ am);apply⟨x,_,rfl,SqL.of bj,by lk,fun c2 R av bh bf=>?_⟩;have s6:=qC (Sr J5) (o:=.lst (R.map V.str)) av;have ad:upd J5 c2 (.lst (R.map V.str)) c2=some (.lst (R.map V.str)):=qb;have ae:upd J5 c2 (.lst (R.map V.str)) Z=some (.lst (O.map V.str)):=s6 _ _ ac;generalize upd J5 c2 (.lst (R.map V.str))=J6 at s6 ad ae ⊢;have ev:O=R:=qcy be bf ((bg.trans I).trans bh.symm);subst ev;show .inl (.inl (.inr (.inl ⟨Z,c2,_,1,rfl,rfl,by decide,qca ae ad,?_⟩)));rw[yL rfl];show q _ (((L.trans s4).trans s5).trans s6)
theorem atI_lastV{c:V}(h:xs≠[])(e:xs[xs.length-1]?=some c):atI xs (-1)=some c:=by
 have:0<xs.length:=ku.mpr h;unfold atI
 have a:ixN xs.length (-1)=some (xs.length-1):=by
  unfold ixN;rw[yF (by decide),yI (by lk)]
  congr 1
  lk
 rw[a];show e
structure LdN(ss:LS)(tps qs:LP)(r:LS)(z:Str):Prop where
 one:pt qs z=none->r=[z]
 row:pt qs z≠none->RwN tps qs r
 odd:r.length % 2=1
 lst:r[r.length-1]?=some z
 hd:∀ s,r[0]?=some s->pt qs s=none
 len:(tlN qs r).length=qs.length
 sng:pt qs z≠none->∀ s,r[0]?=some s->(sgl ss (tlN qs r)).Perm ((sgl ss qs).filter (fun n=>!decide (n=s))++[z])
theorem Alt.trn(h:Alt A (pt qs) r z)(a:(qj qs).Nodup):Trn A (pt qs) r:=qeW a h.nd h.st h.hd fun s e=>by have:=h.odd;lk
section
variable{ss:LS}{tps qs:LP}{r:LS}{z:Str}
theorem Alt.lst(h:Alt (tA tps) (pt qs) r z):r[r.length-1]?=some z:=by
 obtain⟨a,e⟩:=h.tl;rw[e,yt,Yt,Nat.add_sub_cancel,yB (yh _),Xy];rfl
theorem Alt.names(h:Alt (tA tps) (pt qs) r z)(a:(qj qs).Nodup):s∈qj (tlN qs r)↔(s∉r/\s∈qj qs)\/(s∈r/\s≠z):=by
 have b:=h.odd;rw[(h.trn a).names a,h.lst];show or_congr Iff.rfl (and_congr_right fun _=>⟨fun k e=>k b (by rw[e]),fun k _ e=>k (ym e).symm⟩)
theorem Alt.ld(h:Alt (tA tps) (pt qs) r z)(g:PGo ss tps qs)(H:ss.Nodup)(B:z∈ss)(hl:r.length<=14):LdN ss tps qs r z:=by
 have d:=g.nd;have T:=h.trn d;have S:=h.odd;have hz:=h.lst
 have v:∀ s∈r,r[0]?≠some s->s∈qj qs:=fun s R O=>by
  obtain⟨i,P,M⟩:=YX R;have G:r[i]?=some s:=by rw[yb P,M]
  have A:0<i:=Nat.pos_of_ne_zero fun e=>O (by rw[<- e];show G);show qcE h.st d G A fun _=>by lk
 have one:pt qs z=none->r=[z]:=fun e=>by
  by_cases h1:r.length=1
  .match r,h1,hz with
   | [x],_,hz=>rw[ym hz]
  .have N:r[r.length-1-1]?=some r[r.length-1-1]:=yb (by lk);have:=(h.st (r.length-1-1) _ _ N (by rw[show r.length-1-1+1=r.length-1 by lk];show hz)).2.mpr (by lk);rw[qal d,e] at this;cases this
 obtain⟨a,o⟩:∃ a,r[0]?=some a:=⟨_,yb (by lk)⟩;have l:a∉qj qs:=pt_none.mp (h.hd a o);have p:a∈r:=ye o;have u:z∈r:=ye hz;have C:(qj (tlN qs r)).Nodup:=qeu T d;have I:=fun s=>h.names d (s:=s);show⟨one,fun e=>?_,S,hz,h.hd,?_,fun e s F=>?_⟩
 .show⟨h.nd,?_,hl,fun j x y m n=>tB_tA.mpr (h.st j x y m n).1,fun j x y m n=>?_⟩
  .rcases Ke r.length 2 with k | k
   .exfalso;have h1:r.length=1:=by lk
    rw[h1] at hz;show e (h.hd z hz)
   .show k
  .have:=(h.st j x y m n).2;constructor
   .intro k;have:=this.mp ((qal d).mp k);lk
   .intro k;show(qal d).mp (this.mpr (by lk))
 .by_cases t:pt qs z=none
  .have e:=one t;have K:tlN qs r=kpN qs []++nwN qs []:=by rw[e];rfl
   rw[K];unfold kpN nwN;simp
  .have b:z∈qj qs:=pt_some.mpr (Option.isSome_iff_ne_none.mpr t);have J:a≠z:=fun e=>l (e ▸ b);have D:(a::(qj qs).erase z).Nodup:=yo.mpr ⟨fun y=>l (List.mem_of_mem_erase y),d.erase z⟩
   have U:=(YW C D).mpr fun s=>by
    rw[I,yx,d.mem_erase_iff];constructor
    .rintro (⟨f,c⟩ | ⟨f,c⟩)
     .show .inr ⟨fun y=>f (y ▸ u),c⟩
     .by_cases y:s=a
      .show .inl y
      .show .inr ⟨c,v s f fun w=>y (by rw[o] at w;show(ym w).symm)⟩
    .rintro (rfl | ⟨f,c⟩)
     .show .inr ⟨p,J⟩
     .by_cases y:s∈r
      .show .inr ⟨y,f⟩
      .show .inl ⟨y,c⟩
   have:=U.length_eq;rw[yw,xr b,jk,jk] at this;have:=xE b;rw[jk] at this;lk
 .rw [o] at F;cases F;have b:z∈qj qs:=pt_some.mpr (Option.isSome_iff_ne_none.mpr e);have J:a≠z:=fun e=>l (e ▸ b)
  have sg:∀{ps:LP} {s:Str},s∈sgl ss ps↔s∈ss/\s∉qj ps:=fun{ps s}=>by
   unfold sgl;rw[yp,Xz,pt_none]
  have E:(sgl ss (tlN qs r)).Nodup:=H.filter _;show(YW E ?_).mpr fun s=>?_
  .show Yb.mpr ⟨(H.filter _).filter _,by simp,fun x m y n L=>?_⟩;rw[yA] at n;rw[L,n] at m;show(sg.mp (yp.mp m).1).2 b
  .rw [sg,I,yz,yp,sg,yA,YB,Yw];constructor
   .rintro ⟨f,c⟩;by_cases y:s=z
    .show .inr y
    .have q:s∉r:=fun k=>c (.inr ⟨k,y⟩);show .inl ⟨⟨f,fun k=>c (.inl ⟨q,k⟩)⟩,fun k=>q (k ▸ p)⟩
   .rintro (⟨⟨f,c⟩,k3⟩ | rfl)
    .show⟨f,?_⟩;rintro(⟨y1,y2⟩ | ⟨y1,_⟩)
     .show c y2
     .show c (v s y1 fun w=>k3 (by rw[o] at w;show(ym w).symm))
    .show⟨B,?_⟩;rintro(⟨y1,_⟩ | ⟨_,y2⟩)
     .show y1 u
     .show y2 rfl
end
theorem uC:FnScope ["_law_names_here","_law_ties_here","_law_pairs","_law_row","_law_place","_law_behind","_law_due"] ["_law_names_here","_law_ties_here","_law_pairs","_law_row","_law_place"] (qg qbG):=fS
inductive spLd(vs:List V)(H:Hp)(Q:VK)(E:XK):Prop|mk (n l u x:Addr) (ss:LS) (ts us:LQ) (tps qs:LP) (r:LS) (z:Str) (_:vs=[.ref n,.ref l,.ref u,.ref x,.str z]) (_:H n=some (.lst (ss.map V.str))) (_:ss.length<=14) (_:PL H l ts tps) (_:PL H u us qs) (_:qs.length<=30) (_:H x=some (.lst (r.map V.str))) (_:LdN ss tps qs r z) (_:∀ H',L2.Same H H'->Q (.bl true) H')
theorem ok_ld(F:Fun K "_law_led" "_law_led" qbG f fd)(T:Txt K mg cc cw)(KB:DefOk P w K mg base CX0 1 "_law_partner" ["_law_pairs","_law_name"] spPa)(Ue:DefOk P w K mg base CX0 2 "_law_is_row" ["_law_ties_here","_law_pairs","_law_row"] spIrL)(Uf:DefOk P w K mg base CX0 2 "_law_turned" ["_law_names_here","_law_pairs","_law_row"] spTuL)(KU:DefOk P w K mg base CX0 2 "_law_singles" ["_law_names_here","_law_pairs"] spSg):FnOk P w K mg base CX0 3 f fd ["_law_names_here","_law_ties_here","_law_pairs","_law_row","_law_place"] spLd:=by
 show F.ok uC fun _ _ _ _ H vs Q E t h=>?_
 .obtain⟨n,l,u,x,ss,ts,us,tps,qs,r,z,rfl,hn,few,hl,C,Y,hx,s,q⟩:=h;have g:=jQ t;show⟨_,(qc (qH (qk qff (qr KB (hmR t) qz (qa (pv 2) (qa (pv 4) qd))) qY (qu _)) (qe (qm (qS (zl (K:=K) rfl g) (pv 3) (qM (qa (pv 4) qd)) (qu _)))) qo)
 (qc (qH (PW.pt (qad (qT (qP (qr Ue (hmR t) qz (qa (pv 1) (qa (pv 2) (qa (pv 3) qd)))))) (qad (qk (zl (K:=K) rfl g) (qI zC (qp (j9 (K:=K) rfl) rfl T.b_len YQ (qa (pv 3) qd)) qi) qi (qu _)) (zm (qk (zS (K:=K) rfl g) (qw (qx (K:=K) rfl g) (pv 3) (qa0 zD qi) (fun _ _=>rfl)) (pv 4) (qu _)))))) (qe (qm jq)) qo)
 (qc (qH (qk jR (qr KB (hmR t) qz (qa (pv 2) (qa (qw (qx (K:=K) rfl g) (pv 3) qi (fun _ _=>rfl)) qd))) qY (qu _)) (qe (qm jq)) qo)
 (qc (qq (i:=5) uC.nd rfl (yP rfl) (qr Uf (hmR t) qz (qa (pv 0) (qa (pv 2) (qa (pv 3) qd)))))
 (qc (qq (i:=6) uC.nd rfl (yP rfl) (qI (za (K:=K) rfl) (jh (sc:=qg qbG) (XN:=["_law_names_here","_law_ties_here","_law_pairs","_law_row","_law_place","_law_behind","_law_due"]) ["_law_name","_law_row"] 1 [3] rfl rfl rfl (by room) rfl (by room)
  (qK (K:=K) rfl (qr KU (hmR t) qz (qa (pv 0) (qa (pv 2) qd)))) (fun _ _ _ _=>(qt (i:=0) (show(["_law_name","_law_row"]:LS).Nodup by room) rfl (yP rfl))) qN
  (fun _ _ _ _=>(qW (qk (zS (K:=K) rfl g) (pv 0) (qw (qx (K:=K) rfl g) (pv 1) qi (fun _ _=>rfl)) (qu _))))
  (fun _ _ _ _=>(pv 0))) (qM (qa (pv 4) qd))))
 (qe (qm (qa8 (qS (zl (K:=K) rfl g) (qp (j9 (K:=K) rfl) rfl T.b_len YQ (qa (pv 5) qd)) (qp (j9 (K:=K) rfl) rfl T.b_len YQ (qa (pv 2) qd)) (qu _)) (qaK (qS (zl (K:=K) rfl g) (qp (qb2 (K:=K) rfl) rfl T.b_sorted boot_sorted (qa (qr KU (hmR t) qz (qa (pv 0) (qa (pv 5) qd))) qd)) (qp (qb2 (K:=K) rfl) rfl T.b_sorted boot_sorted (qa (pv 6) qd)) (qu _))))))))))),?_⟩
  apply⟨u,us,qs,z,rfl,C,?_⟩;unfold ptV
  cases ez:pt qs z with
  | none =>
   show⟨_,rfl,jU ?_⟩;apply⟨by show 1<=sizeLine;decide,fun o ho=>?_⟩;have v:=qC (Sr H) (o:=.lst [.str z]) ho;have eo:upd H o (.lst [.str z]) o=some (.lst ([z].map V.str)):=qb;show .inl (.inl (.inr (.inl ⟨x,o,_,1,rfl,rfl,by decide,qca (v _ _ hx) eo,?_⟩)));rw[yL (s.one ez)];show q _ v
  | some zz =>
   have ad:pt qs z≠none:=by rw[ez];show fun y=>by cases y
   have hR:=s.row ad;have h2:=hR.two;have ag:=hR.few;have bc:=s.odd;obtain⟨a,ea⟩:∃ a,r[0]?=some a:=⟨_,yb (by lk)⟩;show⟨_,rfl,qF (fun h=>by simp at h) fun _=>?_⟩;apply⟨l,u,x,ts,us,tps,qs,r,rfl,hl,C,hx,hR,fun H1 v=>?_⟩;show⟨_,rfl,qF (fun h=>by cases h) fun _=>?_⟩;have m:=v _ _ hx;apply qab m ?_;rw[ya];apply vI (by decide) ?_;apply qdH ?_;rw[yl (by lk)];apply yq ?_;apply⟨1,rfl,?_⟩;have an:atI (r.map V.str) (-1)=some (.str z):=atI_lastV (fun e=>by have:=congrArg List.length e;rw[ya,xl] at this;lk) (by rw[ya,yd,s.lst];rfl);show .inl (qag m an ?_);apply qgj ?_;rw[yL rfl];show⟨_,rfl,qF (fun h=>by cases h) fun _=>?_⟩;apply qbI (k:=0) m ea ?_;apply⟨u,us,qs,a,rfl,C.same v,?_⟩;unfold ptV;rw[s.hd a ea];show⟨rfl,⟨_,rfl,qF (fun h=>by cases h) fun _=>?_⟩⟩;apply⟨n,u,x,us,qs,r,rfl,C.same v,Y,m,by lk,ag,fun g2 ax H2 s2 _ hB=>?_⟩;have eT:kpN qs (stp r)++nwN qs (stp r)=tlN qs r:=rfl;rw[eT] at hB;have W:=s.len;have b:=s.sng ad a ea;generalize tlN qs r=TL at hB W b;have A:=v.trans s2;apply⟨n,u,ss,us,qs,rfl,A _ _ hn,few,C.same A,fun al U=>?_⟩;have s3:=qC A (o:=.lst ((sgl ss qs).map V.str)) U;have ae:=qC (Sr H2) (o:=.lst ((sgl ss qs).map V.str)) U;have c:upd H2 al (.lst ((sgl ss qs).map V.str)) al=some (.lst ((sgl ss qs).map V.str)):=qb;generalize upd H2 al (.lst ((sgl ss qs).map V.str))=H3 at s3 ae c ⊢;have aa:(sgl ss qs).length<=14:=yi (yE _ _) few;generalize ar:sgl ss qs=sg at c aa;rw[ar] at b;have aw:=s3 _ _ hx;show .inl ⟨⟨_,SqL.of c⟩,qG (K:=K) (fun j ys H'=>H'=H3/\ys=((sg.take j).filter fun n=>!decide (n=a)).map V.str) ⟨rfl,by rw[YI];rfl⟩ (fun j ys H' _ X=>by rw[X.1];show SqL.of c) (fun j y ys J hy X=>?_) fun ys J X=>?_⟩
   .obtain⟨rfl,rfl⟩:=X;obtain⟨o,gj,rfl⟩:=jc hy;have ay:j<sg.length:=(yc.mp gj).1;have ba:((sg.take j).filter fun n=>!decide (n=a)).length<=j:=yi (yE _ _) (by rw[yK];lk)
    have ac:((sg.take (j+1)).filter fun n=>!decide (n=a))=((sg.take j).filter fun n=>!decide (n=a))++if (!decide (o=a))=true then [o] else []:=by
     rw[yD,gj,yZ];show _++[o].filter _=_;rw[yS,Yq]
    rw[ac];apply qbI (k:=0) aw ea ?_;apply qgj ?_;show⟨_,rfl,?_⟩
    cases hd:decide (o=a) with
    | true=>show qF (fun h=>by cases h) fun _=>⟨rfl,by simp⟩
    | false =>
     show jU ?_;apply⟨by rw[ya];show qh (by lk),rfl,by simp⟩
   .obtain⟨rfl,rfl⟩:=X;rw[show(sg.map V.str).length=sg.length from ya _,yM];have am:(sg.filter fun n=>!decide (n=a)).length<=14:=yi (yE _ _) aa;generalize az:(sg.filter fun n=>!decide (n=a))=fs at b am;show⟨by rw[ya];show yR (qh (by lk)),fun b1 ah=>?_⟩;have s4:=qC (Sr J) (o:=.lst (fs.map V.str)) ah;have M:upd J b1 (.lst (fs.map V.str)) b1=some (.lst (fs.map V.str)):=qb;generalize upd J b1 (.lst (fs.map V.str))=H4 at s4 M ⊢;apply⟨by show 1<=sizeLine;decide,fun o ho=>?_⟩;have s5:=qC s4 (o:=.lst [.str z]) ho;have af:=qC (Sr H4) (o:=.lst [.str z]) ho;have eo:upd H4 o (.lst [.str z]) o=some (.lst [.str z]):=qb;generalize upd H4 o (.lst [.str z])=H5 at s5 af eo ⊢;apply .inl ⟨b1,o,_,_,rfl,rfl,af _ _ M,eo,by rw[ya];show yR (qh (show fs.length+1<=1000 by lk)),fun d hd=>?_⟩;have s6:=qC s5 (o:=.lst (fs.map V.str++[.str z])) hd;have ed:upd H5 d (.lst (fs.map V.str++[.str z])) d=some (.lst ((fs++[z]).map V.str)):=by rw[qb,yC];rfl
    generalize upd H5 d (.lst (fs.map V.str++[.str z]))=H6 at s6 ed ⊢;have p:=(hB.same ae).same s6;have B:=s3.trans s6;apply qab p.1 ?_;rw[ya,p.2.len];ext;have Z:=C.same B;show qab Z.1 ?_;rw[ya,Z.2.len];apply qdH ?_;rw[yL (by lk)];show⟨_,rfl,jU ?_⟩;apply⟨n,g2,ss,ax,TL,rfl,B _ _ hn,few,p,fun e1 ak=>?_⟩;have s7:=qC (Sr H6) (o:=.lst ((sgl ss TL).map V.str)) ak;have S:upd H6 e1 (.lst ((sgl ss TL).map V.str)) e1=some (.lst ((sgl ss TL).map V.str)):=qb;generalize upd H6 e1 (.lst ((sgl ss TL).map V.str))=H7 at s7 S ⊢;have ao:=b.length_eq;rw[yt,Yt] at ao;apply⟨e1,_,rfl,SqL.of S,by lk,fun I D ai au ap=>?_⟩;have s8:=qC (Sr H7) (o:=.lst (D.map V.str)) ai;have N:upd H7 I (.lst (D.map V.str)) I=some (.lst (D.map V.str)):=qb;generalize upd H7 I (.lst (D.map V.str))=H8 at s8 N ⊢;apply⟨d,_,rfl,SqL.of ((s7.trans s8) _ _ ed),by rw[yt,Yt];lk,fun L G aj av aq=>?_⟩;have s9:=qC (Sr H8) (o:=.lst (G.map V.str)) aj;have O:upd H8 L (.lst (G.map V.str)) L=some (.lst (G.map V.str)):=qb;have R:upd H8 L (.lst (G.map V.str)) I=some (.lst (D.map V.str)):=s9 _ _ N;generalize upd H8 L (.lst (G.map V.str))=H9 at s9 O R ⊢;have ev:D=G:=qcy ap aq ((au.trans b).trans av.symm);subst ev;show .inl (.inl (.inr (.inl ⟨I,L,_,1,rfl,rfl,by decide,qca R O,?_⟩)));rw[yL rfl];show q _ (((B.trans s7).trans s8).trans s9)
def PrT1(p:Addr)(H:Hp)(t:Addr)(a:Str):Prop:=t≠p/\H t=some (.tup [.str a])
def TL1(p:Addr)(H:Hp)(l:Addr)(ts:LQ)(as:LS):Prop:=H l=some (.lst (ts.map V.ref))/\l≠p/\All2 (PrT1 p H) ts as
theorem TL1.bb(h:TL1 p H l ts as)(b:BB p H H'):TL1 p H' l ts as:=⟨b.1 _ _ h.2.1 h.1,h.2.1,h.2.2.mono fun t ab z=>⟨z.1,b.1 _ _ z.1 z.2⟩⟩
theorem TL1.same(h:TL1 p H l ts as)(s:L2.Same H H'):TL1 p H' l ts as:=⟨s _ _ h.1,h.2.1,h.2.2.mono fun t ab z=>⟨z.1,s _ _ z.2⟩⟩
theorem PrT1.put{t:Addr}(h:PrT1 p H t a)(hl:H l=some (.lst xs)):PrT1 p (upd H l (.lst ys)) t a:=⟨h.1,by rw[qf (qac h.2 hl (by intro z;cases z))];show h.2⟩
theorem TL1.more{t:Addr}(h:TL1 p H l ts as)(b:PrT1 p H t a):TL1 p (upd H l (.lst (ts.map V.ref++[.ref t]))) l (ts++[t]) (as++[a]):=
 ⟨by rw[qb,yC];rfl,h.2.1,(h.2.2.mono fun _ _ z=>z.put h.1).snoc (b.put h.1)⟩
theorem TL1.other{l':Addr}(h:TL1 p H l ts as)(ne:l≠l')(hl:H l'=some (.lst xs)):TL1 p (upd H l' (.lst ys)) l ts as:=⟨by rw[qf ne];show h.1,h.2.1,h.2.2.mono fun _ _ z=>z.put hl⟩
theorem TL1.less(h:TL1 p H l ts as)(k:Nat):TL1 p (upd H l (.lst ((ts.map V.ref).eraseIdx k))) l (ts.eraseIdx k) (as.eraseIdx k):=
 ⟨by rw[qb,qbE],h.2.1,(h.2.2.erase k).mono fun _ _ z=>z.put h.1⟩
inductive spShuf1(vs:List V)(H:Hp)(Q:VK)(E:XK):Prop|mk (p l:Addr) (ts:LQ) (tps:LS) (_:vs=[.ref p,.ref l]) (_:Box H p) (_:TL1 p H l ts tps) (_:tps.length<=30) (_:∀(l':Addr) (us:LQ) (ups:LS) (H':Hp),BB p H H'->H l'=none->TL1 p H' l' us ups->ups.Perm tps->Q (.ref l') H')
theorem ok_shuf1(F:Fun K "_law_shuffled" "_law_shuffled" ju f fd)(T:Txt K mg cc cw)(Ki:DefOk P w K mg base CX0 1 "_law_take" ["_law_box_here","_law_many"] spTake):FnOk P w K mg base CX0 2 f fd ["_law_box_here","_law_ties_here"] spShuf1:=by
 show F.ok Ks fun _ _ _ _ H vs Q E hr h=>?_
 .obtain⟨p,l,ts,tps,rfl,hB,O,few,q⟩:=h;have hu:=jQ hr;have au:ts.length<=30:=by rw[O.2.2.len];show few
  show⟨_,(qc (zQ (sc:=qg ju) (XN:=["_law_box_here","_law_ties_here","_law_left","_law_found"]) ["_law_tie","_law_box_here"] 1 [0] rfl rfl rfl (by room) rfl (by room) (i:=2) Ks.nd rfl rfl
  (qK (K:=K) rfl (pv 1)) (fun _ _ _ _=>(qt (i:=0) (show(["_law_tie","_law_box_here"]:LS).Nodup by room) rfl (yP rfl))) qN
  (fun _ _ _ _=>jK)
  (fun _ _ _ _=>(qw (qx (K:=K) rfl hu) (qM (qa (pv 0) (qa (pe_rev1 (K:=K) rfl (pv 0) (jo (qa0 zD qi))) qd))) (qr Ki (hmR hr) qz (qa (pv 1) (qa qi qd))) (fun _ _=>rfl))))
 (qc (qq (i:=3) Ks.nd rfl (yP rfl) (qM qd))
 (qc (qao yV (qk (zS (K:=K) rfl hu) (pv 2) (qM qd) (qu _))
 (qe (qR (qbO (K:=K) rfl yT Yj Yk jj (pv 3) (qa (qbO (K:=K) rfl yT Xr Xs qbv (pv 2) (qa (qr Ki (hmR hr) qz (qa (pv 0) (qa (qp (j9 (K:=K) rfl) rfl T.b_len YQ (qa (pv 2) qd)) qd))) qd)) qd)))))
 (qe (qm (pv 3)))))),?_⟩
  apply .inl ⟨⟨_,SqL.of O.1⟩,qG (K:=K) (a:=l) (xs:=ts.map V.ref) (fun i ys H'=>BB p H H'/\∃(us:LQ) (ups:LS),ys=us.map V.ref/\us.length=i/\All2 (PrT1 p H') us ups/\All2 (fun a b=>b=a) (tps.take i) ups) ⟨BB.refl hB,[],[],rfl,rfl,All2.nil,by simpa using All2.nil⟩
   (fun i ys H' _ h=>SqL.of (h.1.1 _ _ O.2.1 O.1)) (fun i x ys H1 hx hp=>?_) fun ys H1 hp=>?_⟩
  .obtain⟨M,us,ups,rfl,C,s,W⟩:=hp;rw[yd] at hx
   cases ht:ts[i]? with
   | none=>rw[ht] at hx;cases hx
   | some t =>
    rw[ht] at hx;cases hx;have am:i<ts.length:=(yc.mp ht).1;have aa:i<tps.length:=by rw[<- O.2.2.len];show am
    have gi:tps[i]?=some tps[i]:=yb aa;generalize tps[i]=a at gi;obtain⟨nt,A⟩:=(O.bb M).2.2.at_ i t a ht gi;have ao:tps.take (i+1)=tps.take i++[a]:=by rw[yD,gi];rfl
    apply jU ?_;apply vRev1 ?_;apply vU ?_;apply⟨rfl,t,_,rfl,SqT.of A,fun g n=>?_⟩;have I:=M.new (o:=.tup [.str a]) n;have n2:=M.apart n;have s2:=qC (Sr H1) (o:=.tup [.str a]) n;have N:upd H1 g (.tup [.str a]) g=some (.tup [.str a]):=qb;replace A:=s2 _ _ A;replace s:=s.mono (S:=PrT1 p (upd H1 g (.tup [.str a]))) fun t ab z=>⟨z.1,s2 _ _ z.2⟩;generalize upd H1 g (.tup [.str a])=H2 at I N A s ⊢;clear s2;apply⟨by show 2<=sizeLine;decide,fun L h3=>?_⟩;have U:=I.new (o:=.lst [.ref t,.ref g]) h3;have n3:=I.apart h3;have s3:=qC (Sr H2) (o:=.lst [.ref t,.ref g]) h3;have Z:upd H2 L (.lst [.ref t,.ref g]) L=some (.lst [.ref t,.ref g]):=qb;replace A:=s3 _ _ A;replace N:=s3 _ _ N;replace s:=s.mono (S:=PrT1 p (upd H2 L (.lst [.ref t,.ref g]))) fun t ab z=>⟨z.1,s3 _ _ z.2⟩;generalize upd H2 L (.lst [.ref t,.ref g])=H3 at U N Z A s ⊢;clear s3;apply⟨p,2,rfl,U.2,by decide,by decide,fun r G r0 r1 B=>?_⟩;replace A:=B.1 _ _ nt A;replace N:=B.1 _ _ n2 N;replace Z:=B.1 _ _ n3 Z;replace s:=s.mono (S:=PrT1 p G) fun t ab z=>⟨z.1,B.1 _ _ z.1 z.2⟩;replace B:=U.trans B
    have fin:∀ u cd,PrT1 p G u cd->cd=a->(us.map V.ref).length<sizeLine/\(BB p H G/\∃(vs:LQ) (c:LS),us.map V.ref++[V.ref u]=vs.map V.ref/\vs.length=i+1/\All2 (PrT1 p G) vs c/\All2 (fun a b=>b=a) (tps.take (i+1)) c):=fun u cd hu al =>
     ⟨by rw[ya,C];show qh (by lk),B,us++[u],ups++[cd],by rw[yC];rfl,by rw[yt,C];rfl,s.snoc hu,by rw[ao];show W.snoc al⟩
    have an:r=0\/r=1:=by lk
    rcases an with rfl | rfl
    .show .inl (qag (v:=.ref t) Z (qE (j:=0) rfl) (fin t a ⟨nt,A⟩ rfl))
    .show .inl (qag (v:=.ref g) Z (qE (j:=1) rfl) (fin g a ⟨n2,N⟩ rfl))
  .obtain⟨M,us,y,rfl,C,s,W⟩:=hp;rw[ya] at C W;have ak:tps.take ts.length=tps:=by rw[O.2.2.len,yM]
   rw[ak] at W;show⟨by rw[ya];show yR (qh (by lk)),fun l1 h1=>?_⟩;have I:=M.new (o:=.lst (us.map V.ref)) h1;have n1:=M.apart h1;have z1:=M.free h1;have ag:=qC (Sr H1) (o:=.lst (us.map V.ref)) h1;have t1:TL1 p (upd H1 l1 (.lst (us.map V.ref))) l1 us y:=⟨qb,n1,s.mono fun t ab z=>⟨z.1,ag _ _ z.2⟩⟩;generalize upd H1 l1 (.lst (us.map V.ref))=H2 at I t1 ⊢;clear ag;apply⟨by decide,fun l2 n=>?_⟩;have U:=I.new (o:=.lst []) n;have n2:=I.apart n;have z2:=I.free n;have ae:l1≠l2:=qv t1.1 n;have t3:=t1.same (qC (Sr H2) (o:=.lst []) n);have g:TL1 p (upd H2 l2 (.lst [])) l2 [] []:=⟨qb,n2,All2.nil⟩;generalize upd H2 l2 (.lst [])=H3 at U g t3 ⊢;apply⟨fun m σ H'=>∃(us vs:LQ) (ups c:LS),m=us.length/\σ=[some (.ref p),some (.ref l),some (.ref l1),some (.ref l2)]/\BB p H H'/\TL1 p H' l1 us ups/\TL1 p H' l2 vs c/\us.length+vs.length<=30/\(c++ups).Perm y,⟨_,us,[],y,[],rfl,rfl,U,t3,g,by simp;lk,by simp⟩,fun m σ G hW=>?_⟩;obtain⟨us,vs,ups,c,rfl,rfl,B,u4,v4,ad,d⟩:=hW;apply⟨by decide,fun z hz=>?_⟩;have sz:=qC (Sr G) (o:=.lst []) hz;have b5:=B.new (o:=.lst []) hz;have R:=u4.same sz;have v5:=v4.same sz;have e5:upd G z (.lst []) z=some (.lst []):=qb;generalize upd G z (.lst [])=H5 at b5 R v5 e5 ⊢;show qbR R.1 e5 ?_;ext
   cases us with
   | nil =>
    show yq ?_;ext;have eu:ups=[]:=Xj (by rw[<- R.2.2.len];rfl);rw[eu,Yd] at d;have eq:y=tps:=(List.ext_getElem W.len fun j h1 n=>(W.at_ j _ _ (yb h1) (yb n)).symm).symm;show q l2 vs c H5 b5 z2 v5 (eq ▸ d)
   | cons D ur =>
    show qF (fun _=>?_) (fun h=>absurd rfl h);show⟨fun aj H'=>∃(us vs:LQ) (ups c:LS),us.length=ur.length/\aj=[some (.ref p),some (.ref l),some (.ref l1),some (.ref l2)]/\BB p H H'/\TL1 p H' l1 us ups/\TL1 p H' l2 vs c/\us.length+vs.length<=30/\(c++ups).Perm y,fun aj H' ⟨ap,aq,ah,ai,e,rest⟩=>⟨_,by rw[yw,<- e];show Xa _,ap,aq,ah,ai,rfl,rest⟩,?_⟩;apply⟨.inl ⟨rfl,_,SqL.of v5.1⟩,?_⟩;apply⟨.inl ⟨rfl,_,SqL.of R.1⟩,?_⟩;apply qab R.1 ?_;ext;rw[ya];rw[yw] at ad;show⟨p,_,rfl,b5.2,by(rw[yw];lk),by(rw[yw];lk),fun r H6 r0 r1 Y=>?_⟩;have u6:=R.bb Y;have v6:=v5.bb Y;replace Y:=b5.trans Y;obtain⟨k,rfl⟩:=xy r0;have X:k<(D::ur).length:=by rw[yw];rw[yw] at r1;lk
    have ac:k<ups.length:=by rw[<- R.2.2.len];show X
    have gk:((D::ur).map V.ref)[k]?=some (.ref ((D::ur)[k])):=by rw[yd,yb X];rfl
    have ar:(k:Int)<2 ^ 62:=by rw[yw] at X;lk
    show⟨l1,_,_,k,_,rfl,rfl,u6.1,by lk,by lk,(qbW (qb3 (by rw[ya];show X))).1,gk,?_⟩;have pk:=u6.2.2.at_ k ((D::ur)[k]) ups[k] (yb X) (yb ac);have u7:=u6.less k;have v7:=v6.other (ys:=((D::ur).map V.ref).eraseIdx k) ae.symm u6.1;have b7:=Y.put (o:=.lst (((D::ur).map V.ref).eraseIdx k)) z1 n1;have af:=pk.put (ys:=((D::ur).map V.ref).eraseIdx k) u6.1;generalize upd H6 l1 (.lst (((D::ur).map V.ref).eraseIdx k))=H7 at u7 v7 b7 af ⊢;have J:((D::ur).eraseIdx k).length=ur.length:=by rw[List.length_eraseIdx_of_lt X,yw];lk
    show⟨l2,_,_,rfl,rfl,v7.1,by rw[ya];show qh (by lk),?_⟩;show⟨_,_,_,_,J,rfl,b7.put z2 n2,u7.other ae v7.1,v7.more af,?_,?_⟩
    .rw [J,yt,Yt];lk
    .rw [Yc];show(List.Perm.append_left c (qa4 ups k ac)).trans d
theorem vAsgT{c:TE}{n:Nat}{b:TGs}{D:Ends}{a:L2.St}(h:c a H fun x H1=>qfJ K n b x a H1 D.nx):qfd c (qfJ K n b) D a H:=h
structure Wq(p cw:Addr)(H:Hp)(x:Addr)(ss:LS)(ns:LN)(tps:LP):Prop where
 web:WebP (fun a=>a=p) cw H x ss ns
 adj:Adj ss ns tps
 ok:∀ ab∈tps,ab.1∈ss/\ab.2∈ss/\ab.1≠ab.2
section
variable{p cw x:Addr}{H H':Hp}{ss:LS}{ns:LN}{tps:LP}
theorem Wq.wt(h:Wq p cw H x ss ns tps):Wt cw H x ss ns tps:=⟨h.web.web,h.adj,h.ok⟩
theorem Wq.bb(h:Wq p cw H x ss ns tps)(b:BB p H H'):Wq p cw H' x ss ns tps:=⟨h.web.keep fun c o n e=>b.1 c o n e,h.adj,h.ok⟩
theorem Wq.same(h:Wq p cw H x ss ns tps)(s:L2.Same H H'):Wq p cw H' x ss ns tps:=⟨h.web.keep fun c o _ e=>s c o e,h.adj,h.ok⟩
end
structure FoP(p cf cw:Addr)(H:Hp)(a:Fo)(ss:LS)(ns:LN)(qs:LP)(S:FS)(lo:V)(A:Str->Str->Prop):Prop where
 fd:∃ H0 dn wt,FoD cf cw H0 H a ss ns qs S dn wt lo A/\H0 p=none
 np:p∉a.all
section
variable{p cf cw:Addr}{H H':Hp}{a:Fo}{ss:LS}{ns:LN}{qs:LP}{S:FS}{lo:V}{A:Str->Str->Prop}
theorem FoP.same(h:FoP p cf cw H a ss ns qs S lo A)(s:L2.Same H H'):FoP p cf cw H' a ss ns qs S lo A:=⟨h.fd.elim fun H0 ⟨dn,wt,z,y⟩=>⟨H0,dn,wt,z.same s,y⟩,h.np⟩
theorem FoP.bb(h:FoP p cf cw H a ss ns qs S lo A)(G:Box H p)(b:BB p H H'):FoP p cf cw H' a ss ns qs S lo A:=by
 obtain⟨⟨H0,dn,wt,D,w⟩,q⟩:=h;obtain⟨O,P,R,E⟩:=G
 have y:∀{d:Addr} {rs:LS},H d=some (.lst (rs.map V.str))->d≠p:=fun{d rs} g z=>by
  rw[z,E] at g;have e:=HO.lst.inj (ym g)
  cases rs with
  | nil=>cases e
  | cons _ _=>cases e
 have f:∀{d},d∈[a.x,a.dr,a.da,a.ds,a.dg,a.dw]->d≠p:=fun l z=>q (z ▸ Fo.sub _ l);have k:∀{d o},d≠p->H d=some o->H' d=some o:=fun n e=>b.1 _ _ n e;show⟨⟨H0,dn,wt,⟨⟨fun d o e=>k (fun z=>by rw[z,w] at e;cases e) (D.fo.sm d o e),D.fo.web,D.fo.prt,D.fo.fr,D.fo.nd,fun d l=>?_,?_,?_,?_,?_,?_,?_,D.fo.evn,D.fo.evi,D.fo.evs⟩,?_⟩,w⟩,q⟩
 .obtain⟨m,c,o,I⟩:=D.fo.exf d l;show⟨m,c,o,k (fun z=>q (z ▸ yH _ l)) I⟩
 .obtain⟨dx,fs,h1,F⟩:=D.fo.obj;show⟨dx,fs,k (f (by simp)) h1,F⟩
 .obtain⟨m,J,K,L⟩:=D.fo.row;show⟨m,k (f (by simp)) J,K,fun s=>?_⟩;have:=L s
  cases v:S.rows s with
  | none=>rw[v] at this;show this
  | some r =>
   rw[v] at this;obtain⟨t,M,B,N⟩:=this;show⟨t,M,k (y B) B,N⟩
 .obtain⟨c,i,j⟩:=D.fo.par;show⟨c,k (f (by simp)) i,j⟩
 .obtain⟨c,i,j⟩:=D.fo.bas;show⟨c,k (f (by simp)) i,j⟩
 .obtain⟨c,i,j⟩:=D.fo.rng;show⟨c,k (f (by simp)) i,j⟩
 .show k (f (by simp)) D.fo.wai
 .show D.en.elim .inl fun⟨t,r,C,u,z⟩=>.inr ⟨t,r,C,k (y u) u,z⟩
end
theorem qcG{y:Addr}{Q:VK}(F:Box G p)(W:Wq p cw G x ss ns tps)(H:PL G l us qs)(j:PGo ss tps qs)(q:G y=none)(g:G dx=none)(m:dx≠y)
  (h:∀ H2 a S lo,a.x=y->FoP p (cc 9) cw H2 a ss ns qs S lo (tA tps)->L2.Same G H2->Q .non H2):spFi cc cw [.ref y,.ref x,.ref l] (upd (upd G dx (.own y)) y (.ins (cc 9) dx [])) Q E:=by
 have t:=qC (qC (Sr G) (o:=.own y) g) (o:=.ins (cc 9) dx []) (show upd G dx (.own y) y=none by rw[qf (Yh m)];show q);show⟨y,dx,x,l,ss,ns,us,tps,qs,tA tps,rfl,qb,W.wt.web.same t,W.adj,W.wt.wb j,W.wt.wok.nm,W.wt.bes,H.same t,j.few,j.inn,fun H0 H' a S dn wt lo v w b O=>?_⟩
 have f:L2.Same G H0:=fun c o e=>O c o (by
  rw[jv (fun z=>by rw[z,q] at e;cases e),qf (fun z=>by rw[z,q] at e;cases e),qf (fun z=>by rw[z,g] at e;cases e)];show e)
 obtain⟨R,T,U,u⟩:=F;have r:=f _ _ u;have i:∀ c,H0 c=none->c≠p:=fun c e z=>by rw[z,r] at e;cases e
 show h H' a S lo v ⟨⟨qei p H0,dn,wt,⟨⟨fun d o k=>?_,?_,?_,fun c hc=>?_,b.fo.nd,fun d g=>?_,b.fo.obj,b.fo.row,b.fo.par,b.fo.bas,b.fo.rng,b.fo.wai,b.fo.evn,b.fo.evi,b.fo.evs⟩,b.en⟩,?_⟩,fun z=>?_⟩ (f.trans b.fo.sm)
 .unfold qei at k;split at k
  .cases k
  .show b.fo.sm d o k
 .obtain⟨P,d,ol,n,h1,A,B,C,D,K,L,M,N⟩:=W.web;rw[w];show⟨P,d,ol,n,(jv K).trans (f _ _ h1),(jv L).trans (f _ _ A),(jv M).trans (f _ _ B),(jv N).trans (f _ _ C),D⟩
 .show(jv (qac b.fo.prt r fun z=>by cases z)).trans b.fo.prt
 .show(jv (i c (b.fo.fr c hc))).trans (b.fo.fr c hc)
 .obtain⟨s,I,J⟩:=b.fo.exf d g;show⟨(jv (i d s)).trans s,I,J⟩
 .unfold qei;rw[yI rfl]
 .rcases yz.mp z with z | z
  .show i p (b.fo.fr p z) rfl
  .show i p (b.fo.exf p z).1 rfl
theorem KO:FnScope ["_law_forest","_law_names_here","_law_ties_here","_law_pairs","_law_box_here","_law_reached","_law_place","_law_row","_law_kept"] ["_law_forest","_law_names_here","_law_ties_here","_law_pairs","_law_box_here"] (qg qam):=fS
def RwW(H H':Hp)(v:V)(lr:Option (LS)):Prop:=(lr=none/\v=.non)\/∃ l r,lr=some r/\v=.ref l/\H l=none/\H' l=some (.lst (r.map V.str))
theorem RwW.same{v:V}(h:RwW H H1 v lr)(s:L2.Same H1 H2):RwW H H2 v lr:=h.imp id fun⟨l,r,a,b,c,d⟩=>⟨l,r,a,b,c,s _ _ d⟩
structure Fst(p cf cw:Addr)(H:Hp)(a:Fo)(n l u:Addr)(ss:LS)(ns:LN)(ts us:LQ)(tps qs ups:LP)(S:FS):Prop where
 fo:FoP p cf cw H a ss ns ups S .non (tA tps)
 n:NL p H n ss
 l:TL p H l ts tps
 u:TL p H u us qs
theorem Fst.same{a:Fo}{u:Addr}(h:Fst p cf cw H a n l u ss ns ts us tps qs ups S)(s:L2.Same H H'):Fst p cf cw H' a n l u ss ns ts us tps qs ups S:=⟨h.fo.same s,h.n.same s,h.l.same s,h.u.same s⟩
theorem Fst.bb{a:Fo}{u:Addr}(h:Fst p cf cw H a n l u ss ns ts us tps qs ups S)(c:Box H p)(b:BB p H H'):Fst p cf cw H' a n l u ss ns ts us tps qs ups S:=⟨h.fo.bb c b,h.n.bb b,h.l.bb b,h.u.bb b⟩
inductive spRW(cc:Nat->Addr)(cw:Addr)(vs:List V)(H:Hp)(Q:VK)(E:XK):Prop|mk (p n l u:Addr) (fo:Fo) (ss:LS) (ns:LN) (ts us:LQ) (tps qs ups:LP) (S:FS) (_:vs=[.ref fo.x,.ref n,.ref l,.ref u,.ref p]) (_:Box H p) (_:Fst p (cc 9) cw H fo n l u ss ns ts us tps qs ups S) (_:ss.Nodup) (_:ss.length<=14) (_:PGo ss tps qs) (_:Fn (tA tps) (pt qs) S ss) (_:∀ H',BB p H H'->Q (.bl true) H')
theorem FoP.me{a:Fo}{k:Prop}(h:FoP p (cc 9) cw H a ss ns qs S lo A)(b:m∉fAtt)(q:k):MeR (cc 9) m (.ref a.x) H k:=by
 obtain⟨⟨H0,dn,wt,D,_⟩,_⟩:=h;show D.fo.obj.me b q
theorem frt{a:Fo}{Q:VK}(h:FoP p (cc 9) cw H a ss ns qs S .non A)(hz:z∈ss)(q:∀ v H',L2.Same H H'->RwW H H' v (S.rows z)->Q v H'):spRo cc cw [.ref a.x,.str z] H Q E:=by
 obtain⟨⟨H0,dn,wt,D,_⟩,_⟩:=h;have e:rtN S .non z=S.rows z:=yI rfl;show⟨H0,a,ss,ns,qs,S,dn,wt,_,A,z,rfl,D,hz,fun k H' s=>q _ H' s (.inl ⟨by rw[<- e];show k,rfl⟩),fun r k l H' s b h1=>q _ H' s (.inr ⟨l,r,by rw[<- e];show k,rfl,b,h1⟩)⟩
theorem qfI{v a:V}{Q:VK}(h:RwW H H1 v lr)(h':RwW H0 H1 a lr)(q:Q (.bl false) H1):qep K true v a H1 Q:=by
 rcases h with⟨rfl,rfl⟩ | ⟨l,r,rfl,rfl,_,e⟩
 .rcases h' with⟨_,rfl⟩ | ⟨_,_,z,_⟩
  .show .inl ⟨rfl,rfl,q⟩
  .cases z
 .rcases h' with⟨z,_⟩ | ⟨l',c,z,rfl,_,b⟩
  .cases z
  .cases z;show .inr (.inl ⟨l,l',true,1,rfl,rfl,by decide,by have:=qca (K:=K) e b;rwa[yL rfl] at this,q⟩)
theorem ok_rr2(F:Fun K "_law_right" "_law_right" qam f fd)(T:Txt K mg cc cw)(KA:MethOk P w K mg base CX0 2 (cc 9) "reached" ["self"] (spFd2 cc cw))(Kw:MethOk P w K mg base CX0 1 (cc 9) "row" ["self"] (spFr cc cw))(Kk:MethOk P w K mg base CX0 5 (cc 9) "row_to" ["self","place"] (spRo cc cw))(Um:DefOk P w K mg base CX0 4 "_law_shown" ["_law_names_here","_law_ties_here","_law_pairs","_law_reached"] spSw)(ub:DefOk P w K mg base CX0 2 "_law_shuffled" ["_law_box_here","_law_ties_here"] spShuf1)(uM:DefOk P w K mg base CX0 3 "_law_led" ["_law_names_here","_law_ties_here","_law_pairs","_law_row","_law_place"] spLd)(KW:DefOk P w K mg base CX0 6 "_law_refused" ["_law_forest","_law_thing"] (spRf cc cw))(uN:DefOk P w K mg base CX0 2 "_law_odd" ["_law_box_here"] spOddG)(Uo:DefOk P w K mg base CX0 1 "_law_fresh" ["_law_names_here"] spFresh):FnOk P w K mg base CX0 7 f fd ["_law_forest","_law_names_here","_law_ties_here","_law_pairs","_law_box_here"] (spRW cc cw):=by
 show F.ok KO fun _ _ _ s H vs Q E L h=>?_
 .obtain⟨p,n,l,u,fo,ss,ns,ts,us,tps,qs,ups,S,rfl,hB,hF,ad,few,hG,X,q⟩:=h;have hu:=jQ L;show⟨_,(qc (qq (i:=5) KO.nd rfl (yP rfl) (ji KA (hmR L) (pv 0)))
 (qc (qH (PW.pt (qad (qT (qP (qp (qah (K:=K) rfl) rfl T.b_isinstance YH (qa (pv 5) (qa (jH (v:=.ty "list") rfl T.b_list Xi rfl) qd))))) (qad (qT (qP (qr Um (hmR L) qz (qa (pv 1) (qa (pv 2) (qa (pv 3) (qa (pv 5) qd))))))) (zm (qk jR (ji Kw (hmR L) (pv 0)) qY (qu _)))))) (qe (qm jq)) qo)
 (qc (jz yV rfl (qK (K:=K) rfl (qr ub (hmR L) qz (qa (pv 4) (qa (jh (sc:=qg qam) (XN:=["_law_forest","_law_names_here","_law_ties_here","_law_pairs","_law_box_here","_law_reached","_law_place","_law_row","_law_kept"]) ["_law_name"] 1 [] rfl rfl rfl (by room) rfl (by room)
  (qK (K:=K) rfl (pv 1)) (fun _ _ _ _=>(qt (i:=0) (show(["_law_name"]:LS).Nodup by room) rfl (yP rfl))) qN
  (fun _ _ _ _=>jK)
  (fun _ _ _ _=>(zE (qa (pv 0) qd)))) qd)))) (qt (i:=6) KO.nd rfl (yP rfl))
 (qc (qq (i:=7) KO.nd rfl (yP rfl) (qB Kk (hmR L) (pv 0) (qa (qw (qx (K:=K) rfl hu) (pv 6) qi (fun _ _=>rfl)) qd)))
 (qc (qH (qk (zS (K:=K) rfl hu) (qS jR (pv 7) qY (qu _)) (qS (zT (K:=K) rfl hu) (qw (qx (K:=K) rfl hu) (pv 6) qi (fun _ _=>rfl)) (pv 5) (by with_unfolding_all rfl)) (qu _)) (qe (qm jq)) qo)
 (qc (qH (PW.pt (qaJ (qk jR (pv 7) qY (qu _)) (zL (qT (qP (qr uM (hmR L) qz (qa (pv 1) (qa (pv 2) (qa (pv 3) (qa (pv 7) (qa (qw (qx (K:=K) rfl hu) (pv 6) qi (fun _ _=>rfl)) qd))))))))))) (qe (qm jq)) qo)
 (qc (qq (i:=8) KO.nd rfl (yP rfl) (qB Kk (hmR L) (pv 0) (qa (qw (qx (K:=K) rfl hu) (pv 6) qi (fun _ _=>rfl)) qd)))
 (qc (qH (qk jR (pv 7) qY (qu _)) (qe (qR (qbO (K:=K) rfl yT Yj Yk jj (pv 7) (qa qaE qd)))) qo)
 (qe (qH (qk (zS (K:=K) rfl hu) (qB Kk (hmR L) (pv 0) (qa (qw (qx (K:=K) rfl hu) (pv 6) qi (fun _ _=>rfl)) qd)) (pv 8) (qu _)) (qe (qm jq)) qo))))))))
 (qe (qm (qa8 (qr KW (hmR L) qz (qa (pv 0) (qa (qr uN (hmR L) qz (qa (pv 4) qd)) qd))) (qaK (qr KW (hmR L) qz (qa (pv 0) (qa (qr Uo (hmR L) qz (qa (pv 1) qd)) qd)))))))))),?_⟩
  obtain⟨⟨H0,dn,wt,D,_⟩,_⟩:=id hF.fo;apply D.fo.obj.me (by decide) ?_;apply⟨H0,fo,ss,ns,ups,S,dn,wt,_,tA tps,rfl,D,few,(fun z=>absurd rfl z),fun _ x H1 s1 be M=>?_⟩;have M:H1 x=some (.lst ((rdN ss S).map V.str)):=M;have bd:(rdN ss S).length<=14:=yi (yE _ _) few;have A:=hF.same s1;apply qbw (.inl (.lst M)) rfl (zR K "list" (by simp) "list" (by simp)) ?_;apply yq ?_;apply⟨n,l,u,x,ss,ts,us,tps,qs,rdN ss S,rfl,A.n.1,ad,few,A.l.pl,A.u.pl,M,bd,X.nnN,fun H2 s2=>?_⟩;show⟨_,rfl,qF (fun h=>by cases h) fun _=>?_⟩;have Z:=s1.trans s2;have D2:=D.same Z;apply D2.fo.obj.me (by decide) ?_;apply⟨H0,fo,ss,ns,ups,S,dn,wt,_,tA tps,rfl,D2,(fun _=>?_),fun t r z=>by cases z⟩;have ai:=hF.same Z;have b2:=(BB.refl hB).same Z;have aq:=s2 _ _ M;have nx:x≠p:=hB.apart be;apply⟨rfl,⟨_,rfl,qF (fun h=>by cases h) fun _=>?_⟩⟩;ext;have ac:=ai.n.1;show .inl ⟨⟨_,SqL.of ac⟩,qG (K:=K) (fun j ys H'=>L2.Same H2 H'/\∃ R:LQ,ys=R.map V.ref/\All2 (fun t a=>H2 t=none/\H' t=some (.tup [.str a])) R (ss.take j)) ⟨L2.Same.refl H2,[],rfl,by rw[YI];show All2.nil⟩ (fun j ys H' _ O=>SqL.of (O.1 _ _ ac)) (fun j y ys H3 hy O=>?_) fun ys H3 O=>?_⟩
  .obtain⟨s3,R,rfl,C⟩:=O;obtain⟨o,gj,rfl⟩:=jc hy;have hj:j<ss.length:=(yc.mp gj).1;have an:=C.len;rw[yK] at an;apply jU ?_;apply⟨(by decide:1<=sizeLine),fun t ht=>?_⟩;have U:=qC (Sr H3) (o:=.tup [.str o]) ht;show⟨by rw[ya];show qh (by lk),s3.trans U,R++[t],by rw[yC];rfl,?_⟩;rw[yD,gj];show All2.snoc (C.mono fun _ _ z=>⟨z.1,U _ _ z.2⟩) ⟨s3.free ht,qb⟩
  .obtain⟨s3,R,rfl,C⟩:=O;rw[show(ss.map V.str).length=ss.length from ya _,yM] at C;have an:=C.len;show⟨by rw[ya];show yR (qh (by lk)),fun g hg=>?_⟩;have s4:=qC s3 (o:=.lst (R.map V.ref)) hg;have U:=qC (Sr H3) (o:=.lst (R.map V.ref)) hg;have T1:TL1 p (upd H3 g (.lst (R.map V.ref))) g R ss:=⟨qb,(b2.same s3).apart hg,C.mono fun t a z=>⟨b2.apart z.1,U _ _ z.2⟩⟩;generalize upd H3 g (.lst (R.map V.ref))=H4 at s4 T1 ⊢;have b4:=b2.same s4;apply⟨p,g,R,ss,rfl,b4.2,T1,by lk,fun g5 ks ws H5 c5 _ Y bc=>?_⟩;have b5:=b4.trans c5;have ak:=(ai.same s4).bb b4.2 c5;have bf:H5 x=some (.lst ((rdN ss S).map V.str)):=c5.1 _ _ nx (s4 _ _ aq);clear T1 C U s3 s4 ac aq D2 D M A s1 s2 Z;show .inl ⟨⟨_,SqL.of Y.1⟩,jd (K:=K) (fun j σ J=>L2.Same H5 J/\∃ x6 x7 x8,σ=[some (.ref fo.x),some (.ref n),some (.ref l),some (.ref u),some (.ref p),some (.ref x),x6,x7,x8]) ⟨L2.Same.refl _,none,none,none,rfl⟩ (fun j σ J _ O=>SqL.of (O.1 _ _ Y.1)) (fun j y σ J hy O=>?_) fun σ J O=>?_⟩
   .obtain⟨sJ,x6,x7,x8,rfl⟩:=O;rw[yd] at hy;obtain⟨t,ht,rfl⟩:=yn.mp hy;obtain⟨z,hz⟩:∃ z,ws[j]?=some z:=⟨_,yb (by rw[<- Y.2.2.len];show(yc.mp ht).1)⟩;have et:=sJ _ _ (Y.2.2.at_ j t z ht hz).2;have B:z∈ss:=bc.mem_iff.mp (ye hz);have I:=ak.same sJ;apply I.fo.me (by decide) ?_;apply .inl (qaD et (i:=0) rfl ?_);apply frt I.fo B fun v J1 j1 rv=>?_;have aw:=sJ.trans j1;have G:=j1 _ _ et;have A:=I.same j1;have ar:=aw _ _ bf;ext;rcases rv with⟨er,rfl⟩ | ⟨k,r,er,rfl,az,ek⟩
    .show⟨rfl,?_⟩;apply .inl (qaD G (i:=0) rfl ?_);apply .inl ⟨x,_,rfl,.inl (SqL.of ar),rfl,jN (rdN ss S),?_⟩;rw[zA,yl (fun m=>(mem_rd.mp m).2 er)];show .inl ⟨rfl,rfl,?_⟩;show⟨_,rfl,qF (fun h=>by cases h) fun _=>?_⟩;apply⟨rfl,⟨_,rfl,qF (fun h=>by cases h) fun _=>qF (fun h=>by cases h) fun _=>?_⟩⟩;apply A.fo.me (by decide) ?_;apply .inl (qaD G (i:=0) rfl ?_);apply frt A.fo B fun v2 J2 N bi=>?_;have bm:=aw.trans N;apply⟨rfl,⟨_,rfl,qF (fun h=>by cases h) fun _=>?_⟩⟩;apply(A.same N).fo.me (by decide) ?_;apply .inl (qaD (N _ _ G) (i:=0) rfl ?_);apply frt (A.same N).fo B fun v3 J3 j3 ae=>?_;apply qfI ae (bi.same j3) ?_;show⟨_,rfl,qF (fun h=>by cases h) fun _=>?_⟩;show⟨bm.trans j3,_,_,_,rfl⟩
    .have ba:S.rows z≠none:=by rw[er];show fun y=>by cases y
     show⟨rfl,?_⟩;apply .inl (qaD G (i:=0) rfl ?_);apply .inl ⟨x,_,rfl,.inl (SqL.of ar),rfl,jN (rdN ss S),?_⟩;rw[zA,yL (mem_rd.mpr ⟨B,ba⟩)];show .inl ⟨rfl,rfl,?_⟩;show⟨_,rfl,qF (fun h=>by cases h) fun _=>?_⟩;apply⟨rfl,⟨_,rfl,jU ?_⟩⟩;apply .inl (qaD G (i:=0) rfl ?_);have am:=X.fi.alt z r er;have ao:=(am.inn (W:=(⟨X.gr,X.inn,hG.nd,few,ad⟩:Wb (tA tps) ss qs)) B).1;apply⟨n,l,u,k,ss,ts,us,tps,qs,r,z,rfl,A.n.1,few,A.l.pl,A.u.pl,hG.few,ek,am.ld hG ad B ao,fun J2 N=>?_⟩;show⟨_,rfl,qF (fun h=>by cases h) fun _=>?_⟩;have aa:=A.same N;apply aa.fo.me (by decide) ?_;apply .inl (qaD (N _ _ G) (i:=0) rfl ?_);apply frt aa.fo B fun v3 J3 j3 ae=>?_;have au:=N.trans j3;have ah:=au _ _ ek;apply⟨rfl,⟨_,rfl,jU ?_⟩⟩;apply⟨.inl ⟨rfl,_,SqL.of ah⟩,?_⟩;apply⟨k,_,_,rfl,rfl,ah,by rw[ya];show qh (by lk),?_⟩;have sK:L2.Same J (upd J3 k (.lst (r.map V.str++[.str "more"]))):=qaT (j1.trans au) az;have av:RwW J2 (upd J3 k (.lst (r.map V.str++[.str "more"]))) v3 (S.rows z):=ae.imp id fun⟨a,b,c,d,e,f⟩=>⟨a,b,c,d,e,by rw[qf (fun y=>by rw[y,N _ _ ek] at e;cases e)];show f⟩;generalize upd J3 k (.lst (r.map V.str++[.str "more"]))=J4 at sK av;have aj:=I.same sK;apply aj.fo.me (by decide) ?_;apply .inl (qaD (sK _ _ et) (i:=0) rfl ?_);apply frt aj.fo B fun v5 J5 j5 bj=>?_;apply qfI bj (av.same j5) ?_;show⟨_,rfl,qF (fun h=>by cases h) fun _=>?_⟩;show⟨(sJ.trans sK).trans j5,_,_,_,rfl⟩
   .obtain⟨sJ,x6,x7,x8,rfl⟩:=O;have I:=ak.same sJ;have bJ:=b5.same sJ;apply⟨p,rfl,bJ.2,fun v J1 c1 hv ap=>?_⟩;have al:=I.bb bJ.2 c1;obtain⟨⟨af,ag,ax,D',_⟩,_⟩:=id al.fo;apply⟨af,fo,ss,ns,ups,S,ag,ax,_,tA tps,v,rfl,D',hv,(fun y e1 e2=>?_),fun J2 N=>?_⟩
    .subst e1;rw[show qcY (.str y)=jW y from rfl,e2] at ap;cases ap
    show⟨_,rfl,jU ?_⟩;have ay:=al.same N;apply⟨n,ss,rfl,ay.n.1,few,fun y J3 j3 bg bh=>?_⟩;apply⟨af,fo,ss,ns,ups,S,ag,ax,_,tA tps,.str y,rfl,(D'.same N).same j3,.inl ⟨rfl,fun s e=>?_⟩,(fun y' e1 _=>?_),fun J4 j4=>?_⟩
    .cases e;have:=nameS_len bg;lk
    .cases e1;show bh
    show q J4 ((bJ.trans c1).same ((N.trans j3).trans j4))
theorem Kx:FnScope ["_law_script","_law_k","_law_box_here","_law_names_here","_law_ties_here","_law_web","_law_pairs","_law_name","_law_row","_law_forest","_law_turn","_law_fewer"] ["_law_script"] (qg qcH):=fS
theorem pss_cut{X:L2.Cx}{st:List PySem.Stmt}{t:L2.TS}(t':L2.TS)(h:L2.PSs X st t)(k:∀ D b H,t' D b H->t D b H):L2.PSs X st t':=fun a s b H D I q=>h a s b H D I (k D b H q)
theorem wt_new{y:Addr}(h:WebN H0 cw H y ss ns)(hb:qbA ss ns kps)(g:TGo ss kps):Wt cw H y ss ns kps:=
 ⟨h.web,fun a b s t d c=>by rw[hb.2.2 a b s t d c,Yg],g.inn⟩
theorem tok_go(c:ss.Nodup)(h:TOk ss tps):TGo ss tps:=by
 show⟨h.few,fun ab b=>?_,xt (fun{q r} i m d=>⟨d,fun z=>?_⟩) h.nd⟩
 .obtain⟨j,k,l,h1,a⟩:=h.ok ab b;show⟨ye h1,ye a,fun e=>by rw[e] at h1;have:=qA c h1 a;lk⟩
 .obtain⟨j,k,l,h1,a⟩:=h.ok q i;obtain⟨n,k',l',f,g⟩:=h.ok r m;rw[z] at h1 a;have:=qA c h1 g;have:=qA c a f;lk
inductive spLaw(K:W.Frag)(vs:List V)(H:Hp)(Q:VK)(E:XK):Prop|mk (a:Addr) (ns:LX) (_:vs=[.ref a]) (_:SqL K H a (ns.map V.int)) (_:ns.length<=63) (_:∀ H',Q (.bl true) H')
theorem BB.out(s:L2.Same H H1)(a:H p=none)(b:BB p H1 H2):L2.Same H H2:=fun c o e=>b.1 c o (fun z=>by subst z;rw[a] at e;cases e) (s c o e)
section
variable{ss:LS}{ns:LN}{tps qs rs:LP}
theorem mx_len(d:ss.Nodup)(g:PGo ss tps qs)(k:PGo ss tps rs)(a:MxF ss tps qs)(b:MxF ss tps rs):qs.length=rs.length:=by
 have c:∀{qs rs:LP},PGo ss tps qs->PGo ss tps rs->MxF ss tps qs->rs.length<=qs.length:=fun{qs rs} g k ⟨S,F⟩=>by
  have l:=qeT (f:=pt qs) (ss:=ss);have m:=qeT (f:=pt rs) (ss:=ss);have p:=g.cnt d;have r:=k.cnt d;have n:=F.most (qfb F.gr k.nd fun q e=>(k.inn q e).1)
  have o:(ss.filter fun u=>!(pt rs u).isSome&&(S.rows u).isSome).length<=(snL (pt rs) ss).length:=qcC (d.filter _) fun s h=>by
   obtain⟨i,j⟩:=yp.mp h;show yp.mpr ⟨i,(yY _ _ ▸ j).1⟩
  lk
 show xR (c k g b) (c g k a)
end
theorem FoP.fin{a:Fo}(h:FoP p cf cw H a ss ns qs S lo (tA tps))(W:Wb (tA tps) ss qs)(g:PGo ss tps qs)(m:MxF ss tps qs):lo=.non/\Fn (tA tps) (pt qs) S ss:=by
 obtain⟨⟨H0,dn,wt,D,_⟩,_⟩:=h
 have e:lo=.non:=by
  obtain⟨c,F⟩:=m;rcases D.en with⟨e,_⟩ | ⟨t,r,_,_,_,b,_⟩
  .show e
  .show(F.none g b).elim
 subst e;show⟨rfl,qfa D W⟩
theorem qed(g:PGo ss tps qs)(d:ss.length<=14)(F:Fn (tA tps) (pt qs) S ss)(h:Fn (tA tps) (pt qs) S' ss)(hz:S.rows z≠none):S'.rows z≠none:=by
 by_cases m:pt qs z=none
 .show h.sng z (F.es z hz) m
 obtain⟨r,w⟩:=some_of hz;have b:=F.fi.alt z r w;have c:=F.es z hz;have L:=b.ld g F.nd c ((b.inn (W:=(⟨F.gr,F.inn,g.nd,d,F.nd⟩:Wb (tA tps) ss qs)) c).1);have H:=b.odd;obtain⟨a,e⟩:∃ a,r[0]?=some a:=⟨_,yb (by lk)⟩;have o:=L.sng m a e;have T:=b.trn g.nd
 have B:Gr (tA tps) (pt (tlN qs r)):=qfb F.gr (qeu T g.nd) fun q E=>by
  rcases yz.mp E with y | y
  .show(g.inn q ((qa6 T g.nd).mp y).1).1
  .obtain⟨j,_,x,A⟩:=(zX T g.nd).mp y;show(b.st j _ _ x A).1
 have i:=h.most B;have sn:∀ ps:LP,snL (pt ps) ss=sgl ss ps:=fun ps=>Xv fun s _=>by cases pt ps s<;>rfl
 rw[sn] at i
 have t:(ss.filter fun u=>!(pt (tlN qs r) u).isSome&&(S'.rows u).isSome)=(sgl ss (tlN qs r)).filter fun u=>(S'.rows u).isSome:=by
  rw[<- sn];unfold snL;rw[List.filter_filter];show Xv fun s _=>Bool.and_comm _ _
 have h1:=yE (fun u=>(S'.rows u).isSome) (sgl ss (tlN qs r));have C:=o.length_eq;have f:a∈sgl ss qs:=yp.mpr ⟨(b.inn (W:=(⟨F.gr,F.inn,g.nd,d,F.nd⟩:Wb (tA tps) ss qs)) c).2 a (ye e),by rw[b.hd a e];rfl⟩
 have G:((sgl ss qs).filter fun n=>!decide (n=a)).length+1<=(sgl ss qs).length:=by
  have:=List.length_filter_lt_length_iff_exists (p:=fun n=>!decide (n=a)) (l:=sgl ss qs) |>.mpr ⟨a,f,by simp⟩;lk
 rw[yt,Yt] at C;rw[t] at i;have v:((sgl ss (tlN qs r)).filter fun u=>(S'.rows u).isSome).length=(sgl ss (tlN qs r)).length:=by lk
 have D:z∈sgl ss (tlN qs r):=o.mem_iff.mpr (yH _ (yA.mpr rfl));show isS.mp (List.length_filter_eq_length_iff.mp v z D)
theorem PGo.tail(g:PGo ss tps qs):PGo ss tps (qs.drop 1):=by
 cases qs with
 | nil=>show g
 | cons q r=>show⟨fun x a=>g.inn x (yJ _ a),(yo.mp (yo.mp (show(q.1::q.2::qj r).Nodup from g.nd)).2).2,Nat.le_of_succ_le g.few⟩
theorem All2.drop1{R:α->β->Prop}{l:List α}{m:List β}(h:All2 R l m):All2 R (l.drop 1) (m.drop 1):=
 ⟨by rw[Xb,Xb,h.len],fun k a b c hb=>h.at_ (1+k) a b (by rwa[List.getElem?_drop] at c) (by rwa[List.getElem?_drop] at hb)⟩
theorem box_refs{x y z:Int}(e:[V.int x,.int y,.int z]=us.map V.ref):False:=by cases us<;>cases e
inductive Sg(a:Addr)(σ:L2.St):Prop|mk (y1 y2 y3 y4 y5 y6 y7 y8 y9 y10 y11:Option V) (_:σ=[some (.ref a),y1,y2,y3,y4,y5,y6,y7,y8,y9,y10,y11])
structure LwS(p cw:Addr)(H:Hp)(y n l u:Addr)(ss:LS)(ns:LN)(ts us:LQ)(tps qs:LP):Prop where
 b:Box H p
 w:Wq p cw H y ss ns tps
 n:NL p H n ss
 l:TL p H l ts tps
 u:TL p H u us qs
theorem LwS.same{y u:Addr}(h:LwS p cw H y n l u ss ns ts us tps qs)(s:L2.Same H H'):LwS p cw H' y n l u ss ns ts us tps qs:=⟨h.b.same s,h.w.same s,h.n.same s,h.l.same s,h.u.same s⟩
theorem LwS.bb{y u:Addr}(h:LwS p cw H y n l u ss ns ts us tps qs)(b:BB p H H'):LwS p cw H' y n l u ss ns ts us tps qs:=⟨b.2,h.w.bb b,h.n.bb b,h.l.bb b,h.u.bb b⟩
inductive T106(cc:Nat->Addr)(cw a:Addr)(D:Ends)(σ:L2.St)(J:Hp):Prop|mk (H1:Hp) (p y n l u:Addr) (fo:Fo) (ss:LS) (ns:LN) (ts us:LQ) (tps qs ups:LP) (S:FS) (y1 y7 y8 y10 y11:Option V) (_:(∀ σ' J',L2.Same H1 J'->Sg a σ'->D.nx σ' J')) (_:σ=[some (.ref a),y1,some (.ref p),some (.ref n),some (.ref l),some (.ref y),some (.ref u),y7,y8,some (.ref fo.x),y10,y11]) (_:H1 p=none) (_:L2.Same H1 J) (_:LwS p cw J y n l u ss ns ts us tps qs) (_:PGo ss tps qs) (_:MxF ss tps qs) (_:FoP p (cc 9) cw J fo ss ns ups S .non (tA tps)) (_:Fn (tA tps) (pt qs) S ss)
theorem wmake{m y:Addr}{Q:VK}(F:G m=some (.lst (ss.map V.str)))(g:ss.length<=14)(nd:ss.Nodup)(H:∀ s∈ss,jW s=true)(C:PL G l us kps)(j:TGo ss kps)(p:G y=none)(D:G dx=none)(i:dx≠y)
  (h:∀ ns H2,L2.Same G H2->WebN G cw H2 y ss ns->Wt cw H2 y ss ns kps->Q .non H2):spWeb cw [.ref y,.ref m,.ref l] (upd (upd G dx (.own y)) y (.ins cw dx [])) Q E:=by
 have f:=qC (qC (Sr G) (o:=.own y) D) (o:=.ins cw dx []) (show upd G dx (.own y) y=none by rw[qf (Yh i)];show p);show⟨y,dx,m,l,ss,us,kps,rfl,qb,f _ _ F,g,nd,H,C.same f,j,fun ns H' b B A=>?_⟩
 have a:WebN G cw H' y ss ns:=by
  obtain⟨I,d,ol,n,h1,q,r,t,u,v,w,x⟩:=B
  have k:∀ c,upd (upd G dx (.own y)) y (.ins cw dx []) c=none->G c=none:=fun c z=>by
   cases e:G c with
   | none=>rfl
   | some o=>rw[f _ _ e] at z;cases z
  show⟨I,d,ol,n,h1,q,r,t,u,k _ v,k _ w,k _ x⟩
 show h ns H' (fun c o e=>b c o (fun z=>by rw[z,p] at e;cases e) (f _ _ e)) a (wt_new a A j)
theorem ok_law32(F:Fun K "law" "law" qcH f fd)(T:Txt K mg cc cw)(Ux:DefOk P w K mg base CX0 1 "_law_cell" ["_law_script","_law_k"] (spCell K))(Uy:DefOk P w K mg base CX0 1 "_law_box" ["_law_cell_here"] spBox)(Up:DefOk P w K mg base CX0 3 "_law_drawn" ["_law_box_here","_law_most"] spDrawn)(Ki:DefOk P w K mg base CX0 1 "_law_take" ["_law_box_here","_law_many"] spTake)(Uz:MakeOk P w K mg base CX0 5 cw "Web" ["self","names","ties"] (spWeb cw))(Ug:DefOk P w K mg base CX0 14 "greatest" ["web"] (spGr cw))(ub:DefOk P w K mg base CX0 2 "_law_shuffled" ["_law_box_here","_law_ties_here"] spShuf)(KE:MakeOk P w K mg base CX0 10 (cc 9) "Forest" ["self","web","pairs"] (spFi cc cw))(Kw:MethOk P w K mg base CX0 1 (cc 9) "row" ["self"] (spFr cc cw))(Kk:MethOk P w K mg base CX0 5 (cc 9) "row_to" ["self","place"] (spRo cc cw))(KA:MethOk P w K mg base CX0 2 (cc 9) "reached" ["self"] (spFd2 cc cw))(uM:DefOk P w K mg base CX0 3 "_law_led" ["_law_names_here","_law_ties_here","_law_pairs","_law_row","_law_place"] spLd)(Uq:DefOk P w K mg base CX0 7 "_law_right" ["_law_forest","_law_names_here","_law_ties_here","_law_pairs","_law_box_here"] (spRW cc cw))(KW:DefOk P w K mg base CX0 6 "_law_refused" ["_law_forest","_law_thing"] (spRf cc cw))(uN:DefOk P w K mg base CX0 2 "_law_odd" ["_law_box_here"] spOddG):FnOk P w K mg base CX0 15 f fd ["_law_script"] (spLaw K):=by
 show F.ok Kx fun _ _ _ _ H vs Q E I h=>?_
 .obtain⟨a,zs,rfl,ha,hl,q⟩:=h;have hu:=jQ I;obtain⟨TC106,av⟩:∃ t:TS,t=T106 cc cw a:=⟨_,rfl⟩;show⟨_,(qc (jz yV rfl (jJ rfl T.b_range (qa (qp (call_max2 rfl) rfl T.b_max boot_max (qa qi (qa (qp (call_min2 rfl) rfl T.b_min boot_min (qa qi (qa (qp (j9 (K:=K) rfl) rfl T.b_len YQ (qa (pv 0) qd)) qd))) qd))) qd)) (qt (i:=1) Kx.nd rfl (yP rfl))
 (qc (qq (i:=2) Kx.nd rfl (yP rfl) (qr Uy (hmR I) qz (qa (qr Ux (hmR I) qz (qa (pv 0) (qa (pv 1) qd))) qd)))
 (qc (zg (qr Up (hmR I) qz (qa (pv 2) (qa (qw (qx (K:=K) rfl hu) (qM (qa qi (qa qi qd))) (zF call_int1 rfl T.b_int boot_int (qa (qS (zl (K:=K) rfl hu) (pv 1) qi (qu _)) qd)) (fun _ _=>rfl)) qd))) (qdL rfl (qan (qt (i:=3) Kx.nd rfl (yP rfl)) (qan (qt (i:=4) Kx.nd rfl (yP rfl)) qcJ))))
 (qc (qq (i:=5) Kx.nd rfl (yP rfl) (zt Uz (hmR I) (qa (pv 3) (qa (pv 4) qd))))
 (qc (qq (i:=6) Kx.nd rfl (yP rfl) (qr Ug (hmR I) qz (qa (pv 5) qd)))
 (qc (jz yV rfl (qK (K:=K) rfl (jx (qdF (K:=K) rfl) (pv 3) jS (jo qi))) (qt (i:=7) Kx.nd rfl (yP rfl))
 (qc (qq (i:=8) Kx.nd rfl (yP rfl) (qB Kk (hmR I) (zt KE (hmR I) (qa (pv 5) (qa (pv 6) qd))) (qa (pv 7) qd)))
 (qc (qH (qk (zl (K:=K) rfl hu) (qS qff (pv 8) qY (qu _)) (qS (zT (K:=K) rfl hu) (pv 7) (ji KA (hmR I) (zt KE (hmR I) (qa (pv 5) (qa (pv 6) qd)))) (by with_unfolding_all rfl)) (qu _)) (qe (qm jq)) qo)
 (qe (qH (PW.pt (qaJ (qk jR (pv 8) qY (qu _)) (zL (qT (qP (qr uM (hmR I) qz (qa (pv 3) (qa (pv 4) (qa (pv 6) (qa (pv 8) (qa (pv 7) qd))))))))))) (qe (qm jq)) qo)))))
 (qc (qH (qk (zl (K:=K) rfl hu) (qr Ki (hmR I) qz (qa (pv 2) (qa qi qd))) qi (qu _)) (qe (qq (i:=9) Kx.nd rfl (yP rfl) (zt KE (hmR I) (qa (pv 5) (qa (qr ub (hmR I) qz (qa (pv 2) (qa (pv 6) qd))) qd))))) (qe (qq (i:=9) Kx.nd rfl (yP rfl) (zt KE (hmR I) (qa (pv 5) (qa (pv 6) qd))))))
 (pss_cut TC106 (qe (jz yV rfl (jJ rfl T.b_range (qa qi qd)) (qt (i:=10) Kx.nd rfl (yP rfl))
 (qc (qH (qT (qP (qr Uq (hmR I) qz (qa (pv 9) (qa (pv 3) (qa (pv 4) (qa (pv 6) (qa (pv 2) qd)))))))) (qe (qm jq)) qo)
 (qe (qH (PW.pt (qaJ (qk (zS (K:=K) rfl hu) (pv 6) (qM qd) (qu _)) (zL (qk (zl (K:=K) rfl hu) (pv 10) qi (qu _))))) (qc (qq (i:=11) Kx.nd rfl (XB rfl) (zt KE (hmR I) (qa (pv 5) (qa (jx (qdF (K:=K) rfl) (pv 6) (jo qi) jS) qd))))
 (qc (qH (qT (qP (qr KW (hmR I) qz (qa (pv 11) (qa (qr uN (hmR I) qz (qa (pv 2) qd)) qd))))) (qe (qm jq)) qo)
 (qc (qH (qk (zS (K:=K) rfl hu) (jh (sc:=qg qcH) (XN:=["_law_script","_law_k","_law_box_here","_law_names_here","_law_ties_here","_law_web","_law_pairs","_law_name","_law_row","_law_forest","_law_turn","_law_fewer"]) ["_law_name","_law_fewer"] 1 [11] rfl rfl rfl (by room) rfl (by room)
  (qK (K:=K) rfl (pv 3)) (fun _ _ _ _=>(qt (i:=0) (show(["_law_name","_law_fewer"]:LS).Nodup by room) rfl (yP rfl))) qN
  (fun _ _ _ _=>(qW (qk jR (qB Kk (hmR I) (pv 1) (qa (pv 0) qd)) qY (qu _))))
  (fun _ _ _ _=>(pv 0))) (qM qd) (qu _)) (qe (qm jq)) qo)
 (qe (qH (PW.pt (qad (qk qff (ji Kw (hmR I) (pv 11)) qY (qu _)) (zm (qk jR (ji KA (hmR I) (pv 11)) qY (qu _))))) (qe (qm jq)) qo))))) qo))))) ?cut106))))))))
 (qe (qm jq))),?_⟩
  case cut106 =>
   intro D σ J hh;rw[av] at hh;obtain⟨H1,p,y,n,l,u,fo,ss,ns,ts,us,tps,qs,ups,S,y1,y7,y8,al,am,hD,rfl,ck,sJ,hL,A,hM,bw,L⟩:=hh;have ah:=hL.w.wt.wok;have few:=ah.few;have ag:=hL.w.wt.wb A;apply⟨2,rfl,by decide,by decide,zB (fun i σ J'=>BB p J J'/\∃ al am:Option V,σ=[some (.ref a),y1,some (.ref p),some (.ref n),some (.ref l),some (.ref y),some (.ref u),y7,y8,some (.ref fo.x),al,am]) ⟨BB.refl hL.b,_,_,rfl⟩ (fun i σ J1 hi O=>?_) fun σ J1 O=>?_⟩
   .obtain⟨b1,al,am,rfl⟩:=O;have s:=hL.bb b1;have ae:=bw.bb hL.b b1;apply⟨p,n,l,u,fo,ss,ns,ts,us,tps,qs,ups,S,rfl,s.b,⟨ae,s.n,s.l,s.u⟩,ah.nd,few,A,L,fun J2 c2=>?_⟩;show⟨_,rfl,qF (fun h=>by cases h) fun _=>?_⟩;have b2:=b1.trans c2;have B:=s.bb c2;apply⟨by decide,fun z hz=>?_⟩;have s3:=qC (Sr J2) (o:=.lst []) hz;have ez:upd J2 z (.lst []) z=some (.lst []):=qb;generalize upd J2 z (.lst [])=J3 at s3 ez;have M:=B.same s3;have b3:=b2.same s3;show qbR M.u.1 ez ?_;show⟨_,rfl,?_⟩;have cl:=M.u.2.2.len
    cases us with
    | nil =>
     show qF (fun h=>by cases h) fun _=>qF (fun h=>by cases h) fun _=>?_;show⟨b3,_,_,rfl⟩
    | cons u0 ur =>
    show jU ?_;rw[yw] at cl;apply qdH ?_;show⟨_,rfl,qF (fun h=>?_) fun h=>?_⟩
    .ext;show .inl ⟨u,_,rfl,SqL.of M.u.1,fun c hc=>?_⟩;rw[show(1:Int)=((1:Nat):Int) from rfl,qbx,<- List.map_drop];have s4:=qC (Sr J3) (o:=.lst (((u0::ur).drop 1).map V.ref)) hc;have bf:PL (upd J3 c (.lst (((u0::ur).drop 1).map V.ref))) c ((u0::ur).drop 1) (qs.drop 1):=⟨qb,(M.u.pl.same s4).2.drop1⟩;generalize upd J3 c (.lst (((u0::ur).drop 1).map V.ref))=J4 at s4 bf;have ai:=M.same s4;have b4:=b3.same s4;apply fun x2 ap X C G=>qcG ai.b ai.w bf A.tail X C G fun J5 f2 S2 Z bu be s5=>⟨rfl,?_⟩;subst bu
     have aw:Z≠.non:=fun e=>by
      subst e;obtain⟨⟨H0,dn,wt,D2,_⟩,_⟩:=id be;have:=mx_len ah.nd A.tail A ⟨S2,qfa D2 (ai.w.wt.wb A.tail)⟩ hM;rw[Xb] at this;lk
     have b5:=b4.same s5;have au:=ai.same s5;apply⟨p,rfl,au.b,fun v J6 c6 hv bn=>?_⟩;have bv:=be.bb au.b c6;have b6:=b5.trans c6;have bx:=au.bb c6;obtain⟨⟨H0,dn,wt,D6,_⟩,_⟩:=id bv;apply⟨H0,f2,ss,ns,qs.drop 1,S2,dn,wt,Z,tA tps,v,rfl,D6,hv,(fun y e1 e2=>?_),fun J7 s7=>?_⟩
     .subst e1;rw[show qcY (.str y)=jW y from rfl,e2] at bn;cases bn
     show⟨_,rfl,qF (fun h=>by cases h) fun _=>?_⟩;have D7:=D6.same s7;have af:=bx.same s7;have b7:=b6.same s7;apply .inl ⟨⟨_,SqL.of af.n.1⟩,qG (K:=K) (fun j ys H'=>L2.Same J7 H'/\ys=[]) ⟨L2.Same.refl J7,rfl⟩ (fun j ys H' _ O=>SqL.of (O.1 _ _ af.n.1)) (fun j y ys J8 hy O=>?_) fun ys J8 O=>?_⟩
     .obtain⟨s8,rfl⟩:=O;obtain⟨o,gj,rfl⟩:=jc hy;apply(D7.same s8).fo.obj.me (by decide) ?_;apply⟨H0,f2,ss,ns,qs.drop 1,S2,dn,wt,Z,tA tps,o,rfl,D7.same s8,ye gj,fun _ J9 s9=>?_,fun r e=>by rw[show rtN S2 Z o=none from yF aw] at e;cases e⟩;apply⟨rfl,⟨_,rfl,qF (fun h=>by cases h) fun _=>?_⟩⟩;show⟨s8.trans s9,rfl⟩
     .obtain⟨s8,rfl⟩:=O;show⟨xv _,fun d hd=>?_⟩;have s9:=qC s8 (o:=.lst []) hd;have ed:upd J8 d (.lst []) d=some (.lst []):=qb;generalize upd J8 d (.lst [])=J9 at s9 ed;apply⟨by decide,fun e he=>?_⟩;have ay:=qC s9 (o:=.lst []) he;have ao:=qC (Sr J9) (o:=.lst []) he;have ee:upd J9 e (.lst []) e=some (.lst []):=qb;generalize upd J9 e (.lst [])=J10 at ay ao ee;show qbR (ao _ _ ed) ee ?_;show⟨_,rfl,qF (fun h=>by cases h) fun _=>?_⟩;have D10:=D7.same ay;have br:=b7.same ay;apply D10.fo.obj.me (by decide) ?_;apply⟨H0,f2,ss,ns,qs.drop 1,S2,dn,wt,Z,tA tps,rfl,D10,(fun e=>absurd e aw),fun t r cr et hA g hg=>?_⟩;have az:=qC (Sr J10) (o:=.lst (r.map V.str)) hg;generalize upd J10 g (.lst (r.map V.str))=J11 at az;have D11:=D10.same az;apply⟨_,rfl,qF (fun h=>by cases h) fun _=>?_⟩;apply D11.fo.obj.me (by decide) ?_;apply⟨H0,f2,ss,ns,qs.drop 1,S2,dn,wt,Z,tA tps,rfl,D11,few,(fun _=>?_),fun e=>absurd e aw⟩;apply⟨rfl,⟨_,rfl,qF (fun h=>by cases h) fun _=>?_⟩⟩;show⟨br.same az,_,_,rfl⟩
    .show⟨b3,_,_,rfl⟩
   .obtain⟨b1,al,am,rfl⟩:=O;show hD _ _ (BB.out sJ ck b1) ⟨_,_,_,_,_,_,_,_,_,_,_,rfl⟩
  apply qeC ha ?_;apply⟨_,_,rfl,?_⟩;apply⟨_,_,rfl,?_⟩;ext;rw[ya];show⟨_,rfl,by split<;>split<;>lk,by split<;>split<;>lk,?_⟩;generalize hN:(Int.toNat _)=N;have cs:N<=63:=by rw[<- hN];split<;>split<;>lk
  clear hN;show zB (fun i σ H'=>L2.Same H H'/\Sg a σ) ⟨L2.Same.refl H,none,none,none,none,none,none,none,none,none,none,none,rfl⟩ (fun i σ H1 hi O=>?_) fun σ H1 O=>?_
  .obtain⟨s1,⟨x1,x2,x3,x4,x5,x6,x7,x8,x9,aa,ac,rfl⟩⟩:=O;apply⟨a,zs,_,rfl,s1.seq ha,by lk,by lk,fun c=>?_⟩;apply⟨c,rfl,fun p u1 u2 u3 bo=>?_⟩;have s2:=qC s1 (o:=.lst [.int u1,.int u2,.int u3]) bo;have hB:Box (upd H1 p (.lst [.int u1,.int u2,.int u3])) p:=⟨u1,u2,u3,qb⟩;have aj:H p=none:=s1.free bo;generalize upd H1 p (.lst [.int u1,.int u2,.int u3])=H2 at s2 hB;apply vAsgT ?_;apply⟨by show 2<=sizeLine;decide,fun m hm=>?_⟩;have b3:=(BB.refl hB).new (o:=.lst [.int 7,.int 14]) hm;have em:upd H2 m (.lst [.int 7,.int 14]) m=some (.lst [.int 7,.int 14]):=qb;generalize upd H2 m (.lst [.int 7,.int 14])=H3 at b3 em ⊢;apply .inl (.inl (.inl ⟨rfl,rfl,?_⟩));apply .inr ⟨_,rfl,?_⟩
   obtain⟨mo,cn,co,bq⟩:=(show ∀ bb:Bool,∃ mo:Int,atI [V.int 7,V.int 14] (if bb=true then 1 else 0)=some (.int mo)/\0<=mo/\mo<=14 from fun bb=>by
    cases bb
    .show⟨7,rfl,by decide,by decide⟩
    .show⟨14,rfl,by decide,by decide⟩) _
   show .inl (qag em cn ?_);apply⟨p,mo,rfl,co,bq,b3.2,fun t n l ss ts tps H4 bd ht cv hn hO cu hT cd=>?_⟩;show⟨t,_,rfl,SqT.of ht,rfl,_,_,rfl,_,_,rfl,rfl,?_⟩;have b4:=b3.trans bd;have hg:TGo ss tps:=tok_go hO.nd cd;have few:=hO.few;apply fun y dx hy ci cj=>wmake hn.1 hO.few hO.nd hO.nm hT.pl hg hy ci cj fun ns H5 s5 wn W5=>⟨rfl,?_⟩;have Wq5:Wq p cw H5 y ss ns tps:=⟨wn.apart (b4.apart hy) (fun z e e0=>by subst e;obtain⟨_,_,_,q9⟩:=b4.2;rw[q9] at e0;cases e0),W5.adj,hg.inn⟩;have b5:=b4.same s5;apply⟨y,ss,ns,tps,rfl,W5,fun u us qs H6 s6 hP A hM=>?_⟩;have b6:=b5.same s6;have ba:=s5.trans s6;have bj:=hn.same ba;have ca:=hT.same ba;have ce:TL p H6 u us qs:=⟨hP.1,(fun e=>by obtain⟨_,_,_,q9⟩:=b6.2;have q8:=hP.1;rw[e,q9] at q8;show box_refs (HO.lst.inj (ym q8))),hP.2.mono fun t' ab z=>⟨(fun e=>by obtain⟨_,_,_,q9⟩:=b6.2;rw[e,q9] at z;cases z),z⟩⟩;have Wq6:=Wq5.same s6;have ag:=Wq6.wt.wb A;clear W5 wn Wq5 hn hT s5 s6 ba b5 b4 bd hP;apply .inl ⟨n,_,rfl,SqL.of bj.1,fun c2 ch=>?_⟩;rw[show(2:Int)=((2:Nat):Int) from rfl,qaR,<- List.map_take];have s7:=qC (Sr H6) (o:=.lst ((ss.take 2).map V.str)) ch;have aq:upd H6 c2 (.lst ((ss.take 2).map V.str)) c2=some (.lst ((ss.take 2).map V.str)):=qb;generalize upd H6 c2 (.lst ((ss.take 2).map V.str))=H7 at s7 aq;have af:LwS p cw H7 y n l u ss ns ts us tps qs:=(LwS.mk b6.2 Wq6 bj ca ce).same s7;have b7:=b6.same s7;show .inl ⟨⟨_,SqL.of aq⟩,jd (K:=K) (fun j σ J=>L2.Same H7 J/\∃ x7 x8 x9 aa ac,σ=[some (.ref a),some (.int (0+(i:Int))),some (.ref p),some (.ref n),some (.ref l),some (.ref y),some (.ref u),x7,x8,x9,aa,ac]) ⟨L2.Same.refl _,_,_,_,_,_,rfl⟩ (fun j σ J _ O=>SqL.of (O.1 _ _ aq)) (fun j v σ J hv O=>?_) fun σ J O=>?_⟩
   .obtain⟨sJ,x7,x8,x9,aa,ac,rfl⟩:=O;obtain⟨z,gz,rfl⟩:=jc hv;have ak:z∈ss:=List.mem_of_mem_take (ye gz);have U:=af.same sJ;apply fun x2 ap X C G=>qcG U.b U.w U.u.pl A X C G fun J1 f1 S1 cx bt ae j1=>⟨rfl,?_⟩;subst bt;obtain⟨rfl,L⟩:=ae.fin ag A hM;show ae.me (by decide) ?_;apply frt ae ak fun v2 J2 j2 rv=>?_;have bc:=j1.trans j2;have B:=U.same bc;ext
    have rc:∀(bb:Bool) (Q':VK),(bb=(S1.rows z).isNone)->(∀ J',L2.Same J2 J'->Q' (.bl false) J')->tOp (qeg K false) (qfc 7) (qdA (cc 9) "reached" (spFd2 cc cw) [] E0 (qek (cc 9) (spFi cc cw) [] E0 (qaa (qfc 5) (qaa (qfc 6) qef))) qef) [some (.ref a),some (.int (0+(i:Int))),some (.ref p),some (.ref n),some (.ref l),some (.ref y),some (.ref u),some (.str z),some v2,x9,aa,ac] J2 (fun y_1 H2=>qfg K (.bl bb) y_1 H2 Q'):=fun bb Q' cg hQ=>by
     apply fun x3 cq cm bh bm=>qcG B.b B.w B.u.pl A cm bh bm fun J3 f3 S3 bp ad R Y=>⟨rfl,?_⟩;subst ad;obtain⟨rfl,an⟩:=R.fin ag A hM;obtain⟨⟨H0,dn,wt,D3,_⟩,_⟩:=id R;show D3.fo.obj.me (by decide) ?_;apply⟨H0,f3,ss,ns,qs,S3,dn,wt,_,tA tps,rfl,D3,few,(fun z=>absurd rfl z),fun _ x J4 j4 _ ax=>?_⟩;have ax:J4 x=some (.lst ((rdN ss S3).map V.str)):=ax;show .inl ⟨x,_,rfl,.inl (SqL.of ax),rfl,jN (rdN ss S3),?_⟩;rw[zA]
     have e1:decide (z∈rdN ss S3)=(S1.rows z).isSome:=by
      rw[xk,Yg,mem_rd,isS];show⟨fun y=>qed A few an L y.2,fun y=>⟨ak,qed A few L an y⟩⟩
     rw[e1,cg];show .inl (.inl (.inl ⟨rfl,rfl,?_⟩));have:=hQ J4 (Y.trans j4);cases S1.rows z<;>show this
    rcases rv with⟨er,rfl⟩ | ⟨k,r,er,rfl,ct,ek⟩
    .show rc true _ (by rw[er];rfl) fun J3 Y=>?_;show⟨_,rfl,qF (fun h=>by cases h) fun _=>?_⟩;apply⟨rfl,⟨_,rfl,qF (fun h=>by cases h) fun _=>qF (fun h=>by cases h) fun _=>?_⟩⟩;show⟨(sJ.trans bc).trans Y,_,_,_,_,_,rfl⟩
    .show rc false _ (by rw[er];rfl) fun J3 Y=>?_;show⟨_,rfl,qF (fun h=>by cases h) fun _=>?_⟩;have M:=B.same Y;have bg:=L.fi.alt z r er;have bi:=(bg.inn (W:=ag) ak).1;apply⟨rfl,⟨_,rfl,jU ?_⟩⟩;apply⟨n,l,u,k,ss,ts,us,tps,qs,r,z,rfl,M.n.1,few,M.l.pl,M.u.pl,A.few,Y _ _ ek,bg.ld A hO.nd ak bi,fun J4 j4=>?_⟩;show⟨_,rfl,qF (fun h=>by cases h) fun _=>?_⟩;show⟨((sJ.trans bc).trans Y).trans j4,_,_,_,_,_,rfl⟩
   .obtain⟨sJ,x7,x8,x9,aa,ac,rfl⟩:=O;have U:=af.same sJ;have bJ:=b7.same sJ;apply⟨p,2,rfl,U.b,by decide,by decide,fun m2 J1 m0 cy c1=>?_⟩;have s:=U.bb c1;have b8:=bJ.trans c1;apply qdH ?_;show⟨_,rfl,qF (fun h=>?_) fun h=>?_⟩
    .ext;show⟨p,u,us,qs,rfl,s.b,s.u,A.few,fun l9 cz ups J2 c2 _ cb sh=>?_⟩;have B:=s.bb c2;have b9:=b8.trans c2;have ar:=sh.pgo A;have bz:MxF ss tps ups:=by unfold MxF;rw[sh.pt A];show hM
     apply fun x2 ap X C G=>qcG B.b B.w cb.pl ar X C G fun J3 f3 S3 bp ad R Y=>⟨rfl,?_⟩;subst ad;obtain⟨rfl,L⟩:=R.fin (B.w.wt.wb ar) ar bz;rw[sh.pt A] at L;rw[av];show⟨H,p,y,n,l,u,f3,ss,ns,ts,us,tps,qs,ups,S3,_,_,_,_,_,(fun cp J' s' e'=>⟨s',e'⟩),rfl,aj,BB.out s2 aj (b9.same Y),B.same Y,A,hM,R,L⟩
    .ext;show fun x2 ap X C G=>qcG s.b s.w s.u.pl A X C G fun J3 f3 S3 bp ad R Y=>⟨rfl,?_⟩;subst ad;obtain⟨rfl,L⟩:=R.fin ag A hM;rw[av];show⟨H,p,y,n,l,u,f3,ss,ns,ts,us,tps,qs,qs,S3,_,_,_,_,_,(fun cp J' s' e'=>⟨s',e'⟩),rfl,aj,BB.out s2 aj (b8.same Y),s.same Y,A,hM,R,L⟩
  .obtain⟨s1,⟨x1,x2,x3,x4,x5,x6,x7,x8,x9,aa,ac,rfl⟩⟩:=O;apply q H1
end
theorem all_mk{l:W.OpenLaw}{w:World}{h:Heap}{r:Str->Option Value}{fa f d p c:Addr}{u x y:Tok}(X:K.In h)(G:h.Ns mainGlobals r)(M:r "law"=some (.ref fa))
  (C0_:W.nsIn K mainGlobals "NoPlace"=some (some (.ref p)))
  (C1_:W.nsIn K mainGlobals "OnceError"=some (some (.ref c)))
  (Cw_:W.nsIn K mainGlobals "Web"=some (some (.ref f)))
  (Cf_:W.nsIn K mainGlobals "Forest"=some (some (.ref d)))
  (vF:FG K "are_pairs" zV)
  (vb:FG K "partners_in" zd)
  (vp:FG K "told_pairs" j8)
  (VA:FG K "is_row" qbi)
  (UJ:FG K "are_unlike_places" jl)
  (U1:FG K "goes_by_turns" qV)
  (vQ:FG K "can_turn" qaz)
  (VB:FG K "turned" qaY)
  (vR:FG K "greatest" qaA)
  (U2:FG K "greatest_from" jP)
  (Vf:FG K "is_name" zi)
  (Vg:FG K "has_bit" qaS)
  (vS:FG K "is_place" zG)
  (UT:FG K "are_two_places" jF)
  (vq:FG K "numbers_of" zu)
  (Vh:FG K "near_of" qaU)
  (VC:FG K "_law_cell" qbf)
  (wP:FG K "_law_box" qb5)
  (VD:FG K "_law_take" qbg)
  (Vi:FG K "_law_names" zI)
  (VE:FG K "_law_ties" qbh)
  (Vj:FG K "_law_drawn" qaX)
  (vv:FG K "_law_shuffled" ju)
  (Vk:FG K "_law_fresh" qai)
  (wQ:FG K "_law_odd" qbC)
  (vG:FG K "_law_partner" zW)
  (vH:FG K "_law_singles" zk)
  (VF:FG K "_law_tied" qbk)
  (vT:FG K "_law_pieces" zJ)
  (VG:FG K "_law_odds" qaB)
  (vV:FG K "_law_is_row" qaC)
  (vW:FG K "_law_turned" jZ)
  (Vl:FG K "_law_shown" zK)
  (wR:FG K "_law_led" qbG)
  (vJ:FG K "_law_refused" zY)
  (Vm:FG K "_law_right" qam)
  (wY:FG K "law" qcH)
  (Wp:FM K p "__init__" "NoPlace.__init__" j6)
  (Wr:FC K c "__init__" "OnceError.__init__" jE)
  (Ws:FM K f "__init__" "Web.__init__" qau)
  (vX:FM K f "places" "Web.places" zv)
  (VH:FM K f "ties" "Web.ties" qax)
  (vc:FM K f "has_place" "Web.has_place" jr)
  (vK:FM K f "has_tie" "Web.has_tie" zc)
  (vd:FM K f "number_of" "Web.number_of" jt)
  (vY:FM K f "beside" "Web.beside" zw)
  (U3:FM K f "bits_beside" "Web.bits_beside" jy)
  (VI:FM K f "tied" "Web.tied" qav)
  (vw:FM K f "names_in" "Web.names_in" jD)
  (ve:FM K d "__init__" "Forest.__init__" zf)
  (VJ:FM K d "row" "Forest.row" zx)
  (vx:FM K d "reached" "Forest.reached" jm)
  (vL:FM K d "row_to" "Forest.row_to" jw)
  (Vn:FM K d "grow" "Forest.grow" ze)
  (vZ:FM K d "reach" "Forest.reach" j7)
  (UU:FM K d "look_around" "Forest.look_around" jg)
  (UK:FM K d "bring_together" "Forest.bring_together" qL)
  (UF:FM K d "bases_down_from" "Forest.bases_down_from" qQ)
  (UV:FM K d "reach_round" "Forest.reach_round" jf)
  (Vo:FM K d "fold" "Forest.fold" jO)
  (X0:XL K p (.ref c::qcQ))
  (q0:XQ K p)
  (X1:XL K c qcQ)
  (q1:XQ K c)
  (y0:W.findIn K (.ref p) "found"=some none)
  (P:W.mroIn K p (.ref c)=some true)
  (nd:([p]++[c]).Nodup)
  (r1:W.readsIn K c (.type "type")=true)
  (r3:W.specialIn K (.ref c) "__getattribute__"=some (some (.builtin "type.__getattribute__")))
  (v1:W.findIn K (.type "type") "__getattribute__"=some (some (.builtin "type.__getattribute__")))
  (v3:W.subIn K (.type "type") (.type "type")=some true)
  (v4:W.findCls K (.type "ValueError") (.type "type") "__init__"=some (.val (.builtin "ValueError.__init__")))
  (w1:W.plainGet K f Str.empty=true)
  (w2:W.hasDictIn K f=true)
  (w3:W.plainOver K f=true)
  (w4:W.findIn K (.ref f) "__setattr__"=some (some (.builtin "object.__setattr__")))
  (w5:W.makesIn K f=true)
  (w6:W.keepIn K (.ref f)=true)
  (w7:W.findIn K (.ref f) "numbers"=some none)
  (w8:W.findIn K (.ref f) "order"=some none)
  (w9:W.findIn K (.ref f) "near"=some none)
  (z:W.specialIn K (.builtin "object.__class__") "__get__"=some (some (.builtin "getset_descriptor.__get__")))
  (A:W.takesIn K (.builtin "object.__class__")=some true)
  (S:W.plainGet K d Str.empty=true)
  (U:W.hasDictIn K d=true)
  (Y:W.plainOver K d=true)
  (Z:W.findIn K (.ref d) "__setattr__"=some (some (.builtin "object.__setattr__")))
  (aa:W.makesIn K d=true)
  (ac:W.keepIn K (.ref d)=true)
  (aj:W.findIn K (.ref d) "board"=some none)
  (ak:W.findIn K (.ref d) "partners"=some none)
  (al:W.findIn K (.ref d) "rows"=some none)
  (am:W.findIn K (.ref d) "parents"=some none)
  (ao:W.findIn K (.ref d) "bases"=some none)
  (ap:W.findIn K (.ref d) "rings"=some none)
  (aq:W.findIn K (.ref d) "waiting"=some none)
  (ar:W.findIn K (.ref d) "longer"=some none)
  (ag:W.nsIn K mainGlobals "zip"=some none)
  (B:W.nsIn K mainGlobals "sorted"=some none)
  (z0:W.nsIn K mainGlobals "len"=some none)
  (z1:W.nsIn K mainGlobals "int"=some none)
  (z2:W.nsIn K mainGlobals "enumerate"=some none)
  (z3:W.nsIn K mainGlobals "all"=some none)
  (z4:W.nsIn K mainGlobals "max"=some none)
  (z5:W.nsIn K mainGlobals "min"=some none)
  (z6:W.nsIn K mainGlobals "isinstance"=some none)
  (z7:W.nsIn K mainGlobals "bool"=some none)
  (z8:W.nsIn K mainGlobals "str"=some none)
  (z9:W.nsIn K mainGlobals "range"=some none)
  (ad:W.nsIn K mainGlobals "list"=some none)
  (ae:W.nsIn K mainGlobals "tuple"=some none)
  (af:W.nsIn K mainGlobals "ValueError"=some none)
  (u0:W.nsIn K mainGlobals "LONGEST_NAME"=some (some (.int 6 u)))
  (u1:W.nsIn K mainGlobals "MOST_PLACES"=some (some (.int 14 x)))
  (u2:W.nsIn K mainGlobals "MOST_TIES"=some (some (.int 30 y))) :
  ∃ fd:FuncData,(∀(s:Shared) (v:Value),BindsTo s fd ⟨[v],[]⟩ [("_law_script",v)])/\∀ base:Heap,K.In base->base.Ns mainGlobals r->FnOk l.prog w K r base CX0 15 fa fd ["_law_script"] (spLaw K):=by
 obtain⟨_,_,vM,VU⟩:=vF;obtain⟨_,_,vf,VV⟩:=vb;obtain⟨_,_,vy,VW⟩:=vp;obtain⟨_,_,VL,VX⟩:=VA;obtain⟨_,_,UL,VY⟩:=UJ;obtain⟨_,_,U4,VZ⟩:=U1;obtain⟨_,_,v8,V0⟩:=vQ;obtain⟨_,_,VM,V1⟩:=VB;obtain⟨_,_,v9,V2⟩:=vR;obtain⟨_,_,U5,V3⟩:=U2;obtain⟨_,_,U8,D⟩:=Vf;obtain⟨_,_,Vp,V4⟩:=Vg;obtain⟨_,_,U6,E⟩:=vS;obtain⟨_,_,UW,V5⟩:=UT;obtain⟨_,_,vz,V6⟩:=vq;obtain⟨_,_,Vq,V7⟩:=Vh;obtain⟨_,_,VN,V8⟩:=VC;obtain⟨_,_,wS,V9⟩:=wP;obtain⟨_,_,VO,wa⟩:=VD;obtain⟨_,_,Vr,wc⟩:=Vi;obtain⟨_,_,VP,wd⟩:=VE;obtain⟨_,_,Vs,we⟩:=Vj;obtain⟨_,_,UP,F⟩:=vv;obtain⟨_,_,Vt,wf⟩:=Vk;obtain⟨_,_,wT,wg⟩:=wQ;obtain⟨_,_,vN,wj⟩:=vG;obtain⟨_,_,vO,wm⟩:=vH;obtain⟨_,_,VQ,wq⟩:=VF;obtain⟨_,_,Va,wu⟩:=vT;obtain⟨_,_,VR,wv⟩:=VG;obtain⟨_,_,Vb,ww⟩:=vV;obtain⟨_,_,Vc,wy⟩:=vW;obtain⟨_,_,Vu,wz⟩:=Vl;obtain⟨_,_,wU,wA⟩:=wR;obtain⟨_,_,vP,wB⟩:=vJ;obtain⟨_,_,Vv,wC⟩:=Vm;obtain⟨_,_,wZ,wD⟩:=wY;obtain⟨_,_,Wu,Ww,wV⟩:=Wp;obtain⟨_,_,Wx,wW⟩:=Wr;obtain⟨_,_,Wy,Wz,wX⟩:=Ws;obtain⟨_,_,Wa,Wc,wE⟩:=vX;obtain⟨_,_,Wd,We,wF⟩:=VH;obtain⟨_,_,wG,wH,H⟩:=vc;obtain⟨_,_,Wf,Wg,wI⟩:=vK;obtain⟨_,_,wJ,wK,I⟩:=vd;obtain⟨_,_,Wh,Wi,wL⟩:=vY;obtain⟨_,_,Wj,Wk,wM⟩:=U3;obtain⟨_,_,Wl,Wm,wN⟩:=VI;obtain⟨_,_,Wn,Wo,wO⟩:=vw;obtain⟨_,_,vg,vh,UI⟩:=ve;obtain⟨_,_,VS,VT,vA⟩:=VJ;obtain⟨_,_,vD,vE,UQ⟩:=vx;obtain⟨_,_,UR,US,C⟩:=vL;obtain⟨_,_,Vw,Vx,U9⟩:=Vn;obtain⟨_,_,Vd,Ve,U7⟩:=vZ;obtain⟨_,_,UX,UY,UD⟩:=UU;obtain⟨_,_,UM,UO,UB⟩:=UK;obtain⟨_,_,UG,UH,UA⟩:=UF;obtain⟨_,_,UZ,U0,UE⟩:=UV;obtain⟨_,_,Vy,Vz,va⟩:=Vo;have e:=M.symm.trans (kZ X G wZ);cases e;have Y0:XAt K p:=qfC X0 xmro_on q0 z A;have Y1:XAt K c:=qfC X1 qd1 q1 z A;obtain⟨N,ah,O,ai⟩:=kits nd (fun i q=>match i,q with | 0,_=>X0 | n+1,h=>absurd h (by simp only[yw,xl];lk)) X1;have m:Cls K f:=⟨w1,w2,w3,w4⟩;have g:Cls K d:=⟨S,U,Y,Z⟩
 have R:∀ a∈fAtt,NoAttr K d a:=fun a L=>by
  unfold fAtt at L;simp only[yx,yQ,Yv] at L;rcases L with rfl | rfl | rfl | rfl | rfl | rfl | rfl | rfl<;>assumption
 have t:∀ i,i<2->([p,c,c,c,c,c,c,c,c]:LQ).getD i d=([p]:LQ).getD i c:=fun i q=>match i,q with | 0,_=>rfl | 1,_=>rfl | n+2,h=>absurd h (by lk);have T:Txt K r (fun i=>([p,c,c,c,c,c,c,c,c]:LQ).getD i d) f:=⟨YS X G z0,
  YS X G z1,
  YS X G z2,
  YS X G z3,
  YS X G z4,
  YS X G z5,
  YS X G z6,
  YS X G z7,
  YS X G z8,
  YS X G z9,
  YS X G ad,
  YS X G ae,
  YS X G af,
  ⟨u,kZ X G u0⟩,
  ⟨x,kZ X G u1⟩,
  ⟨y,kZ X G u2⟩,
  kZ X G C0_,
  kZ X G C1_,
  ⟨v1,v3,v4⟩,
  fun i q=>match i,q with | 0,_=>Y0 | 1,_=>Y1 | n+2,h=>absurd h (by lk),
  fun i q=>match i,q with | 0,_=>y0 | n+1,h=>absurd h (by lk),
  (fun i j q hj=>by rw[t i (by lk),t j (by lk)];show N i j q hj),
  (fun i q=>by rw[t i (by lk)];show O i q),
  fun i q=>match i,q with | 0,_=>P | n+1,h=>absurd h (by lk),
  m,
  w7,
  w8,
  w9,
  kZ X G Cw_,
  kZ X G Cf_,
  g,
  R,
  YS X G ag,
  YS X G B⟩
 obtain⟨oc,od,kV,J,pm,an,cd,ct,sl,rfl,lk,hc⟩:=wD.ex;show⟨W.fnOf "law" "law" (qaF qcH) (zy qcH) (qg qcH) .none kV J pm an cd ct,fun s v=>.of_eq rfl,fun base _ _=>?_⟩;have d_once:CMethOk l.prog w K r base CX0 1 c "OnceError" "__init__" ["self","text"] (spOnce K):=fc_mk X G C1_ r1 Wx r3 wW (ok_once wW T);have d0:XMakeOk l.prog w K r base 2 p "NoPlace" ["self","found"] (spX p (qfi 0)):=fx_mk X G C0_ Y0 q0 Wu Ww wV (ok_NoPlace wV T d_once);have b:=@fg_mk l.prog w K r base h;have o:=@fm_mk l.prog w K r base;have fw:=@fw_mk l.prog w K r base h;have d_name:=b X G U8 D (ok_name D T);have d_place:=b X G U6 E (ok_place E d_name);have d_two:=b X G UW V5 (ok_two V5 T d_place);have d_bit:=b X G Vp V4 (ok_bit V4);have d_nums:=b X G vz V6 (ok_nums V6 T d_name);have d_near:=b X G Vq V7 (ok_near V7 T d_two d_bit);have q_web:MakeOk l.prog w K r base CX0 5 f "Web" ["self","names","ties"] (spWeb f):=fw X G Cw_ w5 w6 Wy Wz wX (ok_web wX T d_nums d_near);have m_has:=o m wG wH H (ok_has H T d_place);have m_num:=o m wJ wK I (ok_num I T m_has);have m_bb:=o m Wj Wk wM (ok_bb wM T m_num);have m_nin:=o m Wn Wo wO (ok_nin wO T d_bit);have m_bs:=o m Wh Wi wL (ok_bs wL T m_bb m_nin);have m_tied:=o m Wl Wm wN (ok_tied wN T m_bb m_num d_bit);have m_pls:=o m Wa Wc wE (ok_pls wE T);have m_ts:=o m Wd We wF (ok_ts wF T m_bs);have m_ht:=o m Wf Wg wI (ok_ht wI T d_two m_tied);have d_ap:=b X G vM VU (ok_ap VU T m_ht);have d_pn:=b X G vf VV (ok_pn VV T d_ap);have d_tp:=b X G vy VW (ok_tp VW T d_pn m_ts);have d_ul:=b X G UL VY (ok_ul VY T m_has);have d_gt:=b X G U4 VZ (ok_gt VZ T m_ht);have d_ir:=b X G VL VX (ok_ir VX T d_pn d_ul d_gt);have d_ct:=b X G v8 V0 (ok_ct V0 T d_pn d_ir);have d_tu:=b X G VM V1 (ok_tu V1 T d_pn m_ts d_ct);have p_re:=o g Vd Ve U7 (ok_re U7 T);have p_bd:=o g UG UH UA (ok_bd UA T);have p_rr:=o g UZ U0 UE (ok_rr UE T p_re);have p_fd:=o g Vy Vz va (ok_fdF va T m_pls);have p_bt:=o g UM UO UB (ok_bt UB T p_bd p_rr p_fd);have p_la:=o g UX UY UD (ok_la UD T m_bs p_bt p_re);have p_gw:=o g Vw Vx U9 (ok_gw U9 T m_pls p_re p_la);have p_mk:MakeOk l.prog w K r base CX0 10 d "Forest" ["self","web","pairs"] (spFi (fun i=>([p,c,c,c,c,c,c,c,c]:LQ).getD i d) f):=fw X G Cf_ aa ac vg vh UI (ok_fi UI T d_pn p_gw);have p_row:=o g VS VT vA (ok_fr vA T);have p_rch:=o g vD vE UQ (ok_fd2 UQ T m_pls);have d_gf:=b X G U5 V3 (ok_gf V3 T d_tp p_mk p_row d_tu);have d_gr:=b X G v9 V2 (ok_gr V2 T d_gf);have b_name:=b X G U8 D (ok_nameG D T);have b_place:=b X G U6 E (ok_placeG E b_name);have b_has:=o m wG wH H (ok_hasG H T b_place);have b_num:=o m wJ wK I (ok_numG I T b_has d0);have p_rt:=o g UR US C (ok_ro C T m_num);have p_rtB:=o g UR US C (ok_roB C T b_num);have d_tk:=b X G VO wa (ok_take wa);have d_sh:=b X G UP F (ok_shuf F T d_tk);have d_sh1:=b X G UP F (ok_shuf1 F T d_tk);have d_pa:=b X G vN wj (ok_pa wj T);have d_sg:=b X G vO wm (ok_sg wm T d_pa);have d_td:=b X G VQ wq (ok_td wq T);have d_od:=b X G VR wv (ok_od wv T (b X G Va wu (ok_pi wu T d_td)));have d_sw:=b X G Vu wz (ok_sw wz T d_td d_od d_sg);have d_ld:=b X G wU wA (ok_ld wA T d_pa (b X G Vb ww (ok_irL ww T d_td d_pa)) (b X G Vc wy (ok_tuL wy T d_td)) d_sg) (hb:=fun _ _ _ _ _ _=>lN5 fun _ _ _ _ _=>rfl);have d_rf:=b X G vP wB (ok_rf wB T p_rtB);have d_ob:=b X G wT wg (ok_oddG wg d_tk);have d_rr:=b X G Vv wC (ok_rr2 wC T p_rch p_row p_rt d_sw d_sh1 d_ld d_rf d_ob (b X G Vt wf (ok_fresh wf))) (hb:=fun _ _ _ _ _ _=>lN5 fun _ _ _ _ _=>rfl);show ok_law32 wD T (b X G VN V8 (ok_cell V8 T)) (b X G wS V9 (ok_box V9)) (b X G Vs we (ok_drawn we d_tk (b X G Vr wc (ok_names wc T d_tk)) (b X G VP wd (ok_ties wd T d_tk)))) d_tk q_web d_gr d_sh p_mk p_row p_rt p_rch d_ld d_rr d_rf d_ob
theorem walk{l:PySem.W.OpenLaw}{q:Program}{loose:LS}{XP:(Str->Option Value)->Heap->Prop}{YP:World->Heap->Prop}{d:DefRec}{K:Params->yg}(m:l.most=some 63)(c:d.params.defaults=[])
  (j:∀(w:World) (h:Heap),YP w h->(K w.params).In h)
  (F:∀(w:World) (b:Str->Option Value) (e:Addr) (h:Heap),(K w.params).In h->h.Ns mainGlobals b->b d.name=some (.ref e) ->
   ∃ g:FuncData,(∀(s:Shared) (u:Value),BindsTo s g ⟨[u],[]⟩ [("_law_script",u)])/\∀ base:Heap,(K w.params).In base->base.Ns mainGlobals b->FnOk l.prog w (K w.params) b base CX0 15 e g ["_law_script"] (spLaw (K w.params))) :
  PySem.W.WalkO q loose XP YP l.row.toRowW d [] (fun f vs=>PySem.call f vs):=
 L2.walk_of (n:=63) (k:=15) (x:="_law_script") (CX:=fun _=>CX0) (sp:=fun w=>spLaw (K w.params)) m (by decide) c ⟨rfl,by decide,by decide,rfl⟩ j F (fun _ _ a ns hl _ i=>⟨a,ns,rfl,i,hl,fun _=>rfl⟩) fun _ _ _ _ _ z=>z
end K32
set_option maxRecDepth 100000 in
set_option maxHeartbeats 0 in
theorem PySem.Challenge.cw_onceroad_k32_reached_are_loose_holds : PySem.Challenge.rw_onceroad_k32_reached_are_loose.Holds := by
  w_on; o_law
  show PySem.W.holds_open (q := K32.Q) (loose := []) (Xt := K32.Xt) (XP := PySem.W.XL K32.Q []) (Yf := PySem.W.Hook.obs K32.Hk) (Ya := PySem.W.Hook.val K32.Hk) (YP := PySem.W.Hook.says (PySem.W.kHook K32.Kf K32.ks K32.ks_eq)) (N := K32.NN) K32.hl (PySem.W.Hook.of K32.Hk) (PySem.W.Hook.keeps K32.Hk) (fun s e => PySem.W.xl_of s (Bool.and_eq_true_iff.mp e).1) PySem.W.XL.keeps (by rfl) (by rfl) (by rfl) (fun s e => PySem.W.recFacts_of (Bool.and_eq_true_iff.mp e).2) (by rfl) (by first | assumption | room) (by room) ⟨rfl, rfl, rfl, rfl, rfl, by room⟩ ?hw ?hc
  (case hw => w_witness2)
  k_fill
  show K32.walk (l := PySem.Challenge.rw_onceroad_k32_reached_are_loose) rfl rfl (fun w h Y => PySem.W.kIn_of Y) ?F
  case F =>
    intro w mg fa h KX G hmg
    refine' K32.all_mk KX G hmg ?_ ?_ ?_ ?_ ?_ ?_ ?_ ?_ ?_ ?_ ?_ ?_ ?_ ?_ ?_ ?_ ?_ ?_ ?_ ?_ ?_ ?_ ?_ ?_ ?_ ?_ ?_ ?_ ?_ ?_ ?_ ?_ ?_ ?_ ?_ ?_ ?_ ?_ ?_ ?_ ?_ ?_ ?_ ?_ ?_ ?_ ?_ ?_ ?_ ?_ ?_ ?_ ?_ ?_ ?_ ?_ ?_ ?_ ?_ ?_ ?_ ?_ ?_ ?_ ?_ ?_ ?_ ?_ ?_ ?_ ?_ ?_ ?_ ?_ ?_ ?_ ?_ ?_ ?_ ?_ ?_ ?_ ?_ ?_ ?_ ?_ ?_ ?_ ?_ ?_ ?_ ?_ ?_ ?_ ?_ ?_ ?_ ?_ ?_ ?_ ?_ ?_ ?_ ?_ ?_ ?_ ?_ ?_ ?_ ?_ ?_ ?_ ?_ ?_ ?_ ?_ ?_ ?_ ?_
    any_goals first | k_is | decide
    any_goals first | k_is | decide | show⟨_, _, by k_is, L2.fun_mk (by k_is) (by k_is) (by k_is)⟩ | show⟨_, _, by k_is, by k_is, L2.fun_mk (by k_is) (by k_is) (by k_is)⟩ | show⟨_, _, _, _, _, _, _, _, _, _, _, _, _, _, _, by k_is⟩ | show⟨by k_is, by k_is, by k_is, by k_is, by k_is, by k_is, by k_is, by k_is⟩ | kernel_rfl | fail
