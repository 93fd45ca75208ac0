import PyProof.Rows.All
import Wide.All
import OpenK.AllK
import Wide.FinOn
import PyProof.EqAt
import PyProof.EqKinds
import PyProof.TupleCall
import Lean
import PySem.Challenge.RW_onceroad_k34_rows_turned_to_greatest
set_option Elab.async false
set_option linter.all false
set_option maxRecDepth 100000
local macro_rules | `(tactic| show $e)=>`(tactic| refine $e)
abbrev LX:=List Int
abbrev LQ:=List PySem.Addr
abbrev LN:=List Nat
abbrev LS:=List PySem.Str
abbrev LP:=List (PySem.Str×PySem.Str)
local macro_rules | `(tactic| room)=>`(tactic| decide +kernel)
local macro_rules | `(tactic| lk)=>`(tactic| first | lia | omega)
theorem ya{a b:Type}{as:List a}(f:a→b):(as.map f).length=as.length:=List.length_map f
theorem yb{a:Type}{l:List a}{i:Nat}(h:i<l.length):l[i]?=some l[i]:=List.getElem?_eq_getElem h
theorem yc{b:Type}{l:List b}{i:Nat}{a:b}:l[i]?=some a↔∃h:i<l.length,l[i]=a:=List.getElem?_eq_some_iff
theorem yd{a b:Type}{f:a→b}{l:List a}{i:Nat}:(l.map f)[i]?=l[i]?.map f:=List.getElem?_map
theorem ye{b:Type}{l:List b}{i:Nat}{a:b}(h:l[i]?=some a):a∈l:=List.mem_of_getElem? h
theorem yf{b:Type}{a:b}{l:List b}(h:a∈l):∃i:Nat,l[i]?=some a:=List.getElem?_of_mem h
noncomputable abbrev yg:=PySem.W.Frag
theorem yh(n:Nat):n≤n:=Nat.le_refl n
theorem yi{a b c:Nat}(h:a≤b)(k:b≤c):a≤c:=Nat.le_trans h k
theorem yj{a b c:Nat}(h:a<b)(k:b≤c):a<c:=Nat.lt_of_lt_of_le h k
theorem yk{p:Prop}[Decidable p](h:decide p=true):p:=of_decide_eq_true h
theorem yl{p:Prop}[Decidable p](h:¬p):decide p=false:=decide_eq_false h
theorem ym{c:Type}{a b:c}(h:some a=some b):a=b:=Option.some.inj h
theorem yn{c d:Type}{f:c→d}{x:Option c}{b:d}:x.map f=some b↔∃a,x=some a∧f a=b:=Option.map_eq_some_iff
theorem yo{b:Type}{a:b}{l:List b}:(a::l).Nodup↔a∉l∧l.Nodup:=List.nodup_cons
theorem yp{a:Type}{p:a→Bool}{as:List a}{x:a}:x∈as.filter p↔x∈as∧p x=true:=List.mem_filter
theorem yq{A B:Prop}(h:B):if false=true then A else B:=h
def yr:=@PySem.wpAny_bind
def yt:=@PySem.wpAny_pure
def yu:=@List.length_append
def yv:=@PySem.Heap.get?_push_of_some
def yw:=@List.mem_append
def yx:=@List.size_toArray
def yy:=@List.map_append
def yz:=@List.mem_cons
def yA:=@List.length_cons
def yB:=@List.mem_cons_of_mem
def yC:=@List.getElem?_append_right
def yD:=@List.mem_singleton
def yE:=@if_neg
def yF:=@List.mem_append_left
def yG:=@List.take_add_one
def yH:=@List.length_take
def yI:=@PySem.Heap.lt_size
def yJ:=@List.length_filter_le
def yK:=@PySem.Heap.get?_push_size
def yL:=@Nat.ne_of_lt
def yM:=@decide_eq_true
def yN:=@List.mem_append_right
def yO:=@if_pos
def yP:=@List.take_length
def yQ:=@Or.inl
def yR:=@List.mem_cons_self
def yS:=@List.filter_cons
def yT:=@Nat.le_of_lt
def yU:=@PySem.F.plainAttrs_list
def yV:=@List.getD_eq_getElem?_getD
def yW:=@List.not_mem_nil
def yX:=@List.filter_append
def yY:=@Bool.and_eq_true
def yZ:=@List.getElem?_append_left
def y0:=@PySem.PassesOwn.never
def y8:=@List.append_assoc
def y9:=@List.nodup_append
def Yb:=@List.append_nil
def Yc:=@PySem.wpAny_holding
def Yd:=@List.pairwise_iff_getElem
def Ye:=@Ne.symm
def Yg:=@Nat.ne_of_gt
def Yh:=@PySem.Heap.get?_update_self
def Yi:=@Bool.false_ne_true
def Yj:=@decide_eq_true_iff
def Yk:=@Array.length_toList
def Yl:=@PySem.wpAny_newObj_type
def Ym:=@List.append_of_mem
def Yn:=@List.filter_nil
def Yo:=@PySem.F.slot_list_append
def Yp:=@PySem.F.type_list_append
def Yq:=@List.mem_map
def Yr:=@beq_iff_eq
def Ys:=@Classical.byContradiction
def Yt:=@PySem.boot_len
def Yu:=@List.idxOf_lt_length_of_mem
def Yv:=@Nat.lt_irrefl
def Yw:=@PySem.Heap.SameBut.update
def Yx:=@PyProof.Rows.boot_isinstance
def Yy:=@Nat.lt_of_le_of_lt
def Yz:=@PyProof.Rows.slot_tuple_getitem
def YA:=@PySem.sizeLine_eq
def YB:=@List.length_reverse
def YC:=@List.mem_range
def YD:=@PySem.wpAny_call_entry
def YE:=@or_false
def YF:=@decide_eq_decide
def YG:=@Nat.mod_two_eq_zero_or_one
def YH:=@List.map_cons
def YI:=@Int.toNat_natCast
def YJ:=@PySem.Heap.size_push
def YK:=@List.all_eq_true
def YL:=@PySem.W.mg_none_of
def YM:=@PySem.wpAny_callSpecial?_slot
def YN:=@List.getElem_idxOf
def YO:=@List.take_zero
def YQ:=@List.getElem?_tail
def YR:=@List.take_of_length_le
def YS:=@List.mem_flatMap
def YT:=@Array.getElem?_eq_getElem
def YU:=@beq_eq_false_iff_ne
def YV:=@PySem.wpAny_mono
def YW:=@List.getElem_of_mem
def YX:=@Nat.zero_le
def YY:=@PySem.wpAny_setState_of
def YZ:=@List.length_replicate
def Y0:=@PySem.F.slot_NoneType_eq
def Y1:=@List.Pairwise.imp_of_mem
def Y2:=@Bool.eq_iff_iff
def Y3:=@Int.emod_nonneg
def Y4:=@List.dropLast_concat_getLast
def Y5:=@Int.emod_lt_of_pos
def Y6:=@PySem.wpAny_of_eq
def Y7:=@PyProof.Rows.callWith_type1
def Y8:=@True.intro
def Y9:=@PySem.Heap.get?_update_other
def xi:=@List.filter_sublist
def xj:=@List.getElem?_zip_eq_some
def xk:=@List.length_singleton
def xl:=@Array.getElem?_toList
def xm:=@List.mem_iff_getElem?
def xn:=@List.lookup_cons
def xo:=@PySem.wpAny_askSetting
def xp:=@PyProof.Rows.boot_list
def xq:=@Option.isSome_iff_exists
def xr:=@PySem.W.looks_findIn
def xt:=@PySem.wpAny_field
def xu:=@PySem.Around.under_plainId
def xv:=@List.eq_nil_of_length_eq_zero
def xw:=@List.getLast?_concat
def xx:=@PySem.wpAny_truthy_bool
def xy:=@Bool.not_eq_true'
def xz:=@decide_eq_false_iff_not
def xA:=@List.filter_congr
def xB:=@List.length_nil
def xC:=@List.replicate_succ
def xD:=@PyProof.Rows.F.plain_set_update_loop
def xE:=@List.flatMap_append
def xF:=@List.cons.inj
def xG:=@Nat.lt_succ_self
def xH:=@List.length_tail
def xI:=@List.mem_flatten
def xJ:=@List.lookup_append
def xK:=@Bool.false_eq_true
def xL:=@List.perm_ext_iff_of_nodup
def xM:=@PySem.wpAny_passesOwn
def xN:=@List.find?_cons
def xO:=@PySem.codeAny_builtin
def xP:=@PySem.wpAny_ite_split
def xQ:=@Nat.le_antisymm
def xR:=@Sum.inr.inj
def xS:=@List.getElem?_set_ne
def xT:=@Nat.le_succ
def xU:=@List.flatten_cons
def xV:=@PySem.codeAny_call_builtin
def xW:=@List.length_erase_of_mem
def xX:=@PySem.mem_of_lookup
def xY:=@PySem.W.looks_mroIn
def xZ:=@PySem.wpAny_setEntries_of
def x0:=@PySem.W.any_some
def Xa:=@beq_self_eq_true
def Xb:=@List.any_eq_true
def Xc:=@PySem.wpAny_getItem_str_slice
def Xd:=@Int.eq_ofNat_of_zero_le
def Xe:=@PySem.F.slot_list_index
def Xf:=@Nat.le_add_right
def Xg:=@PySem.tupleKind_room_in1
def Xh:=@Array.getElem?_eq_none
def Xi:=@Nat.zero_add
def Xj:=@List.length_pos_of_mem
def Xk:=@PySem.wpAny_updateSeq
def Xl:=@PySem.wpAny_attempt
def Xm:=@PySem.builtinLookup_eq_fast
def Xn:=@PySem.F.slot_set_iter
def Xo:=@Option.isSome_map
def Xp:=@List.length_range
def Xq:=@List.pairwise_map
def Xr:=@Or.inr
def Xs:=@List.length_eraseIdx_of_lt
def Xu:=@Prod.mk.inj
def Xv:=@PySem.codeAny_mono
def Xw:=@List.getElem_mem
def Xx:=@Option.isNone_iff_eq_none
def Xy:=@List.drop_eq_getElem_cons
def Xz:=@List.filterMap_cons
def XA:=@PySem.F.plain_extend_loop
def XB:=@List.all_cons
def XC:=@PySem.plainId_quiet
def XD:=@Prod.mk.injEq
def XE:=@PySem.F.slot_list_extend
def XF:=@PySem.F.type_list_extend
def XG:=@PySem.wpAny_Call_Name_kw
def XH:=@PySem.call_meets
def XI:=@List.getElem?_replicate
def XJ:=@PySem.F.type_list_index
def XM:=@List.take_sublist
def XR:=@if_false
def XS:=@Prod.ext
def XT:=@PySem.Calls.callWith_builtin
def XU:=@Nat.lt_succ_of_lt
def XV:=@PySem.wpAny_pyIter_list
def XW:=@Nat.le_succ_of_le
def XX:=@PySem.wpAny_nextOf_list_item
def XY:=@PySem.wpAny_setField
def XZ:=@Int.zero_add
def X0:=@Nat.sub_self
def X1:=@List.nodup_nil
def X2:=@PySem.F.slot_dict_get
def X3:=@PySem.F.slot_list_pop
def X4:=@PySem.F.type_list_pop
def X5:=@PySem.wpAny_call
def X6:=@List.length_drop
def X7:=@PySem.wpAny_isInstance
def X8:=@List.drop_length
def X9:=@if_true
def kc:=@Bool.or_false
def ke:=@List.any_cons
def kf:=@Array.mem_toList_iff
def kg:=@Nat.mul_le_mul_right
def kh:=@PySem.wpAny_execs_nil
def ki:=@List.length_set
def kj:=@PySem.SeqAt.EqAt.same
def kl:=@Option.map_some
def km:=@Bool.or_eq_true
def kn:=@PySem.post_val_or_str
def ko:=@PySem.F.slot_zip_next
def kq:=@PySem.typeLookup_type
def kt:=@List.all_append
def ku:=@PySem.W.plainGet_of
def kx:=@PySem.W.looks_clsIn
def ky:=@List.length_pos_iff
def kz:=@Nat.le_of_eq
def kA:=@PySem.wpAny_typeOf
def kB:=@PySem.Calls.spliced_cons
def kC:=@PySem.W.callWith_K
def kD:=@PyProof.Rows.slicePart_none
def kE:=@PySem.Heap.IsSliceOf.new
def kF:=@PySem.wpAny_rule
def kG:=@PySem.wpAny_seqItems
def kH:=@List.getElem?_drop
def kI:=@PySem.Calls.spliced_nil
def kJ:=@PySem.slot_list_getitem
def kK:=@Bool.eq_false_iff
def kL:=@PySem.wpAny_pyIter_slot
def kM:=@Nat.lt_trichotomy
def kN:=@decide_eq_true_eq
def kO:=@PySem.evalPart_none
def kP:=@List.map_tail
def kQ:=@Nat.min_le_right
def kR:=@List.cons_append
def kS:=@Nat.min_eq_right
def kT:=@PySem.wpAny_pyIter_zip
def kU:=@Nat.lt_of_not_le
def kW:=@List.cons_ne_nil
def kX:=@List.mem_reverse
def kY:=@Nat.lt_trans
def kZ:=@List.all_map
def k7:=@PySem.Txt.slice_le
def k8:=@List.of_mem_zip
def k9:=@List.forIn_cons
def Ka:=@Nat.min_eq_left
def Kb:=@PySem.wpAny_specialOf
def Kc:=@List.range_succ
def Kd:=@List.forIn_nil
def Ke:=@List.Perm.swap
def Kg:=@decide_false
def Kh:=@Nat.sub_zero
namespace L2
open PySem PySem.Spec PyProof.Rows
noncomputable def q8(s:Stmt)(j:Nat):Stmt:=match s with
 | .ClassDef _ _ _ body _ _ _ _ _ _ _=>body.getD j (.Pass ⟨0,0,0,0⟩)
 | _=>.Pass ⟨0,0,0,0⟩
noncomputable def qat(s:Stmt):Arguments:=match s with
 | .FunctionDef _ a _ _ _ _ _ _ _ _=>a
 | _=>{ posonlyargs:=[],args:=[],vararg:=none,kwonlyargs:=[],kw_defaults:=[],kwarg:=none,defaults:=[] }
noncomputable def zR(s:Stmt):List Stmt:=match s with
 | .FunctionDef _ _ b _ _ _ _ _ _ _=>b
 | _=>[]
noncomputable def qg(s:Stmt):Scope:=match s with
 | .FunctionDef _ _ _ _ _ _ sc _ _ _=>sc
 | _=>{ kind:=.function,names:=[],isGenerator:=false,isCoroutine:=false }
end L2
namespace K34
open PySem L2 PyProof.Rows
noncomputable def top(i:Nat):Stmt:=PySem.Challenge.pw_onceroad_k34_rows_turned_to_greatest.main.body.getD i (.Pass ⟨0,0,0,0⟩)
noncomputable abbrev zX:Stmt:=top 28
noncomputable abbrev qaD:Stmt:=top 33
noncomputable abbrev qag:Stmt:=top 34
noncomputable abbrev jy:Stmt:=top 35
noncomputable abbrev zk:Stmt:=top 36
noncomputable abbrev qah:Stmt:=q8 (top 32) 0
noncomputable abbrev qaE:Stmt:=top 37
noncomputable abbrev zl:Stmt:=q8 (top 32) 1
noncomputable abbrev jH:Stmt:=q8 (top 32) 4
noncomputable abbrev jI:Stmt:=q8 (top 32) 6
noncomputable abbrev zm:Stmt:=q8 (top 32) 7
noncomputable abbrev jk:Stmt:=q8 (top 32) 8
noncomputable abbrev qai:Stmt:=q8 (top 32) 9
noncomputable abbrev jv:Stmt:=q8 (top 32) 12
noncomputable abbrev qaj:Stmt:=q8 (top 32) 2
noncomputable abbrev qa2:Stmt:=top 39
noncomputable abbrev qbL:Stmt:=top 40
noncomputable abbrev qa3:Stmt:=top 41
noncomputable abbrev zy:Stmt:=top 42
noncomputable abbrev qa4:Stmt:=top 43
noncomputable abbrev qaH:Stmt:=top 44
noncomputable abbrev jV:Stmt:=top 45
noncomputable abbrev zI:Stmt:=top 11
noncomputable abbrev j5:Stmt:=q8 (top 32) 5
noncomputable abbrev j6:Stmt:=top 12
noncomputable abbrev jS:Stmt:=q8 (top 15) 6
noncomputable abbrev qQ:Stmt:=q8 (top 15) 9
noncomputable abbrev qY:Stmt:=q8 (top 15) 10
noncomputable abbrev jJ:Stmt:=q8 (top 15) 11
noncomputable abbrev qJ:Stmt:=q8 (top 15) 8
noncomputable abbrev qZ:Stmt:=q8 (top 15) 7
noncomputable abbrev j7:Stmt:=q8 (top 15) 5
noncomputable abbrev j8:Stmt:=q8 (top 15) 0
noncomputable abbrev zo:Stmt:=q8 (top 15) 1
noncomputable abbrev jf:Stmt:=q8 (top 15) 2
noncomputable abbrev jW:Stmt:=top 13
noncomputable abbrev je:Stmt:=top 18
noncomputable abbrev qa5:Stmt:=top 17
noncomputable abbrev qT:Stmt:=top 19
noncomputable abbrev qal:Stmt:=top 20
noncomputable abbrev qaI:Stmt:=top 21
noncomputable abbrev jK:Stmt:=top 25
noncomputable abbrev qam:Stmt:=top 23
noncomputable abbrev qan:Stmt:=top 24
noncomputable abbrev zK:Stmt:=top 46
noncomputable abbrev zc:Stmt:=top 47
noncomputable abbrev qa7:Stmt:=top 49
noncomputable abbrev jT:Stmt:=top 48
noncomputable abbrev zz:Stmt:=top 50
noncomputable abbrev qao:Stmt:=top 51
noncomputable abbrev qap:Stmt:=top 52
noncomputable abbrev jQ:Stmt:=top 53
noncomputable abbrev jX:Stmt:=top 54
noncomputable abbrev ji:Stmt:=top 55
noncomputable abbrev jD:Stmt:=top 56
noncomputable abbrev qa8:Stmt:=top 57
noncomputable abbrev qaK:Stmt:=top 58
noncomputable abbrev qcN:Stmt:=top 59
end K34
namespace Hd
open PySem PySem.W PySem.Calls PyProof.Rows
variable{p:Program}{α:Type}
noncomputable def qe1(c:String->Option Builtin)(p:Program)(w:World)(a:Nat)(b:Option Value):Nat->SharedT->Thread->Option SharedT
 | 0,_,_=>none
 | n+1,s,t=>match through t with
  | true=>some s
  | false=>match stepOk a b t with
   | false=>none
   | true=>match stepT (denote c) p w s t with
    | some (s',t')=>qe1 c p w a b n s' t'
    | none=>none
theorem qeJ{e:String->Option Builtin}{w:World}{a:Nat}{b:Option Value}:∀{n:Nat} {s d:SharedT} {t:Thread},qe1 e p w a b n s t=some d->topRun e p w a b n s.abs t=some d.abs
 | 0,_,_,_,h=>by cases h
 | n+1,s,d,t,h=>by
  unfold qe1 at h;unfold topRun
  cases f:through t with
  | true=>rw[f] at h;cases h;rfl
  | false =>
   rw[f] at h
   cases g:stepOk a b t with
   | false=>rw[g] at h;cases h
   | true =>
    rw[g] at h
    cases c:stepT (denote e) p w s t with
    | none=>rw[c] at h;cases h
    | some r=>obtain⟨i,j⟩:=r;rw[c] at h;rw[stepT_spec c];show qeJ h
noncomputable def qcO:List Obj->Nat->BT->BT
 | [],_,t=>t
 | o::r,n,t=>qcO r (n+1) (t.ins n o)
noncomputable def qd9(P:Params)(a:OsState):SharedT:=⟨qcO (boot_heap P).objs.toList 0 .nil,(boot_heap P).objs.size,(boot_heap P).life,Array.mk [],boot_drawn,boot_toks,a⟩
theorem boot_abs(P:Params):absHeap (qcO (boot_heap P).objs.toList 0 .nil) (boot_heap P).objs.size (boot_heap P).life=boot_heap P:=by kernel_rfl
noncomputable def qei(p q:Program)(Xt:Shared->Bool){α:Type}(Yf:Shared->α)(N:Nat)(w:World)(a:OsState):=match (boot_heap w.params).isNs mainGlobals&&(Array.mk []:Array GenState).size==0 with
 | true=>(qe1 treeTable p w (boot_heap w.params).objs.size ((boot_heap w.params).nsMap mainGlobals "__annotations__") N (qd9 w.params a) (topStub p)).bind fun s=>match staticsOk (importedModules p.main.body) (boot_heap w.params) s.abs.heap&&namesBound p s.abs.heap&&gensDone s.abs&&laidKept (boot_heap w.params) s.abs.heap with
   | true=>some (openSeen q [] (importedModules p.main.body) Xt true s.abs,Yf s.abs)
   | false=>none
 | false=>none
noncomputable def lookS(p:Program)(N:Nat)(w:World)(a:OsState):Option Shared:=match (boot_heap w.params).isNs mainGlobals&&(Array.mk []:Array GenState).size==0 with
 | true=>(qe1 treeTable p w (boot_heap w.params).objs.size ((boot_heap w.params).nsMap mainGlobals "__annotations__") N (qd9 w.params a) (topStub p)).bind fun s=>match staticsOk (importedModules p.main.body) (boot_heap w.params) s.abs.heap&&namesBound p s.abs.heap&&gensDone s.abs&&laidKept (boot_heap w.params) s.abs.heap with
   | true=>some s.abs
   | false=>none
 | false=>none
theorem lookT_map(p q:Program)(Xt:Shared->Bool)(Yf:Shared->α)(N:Nat)(w:World)(a:OsState):qei p q Xt Yf N w a=(lookS p N w a).map fun s=>(openSeen q [] (importedModules p.main.body) Xt true s,Yf s):=by
 unfold qei lookS
 cases (boot_heap w.params).isNs mainGlobals&&(Array.mk []:Array GenState).size==0 with
 | false=>rfl
 | true =>
  dsimp only
  cases qe1 treeTable p w (boot_heap w.params).objs.size ((boot_heap w.params).nsMap mainGlobals "__annotations__") N (qd9 w.params a) (topStub p) with
  | none=>rfl
  | some s =>
   show(match _ with | true=>_ | false=>_)=Option.map _ (match _ with | true=>_ | false=>_);cases staticsOk (importedModules p.main.body) (boot_heap w.params) s.abs.heap&&namesBound p s.abs.heap&&gensDone s.abs&&laidKept (boot_heap w.params) s.abs.heap<;>rfl
theorem packs{b A B C D E Y:Type}{o:Option b}{f:b->A×B×C×D×E}{g:b->Y}{x:A×B×C×D×E}{y:Y}(h1:o.map (fun s=>((f s).1,(f s).2.1,(f s).2.2.1,(f s).2.2.2.1))=some (x.1,x.2.1,x.2.2.1,x.2.2.2.1))(h:o.map (fun s=>(f s).2.2.2.2)=some x.2.2.2.2)(c:o.map g=some y):o.map (fun s=>(f s,g s))=some (x,y):=by
 cases o with
 | none=>cases c
 | some s =>
  have a:=ym h1;have d:=ym h;have e:=ym c;have i:=congrArg Prod.fst a;have j:=congrArg (fun z=>z.2.1) a;have l:=congrArg (fun z=>z.2.2.1) a;have m:=congrArg (fun z=>z.2.2.2) a;show congrArg some (XS (XS i (XS j (XS l (XS m d)))) e)
theorem left_of{q:Program}{Xt:Shared->Bool}{Yf:Shared->α}{Ya:World->α}{N:Nat}(e:opening p=plainProg p.main.scope.names)(n:Nat.ble 600 N=true)(f:∀ s,fenceModules? p s=some s)
  (h:∀ w a,qei p q Xt Yf N w a=some (openGood q [],Ya w)):LeftO p q [] Xt Yf Ya N:=fun w=>by
 obtain⟨⟨m,l,d,k,a⟩,i,j⟩:=yn.mp (boot_open e n f w);obtain⟨rfl,rfl,rfl,rfl⟩:m=boot_heap w.params/\l=Array.mk []/\d=boot_drawn/\k=boot_toks:=by simpa using j
 have b:=h w a;unfold qei at b;unfold openEnds;rw[i];show(topFrom treeTable p w N _).map _=_;unfold topFrom;dsimp only;split at b
 .rename_i z
  rw[z];obtain⟨s,o,c⟩:=Option.bind_eq_some_iff.mp b;have r:=qeJ o
  have g:(qd9 w.params a).abs=⟨boot_heap w.params,Array.mk [],boot_drawn,boot_toks,a⟩:=by
   unfold qd9 SharedT.abs;dsimp only;rw[boot_abs]
  rw[g] at r;dsimp only;rw[r];split at c
  .rename_i z2
   show((match staticsOk (importedModules p.main.body) (boot_heap w.params) s.abs.heap&&namesBound p s.abs.heap&&gensDone s.abs&&laidKept (boot_heap w.params) s.abs.heap with | true=>some s.abs | false=>none):Option Shared).map _=_;rw[z2];show c
  .cases c
 .cases b
end Hd
namespace K34
open PySem L2 PyProof.Rows PySem.W
noncomputable abbrev NN:Nat:=20000
noncomputable def Q:Program:=view PySem.Challenge.pw_onceroad_k34_rows_turned_to_greatest [0,2,3,4,5,6,7,8,9,11,12,13,15,17,18,19,20,21,23,24,25,27,28,30,31,32,33,34,35,36,37,39,40,41,42,43,44,45,46,47,48,49,50,51,52,53,54,55,56,57,58,59]
noncomputable def en(P:Params)(t:Tok)(v:Value)(k:Str):DictEntry:=⟨PyData.keyHash P k,.str k t,v⟩
noncomputable def cO(t a b r:Nat)(x y z v:Value)(e u:Nat)(q n:Str):Obj:=⟨.type "code",none,.fields #[.str n t,.str q (t+1),.str "/claim/cut.py" (t+2),.int a 0,.int b 0,.int 0 0,.int 0 0,.int 3 0,.ref r,.bool true,.int 181 0,x,y,z,v,.ref e,.int u 0,.int a 0,.str "/claim/cut.py" (u+1)],#[]⟩
noncomputable def cE(t b a r:Nat)(x y z v:Value)(e u:Nat)(n:Str):Obj:=cO t b a r x y z v e u n n
noncomputable def fO(k c:Nat)(s:Stmt)(m q n:Str):Obj:=⟨.type "function",none,.func (fnOf n q (qat s) (zR s) (qg s) .none .none .none (.str m k) none (.ref c) .none),#[]⟩
noncomputable def fE(k c:Nat)(s:Stmt)(m n:Str):Obj:=fO k c s m n n
noncomputable def Kf(P:Params):Frag:=
 (nat_lit 2,(⟨.none,none,.dict #[] 0,#[]⟩:Obj)) ::
 (nat_lit 3,(⟨(.type "dict"),none,.dict #[en P 165 (.str "law_onceroad_k34_rows_turned_to_greatest" 850) "__name__",en P 166 .none "__doc__",en P 167 .none "__package__",en P 168 (.builtin "__main__.__loader__#opaque") "__loader__",en P 169 .none "__spec__",en P 170 (.ref 6) "__annotations__",en P 171 (.ref 4) "__builtins__",en P 173 (.str "/claim/cut.py" 172) "__file__",en P 174 .none "__cached__",en P 193 (.ref 21) "_wall",en P 221 (.ref 38) "OnceError",en P 246 (.ref 58) "NoName",en P 271 (.ref 77) "Twice",en P 296 (.ref 96) "NoPlace",en P 321 (.ref 115) "NoTie",en P 346 (.ref 134) "TooMany",en P 371 (.ref 153) "NoPairs",en P 396 (.ref 172) "NoRow",en P 408 (.ref 181) "are_pairs",en P 418 (.ref 188) "partners_in",en P 424 (.ref 193) "told_pairs",en P 554 (.ref 281) "Forest",en P 566 (.ref 292) "is_row",en P 576 (.ref 299) "are_unlike_places",en P 582 (.ref 304) "goes_by_turns",en P 594 (.ref 311) "can_turn",en P 600 (.ref 316) "turned",en P 609 (.ref 323) "greatest",en P 616 (.ref 330) "count_of",en P 627 (.ref 337) "greatest_from",en P 631 (.int 6 630) "LONGEST_NAME",en P 637 (.ref 342) "is_name",en P 641 (.int 14 640) "MOST_PLACES",en P 643 (.int 30 642) "MOST_TIES",en P 803 (.ref 469) "Web",en P 811 (.ref 480) "has_bit",en P 819 (.ref 487) "is_place",en P 828 (.ref 494) "are_two_places",en P 837 (.ref 501) "numbers_of",en P 849 (.ref 508) "near_of",en P 859 (.ref 515) "_law_cell",en P 866 (.ref 522) "_law_box",en P 875 (.ref 529) "_law_take",en P 881 (.ref 534) "_law_names",en P 893 (.ref 541) "_law_ties",en P 903 (.ref 548) "_law_drawn",en P 909 (.ref 553) "_law_shuffled",en P 919 (.ref 560) "_law_partner",en P 925 (.ref 565) "_law_singles",en P 936 (.ref 572) "_law_some_pairs",en P 945 (.ref 579) "_law_tied",en P 951 (.ref 584) "_law_pieces",en P 957 (.ref 589) "_law_odds",en P 967 (.ref 596) "_law_is_row",en P 973 (.ref 601) "_law_turned",en P 979 (.ref 606) "_law_in_order",en P 985 (.ref 611) "_law_are_told",en P 991 (.ref 616) "_law_greatest",en P 1003 (.ref 623) "_law_gone",en P 1018 (.ref 630) "_law_right",en P 1034 (.ref 637) "law"] 61,#[]⟩:Obj)) ::
 (nat_lit 180,cE 399 45 2 175 (.ref 176) .none (.ref 177) (.ref 178) 179 406 "are_pairs") ::
 (nat_lit 181,fE 397 180 zI "onceroad.pairs" "are_pairs") ::
 (nat_lit 187,cE 409 55 2 182 (.ref 183) .none (.ref 184) (.ref 185) 186 416 "partners_in") ::
 (nat_lit 188,fE 397 187 j6 "onceroad.pairs" "partners_in") ::
 (nat_lit 192,cE 419 63 2 189 (.ref 190) .none .none .none 191 422 "told_pairs") ::
 (nat_lit 193,fE 397 192 jW "onceroad.pairs" "told_pairs") ::
 (nat_lit 206,cO 439 69 3 201 (.ref 202) .none (.ref 203) (.ref 204) 205 445 "Forest.__init__" "__init__") ::
 (nat_lit 207,fO 425 206 j8 "onceroad.forests" "Forest.__init__" "__init__") ::
 (nat_lit 213,cO 448 80 1 208 (.ref 209) .none (.ref 210) (.ref 211) 212 452 "Forest.row" "row") ::
 (nat_lit 214,fO 425 213 zo "onceroad.forests" "Forest.row" "row") ::
 (nat_lit 218,cO 455 83 1 215 (.ref 216) .none .none .none 217 458 "Forest.reached" "reached") ::
 (nat_lit 219,fO 425 218 jf "onceroad.forests" "Forest.reached" "reached") ::
 (nat_lit 239,cO 476 94 1 234 (.ref 235) .none (.ref 236) (.ref 237) 238 481 "Forest.grow" "grow") ::
 (nat_lit 240,fO 425 239 j7 "onceroad.forests" "Forest.grow" "grow") ::
 (nat_lit 246,cO 484 102 3 241 (.ref 242) .none (.ref 243) (.ref 244) 245 490 "Forest.reach" "reach") ::
 (nat_lit 247,fO 425 246 jS "onceroad.forests" "Forest.reach" "reach") ::
 (nat_lit 253,cO 493 106 2 248 (.ref 249) .none (.ref 250) (.ref 251) 252 500 "Forest.look_around" "look_around") ::
 (nat_lit 254,fO 425 253 qZ "onceroad.forests" "Forest.look_around" "look_around") ::
 (nat_lit 258,cO 503 117 3 255 (.ref 256) .none .none .none 257 506 "Forest.bring_together" "bring_together") ::
 (nat_lit 259,fO 425 258 qJ "onceroad.forests" "Forest.bring_together" "bring_together") ::
 (nat_lit 265,cO 509 128 2 260 (.ref 261) .none (.ref 262) (.ref 263) 264 516 "Forest.bases_down_from" "bases_down_from") ::
 (nat_lit 266,fO 425 265 qQ "onceroad.forests" "Forest.bases_down_from" "bases_down_from") ::
 (nat_lit 272,cO 519 135 4 267 (.ref 268) .none (.ref 269) (.ref 270) 271 530 "Forest.reach_round" "reach_round") ::
 (nat_lit 273,fO 425 272 qY "onceroad.forests" "Forest.reach_round" "reach_round") ::
 (nat_lit 277,cO 533 144 3 274 (.ref 275) .none .none .none 276 536 "Forest.fold" "fold") ::
 (nat_lit 278,fO 425 277 jJ "onceroad.forests" "Forest.fold" "fold") ::
 (nat_lit 280,(⟨(.type "dict"),none,.dict #[en P 434 (.str "onceroad.forests" 425) "__module__",en P 438 (.int 67 437) "__firstlineno__",en P 447 (.ref 207) "__init__",en P 454 (.ref 214) "row",en P 460 (.ref 219) "reached",en P 468 (.ref 226) "row_to",en P 475 (.ref 233) "folds",en P 483 (.ref 240) "grow",en P 492 (.ref 247) "reach",en P 502 (.ref 254) "look_around",en P 508 (.ref 259) "bring_together",en P 518 (.ref 266) "bases_down_from",en P 532 (.ref 273) "reach_round",en P 538 (.ref 278) "fold",en P 547 (.ref 279) "__static_attributes__",en P 549 (.ref 282) "__dict__",en P 551 (.ref 283) "__weakref__",en P 552 .none "__doc__"] 4,#[]⟩:Obj)) ::
 (nat_lit 281,(⟨(.type "type"),none,.cls { name:="Forest",bases:=[(.type "object")],mro:=[(.ref 281),(.type "object")],ns:=280,qualname:="Forest",hasDict:=true,slotNames:=[],subclasses:=[],abstract:=false,collection:=none,hasDel:=false },#[none,none,(some (.str "Forest" 427)),(some (.str "Forest" 435)),(some (.builtin "object.__new__")),(some (.bool true))]⟩:Obj)) ::
 (nat_lit 291,cE 557 150 3 286 (.ref 287) .none (.ref 288) (.ref 289) 290 564 "is_row") ::
 (nat_lit 292,fE 555 291 qa5 "onceroad.rows" "is_row") ::
 (nat_lit 298,cE 567 155 2 293 (.ref 294) .none (.ref 295) (.ref 296) 297 574 "are_unlike_places") ::
 (nat_lit 299,fE 555 298 je "onceroad.rows" "are_unlike_places") ::
 (nat_lit 303,cE 577 164 3 300 (.ref 301) .none .none .none 302 580 "goes_by_turns") ::
 (nat_lit 304,fE 555 303 qT "onceroad.rows" "goes_by_turns") ::
 (nat_lit 310,cE 583 170 3 305 (.ref 306) .none (.ref 307) (.ref 308) 309 592 "can_turn") ::
 (nat_lit 311,fE 555 310 qal "onceroad.rows" "can_turn") ::
 (nat_lit 315,cE 595 177 3 312 (.ref 313) .none .none .none 314 598 "turned") ::
 (nat_lit 316,fE 555 315 qaI "onceroad.rows" "turned") ::
 (nat_lit 322,cE 603 184 1 317 (.ref 318) .none (.ref 319) (.ref 320) 321 607 "greatest") ::
 (nat_lit 323,fE 601 322 qam "onceroad.greatest" "greatest") ::
 (nat_lit 329,cE 610 186 1 324 (.ref 325) .none (.ref 326) (.ref 327) 328 614 "count_of") ::
 (nat_lit 330,fE 601 329 qan "onceroad.greatest" "count_of") ::
 (nat_lit 336,cE 617 188 2 331 (.ref 332) .none (.ref 333) (.ref 334) 335 625 "greatest_from") ::
 (nat_lit 337,fE 601 336 jK "onceroad.greatest" "greatest_from") ::
 (nat_lit 341,cE 632 199 1 338 (.ref 339) .none .none .none 340 635 "is_name") ::
 (nat_lit 342,fE 628 341 zX "onceroad.names" "is_name") ::
 (nat_lit 355,cO 656 208 3 350 (.ref 351) .none (.ref 352) (.ref 353) 354 662 "Web.__init__" "__init__") ::
 (nat_lit 356,fO 638 355 qah "onceroad.webs" "Web.__init__" "__init__") ::
 (nat_lit 362,cO 665 213 1 357 (.ref 358) .none (.ref 359) (.ref 360) 361 669 "Web.places" "places") ::
 (nat_lit 363,fO 638 362 zl "onceroad.webs" "Web.places" "places") ::
 (nat_lit 369,cO 672 216 1 364 (.ref 365) .none (.ref 366) (.ref 367) 368 679 "Web.ties" "ties") ::
 (nat_lit 370,fO 638 369 qaj "onceroad.webs" "Web.ties" "ties") ::
 (nat_lit 383,cO 689 227 2 378 (.ref 379) .none (.ref 380) (.ref 381) 382 694 "Web.has_place" "has_place") ::
 (nat_lit 384,fO 638 383 jH "onceroad.webs" "Web.has_place" "has_place") ::
 (nat_lit 390,cO 697 230 2 385 (.ref 386) .none (.ref 387) (.ref 388) 389 702 "Web.has_tie" "has_tie") ::
 (nat_lit 391,fO 638 390 j5 "onceroad.webs" "Web.has_tie" "has_tie") ::
 (nat_lit 397,cO 705 233 2 392 (.ref 393) .none (.ref 394) (.ref 395) 396 710 "Web.number_of" "number_of") ::
 (nat_lit 398,fO 638 397 jI "onceroad.webs" "Web.number_of" "number_of") ::
 (nat_lit 404,cO 713 238 2 399 (.ref 400) .none (.ref 401) (.ref 402) 403 718 "Web.beside" "beside") ::
 (nat_lit 405,fO 638 404 zm "onceroad.webs" "Web.beside" "beside") ::
 (nat_lit 411,cO 721 241 2 406 (.ref 407) .none (.ref 408) (.ref 409) 410 726 "Web.bits_beside" "bits_beside") ::
 (nat_lit 412,fO 638 411 jk "onceroad.webs" "Web.bits_beside" "bits_beside") ::
 (nat_lit 418,cO 729 244 3 413 (.ref 414) .none (.ref 415) (.ref 416) 417 736 "Web.tied" "tied") ::
 (nat_lit 419,fO 638 418 qai "onceroad.webs" "Web.tied" "tied") ::
 (nat_lit 437,cO 753 254 2 434 (.ref 435) .none .none .none 436 756 "Web.names_in" "names_in") ::
 (nat_lit 438,fO 638 437 jv "onceroad.webs" "Web.names_in" "names_in") ::
 (nat_lit 468,(⟨(.type "dict"),none,.dict #[en P 651 (.str "onceroad.webs" 638) "__module__",en P 655 (.int 206 654) "__firstlineno__",en P 664 (.ref 356) "__init__",en P 671 (.ref 363) "places",en P 681 (.ref 370) "ties",en P 688 (.ref 377) "how_many",en P 696 (.ref 384) "has_place",en P 704 (.ref 391) "has_tie",en P 712 (.ref 398) "number_of",en P 720 (.ref 405) "beside",en P 728 (.ref 412) "bits_beside",en P 738 (.ref 419) "tied",en P 745 (.ref 426) "pieces",en P 752 (.ref 433) "told",en P 758 (.ref 438) "names_in",en P 766 (.ref 445) "without",en P 774 (.ref 452) "with_place",en P 783 (.ref 459) "with_tie",en P 792 (.ref 466) "without_tie",en P 796 (.ref 467) "__static_attributes__",en P 798 (.ref 470) "__dict__",en P 800 (.ref 471) "__weakref__",en P 801 .none "__doc__"] 4,#[]⟩:Obj)) ::
 (nat_lit 469,(⟨(.type "type"),none,.cls { name:="Web",bases:=[(.type "object")],mro:=[(.ref 469),(.type "object")],ns:=468,qualname:="Web",hasDict:=true,slotNames:=[],subclasses:=[],abstract:=false,collection:=none,hasDel:=false },#[none,none,(some (.str "Web" 644)),(some (.str "Web" 652)),(some (.builtin "object.__new__")),(some (.bool true))]⟩:Obj)) ::
 (nat_lit 479,cE 804 268 2 474 (.ref 475) .none (.ref 476) (.ref 477) 478 809 "has_bit") ::
 (nat_lit 480,fE 638 479 qaD "onceroad.webs" "has_bit") ::
 (nat_lit 486,cE 812 270 2 481 (.ref 482) .none (.ref 483) (.ref 484) 485 817 "is_place") ::
 (nat_lit 487,fE 638 486 qag "onceroad.webs" "is_place") ::
 (nat_lit 493,cE 820 272 2 488 (.ref 489) .none (.ref 490) (.ref 491) 492 826 "are_two_places") ::
 (nat_lit 494,fE 638 493 jy "onceroad.webs" "are_two_places") ::
 (nat_lit 500,cE 829 277 1 495 (.ref 496) .none (.ref 497) (.ref 498) 499 835 "numbers_of") ::
 (nat_lit 501,fE 638 500 zk "onceroad.webs" "numbers_of") ::
 (nat_lit 507,cE 838 290 2 502 (.ref 503) .none (.ref 504) (.ref 505) 506 847 "near_of") ::
 (nat_lit 508,fE 638 507 qaE "onceroad.webs" "near_of") ::
 (nat_lit 514,cE 852 307 2 509 (.ref 510) .none (.ref 511) (.ref 512) 513 857 "_law_cell") ::
 (nat_lit 515,fE 850 514 qa2 "law_onceroad_k34_rows_turned_to_greatest" "_law_cell") ::
 (nat_lit 521,cE 860 311 1 516 (.ref 517) .none (.ref 518) (.ref 519) 520 864 "_law_box") ::
 (nat_lit 522,fE 850 521 qbL "law_onceroad_k34_rows_turned_to_greatest" "_law_box") ::
 (nat_lit 528,cE 867 315 2 523 (.ref 524) .none (.ref 525) (.ref 526) 527 873 "_law_take") ::
 (nat_lit 529,fE 850 528 qa3 "law_onceroad_k34_rows_turned_to_greatest" "_law_take") ::
 (nat_lit 533,cE 876 324 2 530 (.ref 531) .none .none .none 532 879 "_law_names") ::
 (nat_lit 534,fE 850 533 zy "law_onceroad_k34_rows_turned_to_greatest" "_law_names") ::
 (nat_lit 540,cE 882 338 2 535 (.ref 536) .none (.ref 537) (.ref 538) 539 891 "_law_ties") ::
 (nat_lit 541,fE 850 540 qa4 "law_onceroad_k34_rows_turned_to_greatest" "_law_ties") ::
 (nat_lit 547,cE 894 346 2 542 (.ref 543) .none (.ref 544) (.ref 545) 546 901 "_law_drawn") ::
 (nat_lit 548,fE 850 547 qaH "law_onceroad_k34_rows_turned_to_greatest" "_law_drawn") ::
 (nat_lit 552,cE 904 352 2 549 (.ref 550) .none .none .none 551 907 "_law_shuffled") ::
 (nat_lit 553,fE 850 552 jV "law_onceroad_k34_rows_turned_to_greatest" "_law_shuffled") ::
 (nat_lit 559,cE 910 358 2 554 (.ref 555) .none (.ref 556) (.ref 557) 558 917 "_law_partner") ::
 (nat_lit 560,fE 850 559 zK "law_onceroad_k34_rows_turned_to_greatest" "_law_partner") ::
 (nat_lit 564,cE 920 365 2 561 (.ref 562) .none .none .none 563 923 "_law_singles") ::
 (nat_lit 565,fE 850 564 zc "law_onceroad_k34_rows_turned_to_greatest" "_law_singles") ::
 (nat_lit 571,cE 926 367 2 566 (.ref 567) .none (.ref 568) (.ref 569) 570 934 "_law_some_pairs") ::
 (nat_lit 572,fE 850 571 jT "law_onceroad_k34_rows_turned_to_greatest" "_law_some_pairs") ::
 (nat_lit 578,cE 937 374 3 573 (.ref 574) .none (.ref 575) (.ref 576) 577 943 "_law_tied") ::
 (nat_lit 579,fE 850 578 qa7 "law_onceroad_k34_rows_turned_to_greatest" "_law_tied") ::
 (nat_lit 583,cE 946 376 2 580 (.ref 581) .none .none .none 582 949 "_law_pieces") ::
 (nat_lit 584,fE 850 583 zz "law_onceroad_k34_rows_turned_to_greatest" "_law_pieces") ::
 (nat_lit 588,cE 952 391 3 585 (.ref 586) .none .none .none 587 955 "_law_odds") ::
 (nat_lit 589,fE 850 588 qao "law_onceroad_k34_rows_turned_to_greatest" "_law_odds") ::
 (nat_lit 595,cE 958 394 3 590 (.ref 591) .none (.ref 592) (.ref 593) 594 965 "_law_is_row") ::
 (nat_lit 596,fE 850 595 qap "law_onceroad_k34_rows_turned_to_greatest" "_law_is_row") ::
 (nat_lit 600,cE 968 405 3 597 (.ref 598) .none .none .none 599 971 "_law_turned") ::
 (nat_lit 601,fE 850 600 jQ "law_onceroad_k34_rows_turned_to_greatest" "_law_turned") ::
 (nat_lit 605,cE 974 409 2 602 (.ref 603) .none .none .none 604 977 "_law_in_order") ::
 (nat_lit 606,fE 850 605 jX "law_onceroad_k34_rows_turned_to_greatest" "_law_in_order") ::
 (nat_lit 610,cE 980 414 3 607 (.ref 608) .none .none .none 609 983 "_law_are_told") ::
 (nat_lit 611,fE 850 610 ji "law_onceroad_k34_rows_turned_to_greatest" "_law_are_told") ::
 (nat_lit 615,cE 986 421 4 612 (.ref 613) .none .none .none 614 989 "_law_greatest") ::
 (nat_lit 616,fE 850 615 jD "law_onceroad_k34_rows_turned_to_greatest" "_law_greatest") ::
 (nat_lit 622,cE 992 428 4 617 (.ref 618) .none (.ref 619) (.ref 620) 621 1001 "_law_gone") ::
 (nat_lit 623,fE 850 622 qa8 "law_onceroad_k34_rows_turned_to_greatest" "_law_gone") ::
 (nat_lit 629,cE 1004 437 4 624 (.ref 625) .none (.ref 626) (.ref 627) 628 1016 "_law_right") ::
 (nat_lit 630,fE 850 629 qaK "law_onceroad_k34_rows_turned_to_greatest" "_law_right") ::
 (nat_lit 636,cE 1019 451 1 631 (.ref 632) .none (.ref 633) (.ref 634) 635 1032 "law") ::
 (nat_lit 637,fE 850 636 qcN "law_onceroad_k34_rows_turned_to_greatest" "law") ::
 []
noncomputable def ks:LQ:=[2,3,180,181,187,188,192,193,206,207,213,214,218,219,239,240,246,247,253,254,258,259,265,266,272,273,277,278,280,281,291,292,298,299,303,304,310,311,315,316,322,323,329,330,336,337,341,342,355,356,362,363,369,370,383,384,390,391,397,398,404,405,411,412,418,419,437,438,468,469,479,480,486,487,493,494,500,501,507,508,514,515,521,522,528,529,533,534,540,541,547,548,552,553,559,560,564,565,571,572,578,579,583,584,588,589,595,596,600,601,605,606,610,611,615,616,622,623,629,630,636,637]
theorem ks_eq:∀ P,ks=(Kf P).map (·.1):=fun P=>by kernel_rfl
noncomputable abbrev Hk:Hook:=kHook Kf ks ks_eq
noncomputable abbrev Xt(s:Shared):Bool:=xlAt Q [] s&&recOk [] s
noncomputable abbrev sn(s:Shared):=openSeen Q [] (importedModules PySem.Challenge.pw_onceroad_k34_rows_turned_to_greatest.main.body) Xt true s
noncomputable def runA(w:World)(a:OsState):=(Hd.lookS PySem.Challenge.pw_onceroad_k34_rows_turned_to_greatest NN w a).map fun s=>((sn s).1,(sn s).2.1,(sn s).2.2.1,(sn s).2.2.2.1)
noncomputable def runB(w:World)(a:OsState):=(Hd.lookS PySem.Challenge.pw_onceroad_k34_rows_turned_to_greatest NN w a).map fun s=>(sn s).2.2.2.2
noncomputable def runC(w:World)(a:OsState):=(Hd.lookS PySem.Challenge.pw_onceroad_k34_rows_turned_to_greatest NN w a).map fun s=>ks.map s.heap.get?
noncomputable def gdA(_:World)(_:OsState):=some ((openGood Q []).1,(openGood Q []).2.1,(openGood Q []).2.2.1,(openGood Q []).2.2.2.1)
noncomputable def gdB(_:World)(_:OsState):=some (openGood Q []).2.2.2.2
noncomputable def gdC(w:World)(_:OsState):=some ((Kf w.params).map fun p=>some p.2)
noncomputable def tag{a:Type}(f g:World->OsState->a):Bool:=true
theorem tag1:(tag runA gdA&&(tag runB gdB&&tag runC runC))=true:=by k_qdec
theorem hA1(w:World)(a:OsState):runA w a=gdA w a:=by
 rw[PySem.W.Fast.te3907426784739696420,PySem.W.Fast.te4840945876137604962]
 kernel_rfl
theorem hB1(w:World)(a:OsState):runB w a=gdB w a:=by
 rw[PySem.W.Fast.te4420335564030125191,PySem.W.Fast.te2071586498018860837]
 kernel_rfl
theorem hC1(w:World)(a:OsState):runC w a=gdC w a:=by
 rw[PySem.W.Fast.te10554913847542734750]
 kernel_rfl
theorem hl:LeftO PySem.Challenge.pw_onceroad_k34_rows_turned_to_greatest Q [] Xt (Hook.obs Hk) (Hook.val Hk) NN:=Hd.left_of (by kernel_rfl) (by decide) (fun s=>by kernel_rfl) fun w a=>(Hd.lookT_map ..).trans (Hd.packs (hA1 w a) (hB1 w a) (hC1 w a))
end K34
namespace L2
open PySem PySem.Spec PyProof.Rows
variable{A:Around}{C a b dx it:Addr}{CX:CXT}{D:Ends}{E:Value->Shared->Prop}{H:Hp}{M:Model}{N ps:LS}{P:Program}{X:Cx}{base h:Heap}{body:List Stmt}{c e tg:Expr}{ch fp:LQ}{d':Drawn}{es:List Expr}{f:Value->Value->Sem Value}{g:TG}{g':Array GenState}{i j n t':Nat}{kindOf:Str->Option NameKind}{kw:List (Str×Value)}{lo:Int}{mA mg:Str->Option Value}{o:HO}{op op':CmpOp}{outer:List Env}{pins:List (Addr×Obj)}{pos:Pos}{qual x:Str}{r r':R2}{s s':Shared}{sc scope:Scope}{t te:TE}{tb:TS}{tc:TT}{u:Value}{us:List Value}{v y:V}{vs xs:List V}{w:World}{α:Type}{σ:St}
noncomputable abbrev Key:=Sum Int Str
noncomputable def qct:Key->Value->Bool
 | .inl k,v=>Value.isInt k v
 | .inr x,v=>Value.isStrOf x v
noncomputable def keyH(w:World):Key->Int
 | .inl k=>hashInt k
 | .inr x=>hashStr w x
theorem qV:∀{k:Key} {v:Value},qct k v=true->(∃ i t,k=Sum.inl i/\v=Value.int i t)\/(∃ x t,k=Sum.inr x/\v=Value.str x t)
 | .inl i,v,h=>by
  obtain⟨t,e⟩:=Value.isInt_shape (k:=i) (v:=v) h;show .inl ⟨i,t,rfl,e⟩
 | .inr x,v,h=>by
  obtain⟨t,e⟩:=Value.isStrOf_shape (x:=x) (v:=v) h;show .inr ⟨x,t,rfl,e⟩
theorem keyIs_int(i:Int)(t:Tok):qct (.inl i) (.int i t)=true:=by simp[qct,Value.isInt]
theorem keyIs_str(x:Str)(t:Tok):qct (.inr x) (.str x t)=true:=by simp[qct,Value.isStrOf]
theorem key_ll(a b:Int):decide ((Sum.inl a:Key)=Sum.inl b)=(a==b):=by
 by_cases e:a=b
 .subst e;simp
 .have h:¬ (Sum.inl a:Key)=Sum.inl b:=fun q=>e (Sum.inl.inj q);rw[yl h];show(YU.mpr e).symm
theorem key_rr(a b:Str):decide ((Sum.inr a:Key)=Sum.inr b)=decide (a=b):=by
 by_cases e:a=b
 .subst e;simp
 .have h:¬ (Sum.inr a:Key)=Sum.inr b:=fun q=>e (xR q);rw[yl h,yl e]
theorem key_lr(a:Int)(b:Str):decide ((Sum.inl a:Key)=Sum.inr b)=false:=yl (fun q=>nomatch q)
theorem key_rl(a:Str)(b:Int):decide ((Sum.inr a:Key)=Sum.inl b)=false:=yl (fun q=>nomatch q)
noncomputable def jl(prog:Program)(w:World):PySem.KeyKind prog w Key where
 is:=qct
 hash:=keyH w
 inj:=fun v a b d c=>by
  rcases qV d with⟨i,t,rfl,rfl⟩ | ⟨x,t,rfl,rfl⟩
  .rcases qV c with⟨j,u,rfl,e⟩ | ⟨y,u,rfl,e⟩
   .injection e with e1 _;rw[e1]
   .show nomatch e
  .rcases qV c with⟨j,u,rfl,e⟩ | ⟨y,u,rfl,e⟩
   .show nomatch e
   .injection e with e1 _;rw[e1]
 byValue:=fun k v h=>by
  rcases qV h with⟨i,t,rfl,rfl⟩ | ⟨x,t,rfl,rfl⟩<;>rfl
 pyHash:=fun hv h=>by
  rcases qV hv with⟨i,t,rfl,rfl⟩ | ⟨x,t,rfl,rfl⟩
  .show wpAny_pyHash_int h
  .show wpAny_pyHash_str h
 eqBool:=fun f hv h=>by
  rcases qV f with⟨i,t,rfl,rfl⟩ | ⟨x,t,rfl,rfl⟩
  .rcases qV hv with⟨j,u,rfl,rfl⟩ | ⟨y,u,rfl,rfl⟩
   .rw [key_ll] at h;show wpAny_eqBool_int h
   .rw [key_lr] at h;show SeqAt.EqAt.int_str i t y u _ _ _ _ h
  .rcases qV hv with⟨j,u,rfl,rfl⟩ | ⟨y,u,rfl,rfl⟩
   .rw [key_rl] at h;show SeqAt.EqAt.str_int x t j u _ _ _ _ h
   .rw [key_rr] at h;show wpAny_eqBool_str h
 «strs»:=fun k x t v h=>by
  rcases qV h with⟨i,u,rfl,e⟩ | ⟨y,u,rfl,e⟩
  .show nomatch e
  .injection e with e1 _
   subst e1;cases v<;>rfl
theorem mixKind_int(prog:Program)(w:World)(i:Int)(t:Tok):(jl prog w).is (.inl i) (.int i t)=true:=keyIs_int i t
theorem mixKind_str(prog:Program)(w:World)(x:Str)(t:Tok):(jl prog w).is (.inr x) (.str x t)=true:=keyIs_str x t
inductive V where
 | non | bl (b:Bool) | int (i:Int) | str (x:Str) | byt (b:Array UInt8) | flt (b:UInt64) | ref (a:Addr) | ty (n:String)
 deriving DecidableEq
def RelV:V->Value->Prop
 | .non,u=>u=Value.none
 | .bl b,u=>u=Value.bool b
 | .int i,u=>∃ t,u=Value.int i t
 | .str x,u=>∃ t,u=Value.str x t
 | .byt b,u=>∃ t,u=Value.bytes b t
 | .flt b,u=>∃ t,u=Value.float b t
 | .ref a,u=>u=Value.ref a
 | .ty n,u=>u=Value.type n
abbrev Vals:List V->List Value->Prop:=Paired RelV
theorem Vals.length(r:Vals xs us):xs.length=us.length:=Paired.length r
theorem Vals.get:∀{xs:List V} {us:List Value} {i:Nat} {x:V},Vals xs us->xs[i]?=some x->∃ u,us[i]?=some u/\RelV x u
 | _,_,_,_,.nil,e=>by simp at e
 | _,_,0,_,.cons r _,e=>by simp at e;subst e;show⟨_,rfl,r⟩
 | _,_,i+1,x,.cons _ t,e=>by
  obtain⟨u,h1,a⟩:=Vals.get (i:=i) (x:=x) t (by simpa using e);show⟨u,by simpa using h1,a⟩
theorem Vals.set{x:V}(r:RelV x u):∀{xs:List V} {us:List Value} (i:Nat),Vals xs us->Vals (xs.set i x) (us.set i u)
 | _,_,_,.nil=>.nil
 | _,_,0,.cons _ t=>.cons r t
 | _,_,i+1,.cons q t=>.cons q (Vals.set r i t)
theorem Vals.append:∀{xs ys:List V} {us a:List Value},Vals xs us->Vals ys a->Vals (xs++ys) (us++a)
 | _,_,_,_,.nil,s=>s
 | _,_,_,_,.cons r t,s=>.cons r (Vals.append t s)
theorem Vals.take:∀{xs:List V} {us:List Value} (n:Nat),Vals xs us->Vals (xs.take n) (us.take n)
 | _,_,0,_=>.nil
 | _,_,_+1,.nil=>.nil
 | _,_,n+1,.cons r t=>.cons r (Vals.take n t)
theorem Vals.drop:∀{xs:List V} {us:List Value} (n:Nat),Vals xs us->Vals (xs.drop n) (us.drop n)
 | _,_,0,r=>r
 | _,_,_+1,.nil=>.nil
 | _,_,n+1,.cons _ t=>Vals.drop n t
def RelO:Option V->Option Value->Prop
 | some v,some u=>RelV v u
 | none,none=>True
 | _,_=>False
def KV{a:Type}:List (a×V)->List (a×Value)->Prop:=Paired fun(p:a×V) (q:a×Value)=>p.1=q.1/\RelV p.2 q.2
noncomputable def kV:Key->V
 | .inl i=>.int i
 | .inr x=>.str x
inductive HO where
 /-- a list -/
 | lst (xs:List V)
 /-- a tuple (never changes) -/
 | tup (xs:List V)
 /-- a dict whose keys are ints and texts;one whose keys are tuples of ints and texts (the empty one is both) -/
 | dK (kvs:List (Key×V)) | dT (kvs:List (List Key×V))
 /-- a set of ints: its members,its size -/
 | set (S:Int->Bool) (n:Nat)
 /-- an instance of the class at C,its dict at dx,its attributes -/
 | ins (C dx:Addr) (fs:List (Str×V))
 /-- the dict of the instance at x -/
 | own (x:Addr)
 /-- the dict of an exception -/
 | xd (fs:List (Str×V))
 /-- a bound method,f of x -/
 | met (f x:Addr)
 /-- a range object lo,lo+1,.. below hi -/
 | rng (lo hi:Int)
 /-- a thing that is known to the object (the script;a dict while a loop walks it): read,never written while it is so -/
 | frz (o:Obj) (u:HO)
 /-- a code object's table -/
 | tbl (ps:Array Value)
 /-- any other thing,by what is true of its one object (a def of one's own: SetO a S n:=HO.ext fun h=>..) -/
 | ext (φ:Heap->Prop)
noncomputable abbrev Hp:=Addr->Option HO
noncomputable def upd(H:Hp)(a:Addr)(o:HO):Hp:=fun b=>if b=a then some o else H b
theorem qb:upd H a o a=some o:=by unfold upd;rw[yO rfl]
theorem qf(h:b≠a):upd H a o b=H b:=by unfold upd;rw[yE h]
theorem qaq{u:HO}(h:H a=some o)(h':H b=some u)(d:o≠u):a≠b:=by
 intro e;subst e;rw[h] at h';show d (ym h')
theorem qu(h:H a=some o)(h':H b=none):a≠b:=by
 intro e;subst e;rw[h] at h';cases h'
section
variable(P:Program)(w:World)
def ObjOk(H:Hp)(h:Heap)(a:Addr):HO->Prop
 | .lst xs=>xs.length<=sizeLine/\∃(b:List Value) (n:Nat),Vals xs b/\h.get? a=some { cls:=.type "list",data:=.seq b.toArray n }
 | .tup xs=>xs.length<=sizeLine/\∃ b:List Value,Vals xs b/\IsTup h a b.toArray
 | .dK kvs=>kvs.length<=sizeLine/\(a==sysModules)=false/\∃ vs,KV kvs vs/\h.DictOf (jl P w) a vs
 | .dT kvs=>kvs.length<=sizeLine/\(a==sysModules)=false/\∃ xs:List (List Key×Addr×Value),
   Paired (fun(p:List Key×V) (q:List Key×Addr×Value)=>p.1=q.1/\H q.2.1=some (.tup (p.1.map kV))/\RelV p.2 q.2.2) kvs xs /\
   ∃ o es ep,h.get? a=some o/\o.ExactDict/\o.data=.dict es ep/\es.toList=xs.map (entryOfKey (tupleKind (jl P w)))/\(xs.map (·.1)).Nodup
 | .set S n=>h.SetOf (intKind P w) a S n
 | .ins C dx fs=>H dx=some (.own a)/\fs.length<=1000/\dx≠a/\h.get? a=some (PySem.W.instObj C dx) /\
   ∃ mA,h.Ns1 dx mA/\(∀ f,RelO (fs.lookup f) (mA f))/\PySem.Within mA (fs.map (·.1))
 | .own _=>∃ o,h.get? a=some o
 | .xd fs=>∃ mA,h.Ns1 a mA/\∀ f,RelO (fs.lookup f) (mA f)
 | .rng lo hi=>∃ t u v,h.get? a=some { cls:=.type "range",data:=.fields #[.int lo t,.int hi u,.int 1 v] }
 | .frz o u=>h.get? a=some o/\ObjOk H h a u
 | .tbl ps=>h.get? a=some { cls:=.none,data:=.fields ps }
 | .met f x=>h.get? a=some (PySem.W.methodObj (.ref f) (.ref x))
 | .ext φ=>φ h/\(∃ o,h.get? a=some o)/\∀ h1 c:Heap,φ h1->(∀ o,h1.get? a=some o->c.get? a=some o)->φ c
def HOk(H:Hp)(h:Heap):Prop:=∀ a o,H a=some o->ObjOk P w H h a o
end
section
variable{P:Program}{w:World}{H H':Hp}{h h':Heap}{a:Addr}{o:HO}
theorem ObjOk.lt(x:ObjOk P w H h a o):a<h.objs.size:=by
 cases o with
 | lst xs=>obtain⟨_,_,_,_,e⟩:=x;show yI e
 | tup xs=>obtain⟨_,_,_,p⟩:=x;show p.lt
 | dK kvs=>obtain⟨_,_,_,_,o,_,_,e,_⟩:=x;show yI e
 | dT kvs=>obtain⟨_,_,_,_,o,_,_,e,_⟩:=x;show yI e
 | set S n=>obtain⟨o,_,_,_,e,_⟩:=x;show yI e
 | ins C dx fs=>obtain⟨_,_,_,e,_⟩:=x;show yI e
 | own y=>obtain⟨_,e⟩:=x;show yI e
 | xd fs=>obtain⟨_,⟨_,_,_,e,_⟩,_⟩:=x;show yI e
 | rng lo hi=>obtain⟨_,_,_,e⟩:=x;show yI e
 | frz ob u=>obtain⟨e,_⟩:=x;show yI e
 | tbl ps=>show yI (show h.get? a=some _ from x)
 | met f y=>show yI (show h.get? a=some _ from x)
 | ext φ=>obtain⟨_,⟨_,e⟩,_⟩:=x;show yI e
theorem Paired.mapP{d:Type}{F G:α->d->Prop}:∀{l₁:List α} {c:List d},Paired F l₁ c->(∀ a b,F a b->G a b)->Paired G l₁ c
 | _,_,.nil,_=>.nil
 | _,_,.cons r t,f=>.cons (f _ _ r) (Paired.mapP t f)
theorem ObjOk.stay(x:ObjOk P w H h a o)(k:∀ b u,(b=a\/H b=some (.own a))->h.get? b=some u->h'.get? b=some u)
  (l:∀ b,H b=some (.own a)->H' b=some (.own a)) (m:∀ b xs,H b=some (.tup xs)->H' b=some (.tup xs)):ObjOk P w H' h' a o:=by
 induction o with
 | lst xs=>obtain⟨z,i,n,r,e⟩:=x;show⟨z,i,n,r,k _ _ (.inl rfl) e⟩
 | tup xs=>obtain⟨z,i,r,g,e,c⟩:=x;show⟨z,i,r,g,k _ _ (.inl rfl) e,c⟩
 | dK kvs=>obtain⟨z,y,vs,r,g,es,ep,e,c⟩:=x;show⟨z,y,vs,r,g,es,ep,k _ _ (.inl rfl) e,c⟩
 | dT kvs =>
  obtain⟨z,y,xs,r,g,es,ep,e,c⟩:=x;show⟨z,y,xs,Paired.mapP r fun p q z=>⟨z.1,m _ _ z.2.1,z.2.2⟩,g,es,ep,k _ _ (.inl rfl) e,c⟩
 | set S n=>obtain⟨g,es,ep,t,e,c⟩:=x;show⟨g,es,ep,t,k _ _ (.inl rfl) e,c⟩
 | ins C dx fs =>
  obtain⟨d,z,ne,e,mA,⟨od,es,ep,j,c⟩,r⟩:=x;show⟨l _ d,z,ne,k _ _ (.inl rfl) e,mA,⟨od,es,ep,k _ _ (.inr d) j,c⟩,r⟩
 | own y=>obtain⟨g,e⟩:=x;show⟨g,k _ _ (.inl rfl) e⟩
 | xd fs=>obtain⟨mA,⟨od,es,ep,e,c⟩,r⟩:=x;show⟨mA,⟨od,es,ep,k _ _ (.inl rfl) e,c⟩,r⟩
 | rng lo hi=>obtain⟨t,u,v,e⟩:=x;show⟨t,u,v,k _ _ (.inl rfl) e⟩
 | frz g u ih=>obtain⟨e,q⟩:=x;show⟨k _ _ (.inl rfl) e,ih q⟩
 | tbl ps =>
  have e:h.get? a=some { cls:=.none,data:=.fields ps }:=x;show h'.get? a=some { cls:=.none,data:=.fields ps };show k a _ (.inl rfl) e
 | met f y =>
  have e:h.get? a=some (PySem.W.methodObj (.ref f) (.ref y)):=x;show h'.get? a=some (PySem.W.methodObj (.ref f) (.ref y));show k a _ (.inl rfl) e
 | ext φ=>obtain⟨p,⟨o,e⟩,st⟩:=x;show⟨st _ _ p fun o q=>k _ _ (.inl rfl) q,⟨o,k _ _ (.inl rfl) e⟩,st⟩
theorem HOk.lt(x:HOk P w H h)(e:H a=some o):a<h.objs.size:=(x a o e).lt
theorem HOk.fresh(x:HOk P w H h)(e:h.objs.size<=a):H a=none:=by
 cases q:H a with
 | none=>rfl
 | some u=>show absurd (yj (x.lt q) e) (Yv _)
theorem HOk.kept(x:HOk P w H h)(k:∀ b u,h.get? b=some u->h'.get? b=some u):HOk P w H h':=fun a o e =>
 (x a o e).stay (fun b u _ q=>k b u q) (fun _ q=>q) fun _ _ q=>q
theorem HOk.laid(x:HOk P w H h)(k:∀ b u,h.get? b=some u->h'.get? b=some u)(g:h.objs.size<=a)(new:ObjOk P w (upd H a o) h' a o):HOk P w (upd H a o) h':=fun b u e=>by
 have f:=x.fresh g;by_cases d:b=a
 .subst d;rw[qb] at e;cases e;show new
 .rw [qf d] at e;show(x b u e).stay (fun c v _ q=>k c v q) (fun c q=>by rw[qf (qu q f)];show q) fun c xs q=>by rw[qf (qu q f)];show q
end
def Rd(H:Hp)(a:Addr)(u:HO):Prop:=H a=some u\/∃ o,H a=some (.frz o u)
theorem Rd.ok{u:HO}(r:Rd H a u)(x:HOk P w H h):ObjOk P w H h a u:=by
 rcases r with r | ⟨o,r⟩
 .show x a u r
 .obtain⟨_,q⟩:=x a _ r;show q
def Mut:Option HO->Prop
 | some (.lst _)=>True
 | some (.dK _)=>True
 | some (.dT _)=>True
 | some (.set _ _)=>True
 | some (.ins _ _ _)=>True
 | some (.ext _)=>True
 | _=>False
section
variable{P:Program}{w:World}{H:Hp}{h h':Heap}{x e:Addr}{o':HO}
theorem HOk.write(ok:HOk P w H h)(i:Mut (H x))(l:e=x\/H e=some (.own x))(k:∀ b u,b≠e->h.get? b=some u->h'.get? b=some u)(j:∃ u,h'.get? e=some u)
  (new:ObjOk P w (upd H x o') h' x o'):HOk P w (upd H x o') h':=fun b u q=>by
 have d:∀ c y,H c=some (.own y)->c≠x:=fun c y r z=>by subst z;rw[r] at i;show i
 have f:∀ c xs,H c=some (.tup xs)->c≠x:=fun c xs r z=>by subst z;rw[r] at i;show i
 by_cases g:b=x
 .subst g;rw[qb] at q;cases q;show new
 .rw [qf g] at q;by_cases a:b=e
  .have m:H b=some (.own x):=by
    rcases l with z | z
    .show absurd (a.trans z) g
    .rw [a];show z
   rw[q] at m;cases m;obtain⟨v,hv⟩:=j;show⟨v,by rw[a];show hv⟩
  .show(ok b u q).stay (fun c v hc r=>k c v ?_ r) (fun c r=>by rw[qf (d c b r)];show r) fun c xs r=>by rw[qf (f c xs r)];show r
   rcases hc with rfl | hc
   .show a
   .rintro rfl;rcases l with z | z
    .show d c b hc z
    .rw [hc] at z;cases z;show g rfl
end
structure Un(fs ex:LQ)(H H':Hp)(h h':Heap):Prop where
 keep:∀ b o,h.get? b=some o->H b=none->b∉fs->b∉ex->h'.get? b=some o
 slot:∀ b o,h.get? b=some o->H b=none->b∈fs->b∉ex->∃ sl,h'.get? b=some { o with slots:=sl }
 free:∀ b o,h.get? b=some o->H b=none->b∉ex->H' b=none
 there:∀ b o,h.get? b=some o->b∉ex->∃ o',h'.get? b=some o'
 tups:∀ b xs,H b=some (.tup xs)->H' b=some (.tup xs)
 frzs:∀ b o u,H b=some (.frz o u)->H' b=some (.frz o u)
 tbls:∀ b ps,H b=some (.tbl ps)->∃ more,H' b=some (.tbl (ps++more))
section
variable{fs fs' ex ex':LQ}{H H1 H2:Hp}{h h1 h2 h':Heap}{a x e:Addr}{o:HO}
theorem Un.any(u:Un fs ex H H1 h h1){a:Obj}(q:h.get? b=some a)(n:H b=none)(d:b∉ex):∃ e,h1.get? b=some { a with slots:=e }:=by
 by_cases c:b∈fs
 .show u.slot b a q n c d
 .show⟨a.slots,u.keep b a q n c d⟩
theorem Un.kept(k:∀ b u,h.get? b=some u->h'.get? b=some u):Un fs ex H H h h':=
 ⟨fun b a q _ _ _=>k b a q,fun b a q _ _ _=>⟨a.slots,k b a q⟩,fun _ _ _ n _=>n,fun b a q _=>⟨a,k b a q⟩,fun _ _ q=>q,fun _ _ _ q=>q,fun _ ps q=>⟨#[],by rw[q];simp⟩⟩
theorem Un.refl:Un fs ex H H h h:=Un.kept fun _ _ q=>q
theorem Un.laid(k:∀ b u,h.get? b=some u->h'.get? b=some u)(d:h.objs.size<=a)(c:H a=none):Un fs ex H (upd H a o) h h' where
 keep:=fun b u q _ _ _=>k b u q
 slot:=fun b u q _ _ _=>⟨u.slots,k b u q⟩
 free:=fun b u q n _=>by rw[qf (yL (yj (yI q) d))];show n
 there:=fun b u q _=>⟨u,k b u q⟩
 tups:=fun b xs q=>by rw[qf (qu q c)];show q
 frzs:=fun b u xs q=>by rw[qf (qu q c)];show q
 tbls:=fun b ps q=>⟨#[],by rw[qf (qu q c),q];simp⟩
theorem Un.write(c:Mut (H x))(j:e=x\/H e=some (.own x))(k:∀ b u,b≠e->h.get? b=some u->h'.get? b=some u)(d:∃ u,h'.get? e=some u):Un fs ex H (upd H x o) h h':=by
 have i:∀ b,H b=none->b≠x:=fun b n z=>by subst z;rw[n] at c;show c
 have g:∀ b,H b=none->b≠e:=fun b n z=>by
  subst z;rcases j with r | r
  .show i b n r
  .rw [n] at r;cases r
 have f:∀ b u,H b=some u->¬ Mut (some u)->b≠x:=fun b u q l z=>by subst z;rw[q] at c;show l c
 show⟨fun b u q n _ _=>k b u (g b n) q,fun b u q n _ _=>⟨u.slots,k b u (g b n) q⟩,fun b u q n _=>by rw[qf (i b n)];show n,fun b u q _=>?_,
  fun b xs q=>by rw[qf (f b _ q fun z=>z)];show q,fun b u xs q=>by rw[qf (f b _ q fun z=>z)];show q,fun b ps q=>⟨#[],by rw[qf (f b _ q fun z=>z),q];simp⟩⟩
 by_cases a:b=e
 .subst a;show d
 .show⟨u,k b u a q⟩
end
noncomputable def trk(h:Heap)(H:Hp):LQ:=(List.range h.objs.size).filter fun a=>(H a).isSome
noncomputable def qeb(h:Heap)(H:Hp):Heap:=PySem.W.hideAll h (trk h H)
theorem hidT_size(h:Heap)(H:Hp):(qeb h H).objs.size=h.objs.size:=PySem.W.hideAll_size _ _
theorem hidT_get{o:Obj}(e:h.get? b=some o)(n:H b=none):(qeb h H).get? b=some o:=
 PySem.W.hideAll_get _ e fun a=>by
  have q:(H b).isSome=true:=(yp.mp a).2;rw[n] at q;simp at q
theorem of_hidT{o:Obj}(e:(qeb h H).get? b=some o):h.get? b=some o/\H b=none:=by
 have a:h.get? b=some o:=PySem.W.of_hideAll (trk h H) e;show⟨a,?_⟩
 cases q:H b with
 | none=>rfl
 | some x =>
  have c:b∈trk h H:=yp.mpr ⟨YC.mpr (yI a),by simp[q]⟩;have z:(qeb h H).get? b=none:=PySem.W.hideAll_none (trk h H) c;rw[z] at e;cases e
noncomputable def allNews(g h:Heap)(L:Addr):List (Addr×Obj):=(List.range h.objs.size).filterMap fun a=>if a=L\/(g.get? a).isSome=true then none else(h.get? a).map fun o=>(a,o)
noncomputable def qbR(g h:Heap)(L d:Addr):List (Addr×Obj):=(allNews g h L).filter fun p=>decide (p.1≠d)
structure Mod(K:yg)(mg:Str->Option Value)(base:Heap):Prop where
 kin:K.In base
 glob:base.Ns mainGlobals mg
 blt:∃ mb,base.Ns builtinsNs mb/\∀ x:Str,x≠"__name__"->mb x=bootBuiltins x
 nolimit:base.NoLimit
structure Cx where
 prog:Program
 w:World
 K:yg
 mg:Str->Option Value
 base:Heap
 A:Around
 N:LS
 s₀:Shared
 H₀:Hp
 env:Env
 outer:List Env
 stack:List Env
 ex:LQ
 fn:Str->Bool
 calm:Bool
 pn:List (Addr×Obj)
 xe:Value->Shared->Prop
noncomputable def frs(l:List Env):LQ:=l.filterMap (·.frame)
noncomputable abbrev Cx.fs(X:Cx):LQ:=frs X.outer
def Vis(sc:Scope)(x:Str):Prop:=sc.names.lookup x=some .local\/sc.names.lookup x=some .cell\/sc.names.lookup x=some .free
def Loc(sc:Scope)(x:Str):Prop:=sc.names.lookup x=some .local\/sc.names.lookup x=some .cell
def Look(env:Env)(h:Heap)(m:Str->Option Value)(x:Str)(u:Value):Prop:=
 (env.kindOf x=some .local/\m x=some u)\/((env.kindOf x=some .cell\/env.kindOf x=some .free)/\∃ c,env.cells.lookup x=some c/\h.IsCell c (some u))
structure Cx.Ok(X:Cx):Prop where
 mod:Mod X.K X.mg X.base
 kind:X.env.scope.kind=.function
 glob:X.env.globals=mainGlobals
 blt:X.env.builtins=builtinsNs
 above:X.s₀.heap.objs.size<=X.env.locals
 inj:∀ x y c,X.env.cells.lookup x=some c->X.env.cells.lookup y=some c->x=y
 has:∀ x,(X.env.kindOf x=some .cell\/X.env.kindOf x=some .free)->∃ c,X.env.cells.lookup x=some c
 cab:∀ x c,X.fn x=true->X.env.cells.lookup x=some c->X.s₀.heap.objs.size<=c
 hd:X.calm=true->X.A.handled=none
 frames:X.A.frames=some X.stack
 stk:X.stack=X.outer\/(X.stack=X.env::X.outer/\X.env.frame=some X.env.locals)
 exf:∀ b∈X.ex,b≠X.env.locals/\∀ x c,X.env.cells.lookup x=some c->c≠b
 bs:∀ b o,X.base.get? b=some o->X.s₀.heap.get? b=some o/\X.H₀ b=none
 bsz:X.base.objs.size<=X.s₀.heap.objs.size
 noex:∀ b o,X.base.get? b=some o->b∉X.ex
 exfs:∀ b∈X.ex,b∉X.fs
 funs:X.s₀.heap.FunFrames X.base X.outer
 frf:∀ b∈X.fs,X.H₀ b=none
structure Inv(X:Cx)(pins:List (Addr×Obj))(σ:List (Option V))(H:Hp)(s:Shared):Prop where
 ok:X.Ok
 os:s.os=X.s₀.os
 bare:AllBare s.gens
 base:Un X.fs X.ex X.H₀ H X.s₀.heap s.heap
 loc:∃ m,s.heap.Ns X.env.locals m/\∀(i:Nat) (x:Str) (v:V),X.N[i]?=some x->σ[i]?=some (some v)->Vis X.env.scope x->∃ u,RelV v u/\Look X.env s.heap m x u
 cell:∀ x c,X.env.cells.lookup x=some c->∃ v,s.heap.IsCell c v
 free:H X.env.locals=none
 freeC:∀ x c,X.env.cells.lookup x=some c->H c=none
 pin:∀ p∈X.pn++pins,s.heap.get? p.1=some p.2/\H p.1=none/\p.1≠X.env.locals/\p.1∉X.fs/\∀ v,p.2.data≠.cell v
 hok:HOk X.prog X.w H s.heap
 len:σ.length=X.N.length
section
variable{X:Cx}{pins:List (Addr×Obj)}{σ:List (Option V)}{H H':Hp}{s:Shared}{h':Heap}
theorem Cx.Ok.nofr(ok:X.Ok){o:Obj}(e:X.base.get? b=some o):b∉X.fs:=fun a=>by
 have:=(ok.funs.mem a).1;rw[e] at this;cases this
theorem Inv.bs(I:Inv X pins σ H s):∀ b o,X.base.get? b=some o->s.heap.get? b=some o/\H b=none:=fun b o e =>
 ⟨I.base.keep b o (I.ok.bs b o e).1 (I.ok.bs b o e).2 (I.ok.nofr e) (I.ok.noex b o e),I.base.free b o (I.ok.bs b o e).1 (I.ok.bs b o e).2 (I.ok.noex b o e)⟩
theorem Inv.bk(I:Inv X pins σ H s):∀ b o,X.base.get? b=some o->s.heap.get? b=some o:=fun b o e=>(I.bs b o e).1
theorem Inv.mod(I:Inv X pins σ H s):Mod X.K X.mg X.base:=I.ok.mod
theorem Inv.kIn(I:Inv X pins σ H s):X.K.In s.heap:=I.ok.mod.kin.keeps I.bk
theorem Inv.lt(I:Inv X pins σ H s):X.env.locals<s.heap.objs.size:=let ⟨_,hn,_⟩:=I.loc;hn.lt
theorem Inv.sz(I:Inv X pins σ H s):X.s₀.heap.objs.size<=s.heap.objs.size:=yi I.ok.above (yT I.lt)
theorem Inv.nofs(I:Inv X pins σ H s)(h:s.heap.objs.size<=a):a∉X.fs:=fun b=>by
 obtain⟨_,o,c,_⟩:=I.ok.funs.mem b;show absurd (yj (yI c) (yi I.sz h)) (Yv _)
theorem Inv.cne(I:Inv X pins σ H s):∀ x c,X.env.cells.lookup x=some c->c≠X.env.locals:=fun x c e z=>by
 obtain⟨v,o,f,d⟩:=I.cell x c e;obtain⟨m,⟨g,es,ep,b,a,_⟩,_⟩:=I.loc;rw[z,b] at f;cases f;rw[a] at d;cases d
theorem Inv.funs(I:Inv X pins σ H s):s.heap.FunFrames X.base X.outer:=by
 have all:∀(l:List Env),(∀ b∈frs l,b∈X.fs)->X.s₀.heap.FunFrames X.base l->s.heap.FunFrames X.base l:=by
  intro l
  induction l with
  | nil=>intro _ _;trivial
  | cons env r ih =>
   intro f hl;obtain⟨h,⟨L,o,d,i,j,g⟩,m⟩:=hl;have a:L∈X.fs:=f L (by unfold frs;rw[Xz,d];show yR);obtain⟨n,e⟩:=I.base.slot L o j (I.ok.frf L a) a fun z=>I.ok.exfs L z a;show⟨h,⟨L,_,d,i,e,g⟩,ih (fun b c=>f b (by unfold frs;rw[Xz,d];show yB _ c)) m⟩
 show all X.outer (fun _ c=>c) I.ok.funs
theorem Inv.stack(I:Inv X pins σ H s):s.heap.FunFrames X.base X.stack:=by
 rcases I.ok.stk with e | ⟨e,hf⟩
 .rw [e];show I.funs
 .rw [e];obtain⟨m,a,_⟩:=I.loc;show .cons (by rw[I.ok.kind];decide) hf a ?_ I.funs;show Heap.get?_none_of_le (yi I.ok.bsz I.ok.above)
theorem Inv.stkSub(I:Inv X pins σ H s):∀ b∈frs X.stack,b∈X.env.locals::X.fs:=fun b a=>by
 rcases I.ok.stk with e | ⟨e,hf⟩
 .rw [e] at a;show yB _ a
 .rw [e] at a;unfold frs at a;rw[Xz,hf] at a;show a
theorem Inv.stkFree(I:Inv X pins σ H s):∀ b∈frs X.stack,H b=none:=fun b hb=>by
 rcases yz.mp (I.stkSub b hb) with e | hb
 .rw [e];show I.free
 .obtain⟨_,o,a,_⟩:=I.ok.funs.mem hb;show I.base.free b o a (I.ok.frf b hb) fun z=>I.ok.exfs b z hb
theorem Inv.step(I:Inv X pins σ H s)
  (f:∀ b∈ch,(b∈X.ex\/X.s₀.heap.objs.size<=b)/\b≠X.env.locals/\(∀ x c,X.env.cells.lookup x=some c->c≠b)/\∀ p∈X.pn++pins,p.1≠b)
  (keep:∀ b o,b≠X.env.locals->b∉X.fs->b∉ch->s.heap.get? b=some o->H b=none->h'.get? b=some o)
  (t:∀ b o,b≠X.env.locals->b∈X.fs->b∉ch->s.heap.get? b=some o->H b=none->∃ M,h'.get? b=some { o with slots:=M }) (free:∀ b o,b∉ch->s.heap.get? b=some o->H b=none->H' b=none)
  (A:∀ b o,b∉ch->s.heap.get? b=some o->∃ F,h'.get? b=some F)
  (J:∀ b xs,H b=some (.tup xs)->H' b=some (.tup xs)) (D:∀ b o u,H b=some (.frz o u)->H' b=some (.frz o u)) (G:∀ b ps,H b=some (.tbl ps)->∃ more,H' b=some (.tbl (ps++more)))
  (ns:∀ m,s.heap.Ns X.env.locals m->h'.Ns X.env.locals m) (L:HOk X.prog X.w H' h') (S:AllBare g') :
  Inv X pins σ H' { s with heap:=h',gens:=g',drawn:=d',toks:=t' }:=by
 have E:∀ b o,X.s₀.heap.get? b=some o->b≠X.env.locals:=fun b o e=>yL (yj (yI e) I.ok.above)
 have j:∀ b o,X.s₀.heap.get? b=some o->b∉X.ex->b∉ch:=fun b o e a y=>by
  rcases(f b y).1 with z | z
  .show a z
  .show absurd (yj (yI e) z) (Yv _)
 have cellK:∀ x c,X.env.cells.lookup x=some c->∀ v,s.heap.IsCell c v->h'.IsCell c v:=fun x c e v ⟨o,B,K⟩=>by
  have g:c∉ch:=fun z=>(f c z).2.2.1 x c e rfl;by_cases hc:c∈X.fs
  .obtain⟨M,q⟩:=t c o (I.cne x c e) hc g B (I.freeC x c e);show⟨_,q,K⟩
  .show⟨o,keep c o (I.cne x c e) hc g B (I.freeC x c e),K⟩
 show⟨I.ok,I.os,S,⟨fun b o e n y a=>?_,fun b o e n y a=>?_,fun b o e n a=>?_,fun b o e a=>?_,fun b xs e=>J b xs (I.base.tups b xs e),fun b o xs e=>D b o xs (I.base.frzs b o xs e),fun b ps e=>?_⟩,?_,fun x c e=>?_,?_,fun x c e=>?_,fun p O=>?_,L,I.len⟩
 .show keep b o (E b o e) y (j b o e a) (I.base.keep b o e n y a) (I.base.free b o e n a)
 .obtain⟨M,h⟩:=I.base.slot b o e n y a;obtain⟨N,C⟩:=t b _ (E b o e) y (j b o e a) h (I.base.free b o e n a);show⟨N,C⟩
 .obtain⟨F,h⟩:=I.base.there b o e a;show free b F (j b o e a) h (I.base.free b o e n a)
 .obtain⟨F,h⟩:=I.base.there b o e a;show A b F (j b o e a) h
 .obtain⟨U,h⟩:=I.base.tbls b ps e;obtain⟨W,C⟩:=G b _ h;show⟨U++W,by rw[C,Array.append_assoc]⟩
 .obtain⟨m,T,hl⟩:=I.loc;show⟨m,ns m T,fun i x v h C R=>?_⟩;obtain⟨u,r,l⟩:=hl i x v h C R;show⟨u,r,?_⟩;rcases l with l | ⟨k,c,e,z⟩
  .show .inl l
  .show .inr ⟨k,c,e,cellK x c e _ z⟩
 .obtain⟨v,z⟩:=I.cell x c e;show⟨v,cellK x c e v z⟩
 .obtain⟨m,⟨o,_,_,B,_⟩,_⟩:=I.loc;show free _ o (fun z=>(f _ z).2.1 rfl) B I.free
 .obtain⟨v,o,B,K⟩:=I.cell x c e;show free c o (fun z=>(f c z).2.2.1 x c e rfl) B (I.freeC x c e)
 .obtain⟨e,n,ne,P,d⟩:=I.pin p O;have g:p.1∉ch:=fun z=>(f p.1 z).2.2.2 p O rfl;show⟨keep p.1 p.2 ne P g e n,free p.1 p.2 g e n,ne,P,d⟩
theorem Inv.un(I:Inv X pins σ H s)(u:Un X.fs [] H H' s.heap h')(f:HOk X.prog X.w H' h'):Inv X pins σ H' { s with heap:=h',toks:=t' }:=by
 obtain⟨m,⟨o,es,ep,g,r⟩,_⟩:=id I.loc;obtain⟨p,h⟩:=u.any g I.free (by simp)
 show I.step (g':=s.gens) (d':=s.drawn) (ch:=[]) (fun _ z=>nomatch z) (fun b o _ d _ e n=>u.keep b o e n d (by simp)) (fun b o _ d _ e n=>u.slot b o e n d (by simp)) (fun b o _ e n=>u.free b o e n (by simp)) (fun b o _ e=>u.there b o e (by simp)) u.tups u.frzs u.tbls (fun j i=>by
  obtain⟨l,es',c,a,r'⟩:=i;rw[g] at a;cases a;show⟨_,es',c,h,r'⟩) f I.bare
theorem Inv.call(I:Inv X pins σ H s)(u:Un (frs X.stack) ch H H' s.heap h')(h:HOk X.prog X.w H' h')(l:AllBare g')
  (a:∀ b∈ch,(b∈X.ex\/X.s₀.heap.objs.size<=b)/\b≠X.env.locals/\(∀ x c,X.env.cells.lookup x=some c->c≠b)/\∀ p∈X.pn++pins,p.1≠b) :
  Inv X pins σ H' { s with heap:=h',gens:=g',drawn:=d',toks:=t' }:=by
 obtain⟨m,⟨o,es,ep,i,r⟩,_⟩:=id I.loc;obtain⟨y,g⟩:=u.any i I.free fun z=>(a _ z).2.1 rfl
 show I.step (ch:=ch) a (fun b o g j hc e n=>u.keep b o e n (fun z=>(yz.mp (I.stkSub b z)).elim g j) hc) (fun b o _ _ hc e n=>u.any e n hc) (fun b o hc e n=>u.free b o e n hc) (fun b o hc e=>u.there b o e hc) u.tups u.frzs u.tbls (fun t q=>by
  obtain⟨v,es',f,d,r'⟩:=q;rw[i] at d;cases d;show⟨_,es',f,g,r'⟩) h l
theorem Inv.turned(I:Inv X pins σ H s)(k:∀ b o,b≠it->s.heap.get? b=some o->h'.get? b=some o)(j:H it=none)(d:it≠X.env.locals)
  (h1:it∈X.ex\/X.s₀.heap.objs.size<=it) (f:∀ x c,X.env.cells.lookup x=some c->c≠it) (g:∀ p∈X.pn++pins,p.1≠it):Inv X pins σ H { s with heap:=h',toks:=t' }:=by
 have a:∀ b u,H b=some u->b≠it:=fun b u e z=>by rw[z,j] at e;cases e
 show I.step (g':=s.gens) (d':=s.drawn) (ch:=[it]) (fun b h=>?_) (fun b o _ _ hc e _=>k b o (fun z=>hc (by simp[z])) e) (fun b o _ _ hc e _=>⟨o.slots,k b o (fun z=>hc (by simp[z])) e⟩) (fun _ _ _ _ n=>n)
  (fun b o hc e=>⟨o,k b o (fun z=>hc (by simp[z])) e⟩) (fun _ _ e=>e) (fun _ _ _ e=>e) (fun b ps e=>⟨#[],by rw[e];simp⟩) (fun m i=>?_) (fun b u e=>?_) I.bare
 .have e:b=it:=by simpa using h
  subst e;show⟨h1,d,f,g⟩
 .obtain⟨o,es,ep,l,r⟩:=i;show⟨o,es,ep,k _ o (Ye d) l,r⟩
 .show(I.hok b u e).stay (fun c v hc q=>k c v ?_ q) (fun _ q=>q) fun _ _ q=>q;rcases hc with z | z
  .rw [z];show a b u e
  .show a c _ z
theorem Inv.tok(I:Inv X pins σ H s)(t:Nat):Inv X pins σ H { s with toks:=t }:=I.un (h':=s.heap) (t':=t) Un.refl I.hok
theorem Inv.kept(I:Inv X pins σ H s)(k:∀ b u,s.heap.get? b=some u->h'.get? b=some u):Inv X pins σ H { s with heap:=h',toks:=t' }:=I.un (Un.kept k) (I.hok.kept k)
theorem Inv.laid(I:Inv X pins σ H s)(k:∀ b u,s.heap.get? b=some u->h'.get? b=some u)(c:s.heap.objs.size<=a)(new:ObjOk X.prog X.w (upd H a o) h' a o) :
  Inv X pins σ (upd H a o) { s with heap:=h',toks:=t' }:=I.un (Un.laid k c (I.hok.fresh c)) (I.hok.laid k c new)
theorem Inv.write{x e:Addr}(I:Inv X pins σ H s)(d:Mut (H x))(c:e=x\/H e=some (.own x))(k:∀ b u,b≠e->s.heap.get? b=some u->h'.get? b=some u)(a:∃ u,h'.get? e=some u)
  (new:ObjOk X.prog X.w (upd H x o) h' x o):Inv X pins σ (upd H x o) { s with heap:=h',toks:=t' }:=I.un (Un.write d c k a) (I.hok.write d c k a new)
theorem Inv.weak{a:List (Option V)}(I:Inv X pins σ H s)(hl:a.length=σ.length)(w:∀(i:Nat) v,a[i]?=some (some v)->σ[i]?=some (some v)):Inv X pins a H s:=
 ⟨I.ok,I.os,I.bare,I.base,let ⟨m,hn,hl'⟩:=I.loc;⟨m,hn,fun i x v b c d=>hl' i x v b (w i v c) d⟩,I.cell,I.free,I.freeC,I.pin,I.hok,hl.trans I.len⟩
theorem Inv.pins_of{pins':List (Addr×Obj)}(I:Inv X pins σ H s)(h:∀ p∈pins',s.heap.get? p.1=some p.2/\H p.1=none/\p.1≠X.env.locals/\p.1∉X.fs/\∀ v,p.2.data≠.cell v):Inv X pins' σ H s:=
 ⟨I.ok,I.os,I.bare,I.base,I.loc,I.cell,I.free,I.freeC,fun p a=>(yw.mp a).elim (fun z=>I.pin p (yF _ z)) (h p),I.hok,I.len⟩
theorem qcP(e:N.Nodup)(a:N[i]?=some x)(b:N[j]?=some x):i=j:=by
 obtain⟨h1,c⟩:=yc.mp a;obtain⟨f,d⟩:=yc.mp b;show(List.getElem_inj e).mp (c.trans d.symm)
theorem qbS{Q:Unit->Shared->Prop}(I:Inv X pins σ H s)(hN:X.N.Nodup)(P:X.N[i]?=some x)(t:Loc X.env.scope x)(r:RelV v u)
  (h:∀ s',Inv X pins (σ.set i (some v)) H s'->(∃ a,Heap.SameBut a s.heap s'.heap/\(a=X.env.locals\/X.env.cells.lookup x=some a))->Q () s') (hf:X.fn x=true\/X.env.scope.names.lookup x=some .local:=by first | show .inl rfl | show .inr rfl | assumption):wpAny M A (storeName X.env x u) Q E s:=by
 obtain⟨m,Y,hl⟩:=id I.loc;have O:(X.env.scope.kind==.class||(X.env.scope.kind==.module&&X.env.locals != X.env.globals))=false:=by rw[I.ok.kind];rfl
 have D:i<σ.length:=by rw[I.len];show(yc.mp P).1
 have cne:=I.cne
 have l:∀{a:Addr} {h':Heap},(∃ o,s.heap.get? a=some o/\H a=none)->Heap.SameBut a s.heap h'->HOk X.prog X.w H h':=fun{a h'} ha f b ob e=>by
  obtain⟨_,_,B⟩:=ha;show(I.hok b ob e).stay (fun c U hc q=>(f.2 c ?_).trans q) (fun _ q=>q) fun _ _ q=>q;rintro rfl;rcases hc with rfl | hc
  .rw [B] at e;cases e
  .rw [B] at hc;cases hc
 rcases t with hk | hk
 .show wpAny_storeName_local hk Y (fun h' Z f=>?_) O;obtain⟨oL,_,_,aa,_⟩:=id Y;show h _ ⟨I.ok,I.os,I.bare,⟨fun b o e n F t=>?_,fun b o e n F t=>?_,I.base.free,fun b o e t=>?_,I.base.tups,I.base.frzs,I.base.tbls⟩,⟨_,Z,fun j y v' g C W=>?_⟩,fun y c e=>?_,I.free,I.freeC,fun p hp=>?_,l ⟨oL,aa,I.free⟩ f,by simpa using I.len⟩ ⟨_,f,.inl rfl⟩
  .show(f.2 b (yL (yj (yI e) I.ok.above))).trans (I.base.keep b o e n F t)
  .obtain⟨sl,g⟩:=I.base.slot b o e n F t;show⟨sl,(f.2 b (yL (yj (yI e) I.ok.above))).trans g⟩
  .obtain⟨o',g⟩:=I.base.there b o e t;show⟨o',(f.2 b (yL (yj (yI e) I.ok.above))).trans g⟩
  .by_cases J:j=i
   .subst J;rw[P] at g;cases g;rw[List.getElem?_set_self D] at C;cases C;show⟨u,r,.inl ⟨hk,by simp⟩⟩
   .rw [xS (Ye J)] at C;obtain⟨u',r',q⟩:=hl j y v' g C W;show⟨u',r',?_⟩;rcases q with⟨k,e⟩ | ⟨k,c,e,z⟩
    .show .inl ⟨k,?_⟩;have:y≠x:=fun e=>J (qcP hN g (e ▸ P));simp[this,e]
    .show .inr ⟨k,c,e,z.sameBut f (cne y c e)⟩
  .obtain⟨U,z⟩:=I.cell y c e;show⟨U,z.sameBut f (cne y c e)⟩
  .obtain⟨e,n,ne,nf,d⟩:=I.pin p hp;show⟨(f.2 p.1 ne).trans e,n,ne,nf,d⟩
 .have G:X.fn x=true:=by
   rcases hf with z | z
   .show z
   .rw [z] at hk;cases hk
  obtain⟨c,hc⟩:=I.ok.has x (.inl hk);obtain⟨U,z⟩:=I.cell x c hc;show wpAny_storeName_cell I.ok.kind hk hc z (fun h' K f=>?_);obtain⟨oc,R,S⟩:=id z;show h { s with heap:=h' } ⟨I.ok,I.os,I.bare,⟨fun b o e n F t=>?_,fun b o e n F t=>?_,I.base.free,fun b o e t=>?_,I.base.tups,I.base.frzs,I.base.tbls⟩,⟨m,Y.sameBut f (Ye (cne x c hc)),fun j y v' g C W=>?_⟩,fun y T e=>?_,I.free,I.freeC,fun p hp=>?_,l ⟨oc,R,I.freeC x c hc⟩ f,by simpa using I.len⟩ ⟨c,f,.inr hc⟩
  .show(f.2 b (yL (yj (yI e) (I.ok.cab x c G hc)))).trans (I.base.keep b o e n F t)
  .obtain⟨sl,g⟩:=I.base.slot b o e n F t;show⟨sl,(f.2 b (yL (yj (yI e) (I.ok.cab x c G hc)))).trans g⟩
  .obtain⟨o',g⟩:=I.base.there b o e t;show⟨o',(f.2 b (yL (yj (yI e) (I.ok.cab x c G hc)))).trans g⟩
  .by_cases J:j=i
   .subst J;rw[P] at g;cases g;rw[List.getElem?_set_self D] at C;cases C;show⟨u,r,.inr ⟨.inl hk,c,hc,K⟩⟩
   .rw [xS (Ye J)] at C;obtain⟨u',r',q⟩:=hl j y v' g C W;show⟨u',r',?_⟩;rcases q with q | ⟨k,T,e,z'⟩
    .show .inl q
    .show .inr ⟨k,T,e,z'.sameBut f ?_⟩;rintro rfl;show J (qcP hN g (I.ok.inj _ _ _ e hc ▸ P))
  .by_cases L:T=c
   .subst L;show⟨_,K⟩
   .obtain⟨w2,z2⟩:=I.cell y T e;show⟨w2,z2.sameBut f L⟩
  .obtain⟨e,n,ne,nf,d⟩:=I.pin p hp;show⟨(f.2 p.1 ?_).trans e,n,ne,nf,d⟩;intro q;rw[q,R] at e;have q':oc=p.2:=ym e;show d U (by rw[<- q'];show S)
theorem qcQ{Q:Unit->Shared->Prop}(I:Inv X pins σ H s)(b:X.N.Nodup)(d:X.N[i]?=some x)(e:Loc X.env.scope x)(r:RelV v u)
  (h:∀ s',Inv X pins (σ.set i (some v)) H s'->Q () s') (c:X.fn x=true\/X.env.scope.names.lookup x=some .local:=by first | show .inl rfl | show .inr rfl | assumption):wpAny M A (storeName X.env x u) Q E s:=
 qbS I b d e r (fun s' a _=>h s' a) c
theorem Inv.call'(I:Inv X pins σ H s)(g:s'.os=s.os)(u:Un (frs X.stack) ch H H' s.heap s'.heap)(d:HOk X.prog X.w H' s'.heap)(f:AllBare s'.gens)
  (a:∀ b∈ch,(b∈X.ex\/X.s₀.heap.objs.size<=b)/\b≠X.env.locals/\(∀ x c,X.env.cells.lookup x=some c->c≠b)/\∀ p∈X.pn++pins,p.1≠b):Inv X pins σ H' s':=by
 obtain⟨h',g',d',t',h⟩:=s';have e:h=s.os:=g;subst e;show I.call (g':=g') (t':=t') (d':=d') u d f a
end
abbrev XK:=Value->Option Addr->Hp->Prop
noncomputable abbrev St:=List (Option V)
abbrev VK:=V->Hp->Prop
abbrev TE:=St->Hp->VK->Prop
abbrev TT:=St->Hp->(Bool->Hp->Prop)->Prop
abbrev TA:=St->Hp->(List V->Hp->Prop)->Prop
structure Ends where
 nx:St->Hp->Prop
 rt:VK
 bk:St->Hp->Prop:=fun _ _=>False
 ct:St->Hp->Prop:=fun _ _=>False
abbrev TS:=Ends->St->Hp->Prop
def EP(X:Cx)(pins:List (Addr×Obj))(σ:St)(Q:VK)(u:Value)(s':Shared):Prop:=∃ v H',Inv X pins σ H' s'/\RelV v u/\Q v H'
def TP(X:Cx)(pins:List (Addr×Obj))(σ:St)(Q:Bool->Hp->Prop)(b:Bool)(s':Shared):Prop:=∃ H',Inv X pins σ H' s'/\Q b H'
def AP(X:Cx)(pins:List (Addr×Obj))(σ:St)(Q:List V->Hp->Prop)(us:List Value)(s':Shared):Prop:=∃ vs H',Inv X pins σ H' s'/\Vals vs us/\Q vs H'
def SP(X:Cx)(pins:List (Addr×Obj))(D:Ends)(f:Flow)(s':Shared):Prop:=
 match f with
 | .next=>∃ a H',Inv X pins a H' s'/\D.nx a H'
 | .brk=>∃ a H',Inv X pins a H' s'/\D.bk a H'
 | .cont=>∃ a H',Inv X pins a H' s'/\D.ct a H'
 | .ret u=>∃ v a H',Inv X pins a H' s'/\RelV v u/\D.rt v H'
def PE(X:Cx)(e:Expr)(t:TE):Prop:=
 ∀(pins:List (Addr×Obj)) (s:Shared) (σ:St) (H:Hp) (Q:VK),Inv X pins σ H s->t σ H Q->wpAny (model X.prog X.w) X.A (eval e X.env) (EP X pins σ Q) X.xe s
def PT(X:Cx)(e:Expr)(t:TT):Prop:=
 ∀(pins:List (Addr×Obj)) (s:Shared) (σ:St) (H:Hp) (Q:Bool->Hp->Prop),Inv X pins σ H s->t σ H Q->wpAny (model X.prog X.w) X.A (isTrue e X.env (eval e X.env)) (TP X pins σ Q) X.xe s
def PW(X:Cx)(e:Expr)(t:TT):Prop:=
 ∀(a:Sem Value) (pins:List (Addr×Obj)) (s:Shared) (σ:St) (H:Hp) (Q:Bool->Hp->Prop),Inv X pins σ H s->t σ H Q->wpAny (model X.prog X.w) X.A (isTrue e X.env a) (TP X pins σ Q) X.xe s
theorem PW.pt{t:TT}(h:PW X e t):PT X e t:=h _
def PA(X:Cx)(es:List Expr)(t:TA):Prop:=
 ∀(pos:Pos) (pins:List (Addr×Obj)) (s:Shared) (σ:St) (H:Hp) (Q:List V->Hp->Prop),Inv X pins σ H s->t σ H Q->wpAny (model X.prog X.w) X.A (spliced (backTo pos (starEach es X.env))) (AP X pins σ Q) X.xe s
def PS(X:Cx)(st:Stmt)(t:TS):Prop:=
 ∀(pins:List (Addr×Obj)) (s:Shared) (σ:St) (H:Hp) (D:Ends),Inv X pins σ H s->t D σ H->wpAny (model X.prog X.w) X.A (exec st X.env) (SP X pins D) X.xe s
def PSs(X:Cx)(st:List Stmt)(t:TS):Prop:=
 ∀(pins:List (Addr×Obj)) (s:Shared) (σ:St) (H:Hp) (D:Ends),Inv X pins σ H s->t D σ H->wpAny (model X.prog X.w) X.A (execs st X.env) (SP X pins D) X.xe s
theorem thn{t:Sem α}{Q b:α->Shared->Prop}(h:wpAny M A t Q E s)(c:∀ a s,Q a s->b a s):wpAny M A t b E s:=YV h c fun _ _ x=>x
section
variable{X:Cx}
def qfD(i:Nat):TE:=fun σ H Q=>∃ v,σ[i]?=some (some v)/\Q v H
def tC(v:V):TE:=fun _ H Q=>Q v H
theorem pe_var(g:X.N[i]?=some x)(hv:Vis X.env.scope x)(f:(x==("__debug__":Str))=false:=by decide)(d:(x==("__classdict__":Str))=false:=by decide):PE X (.Name x pos) (qfD i):=by
 intro pins s σ H Q I h;obtain⟨v,e,h⟩:=h;obtain⟨m,n,hl⟩:=I.loc;obtain⟨u,r,l⟩:=hl i x v g e hv;have b:EP X pins σ Q u s:=⟨v,H,I,r,h⟩;rcases l with⟨hk,j⟩ | ⟨hk,c,hc,a⟩
 .show wpAny_Name (wpAny_loadName_local I.ok.kind hk n j b) f
 .rcases hk with hk | hk
  .show wpAny_Name (wpAny_loadName_cell I.ok.kind hk hc a b) f
  .show wpAny_Name (wpAny_loadName_free I.ok.kind hk hc a b d) f
theorem qi{i j pos}:PE X (.Constant (.int i) j pos) (tC (.int i)):=fun _ _ _ H _ I h=>wpAny_Constant_int ⟨.int i,H,I.tok _,⟨_,rfl⟩,h⟩
theorem jz{b j pos}:PE X (.Constant (.bool b) j pos) (tC (.bl b)):=fun _ _ _ H _ I h=>Constant_bool ⟨.bl b,H,I,rfl,h⟩
theorem jL{j pos}:PE X (.Constant .none j pos) (tC .non):=fun _ _ _ H _ I h=>Constant_none ⟨.non,H,I,rfl,h⟩
theorem qcR{x j pos}:PE X (.Constant (.str x) j pos) (tC (.str x)):=fun _ _ _ H _ I h=>Calls.Constant_str ⟨.str x,H,I.tok _,⟨_,rfl⟩,h⟩
def Gl(X:Cx)(x:Str):Prop:=X.env.kindOf x=some .globalImplicit
theorem qcu{Q:Value->Shared->Prop}(I:Inv X pins σ H s)(b:Gl X x)(c:X.mg x=some u)(h:Q u s)
  (a:(x==("__debug__":Str))=false:=by decide):wpAny (model X.prog X.w) X.A (eval (.Name x pos) X.env) Q E s:=
 Calls.Name_function_global I.ok.kind b (Calls.loadGlobal_global (by rw[I.ok.glob];show I.mod.glob.keeps I.bk) c h) a
theorem qa9{Q:Value->Shared->Prop}(I:Inv X pins σ H s)(c:Gl X x)(d:X.mg x=none)(hv:bootBuiltins x=some u)(h:Q u s)
  (e:x≠"__name__":=by decide) (b:(x==("__debug__":Str))=false:=by decide):wpAny (model X.prog X.w) X.A (eval (.Name x pos) X.env) Q E s:=by
 obtain⟨f,h1,a⟩:=I.mod.blt;show Calls.Name_function_global I.ok.kind c (Calls.loadGlobal_builtin (by rw[I.ok.glob];show I.mod.glob.keeps I.bk) d (by rw[I.ok.blt];show h1.keeps I.bk) ((a x e).trans hv) h) b
theorem pe_glob(b:Gl X x)(c:X.mg x=some u)(r:RelV v u)(a:(x==("__debug__":Str))=false:=by decide):PE X (.Name x pos) (tC v):=
 fun _ _ _ H _ I h=>qcu I b c ⟨v,H,I,r,h⟩ a
theorem jm(b:Gl X x)(c:X.mg x=none)(hv:bootBuiltins x=some u)(r:RelV v u)(d:x≠"__name__":=by decide)(a:(x==("__debug__":Str))=false:=by decide):PE X (.Name x pos) (tC v):=
 fun _ _ _ H _ I h=>qa9 I b c hv ⟨v,H,I,r,h⟩ d a
variable{a b:Expr}{ta tb:TE}{pos:Pos}
def tB(t:TE):TT:=fun σ H Q=>t σ H fun x a=>∃ c,x=.bl c/\Q c a
theorem qL(h:PE X e t)(f:∀ a,isTrue e X.env a=(do let v <- a;standAt e.pos;holding [v] (truthy v)):=by intro _;rfl):PT X e (tB t):=by
 intro pins s σ H Q I hw;show isTrue_plain (thn (h pins s σ H _ I hw) fun v j ⟨x,b,c,i,g⟩=>?_) (f _);obtain⟨d,rfl,q⟩:=g;cases i;show xx ⟨b,c,q⟩
variable{tA tB':TT}{qbR:List Expr}
def qfN(t u:TT):TT:=fun σ H Q=>t σ H fun c a=>if c=true then u σ a Q else Q false a
def tOr(t u:TT):TT:=fun σ H Q=>t σ H fun c a=>if c=true then Q true a else u σ a Q
def qfO(t:TT):TT:=fun σ H Q=>t σ H fun c a=>Q (!c) a
theorem zP(b:PT X a tA):PW X (.BoolOp .And [a] pos) tA:=by
 intro f pins s σ H Q I h;show isTrue_and (thn (b pins s σ H Q I h) fun c d e=>?_)
 cases c with
 | true=>show isTrue_and_nil e
 | false=>show e
theorem jM(b:PT X a tA):PW X (.BoolOp .Or [a] pos) tA:=by
 intro f pins s σ H Q I h;show isTrue_or (thn (b pins s σ H Q I h) fun c d e=>?_)
 cases c with
 | false=>show isTrue_or_nil e
 | true=>show e
theorem qaU(g:PT X a tA)(i:PW X (.BoolOp .And (b::qbR) pos) tB'):PW X (.BoolOp .And (a::b::qbR) pos) (qfN tA tB'):=by
 intro l pins s σ H Q I h;show isTrue_and (thn (g pins s σ H _ I h) fun c j ⟨d,e,f⟩=>?_)
 cases c with
 | true=>show i l pins j σ d Q e f
 | false=>show⟨d,e,f⟩
theorem zq(g:PT X a tA)(i:PW X (.BoolOp .Or (b::qbR) pos) tB'):PW X (.BoolOp .Or (a::b::qbR) pos) (tOr tA tB'):=by
 intro l pins s σ H Q I h;show isTrue_or (thn (g pins s σ H _ I h) fun c j ⟨d,e,f⟩=>?_)
 cases c with
 | true=>show⟨d,e,f⟩
 | false=>show i l pins j σ d Q e f
theorem qS(d:PT X a tA):PT X (.UnaryOp .Not a pos) (qfO tA):=by
 intro pins s σ H Q I h;show isTrue_not (d pins s σ H (fun c b=>Q (!c) b) I h)
def qe2(ta tb:TE):TE:=fun σ H Q=>ta σ H fun x a=>∃ c,x=.bl c/\if c=true then tb σ a Q else Q (.bl false) a
def qfP(ta tb:TE):TE:=fun σ H Q=>ta σ H fun x a=>∃ c,x=.bl c/\if c=true then Q (.bl true) a else tb σ a Q
def tNotV(ta:TE):TE:=fun σ H Q=>ta σ H fun x a=>∃ c,x=.bl c/\Q (.bl (!c)) a
theorem qbt{op}(h:PE X a t):PE X (.BoolOp op [a] pos) t:=fun pins s σ H Q I hw=>BoolOp_one (h pins s σ H Q I hw)
theorem qbT(g:PE X a ta)(i:PE X (.BoolOp .And (b::qbR) pos) tb):PE X (.BoolOp .And (a::b::qbR) pos) (qe2 ta tb):=by
 intro pins s σ H Q I h;show BoolOp_and (thn (g pins s σ H _ I h) fun v l ⟨x,e,f,j,d⟩=>?_);obtain⟨c,rfl,d⟩:=d;cases j;show xx ?_
 cases c with
 | true=>show i pins l σ e Q f d
 | false=>show⟨.bl false,e,f,rfl,d⟩
theorem pe_or(g:PE X a ta)(i:PE X (.BoolOp .Or (b::qbR) pos) tb):PE X (.BoolOp .Or (a::b::qbR) pos) (qfP ta tb):=by
 intro pins s σ H Q I h;show BoolOp_or (thn (g pins s σ H _ I h) fun v l ⟨x,e,f,j,d⟩=>?_);obtain⟨c,rfl,d⟩:=d;cases j;show xx ?_
 cases c with
 | false=>show i pins l σ e Q f d
 | true=>show⟨.bl true,e,f,rfl,d⟩
def tIf(t:TT)(ta tb:TE):TE:=fun σ H Q=>t σ H fun c a=>if c=true then ta σ a Q else tb σ a Q
theorem pe_ifExp(hc:PT X c tA)(j:PE X a ta)(l:PE X b tb):PE X (.IfExp c a b pos) (tIf tA ta tb):=by
 intro pins s σ H Q I h;show wpAny_IfExp (thn (hc pins s σ H _ I h) fun d i ⟨e,f,g⟩=>?_)
 cases d with
 | true=>show j pins i σ e Q f g
 | false=>show l pins i σ e Q f g
end
def SqL(K:yg)(H:Hp)(a:Addr)(xs:List V):Prop:=
 Rd H a (.lst xs) \/
  ∃(o:Obj) (b:Array Value) (n:Nat),K.lookup a=some o/\o.cls=.type "list"/\o.dict=none/\o.data=.seq b n/\b.size<=sizeLine/\Vals xs b.toList
def SqT(K:yg)(H:Hp)(a:Addr)(xs:List V):Prop:=
 Rd H a (.tup xs) \/
  ∃(o:Obj) (b:Array Value) (n:Nat),K.lookup a=some o/\o.cls=.type "tuple"/\o.data=.seq b n/\b.size<=sizeLine/\Vals xs b.toList
noncomputable def absV:Value->Option V
 | .none=>some .non
 | .bool b=>some (.bl b)
 | .int i _=>some (.int i)
 | .str x _=>some (.str x)
 | .bytes b _=>some (.byt b)
 | .float b _=>some (.flt b)
 | .ref a=>some (.ref a)
 | .type n=>some (.ty n)
 | _=>none
theorem RelV.abs{x:V}(r:RelV x u):absV u=some x:=by
 cases x with
 | non=>cases r;rfl
 | bl _=>cases r;rfl
 | int _=>obtain⟨t,rfl⟩:=r;rfl
 | str _=>obtain⟨t,rfl⟩:=r;rfl
 | byt _=>obtain⟨t,rfl⟩:=r;rfl
 | flt _=>obtain⟨t,rfl⟩:=r;rfl
 | ref _=>cases r;rfl
 | ty _=>cases r;rfl
theorem RelV.inj{x:V}(r:RelV x u)(q:RelV y u):x=y:=ym (r.abs.symm.trans q.abs)
theorem Vals.inj:∀{xs ys:List V} {us:List Value},Vals xs us->Vals ys us->xs=ys
 | _,_,_,.nil,.nil=>rfl
 | _,_,_,.cons r t,.cons r' t'=>by rw[r.inj r',Vals.inj t t']
section
variable{X:Cx}{pins:List (Addr×Obj)}{σ:St}{H:Hp}{s:Shared}{a:Addr}{xs ys:List V}
theorem SqL.of{K:yg}(h:H a=some (.lst xs)):SqL K H a xs:=.inl (.inl h)
theorem SqT.of{K:yg}(h:H a=some (.tup xs)):SqT K H a xs:=.inl (.inl h)
theorem Inv.list(I:Inv X pins σ H s)(h:SqL X.K H a xs):∃ b:List Value,Vals xs b/\PlainL s.heap a b.toArray/\xs.length<=sizeLine:=by
 rcases h with h | ⟨o,b,n,hk,hc,hd,hs,hz,r⟩
 .obtain⟨z,b,n,r,e⟩:=h.ok I.hok;show⟨b,r,⟨_,n,e,rfl,rfl,rfl⟩,z⟩
 .show⟨b.toList,r,⟨o,n,I.kIn a o hk,hc,hd,by simpa using hs⟩,?_⟩;have e:=r.length;simp only[Yk] at e;lk
theorem Inv.tuple(I:Inv X pins σ H s)(h:SqT X.K H a xs):∃ b:List Value,Vals xs b/\IsTup s.heap a b.toArray/\xs.length<=sizeLine:=by
 rcases h with h | ⟨o,b,n,hk,hc,hs,hz,r⟩
 .obtain⟨z,b,r,p⟩:=h.ok I.hok;show⟨b,r,p,z⟩
 .show⟨b.toList,r,⟨o,I.kIn a o hk,hc,n,by simpa using hs⟩,?_⟩;have e:=r.length;simp only[Yk] at e;lk
theorem Inv.list_inj(I:Inv X pins σ H s)(h:SqL X.K H a xs)(h':SqL X.K H a ys):xs=ys:=by
 obtain⟨b,r,⟨o,n,e,_,_,d⟩,_⟩:=I.list h;obtain⟨its',r',⟨g,f,c,_,_,d'⟩,_⟩:=I.list h';rw[e] at c;cases c;rw[d] at d'
 injection d' with d1 _
 have:b=its':=by simpa using congrArg Array.toList d1
 subst this;show r.inj r'
theorem Inv.tuple_inj(I:Inv X pins σ H s)(h:SqT X.K H a xs)(h':SqT X.K H a ys):xs=ys:=by
 obtain⟨b,r,⟨o,e,_,n,d⟩,_⟩:=I.tuple h;obtain⟨its',r',⟨g,c,_,f,d'⟩,_⟩:=I.tuple h';rw[e] at c;cases c;rw[d] at d'
 injection d' with d1 _
 have:b=its':=by simpa using congrArg Array.toList d1
 subst this;show r.inj r'
end
noncomputable abbrev Cx.wish(X:Cx)(E:Value->Shared->Prop):Cx:={ X with xe:=E }
noncomputable abbrev Cx.nox(X:Cx):Cx:=X.wish fun _ _=>False
theorem Cx.Ok.wish(ok:X.Ok)(E:Value->Shared->Prop):(X.wish E).Ok:=
 ⟨ok.mod,ok.kind,ok.glob,ok.blt,ok.above,ok.inj,ok.has,ok.cab,ok.hd,ok.frames,ok.stk,ok.exf,ok.bs,ok.bsz,ok.noex,ok.exfs,ok.funs,ok.frf⟩
theorem Cx.Ok.unwish(ok:(X.wish E).Ok):X.Ok:=
 ⟨ok.mod,ok.kind,ok.glob,ok.blt,ok.above,ok.inj,ok.has,ok.cab,ok.hd,ok.frames,ok.stk,ok.exf,ok.bs,ok.bsz,ok.noex,ok.exfs,ok.funs,ok.frf⟩
section
variable{X:Cx}{pins:List (Addr×Obj)}{σ:St}{H:Hp}{s:Shared}{E:Value->Shared->Prop}
theorem Inv.wish(I:Inv X pins σ H s)(E:Value->Shared->Prop):Inv (X.wish E) pins σ H s:=⟨I.ok.wish E,I.os,I.bare,I.base,I.loc,I.cell,I.free,I.freeC,I.pin,I.hok,I.len⟩
theorem Inv.unwish(I:Inv (X.wish E) pins σ H s):Inv X pins σ H s:=⟨I.ok.unwish,I.os,I.bare,I.base,I.loc,I.cell,I.free,I.freeC,I.pin,I.hok,I.len⟩
theorem SP.unwish{f:Flow}(h:SP (X.wish E) pins D f s'):SP X pins D f s':=by
 cases f with
 | next=>obtain⟨a,H',I,q⟩:=h;show⟨a,H',I.unwish,q⟩
 | brk=>obtain⟨a,H',I,q⟩:=h;show⟨a,H',I.unwish,q⟩
 | cont=>obtain⟨a,H',I,q⟩:=h;show⟨a,H',I.unwish,q⟩
 | ret u=>obtain⟨v,a,H',I,r,q⟩:=h;show⟨v,a,H',I.unwish,r,q⟩
theorem PSs.nox{st:List Stmt}{t:TS}(h:PSs X.nox st t):PSs X st t:=fun pins s σ H D I hw =>
 YV (h pins s σ H D (I.wish _) hw) (fun _ _ q=>q.unwish) fun _ _ z=>False.elim z
end
section
variable{X:Cx}{st:Stmt}{qbR:List Stmt}{t u:TS}{e:Expr}{te:TE}{pos:Pos}
def qe3:TS:=fun D σ H=>D.nx σ H
def qfE(t u:TS):TS:=fun D σ H=>t { D with nx:=u D } σ H
theorem qt:PSs X [] qe3:=fun _ _ σ H _ I h=>kh ⟨σ,H,I,h⟩
theorem qc(h1:PS X st t)(c:PSs X qbR u):PSs X (st::qbR) (qfE t u):=by
 intro pins s σ H D I h;show wpAny_execs_cons (thn (h1 pins s σ H { D with nx:=u D } I h) fun f d q=>?_)
 cases f with
 | next =>
  obtain⟨a,H',b,q⟩:=q;show c pins d a H' D b q
 | ret v=>show q
 | brk=>show q
 | cont=>show q
theorem qe(h1:PS X st t):PSs X [st] t:=by
 intro pins s σ H D I h;show wpAny_execs_cons (thn (h1 pins s σ H D I h) fun f a q=>?_)
 cases f with
 | next=>show kh q
 | ret v=>show q
 | brk=>show q
 | cont=>show q
theorem Inv.quiet(I:Inv X pins σ H s):interactive X.env=false:=by simp[interactive,I.ok.kind]
def qe4(te:TE):TS:=fun D σ H=>te σ H fun _ a=>D.nx σ a
theorem qW(c:PE X e te)(d:swapsWith e none pos.line X.env=pure false:=by rfl):PS X (.Expr e pos) (qe4 te):=by
 intro pins s σ H D I h;show wpAny_Expr_any (thn (c pins s σ H _ I h) fun v i ⟨x,a,b,g,f⟩=>⟨σ,a,b,f⟩) I.quiet d
def qfQ(te:TE):TS:=fun D σ H=>te σ H D.rt
theorem qo(c:PE X e te):PS X (.Return (some e) pos) (qfQ te):=by
 intro pins s σ H D I h;show wpAny_Return_some (thn (c pins s σ H _ I h) fun v g ⟨x,a,b,f,d⟩=>⟨x,σ,a,b,f,d⟩)
def qe5:TS:=fun D _ H=>D.rt .non H
theorem ps_retN:PS X (.Return none pos) qe5:=fun _ _ σ H _ I h=>wpAny_Return_none ⟨.non,σ,H,I,rfl,h⟩
def qfR(c:TT)(t u:TS):TS:=fun D σ H=>c σ H fun b a=>if b=true then t D σ a else u D σ a
theorem qN{a b:List Stmt}(hc:PT X c tc)(j:PSs X a t)(l:PSs X b u):PS X (.If c a b pos) (qfR tc t u):=by
 intro pins s σ H D I h;show wpAny_If (thn (hc pins s σ H _ I h) fun d i ⟨e,f,g⟩=>?_)
 cases d with
 | true=>show j pins i σ e D f g
 | false=>show l pins i σ e D f g
def tNever:TS:=fun _ _ _=>False
theorem jE:PS X st tNever:=fun _ _ _ _ _ _ h=>h.elim
end
abbrev TG:=V->St->Hp->(St->Hp->Prop)->Prop
abbrev TGs:=List V->St->Hp->(St->Hp->Prop)->Prop
def PG(X:Cx)(a:Expr)(t:TG):Prop:=
 ∀(pins:List (Addr×Obj)) (s:Shared) (σ:St) (H:Hp) (v:V) (u:Value) (Q:St->Hp->Prop),Inv X pins σ H s->RelV v u->t v σ H Q ->
  wpAny (model X.prog X.w) X.A (assign a X.env u) (fun _ s'=>∃ b H',Inv X pins b H' s'/\Q b H') X.xe s
def PGs(X:Cx)(b:List Expr)(t:TGs):Prop:=
 ∀(pins:List (Addr×Obj)) (s:Shared) (σ:St) (H:Hp) (vs:List V) (us:List Value) (Q:St->Hp->Prop),Inv X pins σ H s->Vals vs us->t vs σ H Q ->
  wpAny (model X.prog X.w) X.A (assignInOrder ((assignEach b X.env).map (·.2)) us) (fun _ s'=>∃ a H',Inv X pins a H' s'/\Q a H') X.xe s
abbrev qe6:=V->V->V->Hp->(Hp->Prop)->Prop
def qfF(X:Cx)(t:qe6):Prop:=
 ∀(pins:List (Addr×Obj)) (s:Shared) (σ:St) (H:Hp) (o i v:V) (b a u:Value) (Q:Hp->Prop),Inv X pins σ H s->RelV o b->RelV i a->RelV v u->t o i v H Q ->
  wpAny (model X.prog X.w) X.A (setItem b a u) (fun _ s'=>∃ H',Inv X pins σ H' s'/\Q H') X.xe s
section
variable{X:Cx}{pos:Pos}
def qbE(i:Nat):TG:=fun v σ H Q=>Q (σ.set i (some v)) H
theorem qr(b:X.N.Nodup)(d:X.N[i]?=some x)(e:Loc X.env.scope x)(c:X.fn x=true\/X.env.scope.names.lookup x=some .local:=by first | show .inl rfl | show .inr rfl | assumption):PG X (.Name x pos) (qbE i):=by
 intro pins s σ H v u Q I r h;show wpAny_assign_Name (qcQ I b d e r (fun s' a=>⟨_,H,a,h⟩) c)
def qfS:TGs:=fun vs σ H Q=>vs=[]/\Q σ H
def qeK(t:TG)(u:TGs):TGs:=fun vs σ H Q=>∃ v r,vs=v::r/\t v σ H fun a H'=>u r a H' Q
theorem qbF:PGs X [] qfS:=by
 intro pins s σ H vs us Q I r h;obtain⟨e,h⟩:=h;subst e;cases r;show assignInOrder_nil ⟨σ,H,I,h⟩
theorem zf{t:TG}{u:TGs}(h1:PG X e t)(f:PGs X es u)
  (g:(assignEach (e::es) X.env).map (·.2)=assign e X.env::(assignEach es X.env).map (·.2):=by rfl):PGs X (e::es) (qeK t u):=by
 intro pins s σ H vs us Q I r h;obtain⟨v,l,d,h⟩:=h;subst d
 cases r with
 | cons r rr =>
  rw[g];show assignInOrder_cons (thn (h1 pins s σ H _ _ _ I r h) fun _ j ⟨a,b,c,i⟩=>?_);show f pins j a b _ _ Q c rr i
def qfw(K:yg)(n:Nat)(t:TGs):TG:=fun v σ H Q=>∃ a xs,v=.ref a/\SqT K H a xs/\xs.length=n/\t xs σ H Q
theorem qcS{k:Nat}{t:TGs}(hc:X.calm=true)(h:PGs X es t)
  (i:(assignEach es X.env).length=n:=by rfl) (c:(assignEach es X.env).findIdx? (·.1)=none:=by rfl):PG X (.Tuple es k pos) (qfw X.K n t):=by
 intro pins s σ H v u Q I r hw;obtain⟨a,xs,g,j,hl,hw⟩:=hw;subst g;cases r;obtain⟨p,d,l,hz⟩:=I.tuple j;show assign_Tuple_tuple (I.ok.hd hc) l (by simp[i,<- hl,d.length]) c fun h' m=>?_;have f:Inv X pins σ H { s with heap:=h' }:=I.kept (t':=s.toks) fun b o e=>m b o (yL (yI e)) e;show h pins _ σ H xs _ Q f (by simpa using d) hw
def qfT(e d:TE)(t:qe6):TG:=fun v σ H Q=>e σ H fun o a=>d σ a fun i b=>t o i v b fun c=>Q σ c
theorem zg{o i:Expr}{d c:TE}{t:qe6}(q:PE X o d)(p:PE X i c)(w:qfF X t)
  (n:∀ v,assign (.Subscript o i pos) X.env v=(do
   let a <- holding [v] (eval o X.env);let b <- holding [v,a] (eval i X.env)
   standAt pos
   holding [v,a,b] (setItem a b v)
   release [v,a,b] []):=by intro _;rfl):PG X (.Subscript o i pos) (qfT d c t):=by
 intro pins s σ H v u Q I r h;rw[n];show yr (Yc (thn (q pins s σ H _ I h) fun a E ⟨x,e,j,C,z⟩=>?_));show yr (Yc (thn (p pins E σ e _ j z) fun b F ⟨y,f,l,D,A⟩=>?_));show yr (wpAny_standAt (yr (Yc (thn (w pins F σ f x y v a b u _ l C D r A) fun _ G ⟨g,m,B⟩=>?_))));show wpAny_release ⟨σ,g,m,B⟩
def qeW(te:TE)(g:TG):TS:=fun D σ H=>te σ H fun x a=>g x σ a D.nx
theorem j4(c:PE X e te)(d:PG X tg g)(f:swapsWithSole [tg] e pos.line X.env=pure false:=by rfl)(hw:swappedStores [tg] e X.env=pure none:=by rfl)
  (h1:(assignEach [tg] X.env).map (·.2)=[assign tg X.env]:=by rfl):PS X (.Assign [tg] e pos) (qeW te g):=by
 intro pins s σ H D I h;show wpAny_Assign_stores (thn (c pins s σ H _ I h) fun v l ⟨x,a,b,j,i⟩=>?_) f hw;rw[h1];show thn (d pins l σ a x v _ b j i) fun _ m q=>q
theorem qq{a:Pos}(f:X.N.Nodup)(l:X.N[i]?=some x)(n:Loc X.env.scope x)(g:PE X e te)(m:swapsWith e (some (.Name x a)) pos.line X.env=pure false:=by rfl)(j:X.fn x=true\/X.env.scope.names.lookup x=some .local:=by first | show .inl rfl | show .inr rfl | assumption) :
  PS X (.Assign [.Name x a] e pos) (qeW te (qbE i)):=by
 intro pins s σ H D I h;show wpAny_Assign_Name (thn (g pins s σ H _ I h) fun v q ⟨y,b,c,p,o⟩=>?_) m;show qcQ c f l n p (fun r d=>⟨_,b,d,o⟩) j
end
section
variable{X:Cx}{pos:Pos}
def tWhile(c:TT)(tb:TS):TS:=fun D σ H=>∃ W:Nat->St->Hp->Prop,(∃ m,W m σ H)/\∀ m σ H,W m σ H ->
 c σ H fun b d=>if b=true then ∃ N:St->Hp->Prop,(∀ a H',N a H'->∃ e,e<m/\W e a H')/\tb { D with nx:=N,ct:=N,bk:=D.nx } σ d else D.nx σ d
theorem qay(y:PassesOwn (model X.prog X.w) X.A X.env X.xe)(hc:PT X c tc)(B:PSs X body tb):PS X (.While c body [] pos) (tWhile tc tb):=by
 intro pins s σ H D I h;obtain⟨W,⟨C,G⟩,turn⟩:=h;show wpAny_While (codeAny_whileLoop (fun n s'=>∃ g H',Inv X pins g H' s'/\W n g H') ?_ C ⟨σ,H,I,G⟩);rintro n E ⟨d,r,z,J⟩;show xM y (thn (hc pins E d r _ z (turn n d r J)) fun b F ⟨t,u,i⟩=>?_)
 cases b with
 | true =>
  obtain⟨N,x,i⟩:=i;rw[yO rfl];show xM y (thn (B pins F d t _ u i) fun f K j=>?_)
  cases f with
  | next =>
   obtain⟨a,e,l,p⟩:=j;obtain⟨o,m,q⟩:=x a e p;show⟨o,m,a,e,l,q⟩
  | cont =>
   obtain⟨a,e,l,p⟩:=j;obtain⟨o,m,q⟩:=x a e p;show⟨o,m,a,e,l,q⟩
  | brk=>show j
  | ret v=>show j
 | false =>
  rw[yE Yi];show kh ⟨d,t,u,i⟩
end
structure It where
 go:Nat->Hp->Prop
 yld:Nat->Hp->V->Hp->Prop
 stop:Nat->Hp->Prop
def qcv(X:Cx)(pins:List (Addr×Obj))(H:Hp)(b:Addr):Prop:=
 H b=none/\b≠X.env.locals/\b∉X.fs/\(b∈X.ex\/X.s₀.heap.objs.size<=b)/\(∀ x c,X.env.cells.lookup x=some c->c≠b)/\∀ p∈X.pn++pins,p.1≠b
theorem Inv.fpOk{H':Hp}(I:Inv X pins σ H s)(a:s.heap.objs.size<=b)(d:H' b=none):qcv X pins H' b:=by
 show⟨d,Yg (yj I.lt a),I.nofs a,.inr (yi I.sz a),fun x c e z=>?_,fun p f z=>?_⟩
 .obtain⟨v,q⟩:=I.cell x c e;show absurd (yj q.lt (by rw[z];show a)) (Yv _)
 .show absurd (yj (yI (I.pin p f).1) (by rw[z];show a)) (Yv _)
structure Turn(P:Program)(w:World)(K:yg)(tg:Expr)(J:It)(fp:LQ)(it:Addr)(tn:Nat->Heap->Prop):Prop where
 mem:it∈fp
 obj:∀ i h,tn i h->∀ b∈fp,∃ o,h.get? b=some o/\∀ v,o.data≠.cell v
 keep:∀ i h h',tn i h->(∀ b∈fp,∀ o,h.get? b=some o->h'.get? b=some o)->tn i h'
 item:∀(X:Cx),X.prog=P->X.w=w->X.K=K->X.calm=true->∀(i:Nat) (pins:List (Addr×Obj)) (s:Shared) (σ:St) (H:Hp) (E:Value->Shared->Prop),Inv X pins σ H s->(∀ b∈fp,qcv X pins H b)->tn i s.heap->J.go i H ->
  wpAny (model P w) X.A (pyNext (.ref it)) (fun r s1=>∃ u,r=some u /\
   wpAny (model P w) X.A (letOwnedTupleGo tg (.ref it) u) (fun _ s2=>∃ x H',Inv X pins σ H' s2/\RelV x u/\J.yld i H x H'/\tn (i+1) s2.heap/\∀ b∈fp,H' b=none) E s1) E s
 done:∀(X:Cx),X.prog=P->X.w=w->X.K=K->X.calm=true->∀(i:Nat) (pins:List (Addr×Obj)) (s:Shared) (σ:St) (H:Hp) (E:Value->Shared->Prop),Inv X pins σ H s->(∀ b∈fp,qcv X pins H b)->tn i s.heap->J.stop i H ->
  wpAny (model P w) X.A (pyNext (.ref it)) (fun r s1=>r=none/\Inv X pins σ H s1) E s
 self:∀(A:Around) (i:Nat) (s:Shared) (Q:Value->Shared->Prop) (E:Value->Shared->Prop),tn i s.heap->Q (.ref it) s->wpAny (model P w) A (pyIter (.ref it)) Q E s
abbrev TI:=St->Hp->(It->Hp->Prop)->Prop
def PIE(X:Cx)(pins:List (Addr×Obj))(σ:St)(tg:Expr)(R:It->Hp->Prop)(a:Value)(c:Shared):Prop:=
 ∃(it:Addr) (fp:LQ) (d:Nat->Heap->Prop) (J:It) (H':Hp),a=.ref it/\Inv X pins σ H' c/\Turn X.prog X.w X.K tg J fp it d/\d 0 c.heap/\(∀ b∈fp,qcv X pins H' b)/\R J H'
def PI(X:Cx)(tg a:Expr)(c:TI):Prop:=
 ∀(pins:List (Addr×Obj)) (s:Shared) (σ:St) (H:Hp) (R:It->Hp->Prop),Inv X pins σ H s->c σ H R ->
  wpAny (model X.prog X.w) X.A (eval a X.env) (fun v b=>wpAny (model X.prog X.w) X.A (pyIter v) (PIE X pins σ tg R) X.xe b) X.xe s
theorem qeL{o:Obj}{n:String}{vs:Array Value}{Q:Unit->Shared->Prop}(d:s.heap.get? it=some o)(hc:o.cls=.type n)(b:o.data=.fields vs)
    (c:["enumerate","zip","dict_itemiterator","dict_reverseitemiterator","odict_iterator","itertools.zip_longest","itertools.pairwise"].contains n=false) (a:Q () s):wpAny M A (letOwnedTupleGo tg (.ref it) u) Q E s:=by
  unfold letOwnedTupleGo;cases tg<;>first
    | show yt a
    | (cases u<;>first
        | show yt a
        | (show yr (wpAny_load d ?_)
           rw[hc,b];show wpAny M A (if (["enumerate","zip","dict_itemiterator","dict_reverseitemiterator","odict_iterator","itertools.zip_longest","itertools.pairwise"].contains n&&vs[0]?==some (rawInt _))=true then _ else _) Q E s;rw[yE (by intro h;rw[c,Bool.false_and] at h;cases h)];show yt a))
noncomputable def Itl(K:yg)(a:Addr):It:=
 ⟨fun i H=>∃ xs x,SqL K H a xs/\xs[i]?=some x,fun i H x H'=>H'=H/\∀ xs,SqL K H a xs->xs[i]?=some x,fun i H=>∃ xs,SqL K H a xs/\xs.length<=i⟩
noncomputable def Itt(K:yg)(a:Addr):It:=
 ⟨fun i H=>∃ xs x,SqT K H a xs/\xs[i]?=some x,fun i H x H'=>H'=H/\∀ xs,SqT K H a xs->xs[i]?=some x,fun i H=>∃ xs,SqT K H a xs/\xs.length<=i⟩
noncomputable def Itr(lo:Int)(n:Nat):It:=⟨fun i _=>i<n,fun i H x H'=>H'=H/\x=.int (lo+i),fun i _=>n<=i⟩
theorem qbU{K:yg}(a it:Addr):Turn P w K tg (Itl K a) [it] it (fun i h=>h.IsListIter it a i) where
 mem:=by simp
 obj:=fun i h st b f=>by
  have e:b=it:=by simpa using f
  subst e;obtain⟨o,e,c,d⟩:=st;show⟨o,e,fun v z=>by rw[d] at z;cases z⟩
 keep:=fun i h h' st k=>st.at fun o e=>k it (by simp) o e
 item:=by
  intro X A hw y hc i pins s σ H E I j st B;subst A hw y;obtain⟨xs,x,l,C⟩:=B;obtain⟨D,F,p,hz⟩:=I.list l;obtain⟨u,M,O⟩:=F.get C;obtain⟨m,n,L,q,r,t⟩:=j it (by simp);show wpAny_pyNext_list_item st p.isList (x:=u) (by simpa using M) fun h' g R=>?_;have G:Inv X pins σ H { s with heap:=h' }:=I.turned (t':=s.toks) (fun b o f e=>(R.2 b f).trans e) m n q r t;obtain⟨o,e,c,d⟩:=id g;show⟨u,rfl,qeL (s:={ s with heap:=h' }) e c d (by decide) ⟨x,H,G,O,⟨rfl,fun ys N=>by rw[I.list_inj N l];show C⟩,g,fun b f=>(j b f).1⟩⟩
 done:=by
  intro X A hw y hc i pins s σ H E I j st B;subst A hw y;obtain⟨xs,l,C⟩:=B;obtain⟨D,F,p,hz⟩:=I.list l;obtain⟨m,n,L,q,r,t⟩:=j it (by simp);have hl:=F.length;show wpAny_pyNext_list_end (I.ok.hd hc) st p.isList (by simp;lk) fun h' J=>⟨rfl,I.turned (t':=s.toks) (fun b o f e=>J b o f e) m n q r t⟩
 self:=fun _ _ _ _ _ st h=>wpAny_pyIter_listiter st h
theorem turn_tuple{K:yg}(a it:Addr):Turn P w K tg (Itt K a) [it] it (fun i h=>h.IsTupleIter it a i) where
 mem:=by simp
 obj:=fun i h st b f=>by
  have e:b=it:=by simpa using f
  subst e;obtain⟨o,e,c,d⟩:=st;show⟨o,e,fun v z=>by rw[d] at z;cases z⟩
 keep:=fun i h h' st k=>st.at fun o e=>k it (by simp) o e
 item:=by
  intro X B hw A hc i pins s σ H E I l st C;subst B hw A;obtain⟨xs,x,m,D⟩:=C;obtain⟨g,F,p,hz⟩:=I.tuple m;obtain⟨u,M,O⟩:=F.get D;obtain⟨n,q,L,r,t,y⟩:=l it (by simp);show wpAny_pyNext_tuple_item st (show s.heap.IsTuple a g.toArray from p) (x:=u) (by simpa using M) fun h' j R=>?_;have G:Inv X pins σ H { s with heap:=h' }:=I.turned (t':=s.toks) (fun b o f e=>(R.2 b f).trans e) n q r t y;obtain⟨o,e,c,d⟩:=id j;show⟨u,rfl,qeL (s:={ s with heap:=h' }) e c d (by decide) ⟨x,H,G,O,⟨rfl,fun ys N=>by rw[I.tuple_inj N m];show D⟩,j,fun b f=>(l b f).1⟩⟩
 done:=by
  intro X B hw A hc i pins s σ H E I l st C;subst B hw A;obtain⟨xs,m,D⟩:=C;obtain⟨g,F,p,hz⟩:=I.tuple m;obtain⟨n,q,L,r,t,y⟩:=l it (by simp);have hl:=F.length;show wpAny_pyNext_tuple_end (I.ok.hd hc) st (show s.heap.IsTuple a g.toArray from p) (by simp;lk) fun h' J=>⟨rfl,I.turned (t':=s.toks) (fun b o f e=>J b o f e) n q r t y⟩
 self:=fun _ _ _ _ _ st h=>wpAny_pyIter_tupleiter st h
theorem turn_range{K:yg}(it:Addr)(lo:Int)(n:Nat):Turn P w K tg (Itr lo n) [it] it (fun i h=>IsRangeIter h it (lo+(i:Nat)*1) ((n:Int)-(i:Nat)) 1) where
 mem:=by simp
 obj:=fun i h st b a=>by
  have e:b=it:=by simpa using a
  subst e
  show⟨_,st,fun v z=>by
   have B:Data.fields _=Data.cell v:=z;cases B⟩
 keep:=fun i h h' st k=>k it (by simp) _ st
 item:=by
  intro X q hw p hc i pins s σ H E I d st r;subst q hw p;obtain⟨f,g,y,j,l,m⟩:=d it (by simp);have W:=Walks.range (prog:=X.prog) (w:=X.w) (I.ok.hd hc) it lo 1 n;show W.item i s _ _ r st fun v h' tk hv c A=>?_;obtain⟨t,rfl⟩:=hv;have u:Inv X pins σ H { s with heap:=h',toks:=tk }:=I.turned (fun b o a e=>A b o (by simpa using a) e) f g j l m;show⟨_,rfl,qeL (s:={ s with heap:=h',toks:=tk }) (n:="range_iterator") c rfl rfl (by decide) ⟨.int (lo+i),H,u,⟨t,?_⟩,⟨rfl,rfl⟩,c,fun b a=>(d b a).1⟩⟩;rw[Int.mul_one]
 done:=by
  intro X q hw p hc i pins s σ H E I d st r;subst q hw p;obtain⟨f,g,y,j,l,m⟩:=d it (by simp);show wpAny_pyNext_range_end (I.ok.hd hc) st (by have:n<=i:=r;lk) fun h' x=>⟨rfl,I.turned (t':=s.toks) (fun b o a e=>x b o a e) f g j l m⟩
 self:=fun _ _ _ _ _ st h=>wpAny_pyIter_rangeiter st h
section
variable{X:Cx}{tg:Expr}
theorem range_it{R:It->Hp->Prop}{a:Int}{t u v:Tok}{tk:Nat}(I:Inv X pins σ H s)(h1:-(2 ^ 62)<=lo)(g:lo<2 ^ 62)(h:-(2 ^ 62)<=a)(i:a<2 ^ 62)
  (q:R (Itr lo (a-lo).toNat) H):wpAny (model X.prog X.w) X.A (pyIter (.ref s.heap.objs.size)) (PIE X pins σ tg R) E { s with heap:=s.heap.push { cls:=.type "range",data:=.fields #[.int lo t,.int a u,.int 1 v] },toks:=tk }:=by
 show wpAny_pyIter_range (IsRange.new ..) (small_one h1 g h i) ?_;have c:Inv X pins σ H { s with heap:=s.heap.push { cls:=.type "range",data:=.fields #[.int lo t,.int a u,.int 1 v] },toks:=tk }:=I.kept fun b o e=>yv _ e;show⟨(s.heap.push { cls:=.type "range",data:=.fields #[.int lo t,.int a u,.int 1 v] }).objs.size,[(s.heap.push { cls:=.type "range",data:=.fields #[.int lo t,.int a u,.int 1 v] }).objs.size],_,_,H,rfl,
  c.kept (t':=tk) fun b o e=>yv _ e,turn_range _ lo (a-lo).toNat,?_,fun b j=>?_,q⟩
 .have d:lo+((0:Nat):Int)*1=lo:=by simp
  have f:(((a-lo).toNat:Nat):Int)-((0:Nat):Int)=Builtin.Range.rangeSize lo a 1:=by rw[rangeSize_one];split<;>lk
  show IsRangeIter _ _ (lo+((0:Nat):Int)*1) ((((a-lo).toNat:Nat):Int)-((0:Nat):Int)) 1;rw[d,f];show yK _ rfl
 .have e:b=(s.heap.push { cls:=.type "range",data:=.fields #[.int lo t,.int a u,.int 1 v] }).objs.size:=by simpa using j
  subst e;show c.fpOk (yh _) (c.hok.fresh (yh _))
def qe7(b:TA):TI:=fun σ H R=>b σ H fun vs a=>∃ j:Int,vs=[.int j]/\-(2 ^ 62)<=j/\j<2 ^ 62/\R (Itr 0 j.toNat) a
theorem jF{a:Expr}{c:TA}{p:Pos}(g:Gl X "range")(i:X.mg "range"=none)(f:PA X [a] c)(l:starEach [a] X.env=[(false,eval a X.env)]:=by rfl):PI X tg (.Call (.Name "range" p) [a] [] pos) (qe7 c):=by
 intro pins s σ H R I h;show Call_ (qa9 I g i boot_range (Y7 (thn (f pos pins s σ H _ I h) fun us u ⟨vs,o,d,n,b⟩=>?_) l rfl));obtain⟨j,e,b,m,q⟩:=b;subst e
 cases n with
 | cons r rr =>
  cases rr;obtain⟨t,rfl⟩:=r;show call_range_1 (range_it d (by lk) (by lk) b m (by simpa using q))
def qfU(f:TI)(g:TG)(tb:TS):TS:=fun D σ H=>f σ H fun J d=>∃ W:Nat->Nat->St->Hp->Prop,(∃ m,W 0 m σ d)/\∀ i m σ H,W i m σ H ->
 (J.stop i H/\D.nx σ H)\/(J.go i H/\∃ N:St->Hp->Prop,(∀ a H',N a H'->∃ c,c<m/\W (i+1) c a H')/\∀ x H',J.yld i H x H'->g x σ H' fun b e=>tb { D with nx:=N,ct:=N,bk:=D.nx } b e)
noncomputable def qbV(fp:LQ)(h:Heap):List (Addr×Obj):=fp.filterMap fun b=>(h.get? b).map fun o=>(b,o)
theorem qac{o:Obj}(a:b∈fp)(e:h.get? b=some o):(b,o)∈qbV fp h:=List.mem_filterMap.mpr ⟨b,a,by rw[e];rfl⟩
theorem of_pinsAt{p:Addr×Obj}(d:p∈qbV fp h):p.1∈fp/\h.get? p.1=some p.2:=by
 obtain⟨b,c,e⟩:=List.mem_filterMap.mp d
 cases q:h.get? b with
 | none=>rw[q] at e;cases e
 | some o =>
  rw[q] at e;have a:(b,o)=p:=ym e;subst a;show⟨c,q⟩
theorem Inv.pinned(I:Inv X pins σ H s)(i:∀ b∈fp,qcv X pins H b)(j:∀ b∈fp,∃ o,s.heap.get? b=some o/\∀ v,o.data≠.cell v):Inv X (pins++qbV fp s.heap) σ H s:=
 I.pins_of fun p l=>(yw.mp l).elim (fun z=>I.pin p (yN _ z)) fun z=>by
  obtain⟨c,e⟩:=of_pinsAt z;obtain⟨f,g,h,_⟩:=i p.1 c;obtain⟨o,a,d⟩:=j p.1 c;rw[e] at a;cases a;show⟨e,f,g,h,d⟩
theorem Inv.unpinned{pl:List (Addr×Obj)}(I:Inv X (pins++pl) σ H s):Inv X pins σ H s:=I.pins_of fun p a=>I.pin p (yN _ (yF _ a))
theorem jq{p:Expr}{wi:TI}(E:PassesOwn (model X.prog X.w) X.A X.env X.xe)(hc:X.calm=true)(hi:PI X tg p wi)(hg:PG X tg g)(l:PSs X body tb)
  (hs:∀ x,foldedSetIterable p X.env x=pure x:=by intro _;rfl):PS X (.For tg p body [] pos) (qfU wi g tb):=by
 intro pins s σ H D I h;show wpAny_For (thn (hi pins s σ H _ I h) fun v s1 h1=>thn h1 fun aa s2 h2=>?_) hs;obtain⟨it,fp,tn,J,H2,e,I2,T,S,f2,W,⟨m0,w0⟩,turn⟩:=h2;subst e;have q:∀{H':Hp},(∀ b∈fp,H' b=none)->∀ b∈fp,qcv X pins H' b:=fun hn b l=>⟨hn b l,(f2 b l).2⟩;show codeAny_forLoop_any (fun n s'=>∃ i t H',Inv X pins t H' s'/\tn i s'.heap/\(∀ b∈fp,H' b=none)/\W i n t H') ?_ m0 ⟨0,σ,H2,I2,S,fun b l=>(f2 b l).1,w0⟩;rintro n s3 ⟨i,y,L,Z,G,C,w3⟩;rcases turn i n y L w3 with⟨K,qn⟩ | ⟨go,N,hN,step⟩
 .show xM E (thn (T.done X rfl rfl rfl hc i pins s3 y L X.xe Z (q C) G K) fun r s4 ⟨P,I4⟩=>?_);subst P;show kh ⟨y,L,I4,qn⟩
 .show xM E (thn (T.item X rfl rfl rfl hc i pins s3 y L X.xe Z (q C) G go) fun r s4 ⟨u,P,h4⟩=>?_);subst P;show xM E (thn h4 fun _ s5 ⟨x,Y,I5,r5,y5,B,O⟩=>?_);have M:=I5.pinned (q O) (T.obj _ _ B);show xM E (thn (hg _ s5 y Y x u _ M r5 (step x Y y5)) fun _ s6 ⟨U,H6,I6,q6⟩=>?_);show xM E (thn (l _ s6 U H6 _ I6 q6) fun f R z=>?_)
  have again:∀{a:St} {c:Hp},Inv X (pins++qbV fp s5.heap) a c R->N a c->∃ m,m<n/\∃ i t H',Inv X pins t H' R/\tn i R.heap/\(∀ b∈fp,H' b=none)/\W i m t H':=fun{a c} j F=>by
   obtain⟨m',hm,w7⟩:=hN a c F;show⟨m',hm,i+1,a,c,j.unpinned,T.keep _ _ _ B fun b l o e=>(j.pin (b,o) (yN _ (yN _ (qac l e)))).1,fun b l=>?_,w7⟩;obtain⟨o,e,d⟩:=T.obj _ _ B b l;show(j.pin (b,o) (yN _ (yN _ (qac l e)))).2.1
  cases f with
  | next=>obtain⟨a,c,j,F⟩:=z;show again j F
  | cont=>obtain⟨a,c,j,F⟩:=z;show again j F
  | brk=>obtain⟨a,c,j,z⟩:=z;show⟨a,c,j.unpinned,z⟩
  | ret v=>obtain⟨x7,a,c,j,r7,z⟩:=z;show⟨x7,a,c,j.unpinned,r7,z⟩
end
theorem jc{K:yg}(b:Nat->St->Hp->Prop)(l:b 0 σ H)(hl:∀ i σ H,i<=xs.length->b i σ H->SqL K H a xs)
  (r:∀ i x σ H,xs[i]?=some x->b i σ H->g x σ H fun d h=>tb { D with nx:=b (i+1),ct:=b (i+1),bk:=D.nx } d h) (n:∀ σ H,b xs.length σ H->D.nx σ H) :
  ∃ W:Nat->Nat->St->Hp->Prop,(∃ m,W 0 m σ H)/\∀ i m σ H,W i m σ H ->
   ((Itl K a).stop i H/\D.nx σ H)\/((Itl K a).go i H/\∃ N:St->Hp->Prop,(∀ c H',N c H'->∃ j,j<m/\W (i+1) j c H')/\∀ x H',(Itl K a).yld i H x H'->g x σ H' fun d h=>tb { D with nx:=N,ct:=N,bk:=D.nx } d h):=by
 show⟨fun i m σ H=>m=xs.length-i/\i<=xs.length/\b i σ H,⟨xs.length,by simp,YX _,l⟩,?_⟩;rintro i m σ H ⟨rfl,o,p⟩;have q:=hl i σ H o p;by_cases f:i<xs.length
 .show .inr ⟨⟨xs,xs[i],q,by simp[f]⟩,b (i+1),fun c H' s=>⟨xs.length-(i+1),by lk,rfl,f,s⟩,fun x H' y=>?_⟩;obtain⟨e,y⟩:=y;subst e;show r i x σ _ (y xs q) p
 .have e:i=xs.length:=by lk
  subst e;show .inl ⟨⟨xs,q,yh _⟩,n σ H p⟩
theorem zt(a:Nat->St->Hp->Prop)(j:a 0 σ H)
  (o:∀ i σ H,i<n->a i σ H->g (.int (lo+i)) σ H fun d f=>tb { D with nx:=a (i+1),ct:=a (i+1),bk:=D.nx } d f) (l:∀ σ H,a n σ H->D.nx σ H) :
  ∃ W:Nat->Nat->St->Hp->Prop,(∃ m,W 0 m σ H)/\∀ i m σ H,W i m σ H ->
   ((Itr lo n).stop i H/\D.nx σ H)\/((Itr lo n).go i H/\∃ N:St->Hp->Prop,(∀ c H',N c H'->∃ h,h<m/\W (i+1) h c H')/\∀ x H',(Itr lo n).yld i H x H'->g x σ H' fun d f=>tb { D with nx:=N,ct:=N,bk:=D.nx } d f):=by
 show⟨fun i m σ H=>m=n-i/\i<=n/\a i σ H,⟨n,by simp,YX _,j⟩,?_⟩;rintro i m σ H ⟨rfl,r,p⟩;by_cases b:i<n
 .show .inr ⟨b,a (i+1),fun c H' q=>⟨n-(i+1),by lk,rfl,b,q⟩,fun x H' y=>?_⟩;obtain⟨e,y⟩:=y;subst e y;show o i σ _ b p
 .have e:i=n:=by lk
  subst e;show .inl ⟨yh _,l σ H p⟩
abbrev R2:=V->V->Hp->VK->Prop
def OpR(X:Cx)(f:Value->Value->Sem Value)(r:R2):Prop:=
 ∀(pins:List (Addr×Obj)) (s:Shared) (σ:St) (H:Hp) (x y:V) (v u:Value) (Q:VK),Inv X pins σ H s->RelV x v->RelV y u->r x y H Q ->
  wpAny (model X.prog X.w) X.A (f v u) (EP X pins σ Q) X.xe s
def UnR(X:Cx)(f:Value->Sem Value)(r:V->Hp->VK->Prop):Prop:=
 ∀(pins:List (Addr×Obj)) (s:Shared) (σ:St) (H:Hp) (x:V) (v:Value) (Q:VK),Inv X pins σ H s->RelV x v->r x H Q ->
  wpAny (model X.prog X.w) X.A (f v) (EP X pins σ Q) X.xe s
def zO(X:Cx)(f:Value)(r:List V->Hp->VK->Prop):Prop:=
 ∀(pins:List (Addr×Obj)) (s:Shared) (σ:St) (H:Hp) (xs:List V) (us:List Value) (Q:VK),Inv X pins σ H s->Vals xs us->r xs H Q ->
  wpAny (model X.prog X.w) X.A (call f us) (EP X pins σ Q) X.xe s
def tOp(r:R2)(c tb:TE):TE:=fun σ H Q=>c σ H fun x a=>tb σ a fun y b=>r x y b Q
def tUn(r:V->Hp->VK->Prop)(b:TE):TE:=fun σ H Q=>b σ H fun x a=>r x a Q
def rI(C:Int->Int->Prop)(g:Int->Int->V):R2:=fun x y H Q=>∃ i j,x=.int i/\y=.int j/\C i j/\Q (g i j) H
def rI0(g:Int->Int->V):R2:=fun x y H Q=>∃ i j,x=.int i/\y=.int j/\Q (g i j) H
def rU(g:Int->V):V->Hp->VK->Prop:=fun x H Q=>∃ i,x=.int i/\Q (g i) H
section
variable{X:Cx}{a b c:Expr}{ta tb tc:TE}{pos:Pos}
theorem qfG(m:PE X a ta)(n:PE X b tb){R:V->V->Hp->Prop}(I:Inv X pins σ H s)
  (h:ta σ H fun x i=>tb σ i fun y c=>R x y c) {Q:Value->Shared->Prop}
  (o:∀ v u g x y c,Inv X pins σ c g->RelV x v->RelV y u->R x y c->wpAny (model X.prog X.w) X.A (f v u) Q X.xe g) :
  wpAny (model X.prog X.w) X.A (eval a X.env) (fun v d=>wpAny (model X.prog X.w) X.A (eval b X.env) (fun u e=>wpAny (model X.prog X.w) X.A (f v u) Q X.xe e) X.xe d) X.xe s:=by
 show thn (m pins s σ H _ I h) fun v z ⟨x,i,j,r,p⟩=>?_;show thn (n pins z σ i _ j p) fun u g ⟨y,c,l,t,q⟩=>?_;show o v u g x y c l r t q
theorem qG{op:Operator}(g:OpR X (binaryOp op) r)(e:PE X a ta)(f:PE X b tb):PE X (.BinOp a op b pos) (tOp r ta tb):=by
 intro pins s σ H Q I h;show wpAny_BinOp (qfG e f I h fun v u l x y c d i j q=>g pins l σ c x y v u Q d i j q)
theorem qba{op:UnaryOp}{r:V->Hp->VK->Prop}(e:UnR X (unaryOp op) r)(d:PE X a ta):PE X (.UnaryOp op a pos) (tUn r ta):=by
 intro pins s σ H Q I h;show UnaryOp_ (thn (d pins s σ H _ I h) fun v i ⟨x,b,c,g,f⟩=>e pins i σ b x v Q c g f)
theorem opI{C:Int->Int->Prop}{g:Int->Int->Int}
  (a:∀(i j:Int) (t u:Tok) (s:Shared) (Q:Value->Shared->Prop) (E:Value->Shared->Prop),C i j->Q (.int (g i j) s.toks) { s with toks:=s.toks+1 }->wpAny (model X.prog X.w) X.A (f (.int i t) (.int j u)) Q E s) :
  OpR X f (rI C fun i j=>.int (g i j)):=by
 intro pins s σ H x y v u Q I b c h;obtain⟨i,j,rfl,rfl,hc,q⟩:=h;obtain⟨t,rfl⟩:=b;obtain⟨t',rfl⟩:=c;show a i j t t' s _ _ hc ⟨.int (g i j),H,I.tok _,⟨_,rfl⟩,q⟩
theorem qfx{g:Int->Int->Int}
  (a:∀(i j:Int) (t u:Tok) (s:Shared) (Q:Value->Shared->Prop) (E:Value->Shared->Prop),Q (.int (g i j) s.toks) { s with toks:=s.toks+1 }->wpAny (model X.prog X.w) X.A (f (.int i t) (.int j u)) Q E s) :
  OpR X f (rI0 fun i j=>.int (g i j)):=by
 intro pins s σ H x y v u Q I b c h;obtain⟨i,j,rfl,rfl,q⟩:=h;obtain⟨t,rfl⟩:=b;obtain⟨t',rfl⟩:=c;show a i j t t' s _ _ ⟨.int (g i j),H,I.tok _,⟨_,rfl⟩,q⟩
theorem qfy{g:Int->Int->Bool}
  (a:∀(i j:Int) (t u:Tok) (s:Shared) (Q:Value->Shared->Prop) (E:Value->Shared->Prop),Q (.bool (g i j)) s->wpAny (model X.prog X.w) X.A (f (.int i t) (.int j u)) Q E s) :
  OpR X f (rI0 fun i j=>.bl (g i j)):=by
 intro pins s σ H x y v u Q I b c h;obtain⟨i,j,rfl,rfl,q⟩:=h;obtain⟨t,rfl⟩:=b;obtain⟨t',rfl⟩:=c;show a i j t t' s _ _ ⟨.bl (g i j),H,I,rfl,q⟩
def CDiv(i j:Int):Prop:=0<j/\j<1073741824
def qfV(i j:Int):Prop:=0<=j/\j<=1000000/\i.natAbs<2 ^ 64
def CMul(i j:Int):Prop:=(-(2 ^ 64)<i/\i<2 ^ 64)\/(-(2 ^ 64)<j/\j<2 ^ 64)
theorem CMul.ok{i j:Int}(h:CMul i j):IntMulOk i j:=by
 rcases h with⟨h1,a⟩ | ⟨h1,a⟩
 .show .of_left (intBits_le_64 h1 a)
 .show .of_right (intBits_le_64 h1 a)
theorem two_pow_nn(k:Nat):(0:Int)<=2 ^ k:=by
 rw[two_pow_cast];show Int.natCast_nonneg _
theorem op_add:OpR X (binaryOp .Add) (rI0 fun i j=>.int (i+j)):=qfx fun _ _ _ _ _ _ _ q=>add_int q
theorem qbu:OpR X (binaryOp .Sub) (rI0 fun i j=>.int (i-j)):=qfx fun _ _ _ _ _ _ _ q=>sub_int q
theorem op_mul:OpR X (binaryOp .Mult) (rI CMul fun i j=>.int (i*j)):=opI fun _ _ _ _ _ _ _ hc q=>mul_int q hc.ok
theorem qdt:OpR X (binaryOp .FloorDiv) (rI CDiv fun i j=>.int (i / j)):=opI fun i j _ _ _ _ _ hc q=>by
 have h1:(0:Int)<j:=hc.1;have a:j<1073741824:=hc.2;show floordiv_int (by lk) (by rw[Int.fdiv_eq_ediv_of_nonneg i (by lk)];show q) (.inl (PyProof.noPylong_small (by lk)))
theorem zu:OpR X (binaryOp .Mod) (rI (fun _ j=>0<j) fun i j=>.int (i % j)):=opI fun i j _ _ _ _ _ hc q=>by
 have h1:(0:Int)<j:=hc;show mod_int' (by lk) (by rw[Int.fmod_eq_emod_of_nonneg i (by lk)];show q)
theorem op_pow:OpR X (binaryOp .Pow) (rI qfV fun i j=>.int (i ^ j.toNat)):=opI fun _ _ _ _ _ _ _ hc q=>pow_int_small hc.1 hc.2.1 hc.2.2 q
theorem qej:OpR X (binaryOp .LShift) (rI qfV fun i j=>.int (i*2 ^ j.toNat)):=opI fun _ _ _ _ _ _ _ hc q=>lshift_int_small hc.1 hc.2.1 hc.2.2 q
theorem op_shr:OpR X (binaryOp .RShift) (rI (fun _ j=>0<=j) fun i j=>.int (i / 2 ^ j.toNat)):=opI fun i j _ _ _ _ _ hc q =>
 rshift_int hc (by rw[Int.fdiv_eq_ediv_of_nonneg i (two_pow_nn _)];show q)
theorem op_and:OpR X (binaryOp .BitAnd) (rI0 fun i j=>.int (Builtin.bitAnd i j)):=qfx fun _ _ _ _ _ _ _ q=>and_int q
theorem qe8:OpR X (binaryOp .BitOr) (rI0 fun i j=>.int (Builtin.bitOr i j)):=qfx fun _ _ _ _ _ _ _ q=>or_int q
theorem unI{f:Value->Sem Value}{g:Int->Int}
  (a:∀(i:Int) (t:Tok) (s:Shared) (Q:Value->Shared->Prop) (E:Value->Shared->Prop),Q (.int (g i) s.toks) { s with toks:=s.toks+1 }->wpAny (model X.prog X.w) X.A (f (.int i t)) Q E s) :
  UnR X f (rU fun i=>.int (g i)):=by
 intro pins s σ H x v Q I b h;obtain⟨i,rfl,q⟩:=h;obtain⟨t,rfl⟩:=b;show a i t s _ _ ⟨.int (g i),H,I.tok _,⟨_,rfl⟩,q⟩
theorem zQ:UnR X (unaryOp .USub) (rU fun i=>.int (-i)):=unI fun _ _ _ _ _ q=>neg_int q
end
noncomputable def scal:V->V->Bool
 | .non,.non=>true | .non,.int _=>true | .int _,.non=>true | .non,.bl _=>true | .bl _,.non=>true | .non,.str _=>true | .str _,.non=>true
 | .int _,.int _=>true | .bl _,.bl _=>true | .str _,.str _=>true | .byt _,.byt _=>true
 | .int _,.str _=>true | .str _,.int _=>true | .bl _,.str _=>true | .str _,.bl _=>true
 | _,_=>false
def rEq:R2:=fun x y H Q=>scal x y=true/\Q (.bl (decide (x=y))) H
theorem dec_bl{i j:Bool}:decide (V.bl i=V.bl j)=(i==j):=by
 rw[Y2];simp
section
variable{X:Cx}{a b c:Expr}{ta tb tc:TE}{pos:Pos}
theorem qcT{Q:VK}{k k':Bool}(I:Inv X pins σ H s)(q:Q (.bl k) H)(e:k=k'):EP X pins σ Q (.bool k') s:=by
 subst e;show⟨.bl k,H,I,rfl,q⟩
theorem qdu:OpR X (compareOp .Lt) (rI0 fun i j=>.bl (decide (i<j))):=qfy fun _ _ _ _ _ _ _ q=>lt_int q
theorem op_le:OpR X (compareOp .LtE) (rI0 fun i j=>.bl (decide (i<=j))):=qfy fun _ _ _ _ _ _ _ q=>le_int q
theorem qcw:OpR X (compareOp .Gt) (rI0 fun i j=>.bl (decide (j<i))):=qfy fun _ _ _ _ _ _ _ q=>gt_int q
theorem op_ge:OpR X (compareOp .GtE) (rI0 fun i j=>.bl (decide (j<=i))):=qfy fun _ _ _ _ _ _ _ q=>ge_int q
theorem op_isN:OpR X (compareOp .Is) (fun x y H Q=>y=.non/\Q (.bl (decide (x=.non))) H):=by
 intro pins s σ H x y v u Q I a b h;obtain⟨rfl,q⟩:=h;cases b;show is_none_gen (qcT I q ?_);cases x<;>first
  | (cases a;rfl)
  | (obtain⟨t,rfl⟩:=a;rfl)
theorem qbb:OpR X (compareOp .IsNot) (fun x y H Q=>y=.non/\Q (.bl (!decide (x=.non))) H):=by
 intro pins s σ H x y v u Q I a b h;obtain⟨rfl,q⟩:=h;cases b;show isnot_none_gen (qcT I q ?_);cases x<;>first
  | (cases a;rfl)
  | (obtain⟨t,rfl⟩:=a;rfl)
theorem qw(b:Expr)(h:op≠.In:=by decide)(d:op≠.NotIn:=by decide):behindInMarks op b=false:=by
 have a:(op==CmpOp.In)=false:=by cases op<;>first | rfl | show absurd rfl h
 have c:(op==CmpOp.NotIn)=false:=by cases op<;>first | rfl | show absurd rfl d
 cases b<;>simp[behindInMarks,a,c]
theorem jo(i:OpR X (compareOp op) r)(e:PE X a ta)(f:PE X b tb)(g:behindInMarks op b=false):PE X (.Compare a [op] [b] pos) (tOp r ta tb):=by
 intro pins s σ H Q I h;show wpAny_Compare1 (qfG e f I h fun v u m x y c d j l q=>i pins m σ c x y v u Q d j l q) g
def qeM(t:TE):TT:=fun σ H Q=>t σ H fun x H'=>∃ k,x=.bl k/\Q k H'
theorem qk(p:OpR X (compareOp op) r)(m:PE X a ta)(n:PE X b tb)(o:behindInMarks op b=false):PT X (.Compare a [op] [b] pos) (qeM (tOp r ta tb)):=by
 intro pins s σ H Q I h
 show wpAny_isTrue_Compare1 (thn (m pins s σ H _ I h) fun v D ⟨x,d,i,A,q⟩=>thn (n pins D σ d _ i q) fun u E ⟨y,f,j,B,t⟩ =>
  thn (p pins E σ f x y v u _ j A B t) fun c F ⟨z,g,l,C,k,e,w⟩=>?_) o
 subst e;cases C;show xx ⟨g,l,w⟩
def qdv(r r':R2)(ta tb tc:TE):TE:=fun σ H Q=>ta σ H fun x b=>tb σ b fun y c=>r x y c fun z a=>∃ k,z=.bl k /\
 (if k=true then tc σ a fun e d=>r' y e d Q else Q (.bl false) a)
theorem pe_chain(C:OpR X (compareOp op) r)(f:OpR X (compareOp op') r')(w:PE X a ta)(A:PE X b tb)(hc:PE X c tc)
  (B:lastMarks [op,op'] [b,c]=false:=by with_unfolding_all rfl):PE X (.Compare a [op,op'] [b,c] pos) (qdv r r' ta tb tc):=by
 intro pins s σ H Q I h
 show Compare_chain (thn (w pins s σ H _ I h) fun v L ⟨x,m,p,G,D⟩=>chain_link (thn (A pins L σ m _ p D) fun u M ⟨y,n,q,l,E⟩ =>
  thn (C pins M σ n x y v u _ q G l E) fun d N ⟨z,g,i,J,k,e,j⟩=>?_)) B
 subst e;cases J;show xx ?_
 cases k with
 | false=>show ite_ff ⟨.bl false,g,i,rfl,j⟩
 | true=>show ite_tt (chain_last (thn (hc pins N σ g _ i j) fun P O ⟨R,o,t,K,F⟩=>f pins O σ o y R u P Q t l K F))
theorem pt_chain(G:OpR X (compareOp op) r)(f:OpR X (compareOp op') r')(D:PE X a ta)(E:PE X b tb)(hc:PE X c tc)
  (F:lastMarks [op,op'] [b,c]=false:=by with_unfolding_all rfl):PT X (.Compare a [op,op'] [b,c] pos) (qeM (qdv r r' ta tb tc)):=by
 intro pins s σ H Q I h
 show isTrue_chain (thn (D pins s σ H _ I h) fun v T ⟨x,m,q,O,K⟩=>test_link (thn (E pins T σ m _ q K) fun u U ⟨y,n,t,l,L⟩ =>
  thn (G pins U σ n x y v u _ t O l L) fun d W ⟨z,g,i,P,k,e,j⟩=>?_)) F
 subst e;cases P;show xx ?_
 cases k with
 | false =>
  obtain⟨k',B,J⟩:=j;cases B;show ite_ff ⟨g,i,J⟩
 | true =>
  show ite_tt (test_last (thn (hc pins W σ g _ i j) fun Z Y ⟨z',o,w,R,M⟩=>thn (f pins Y σ o y z' u Z _ w l R M) fun d' s5 ⟨z2,p,A,S,k2,C,N⟩=>?_));subst C;cases S;show xx ⟨p,A,N⟩
theorem qbv:(sizeLine:Nat)<2 ^ 63:=by rw[YA];decide
theorem op_add_str:OpR X (binaryOp .Add) (fun x y H Q=>∃ i j,x=.str i/\y=.str j/\i.length+j.length<=sizeLine/\Q (.str (i++j)) H):=by
 intro pins s σ H x y v u Q I a b h;obtain⟨i,j,rfl,rfl,hz,q⟩:=h;obtain⟨t,rfl⟩:=a;obtain⟨t',rfl⟩:=b;show add_str (fun t' tk=>⟨.str (i++j),H,I.tok _,⟨_,rfl⟩,q⟩) hz
theorem qbc{x:V}(r:Vals [x] us):∃ u,us=[u]/\RelV x u:=by
 cases r with
 | cons r1 r2=>cases r2;show⟨_,rfl,r1⟩
theorem qdw{x:V}(r:Vals [x,y] us):∃ u a,us=[u,a]/\RelV x u/\RelV y a:=by
 cases r with
 | cons r1 r2 =>
  cases r2 with
  | cons r3 r4=>cases r4;show⟨_,_,rfl,r1,r3⟩
theorem call_max2(hc:X.calm=true):zO X (.builtin "max") (fun xs H Q=>∃ i j,xs=[.int i,.int j]/\Q (.int (if j>i then j else i)) H):=by
 intro pins s σ H xs us Q I r h;obtain⟨i,j,rfl,q⟩:=h;obtain⟨u,b,rfl,⟨t,rfl⟩,⟨t',rfl⟩⟩:=qdw r;show max_two_ints (I.ok.hd hc) fun h' tk k=>⟨_,H,I.kept k,?_,q⟩;by_cases a:j>i
 .rw [yO a,yO a];show⟨_,rfl⟩
 .rw [yE a,yE a];show⟨_,rfl⟩
theorem call_min2(hc:X.calm=true):zO X (.builtin "min") (fun xs H Q=>∃ i j,xs=[.int i,.int j]/\Q (.int (if j<i then j else i)) H):=by
 intro pins s σ H xs us Q I r h;obtain⟨i,j,rfl,q⟩:=h;obtain⟨u,b,rfl,⟨t,rfl⟩,⟨t',rfl⟩⟩:=qdw r;show min_two_ints (I.ok.hd hc) fun h' tk k=>⟨_,H,I.kept k,?_,q⟩;by_cases a:j<i
 .rw [yO a,yO a];show⟨_,rfl⟩
 .rw [yE a,yE a];show⟨_,rfl⟩
theorem call_int1:zO X (.type "int") (fun xs H Q=>(∃ i,xs=[.int i]/\Q (.int i) H)\/∃ k,xs=[.bl k]/\Q (.int (if k then 1 else 0)) H):=by
 intro pins s σ H xs us Q I r h;rcases h with⟨i,rfl,q⟩ | ⟨k,rfl,q⟩
 .obtain⟨u,rfl,t,rfl⟩:=qbc r;show call_int_int ⟨.int i,H,I,⟨_,rfl⟩,q⟩
 .obtain⟨u,rfl,a⟩:=qbc r;cases a;show call_int_bool ⟨.int (if k then 1 else 0),H,I.tok _,⟨_,rfl⟩,q⟩
end
structure ObjM(h:Heap)(x dx C:Addr)(mA:Str->Option Value):Prop where
 obj:h.get? x=some (PySem.W.instObj C dx)
 ns:h.Ns1 dx mA
 ne:dx≠x
theorem qbW(n:h.Ns1 dx mA):∃ od,h.get? dx=some od/\∀ name,PySem.W.lookIn name od=some (mA name):=by
 obtain⟨o,es,ep,i,d,f,_,g⟩:=n;show⟨o,i,fun name=>?_⟩;have e:=g name;unfold nsFind findBy at e;rw[<- Array.find?_toList] at e;unfold PySem.W.lookIn;rw[d];dsimp only;split
 .rename_i y q
  rw[q] at e;show congrArg some e
 .rename_i q
  rw[q] at e
  have a:es.toList.any (·.refKey)=false:=by
   rw[List.any_eq_false];intro y j;obtain⟨z,t,b⟩:=f y (kf.mp j);simp[DictEntry.refKey,b]
  have c:¬ es.toList.any (·.refKey)=true:=by rw[a];show Yi
  rw[yE c];show congrArg some e
theorem ObjM.look{x:Addr}(I:ObjM h x dx C mA):∃ od,PySem.W.InstAt h x (PySem.W.instObj C dx) C (some od)/\∀ name,PySem.W.lookIn name od=some (mA name):=
 let ⟨od,ho,hl⟩:=qbW I.ns
 ⟨od,⟨I.obj,rfl,rfl,ho⟩,hl⟩
section
variable{prog:Program}{w:World}{A:Around}{E:Value->Shared->Prop}{s:Shared}{K:yg}{x dx C f:Addr}{mA:Str->Option Value}{name:Str}{v:Value}
theorem get_map{a:Bool}{Q:Value->Shared->Prop}(X:K.In s.heap)(I:ObjM s.heap x dx C mA)(d:PySem.W.plainGet K C name=true)(e:PySem.W.hasDictIn K C=true)
  (c:PySem.W.findIn K (.ref C) name=some none) (hv:mA name=some v) (b:PySem.W.handedIn v=true) (h:Q v { s with toks:=s.toks+1 }) :
  wpAny (model prog w) A (getAttr (.ref x) name a) Q E s:=by
 obtain⟨od,J,hl⟩:=I.look;show PySem.W.get_value X J (ku d).1 (PySem.W.findObj_own e c rfl (by rw[hl,hv])) b h
theorem get_meth{pl:Sem Bool}{Q:Value×List Value->Shared->Prop}(X:K.In s.heap)(I:ObjM s.heap x dx C mA)(a:PySem.W.plainGet K C name=true)
  (b:PySem.W.findIn K (.ref C) name=some (some (.ref f))) (c:PySem.W.isFn K (.ref f)=true) (hv:mA name=none) (h:Q (.ref f,[.ref x]) s) :
  wpAny (model prog w) A (getMethod (.ref x) name pl) Q E s:=by
 obtain⟨od,J,hl⟩:=I.look;show PySem.W.method_fn X J (ku a).1 (ku a).2 b (Yr.mp c) (by show(PySem.W.lookIn name od).map (·.isSome)=some false;rw[hl,hv];rfl) h
theorem set_map{ns:LS}{Q:Unit->Shared->Prop}(X:K.In s.heap)(I:ObjM s.heap x dx C mA)
  (o:PySem.W.findIn K (.ref C) "__setattr__"=some (some (.builtin "object.__setattr__"))) (n:PySem.W.plainOver K C=true) (p:PySem.W.takerIn K C name=some none) (m:PySem.W.hasDictIn K C=true)
  (hw:PySem.Within mA ns) (hsz:ns.length<=sizeLine)
  (h:∀ h',ObjM h' x dx C (fun y=>if y=name then some v else mA y)->Heap.SameBut dx s.heap h'->Q () { s with heap:=h',toks:=s.toks+2 }) :
  wpAny (model prog w) A (setAttr (.ref x) name v) Q E s:=by
 obtain⟨od,J,hl⟩:=I.look;show PySem.W.set_plain X J o (PySem.W.osa_open (s:={ s with toks:=s.toks+1 }) (r:=none) X J n p fun b=>?_);obtain⟨t,hc,f⟩:=x0 m;have q:s.heap.get? x=some ⟨.ref C,some dx,.plain,#[]⟩:=I.obj;show yr (yt (yr (yr (wpAny_loadPart q (yr (PySem.W.Looks.here (s:={ s with toks:=s.toks+1 }) (kx X hc) ?_))))));rw[f];show yt (a:=some dx) (yr (yt (yr ?_)));show wpAny_nsSet1 (s:={ s with toks:=s.toks+1 }) I.ns fun h' c d=>?_;obtain⟨u,l,j,i,g,e⟩:=c.count (PySem.Within.cons name v hw);show yr (wpAny_lookBehind i (by rw[g];show pastItsLine_dict (yi e (by rw[yA];lk))) ?_);show yt (h _ ⟨(d.2 _ (Ye I.ne)).trans I.obj,c,I.ne⟩ d)
theorem make_map{R:Result->Shared->Prop}{vs:List Value}(X:K.In s.heap)(c:PySem.W.makesIn K C=true)
  (b:PySem.W.findIn K (.ref C) "__init__"=some (some (.ref f))) (a:PySem.W.typeIn K (.ref f)=some (.type "function"))
  (h:codeAny (model prog w) (A.under (.builtin "type.__call__" ⟨.ref C::vs,kw⟩)) (.call (.ref f) ⟨.ref (s.heap.objs.size+1)::vs,kw⟩) (PySem.W.InitBack (s.heap.objs.size+1) R)
   { s with heap:=(s.heap.push PySem.W.emptyDict).push (PySem.W.instObj C s.heap.objs.size) }) :
  codeAny (model prog w) A (.call (.ref C) ⟨vs,kw⟩) R s:=by
 obtain⟨e,g,d,t,i⟩:=s;show PySem.W.make_core (PySem.W.makes_of X c) (xr X b) (fun self=>PySem.W.bind_fn X self a) (.inl rfl) h
end
noncomputable def qH(f:Str)(v:V):List (Str×V)->List (Str×V)
 | []=>[(f,v)]
 | (g,x)::r=>if g=f then(g,v)::r else(g,x)::qH f v r
theorem qA(f g:Str)(v:V):∀ fs:List (Str×V),(qH f v fs).lookup g=if g=f then some v else fs.lookup g
 | []=>by
  show List.lookup g [(f,v)]=_;by_cases h:g=f
  .have a:(g==f)=true:=Yr.mpr h;simp only[List.lookup,a,yO h]
  .have a:(g==f)=false:=YU.mpr h;simp only[List.lookup,a,yE h]
 | (k,x)::r=>by
  have c:=qA f g v r;rw[show qH f v ((k,x)::r)=(if k=f then(k,v)::r else(k,x)::qH f v r) from rfl];by_cases b:k=f
  .rw [yO b];by_cases h:g=k
   .have a:(g==k)=true:=Yr.mpr h;simp only[List.lookup,a,yO (h.trans b)]
   .have a:(g==k)=false:=YU.mpr h;simp only[List.lookup,a,yE (fun e:g=f=>h (e.trans b.symm))]
  .rw [yE b];by_cases h:g=k
   .have a:(g==k)=true:=Yr.mpr h;simp only[List.lookup,a,yE (fun e:g=f=>b (h.symm.trans e))]
   .have a:(g==k)=false:=YU.mpr h;simp only[List.lookup,a];show c
theorem qbd(f:Str)(v:V):∀ fs:List (Str×V),f∈(qH f v fs).map (·.1)/\∀ g,g∈fs.map (·.1)->g∈(qH f v fs).map (·.1)
 | []=>⟨by simp[qH],fun g h=>by simp at h⟩
 | (k,x)::r=>by
  obtain⟨b,c⟩:=qbd f v r;rw[show qH f v ((k,x)::r)=(if k=f then(k,v)::r else(k,x)::qH f v r) from rfl];by_cases a:k=f
  .rw [yO a];subst a;show⟨by simp,fun g h=>by simpa using h⟩
  .rw [yE a];show⟨?_,fun g h=>?_⟩
   .rw [YH];show yB _ b
   .rw [YH] at h ⊢;rcases yz.mp h with e | e
    .show yz.mpr (.inl e)
    .show yB _ (c g e)
theorem jA(f:Str)(v:V):∀ fs:List (Str×V),(qH f v fs).length<=fs.length+1
 | []=>by simp[qH]
 | (k,x)::r=>by
  have b:=jA f v r;rw[show qH f v ((k,x)::r)=(if k=f then(k,v)::r else(k,x)::qH f v r) from rfl];by_cases a:k=f
  .rw [yO a,yA,yA];lk
  .rw [yE a,yA,yA];lk
theorem RelO.some_of{o:Option Value}(r:RelO (some v) o):∃ u,o=some u/\RelV v u:=by
 cases o with
 | none=>show(show False from r).elim
 | some u=>show⟨u,rfl,r⟩
theorem RelO.none_of{o:Option Value}(r:RelO none o):o=none:=by
 cases o with
 | none=>rfl
 | some u=>show(show False from r).elim
theorem qbX(r:RelV v u):PySem.W.handedIn u=true:=by
 cases v with
 | non=>cases (show u=Value.none from r);rfl
 | bl b=>cases (show u=Value.bool b from r);rfl
 | int i=>obtain⟨t,e⟩:=(show ∃ t,u=Value.int i t from r);cases e;rfl
 | str x=>obtain⟨t,e⟩:=(show ∃ t,u=Value.str x t from r);cases e;rfl
 | byt b=>obtain⟨t,e⟩:=(show ∃ t,u=Value.bytes b t from r);cases e;rfl
 | flt b=>obtain⟨t,e⟩:=(show ∃ t,u=Value.float b t from r);cases e;rfl
 | ref a=>cases (show u=Value.ref a from r);rfl
 | ty n=>cases (show u=Value.type n from r);rfl
section
variable{P:Program}{w:World}{H H':Hp}{h h':Heap}{a C dx:Addr}{fs fs':List (Str×V)}
theorem qaL(b:HOk P w H h)(e:H a=some (.ins C dx fs)):∃ mA,ObjM h a dx C mA/\(∀ f,RelO (fs.lookup f) (mA f))/\PySem.Within mA (fs.map (·.1))/\fs.length<=1000/\H dx=some (.own a):=by
 obtain⟨d,z,ne,c,mA,n,r,q⟩:=(show ObjOk P w H h a (.ins C dx fs) from b a _ e);show⟨mA,⟨c,n,ne⟩,r,q,z,d⟩
end
structure Cls(K:yg)(C:Addr):Prop where
 pg:PySem.W.plainGet K C Str.empty=true
 hd:PySem.W.hasDictIn K C=true
 po:PySem.W.plainOver K C=true
 sa:PySem.W.findIn K (.ref C) "__setattr__"=some (some (.builtin "object.__setattr__"))
theorem Cls.get{K:yg}(c:Cls K C)(f:Str):PySem.W.plainGet K C f=true:=c.pg
def NoAttr(K:yg)(C:Addr)(f:Str):Prop:=PySem.W.findIn K (.ref C) f=some none
theorem NoAttr.taker{K:yg}{f:Str}(n:NoAttr K C f):PySem.W.takerIn K C f=some none:=by
 unfold PySem.W.takerIn;rw[show PySem.W.findIn K (.ref C) f=some none from n];rfl
structure Con(K:yg)(C:Addr)(f:Str)(v:V)(u:Value):Prop where
 at_:PySem.W.findIn K (.ref C) f=some (some u)
 rel:RelV v u
 get:PySem.W.specialIn K u "__get__"=some none
 cp:PySem.W.copiedNames.contains f=false
structure Meth(K:yg)(C:Addr)(m:Str)(f:Addr):Prop where
 at_:PySem.W.findIn K (.ref C) m=some (some (.ref f))
 fn:PySem.W.isFn K (.ref f)=true
 kp:PySem.W.keepIn K (.ref f)=true
section
variable{X:Cx}{pins:List (Addr×Obj)}{σ:St}{H:Hp}{s:Shared}{a C dx:Addr}{fs:List (Str×V)}{f:Str}{v:V}{A:Around}{E:Value->Shared->Prop}
theorem getattr_ok{b:Bool}{Q:Value->Shared->Prop}(I:Inv X pins σ H s)(e:H a=some (.ins C dx fs))(c:Cls X.K C)(n:NoAttr X.K C f)(l:fs.lookup f=some v)
  (h:∀ u s',Inv X pins σ H s'->RelV v u->Q u s'):wpAny (model X.prog X.w) A (getAttr (.ref a) f b) Q E s:=by
 obtain⟨mA,O,r,_,_,_⟩:=qaL I.hok e;obtain⟨u,g,d⟩:=RelO.some_of (v:=v) (o:=mA f) (by rw[<- l];show r f);show get_map I.kIn O (c.get f) c.hd n g (qbX d) (h u _ (I.tok _) d)
theorem qbw{m:Str}{g:Addr}{pl:Sem Bool}{Q:Value×List Value->Shared->Prop}(I:Inv X pins σ H s)(e:H a=some (.ins C dx fs))(c:Cls X.K C)(k:Meth X.K C m g)(l:fs.lookup m=none)
  (h:Q (.ref g,[.ref a]) s):wpAny (model X.prog X.w) A (getMethod (.ref a) m pl) Q E s:=by
 obtain⟨mA,O,r,_,_,_⟩:=qaL I.hok e;have b:mA m=none:=RelO.none_of (by rw[<- l];show r m);show get_meth I.kIn O (c.get m) k.at_ k.fn b h
theorem setattr_ok{Q:Unit->Shared->Prop}(I:Inv X pins σ H s)(e:H a=some (.ins C dx fs))(c:Cls X.K C)(n:NoAttr X.K C f)(hl:fs.length<1000)(t:RelV y u)
  (h:∀ s',Inv X pins σ (upd H a (.ins C dx (qH f y fs))) s'->Q () s'):wpAny (model X.prog X.w) A (setAttr (.ref a) f u) Q E s:=by
 obtain⟨mA,O,r,j,_,i⟩:=qaL I.hok e;have hz:(fs.map (·.1)).length<=sizeLine:=by rw[ya,YA];lk
 show set_map I.kIn O c.sa c.po n.taker c.hd j hz fun h' d v=>h _ ?_;have m:∃ o,h'.get? dx=some o:=let ⟨o,_,_,e',_⟩:=d.ns;⟨o,e'⟩;show I.write (x:=a) (e:=dx) (by rw[e];show Y8) (.inr i) (fun b q l z=>(v.2 b l).trans z) m ?_;show⟨by rw[qf O.ne];show i,?_,O.ne,d.obj,_,d.ns,fun g=>?_,fun g p=>?_⟩
 .have:=jA f y fs;lk
 .show RelO ((qH f y fs).lookup g) (if g=f then some u else mA g);rw[qA];by_cases q:g=f
  .rw [yO q,yO q];show t
  .rw [yE q,yE q];show r g
 .by_cases q:g=f
  .rw [q];show(qbd f y fs).1
  .show(qbd f y fs).2 g (j g fun z=>p ?_);show(if g=f then some u else mA g)=none;rw[yE q];show z
theorem Inv.made(I:Inv X pins σ H s):Inv X pins σ (upd (upd H s.heap.objs.size (.own (s.heap.objs.size+1))) (s.heap.objs.size+1) (.ins C s.heap.objs.size []))
  { s with heap:=(s.heap.push PySem.W.emptyDict).push (PySem.W.instObj C s.heap.objs.size) }:=by
 have c:(s.heap.push PySem.W.emptyDict).get? s.heap.objs.size=some PySem.W.emptyDict:=yK s.heap rfl
 have f:((s.heap.push PySem.W.emptyDict).push (PySem.W.instObj C s.heap.objs.size)).get? (s.heap.objs.size+1)=some (PySem.W.instObj C s.heap.objs.size):=by
  have:=yK (s.heap.push PySem.W.emptyDict) (o:=PySem.W.instObj C s.heap.objs.size) rfl
  rwa[YJ] at this
 have g:(s.heap.push PySem.W.emptyDict).Ns s.heap.objs.size (fun _=>none):=⟨PySem.W.emptyDict,#[],_,c,rfl,(fun e h=>absurd h (by simp)),fun _=>rfl⟩;have d:=I.laid (a:=s.heap.objs.size) (o:=.own (s.heap.objs.size+1)) (h':=s.heap.push PySem.W.emptyDict) (t':=s.toks) (fun b u q=>yv _ q) (yh _) ⟨_,c⟩;show d.laid (a:=s.heap.objs.size+1) (o:=.ins C s.heap.objs.size []) (t':=s.toks) (fun b u q=>yv _ q) (kz (YJ _ _)) ?_;have ne:s.heap.objs.size≠s.heap.objs.size+1:=yL (xG _);show⟨by rw[qf ne,qb],YX _,ne,f,fun _=>none,(Heap.Ns1.of_empty g).at fun o q=>yv _ q,fun _=>Y8,fun y i=>absurd rfl i⟩
theorem attr_of{prog:Program}{env:Env}{f:Str}{Q:Value->Shared->Prop}(b:attributeBase e f env (eval e env)=eval e env)
  (h:wpAny (model prog w) A (eval e env) (fun o a=>wpAny (model prog w) A (getAttr o f true) Q E a) E s):wpAny (model prog w) A (eval (.Attribute e f pos) env) Q E s:=
 Attribute_any_ h (by rw[arm_eval_Attribute,b])
end
section
variable{X:Cx}{o e value:Expr}{f:Str}{pos pos' tpos:Pos}{ta tv:TE}
end
section
variable{X:Cx}{pins:List (Addr×Obj)}{σ:St}{H:Hp}{s:Shared}{A:Around}{E:Value->Shared->Prop}{Q:Value->Shared->Prop}{c:Value}{b:Bool}
inductive TyOf(K:yg)(H:Hp):V->Value->Prop where
 | non:TyOf K H .non (.type "NoneType")
 | bl (x:Bool):TyOf K H (.bl x) (.type "bool")
 | int (i:Int):TyOf K H (.int i) (.type "int")
 | str (x:Str):TyOf K H (.str x) (.type "str")
 | flt (x:UInt64):TyOf K H (.flt x) (.type "float")
 | lst {a:Addr} {xs:List V} (e:H a=some (.lst xs)):TyOf K H (.ref a) (.type "list")
 | frz {a:Addr} {o:Obj} {xs:List V} (e:H a=some (.frz o (.lst xs))):TyOf K H (.ref a) (.type "list")
 | tup {a:Addr} {xs:List V} (e:H a=some (.tup xs)):TyOf K H (.ref a) (.type "tuple")
 | dK {a:Addr} {kvs:List (Key×V)} (e:H a=some (.dK kvs)):TyOf K H (.ref a) (.type "dict")
 | dT {a:Addr} {kvs:List (List Key×V)} (e:H a=some (.dT kvs)):TyOf K H (.ref a) (.type "dict")
 | ins {a C dx:Addr} {fs:List (Str×V)} (e:H a=some (.ins C dx fs)) (cl:Cls K C) (ha:PySem.W.findIn K (.ref C) "__class__"=some (some (.builtin "object.__class__")))
   (hn:PySem.W.specialIn K (.builtin "object.__class__") "__get__"=some (some (.builtin "getset_descriptor.__get__"))) (htk:PySem.W.takesIn K (.builtin "object.__class__")=some true)
   (hm:PySem.W.mroIn K C (.type "object")=some true):TyOf K H (.ref a) (.ref C)
end
structure Room(k:Nat)(A:Around):Prop where
 hd:A.handled=none
 dp:A.depth+3*k+5<recursionLimit
 un:A.units+16*k+200<cLine
 gd:A.guards=some []
theorem Room.mono{k:Nat}(r:Room k A)(h:j<=k):Room j A:=⟨r.hd,by have:=r.dp;lk,by have:=r.un;lk,r.gd⟩
theorem Room.deeper{k:Nat}(r:Room (k+1) A)(env:Env):Room k (A.deeper env):=
 ⟨r.hd,by have:=r.dp;show A.depth+1+3*k+5<_;lk,by have:=r.un;show A.units+3+16*k+200<_;lk,r.gd⟩
theorem make_depth:(A.under (.builtin "type.__call__" ⟨.ref C::us,kw⟩)).depth=A.depth+1:=by
 first | rfl | simp[Around.under,Code.weight,Code.isCreation,Code.isGuard,Code.isCaller,Code.frames,Code.isFrame,guardIds]
theorem make_units:(A.under (.builtin "type.__call__" ⟨.ref C::us,kw⟩)).units=A.units+1:=by
 first | rfl | simp[Around.under,Code.cUnits,Code.frames,Code.isFrame]
theorem make_guards:(A.under (.builtin "type.__call__" ⟨.ref C::us,kw⟩)).guards=A.guards:=by
 first | rfl | simp[Around.under,Code.guards,Code.isGuard,guardIds,pushGuards]
theorem Room.make{k:Nat}(r:Room (k+1) A)(C:Addr)(us:List Value)(kw:List (Str×Value)):Room k (A.under (.builtin "type.__call__" ⟨.ref C::us,kw⟩)):=
 ⟨r.hd,by have:=r.dp;rw[make_depth];lk,by have:=r.un;rw[make_units];lk,by rw[make_guards];show r.gd⟩
theorem Room.depth{k:Nat}(r:Room k A):A.depth<recursionLimit:=by have:=r.dp;lk
def qfz:TA:=fun _ H Q=>Q [] H
def qe9(c:TE)(d:TA):TA:=fun σ H Q=>c σ H fun x a=>d σ a fun xs b=>Q (x::xs) b
section
variable{X:Cx}{e:Expr}{es:List Expr}{te:TE}{t:TA}{pos:Pos}
theorem qd:PA X [] qfz:=fun _ _ _ _ H Q I h=>kI ⟨[],H,I,.nil,h⟩
theorem qa(f:PE X e te)(g:PA X es t)(i:starEach (e::es) X.env=(false,eval e X.env)::starEach es X.env:=by rfl):PA X (e::es) (qe9 te t):=by
 intro pos pins s σ H Q I h;rw[i];show wpAny _ _ (spliced ((false,eval e X.env)::backTo pos (starEach es X.env))) _ _ s;show kB (thn (f pins s σ H _ I h) fun u o ⟨x,a,c,m,j⟩=>?_);show thn (g pos pins o σ a _ c j) fun us p ⟨xs,b,d,n,l⟩=>⟨x::xs,b,d,.cons m n,l⟩
inductive NewT(xs:List V)(H:Hp)(Q:VK):Prop|mk (_:xs.length<=sizeLine) (_:∀ p,H p=none->Q (.ref p) (upd H p (.tup xs)))
inductive NewL(xs:List V)(H:Hp)(Q:VK):Prop|mk (_:xs.length<=sizeLine) (_:∀ p,H p=none->Q (.ref p) (upd H p (.lst xs)))
def qfW(t:TA):TE:=fun σ H Q=>t σ H fun xs a=>NewT xs a Q
def qfX(t:TA):TE:=fun σ H Q=>t σ H fun xs a=>NewL xs a Q
theorem zv{x1}(h:PA X es t):PE X (.Tuple es x1 pos) (qfW t):=by
 intro pins s σ H Q I g;show wpAny_Tuple_spliced (thn (h pos pins s σ H _ I g) fun us a ⟨xs,c,d,r,z,q⟩=>⟨by rw[<- r.length];show z,?_⟩);have f:c a.heap.objs.size=none:=d.hok.fresh (yh _);show⟨.ref a.heap.objs.size,upd c a.heap.objs.size (.tup xs),d.laid (t':=a.toks) (fun b u e=>yv _ e) (yh _) ?_,rfl,q _ f⟩;show⟨z,us,r,⟨_,yK _ rfl,rfl,_,rfl⟩⟩
theorem qR(h:PA X es t):PE X (.List es pos) (qfX t):=by
 intro pins s σ H Q I g;show wpAny_List_spliced (thn (h pos pins s σ H _ I g) fun us a ⟨xs,c,d,r,z,q⟩=>⟨by rw[<- r.length];show z,?_⟩);have f:c a.heap.objs.size=none:=d.hok.fresh (yh _);show⟨.ref a.heap.objs.size,upd c a.heap.objs.size (.lst xs),d.laid (t':=a.toks) (fun b u e=>yv _ e) (yh _) ?_,rfl,q _ f⟩;show⟨z,us,0,r,yK _ rfl⟩
end
abbrev Sp:=List V->Hp->VK->XK->Prop
abbrev CXT:=List Env->Hp->Shared->XK->Value->Shared->Prop
structure Env0(P:Program)(w:World)(K:yg)(mg:Str->Option Value)(base:Heap)(A:Around)(outer:List Env)(s:Shared)(H:Hp):Prop where
 frames:A.frames=some outer
 mod:Mod K mg base
 bs:∀ b o,base.get? b=some o->s.heap.get? b=some o/\H b=none
 bsz:base.objs.size<=s.heap.objs.size
 funs:s.heap.FunFrames base outer
 frf:∀ b∈frs outer,H b=none
 hok:HOk P w H s.heap
 bare:AllBare s.gens
def CE(outer:List Env)(P:Program)(w:World)(H:Hp)(s:Shared)(Q:VK)(u:Value)(s':Shared):Prop:=
 ∃ v H',s'.os=s.os/\AllBare s'.gens/\Un (frs outer) [] H H' s.heap s'.heap/\HOk P w H' s'.heap/\RelV v u/\Q v H'
def CR(CX:CXT)(outer:List Env)(P:Program)(w:World)(H:Hp)(s:Shared)(Q:VK)(E:XK)(r:Result)(s':Shared):Prop:=
 match r with
 | .ok (.ret u)=>CE outer P w H s Q u s'
 | .ok _=>False
 | .error e=>CX outer H s E e s'
structure FnOk(P:Program)(w:World)(K:yg)(mg:Str->Option Value)(base:Heap)(CX:CXT)(k:Nat)(f:Addr)(fd:FuncData)(ps:LS)(sp:Sp):Prop where
 len:∀ vs H Q E,sp vs H Q E->vs.length=ps.length
 run:∀(A:Around) (outer:List Env) (s:Shared) (H:Hp) (args:Args) (us:List Value) (vs:List V) (Q:VK) (E:XK),Room k A->Env0 P w K mg base A outer s H->BindsTo s fd args (ps.zip us)->Vals vs us->sp vs H Q E ->
  codeAny (model P w) A (.call (.ref f) args) (CR CX outer P w H s Q E) s
theorem Env0.make{K:yg}(e:Env0 P w K mg base A outer s H)(C:Addr)(us:List Value)(kw:List (Str×Value)) :
  Env0 P w K mg base (A.under (.builtin "type.__call__" ⟨.ref C::us,kw⟩)) outer s H:=⟨by first | show e.frames | (simpa [Around.under,Code.envs,Code.isFrame,pushEnvs] using e.frames),e.mod,e.bs,e.bsz,e.funs,e.frf,e.hok,e.bare⟩
section
variable{X:Cx}{pins:List (Addr×Obj)}{σ:St}{H:Hp}{s s':Shared}
theorem Inv.env0(I:Inv X pins σ H s):Env0 X.prog X.w X.K X.mg X.base X.A X.stack s H:=
 ⟨I.ok.frames,I.ok.mod,I.bs,yi I.ok.bsz I.sz,I.stack,I.stkFree,I.hok,I.bare⟩
theorem Inv.after{Q:VK}(I:Inv X pins σ H s)(h:CE X.stack X.prog X.w H s Q u s'):EP X pins σ Q u s':=by
 obtain⟨v,H',i,a,un,c,r,q⟩:=h;obtain⟨f,g,d,t,e⟩:=s';obtain rfl:e=s.os:=i;show⟨v,H',I.call (h':=f) (g':=g) (d':=d) (t':=t) (ch:=[]) un c a (fun b z=>absurd z (by simp)),r,q⟩
end
def qeN(sp:Sp)(a:List V)(E:XK)(t:TA):TE:=fun σ H Q=>t σ H fun vs b=>sp (vs++a) b Q E
inductive MeR(C:Addr)(m:Str)(x:V)(H:Hp)(k:Prop):Prop|mk (a dx:Addr) (fs:List (Str×V)) (_:x=.ref a) (_:H a=some (.ins C dx fs)) (_:fs.lookup m=none) (_:k)
def qdx(C:Addr)(m:Str)(sp:Sp)(a:List V)(E:XK)(d:TE)(t:TA):TE:=fun σ H Q=>d σ H fun x b=>MeR C m x b (t σ b fun vs c=>sp (x::(vs++a)) c Q E)
def qeO(C:Addr)(sp:Sp)(b:List V)(E:XK)(t:TA):TE:=fun σ H Q=>t σ H fun vs a=>∀ x dx,a x=none->a dx=none->dx≠x ->
 sp (.ref x::(vs++b)) (upd (upd a dx (.own x)) x (.ins C dx [])) (fun v c=>v=.non/\Q (.ref x) c) E
def Binds(K:yg)(b:FuncData)(ps:LS)(a:List Value):Prop:=
 ∀(s:Shared) (us:List Value),K.In s.heap->(us++a).length=ps.length->BindsTo s b ⟨us,[]⟩ (ps.zip (us++a))
theorem Binds.all{K:yg}{a:FuncData}(h:∀ us:List Value,us.length=ps.length->bindArgs a ⟨us,[]⟩=pure (ps.zip us)):Binds K a ps []:=fun s us _ hl=>by
 rw[Yb] at hl ⊢;show .of_eq (h us hl)
def qaV(CX:CXT)(X:Cx)(E:XK):Prop:=∀(pins:List (Addr×Obj)) (σ:St) (H:Hp) (s:Shared) (e:Value) (s':Shared),Inv X pins σ H s->CX X.stack H s E e s'->X.xe e s'
section
variable{X:Cx}{CX:CXT}{k:Nat}{f C:Addr}{fd:FuncData}{ps:LS}{sp:Sp}{dvs:List V}{ds:List Value}{E:XK}{x m:Str}{p pos apos:Pos}{e o:Expr}{es:List Expr}{ta:TE}{t:TA}
theorem qdy{Q:VK}(F:FnOk X.prog X.w X.K X.mg X.base CX k f fd ps sp)(g:Room k X.A)(c:Binds X.K fd ps ds)(d:Vals dvs ds)(i:qaV CX X E)
  (I:Inv X pins σ H s) (r:Vals vs us) (h:sp (vs++dvs) H Q E):wpAny (model X.prog X.w) X.A (call (.ref f) us) (EP X pins σ Q) X.xe s:=by
 have b:Vals (vs++dvs) (us++ds):=r.append d;have hl:(us++ds).length=ps.length:=by rw[<- b.length];show F.len _ _ _ _ h
 show X5 (Xv (F.run X.A X.stack s H ⟨us,[]⟩ (us++ds) (vs++dvs) Q E g I.env0 (c s us I.kIn hl) b h) fun r s' a=>?_)
 cases r with
 | error e=>show i pins σ H s e s' I a
 | ok fl =>
  cases fl with
  | ret u=>show I.after a
  | next=>show False.elim a
  | brk=>show False.elim a
  | cont=>show False.elim a
theorem pe_call(F:FnOk X.prog X.w X.K X.mg X.base CX k f fd ps sp)(o:Room k X.A)(l:Gl X x)(n:X.mg x=some (.ref f))(m:PySem.W.keepIn X.K (.ref f)=true)(g:Binds X.K fd ps ds)(i:Vals dvs ds)(u:qaV CX X E)
  (d:PA X (e::es) t) (a:(x==("__debug__":Str))=false:=by decide) (j:starEach (e::es) X.env=(false,eval e X.env)::starEach es X.env:=by rfl) (b:(backTo pos (starEach es X.env)).any (·.1)=false:=by rfl) :
  PE X (.Call (.Name x p) (e::es) [] pos) (qeN sp dvs E t):=by
 intro pins s σ H Q I h;show XG (qcu I l n ?_ a);show kC (h₀:=X.base) I.ok.mod.kin m (thn (d pos pins s σ H _ I h) fun us y ⟨vs,v,c,r,q⟩=>⟨c.kIn,?_⟩) j b;show qdy F o g i u c r q
theorem pe_meth{pl:Sem Bool}(B:PE X o ta)(c:Cls X.K C)(j:Meth X.K C m f)(F:FnOk X.prog X.w X.K X.mg X.base CX k f fd ps sp)(D:Room k X.A)(y:Binds X.K fd ps ds)(z:Vals dvs ds)(J:qaV CX X E)(v:PA X (e::es) t)
  (d:starEach (e::es) X.env=(false,eval e X.env)::starEach es X.env:=by rfl) (b:(backTo pos (starEach es X.env)).any (·.1)=false:=by rfl)
  (G:eval (.Call (.Attribute o m apos) (e::es) [] pos) X.env=(do
   let ov <- eval o X.env
   standAt apos.atName
   let (f,first) <- holding [ov] (getMethod ov m pl)
   callWith pos f first (backTo pos (starEach (e::es) X.env)) (backToKw pos (keywordEach [] X.env))):=by rfl) :
  PE X (.Call (.Attribute o m apos) (e::es) [] pos) (qdx C m sp dvs E ta t):=by
 intro pins s σ H Q I h;show PySem.W.methodCall_KW (pl:=pl) (thn (B pins s σ H _ I h) fun u N ⟨x,n,g,M,a,dx,fs,ex,p,l,q⟩=>?_) G;subst ex;obtain rfl:u=Value.ref a:=M;show qbw g p c j l ?_;show kC (first:=[.ref a]) (h₀:=X.base) I.ok.mod.kin j.kp (thn (v pos pins N σ n _ g q) fun us P ⟨vs,O,i,r,L⟩=>⟨i.kIn,?_⟩) d b;show qdy (us:=.ref a::us) (vs:=.ref a::vs) F D y z J i (.cons rfl r) L
theorem pe_meth0{pl:Sem Bool}(j:PE X o ta)(c:Cls X.K C)(d:Meth X.K C m f)(F:FnOk X.prog X.w X.K X.mg X.base CX k f fd ps sp)(n:Room k X.A)(g:Binds X.K fd ps ds)(i:Vals dvs ds)(r:qaV CX X E)
  (p:eval (.Call (.Attribute o m apos) [] [] pos) X.env=(do
   let ov <- eval o X.env
   standAt apos.atName
   let (f,first) <- holding [ov] (getMethod ov m pl)
   callWith pos f first (backTo pos (starEach [] X.env)) (backToKw pos (keywordEach [] X.env))):=by rfl) :
  PE X (.Call (.Attribute o m apos) [] [] pos) (qdx C m sp dvs E ta qfz):=by
 intro pins s σ H Q I h;show PySem.W.methodCall_KW (pl:=pl) (thn (j pins s σ H _ I h) fun u y ⟨x,v,b,t,a,dx,fs,ex,e,l,q⟩=>?_) p;subst ex;obtain rfl:u=Value.ref a:=t;show qbw b e c d l ?_;show PySem.W.callWith_K0 (first:=[.ref a]) b.kIn d.kp (qdy (us:=[.ref a]) (vs:=[.ref a]) F n g i r b (.cons rfl .nil) q)
structure Mk(K:yg)(C f:Addr):Prop where
 makes:PySem.W.makesIn K C=true
 init:PySem.W.findIn K (.ref C) "__init__"=some (some (.ref f))
 fn:PySem.W.isFn K (.ref f)=true
 kp:PySem.W.keepIn K (.ref C)=true
theorem run_make{Q:VK}(M:Mk X.K C f)(F:FnOk X.prog X.w X.K X.mg X.base CX k f fd ps sp)(n:Room (k+1) X.A)(l:Binds X.K fd ps ds)(m:Vals dvs ds)
  (o:qaV CX X E) (I:Inv X pins σ H s) (r:Vals vs us)
  (h:∀ x dx,H x=none->H dx=none->dx≠x->sp (.ref x::(vs++dvs)) (upd (upd H dx (.own x)) x (.ins C dx [])) (fun v g=>v=.non/\Q (.ref x) g) E) :
  wpAny (model X.prog X.w) X.A (call (.ref C) us) (EP X pins σ Q) X.xe s:=by
 have c:=h (s.heap.objs.size+1) s.heap.objs.size (I.hok.fresh (xT _)) (I.hok.fresh (yh _)) (yL (xG _));have b:=Inv.made (C:=C) I;have d:Vals (V.ref (s.heap.objs.size+1)::(vs++dvs)) (Value.ref (s.heap.objs.size+1)::(us++ds)):=.cons rfl (r.append m)
 have hl:(Value.ref (s.heap.objs.size+1)::us++ds).length=ps.length:=by
  have e:=d.length;rw[F.len _ _ _ _ c] at e;show e.symm
 show X5 (make_map (f:=f) I.kIn M.makes M.init (Yr.mp M.fn) (Xv (F.run _ X.stack _ _ ⟨Value.ref (s.heap.objs.size+1)::us,[]⟩ (Value.ref (s.heap.objs.size+1)::(us++ds)) _ _ E (n.make C us [])
  (b.env0.make C us []) (l _ (Value.ref (s.heap.objs.size+1)::us) b.kIn hl) d c) fun r s' a=>?_))
 cases r with
 | error e=>show o pins σ _ _ e s' b a
 | ok fl =>
  cases fl with
  | ret u =>
   obtain⟨v,H',i,q,j,p⟩:=b.after a;subst j;show⟨q,⟨V.ref (s.heap.objs.size+1),H',i,rfl,p⟩⟩
  | next=>show False.elim a
  | brk=>show False.elim a
  | cont=>show False.elim a
theorem pe_make(M:Mk X.K C f)(F:FnOk X.prog X.w X.K X.mg X.base CX k f fd ps sp)(n:Room (k+1) X.A)(l:Gl X x)(m:X.mg x=some (.ref C))(g:Binds X.K fd ps ds)(i:Vals dvs ds)(o:qaV CX X E)
  (d:PA X (e::es) t) (a:(x==("__debug__":Str))=false:=by decide) (j:starEach (e::es) X.env=(false,eval e X.env)::starEach es X.env:=by rfl) (b:(backTo pos (starEach es X.env)).any (·.1)=false:=by rfl) :
  PE X (.Call (.Name x p) (e::es) [] pos) (qeO C sp dvs E t):=by
 intro pins s σ H Q I h;show XG (qcu I l m ?_ a);show kC (h₀:=X.base) I.ok.mod.kin M.kp (thn (d pos pins s σ H _ I h) fun us v ⟨vs,u,c,r,q⟩=>⟨c.kIn,?_⟩) j b;show run_make M F n g i o c r q
end
section
variable{X:Cx}{CX:CXT}{k:Nat}{f C:Addr}{fd:FuncData}{ps ks:LS}{sp:Sp}{E:XK}{x m:Str}{p pos apos kpos:Pos}{e o:Expr}{es:List Expr}{kws:List Keyword}{te ta:TE}{t tk:TA}{nm:Option Str}
structure KBinds(K:yg)(fd:FuncData)(ps ks:LS)(g:List Value->List Value->List Value)(gV:List V->List V->List V):Prop where
 to:∀(s:Shared) (us ws:List Value),K.In s.heap->(g us ws).length=ps.length->BindsTo s fd ⟨us,ks.zip ws⟩ (ps.zip (g us ws))
 rel:∀{vs:List V} {us:List Value} {zs:List V} {ws:List Value},Vals vs us->Vals zs ws->Vals (gV vs zs) (g us ws)
variable{g:List Value->List Value->List Value}{gV:List V->List V->List V}
end
structure FnScope(N P:LS)(sc:Scope):Prop where
 kind:sc.kind=.function
 co:sc.isCoroutine=false
 gen:sc.isGenerator=false
 nd:N.Nodup
 pre:N.take P.length=P
 par:∀ x∈P,sc.names.lookup x=some .local\/sc.names.lookup x=some .cell
 nofree:∀ y∈sc.names,y.2≠.free
theorem fS{P:LS}(a:sc.kind=.function:=by rfl)(b:sc.isCoroutine=false:=by rfl)(c:sc.isGenerator=false:=by rfl)(d:N.Nodup:=by room)(e:N.take P.length=P:=by rfl)(f:∀ x∈P,sc.names.lookup x=some .local\/sc.names.lookup x=some .cell:=by room)(g:∀ y∈sc.names,y.2≠.free:=by room):FnScope N P sc:=⟨a,b,c,d,e,f,g⟩
theorem qbY:∀{binds:List (Str×Value)} {m:Str->Option Value},(∀ v,(x,v)∉binds)->bindL kindOf binds m x=m x
 | [],_,_=>rfl
 | (n,v)::r,m,h=>by
  unfold bindL;rw[qbY fun w hw=>h w (yB _ hw)];split
  .have:x≠n:=by rintro rfl;show h v yR
   simp[this]
  .rfl
theorem qbZ:∀{binds:List (Str×Value)} {m:Str->Option Value},(∀ v,(x,v)∉binds)->bindC kindOf binds m x=m x
 | [],_,_=>rfl
 | (n,v)::r,m,h=>by
  unfold bindC;rw[qbZ fun w hw=>h w (yB _ hw)];split
  .rfl
  .have:x≠n:=by rintro rfl;show h v yR
   simp[this]
theorem qb0{v:Value}:∀{P:LS} {vs:List Value} {i:Nat} {m:Str->Option Value},P.Nodup->P[i]?=some x->vs[i]?=some v->kindOf x=some .local ->
  bindL kindOf (P.zip vs) m x=some v
 | [],_,_,_,_,h,_,_=>by simp at h
 | _::_,[],_,_,_,_,h,_=>by simp at h
 | p::P,w::vs,0,m,nd,h1,h2,hk=>by
  simp at h1 h2;subst h1;subst h2;show bindL kindOf ((p,w)::P.zip vs) m p=_;unfold bindL;rw[qbY fun v hv=>(yo.mp nd).1 (k8 hv).1,yO hk];simp
 | p::P,w::vs,i+1,m,nd,h1,h2,hk=>by
  show bindL kindOf ((p,w)::P.zip vs) m x=_;unfold bindL;show qb0 (i:=i) (yo.mp nd).2 (by simpa using h1) (by simpa using h2) hk
theorem qb1{v:Value}:∀{P:LS} {vs:List Value} {i:Nat} {m:Str->Option Value},P.Nodup->P[i]?=some x->vs[i]?=some v->kindOf x≠some .local ->
  bindC kindOf (P.zip vs) m x=some v
 | [],_,_,_,_,h,_,_=>by simp at h
 | _::_,[],_,_,_,_,h,_=>by simp at h
 | p::P,w::vs,0,m,nd,h1,h2,hk=>by
  simp at h1 h2;subst h1;subst h2;show bindC kindOf ((p,w)::P.zip vs) m p=_;unfold bindC;rw[qbZ fun v hv=>(yo.mp nd).1 (k8 hv).1,yE hk];simp
 | p::P,w::vs,i+1,m,nd,h1,h2,hk=>by
  show bindC kindOf ((p,w)::P.zip vs) m x=_;unfold bindC;show qb1 (i:=i) (yo.mp nd).2 (by simpa using h1) (by simpa using h2) hk
noncomputable def start(N:LS)(vs:List V):St:=vs.map some++List.replicate (N.length-vs.length) none
noncomputable def qeX(CX:CXT)(P:Program)(w:World)(K:yg)(mg:Str->Option Value)(base:Heap)(N:LS)(qual:Str)(scope:Scope)(f:Addr)(b:Value)(A:Around)(outer:List Env)(s:Shared)(H:Hp)(E:XK):Cx where
 prog:=P
 w:=w
 K:=K
 mg:=mg
 base:=base
 A:=A.deeper (envOfC qual scope s.heap.objs.size f b)
 N:=N
 s₀:=s
 H₀:=H
 env:=envOfC qual scope s.heap.objs.size f b
 outer:=outer
 stack:=envOfC qual scope s.heap.objs.size f b::outer
 ex:=[]
 calm:=true
 fn:=fun _=>true
 pn:=[]
 xe:=fun e s'=>wpAny (model P w) (A.deeper (envOfC qual scope s.heap.objs.size f b)) (leaving (envOfC qual scope s.heap.objs.size f b) e) (fun _ a=>CX outer H s E e a) (fun c a=>CX outer H s E c a) s'
theorem qcU(h:sc.names.lookup x=some .cell):∃ c,(cellsFrom n sc.names []).lookup x=some c:=by
 have q:=PySem.W.cellsFrom_some sc.names n [] (.inl h);show xq.mp q
theorem inv_start{K:yg}{f:Addr}{o:Value}{D:Shared}{E:XK}
  (S:FnScope N ps scope) (G:A.handled=none) (g:Env0 P w K mg base A outer s H) (hl:vs.length=ps.length) (r:Vals vs us)
  (x:InCallC s s.heap.objs.size (bindL (envOfC qual scope s.heap.objs.size f o).kindOf (ps.zip us) fun _=>none) (cellsFrom (s.heap.objs.size+1) scope.names []) (bindC (envOfC qual scope s.heap.objs.size f o).kindOf (ps.zip us) fun _=>none) D) :
  Inv (qeX CX P w K mg base N qual scope f o A outer s H E) [] (start N vs) H D:=by
 have I:ps.length<=N.length:=by have:=congrArg List.length S.pre;rw[yH] at this;lk
 obtain⟨h1,tk,rfl,B⟩:=x.done;have j:∀ b:Addr,b∉(qeX CX P w K mg base N qual scope f o A outer s H E).ex:=fun b z=>absurd (show b∈([]:LQ) from z) (by simp);show⟨⟨g.mod,S.kind,rfl,rfl,yh _,fun y z c h1 d=>?_,fun y hy=>?_,fun y c _ h=>?_,fun _=>G,Around.frames_deeper g.frames,.inr ⟨rfl,rfl⟩,fun b z=>absurd z (j b),g.bs,g.bsz,fun b _ _=>j b,fun b z=>absurd z (j b),g.funs,g.frf⟩,
  rfl,g.bare,Un.kept B,⟨_,x.toInCall.ns,fun i y v h1 d L=>?_⟩,fun y c h=>⟨_,x.cell y c h⟩,g.hok.fresh (yh _),fun y c h=>?_,fun p l=>absurd (show p∈([]:List (Addr×Obj)) from l) (by simp),g.hok.kept B,?_⟩
 .show name_of_addr x.apart (xX h1) (xX d)
 .have hy:scope.names.lookup y=some .cell\/scope.names.lookup y=some .free:=hy;rcases hy with hy | hy
  .show qcU hy
  .show absurd rfl (S.nofree _ (xX hy))
 .show yT (x.above y c (xX h))
 .have t:i<vs.length:=by
   unfold start at d;by_cases t:i<vs.length
   .show t
   .rw [yC (by simpa using t)] at d;rw[XI] at d;split at d<;>cases d
  have F:vs[i]?=some v:=by
   unfold start at d;rw[yZ (by simpa using t),yd] at d
   cases e:vs[i]? with
   | none=>rw[e] at d;cases d
   | some a=>rw[e] at d;cases d;rfl
  obtain⟨u,C,J⟩:=r.get F
  have l:ps[i]?=some y:=by
   rw[<- S.pre,List.getElem?_take_of_lt (by lk)];show h1
  have m:ps.Nodup:=by rw[<- S.pre];show S.nd.sublist (XM _ _)
  show⟨u,J,?_⟩;rcases S.par y (ye l) with k | k
  .show .inl ⟨k,qb0 m l C k⟩
  .obtain⟨c,e⟩:=qcU (n:=s.heap.objs.size+1) k;show .inr ⟨.inl k,c,e,?_⟩;have q:=x.cell y c e;rw[qb1 m l C (by show scope.names.lookup y≠_;rw[k];decide)] at q;show q
 .show g.hok.fresh (yT (x.above y c (xX h)))
 .unfold start;show _=N.length;rw[yu,ya,YZ];lk
theorem fn_of{K:yg}{k:Nat}{f:Addr}{name:Str}{c:Arguments}{M kV j O a ct oc:Value}{L od:Option Addr}
  {D:Array (Option Value)} {sp:Sp} (lk:K.lookup f=some ⟨oc,od,.func (PySem.W.fnOf name qual c body scope M kV j O L a ct),D⟩) (z:PySem.W.codeIn K a qual=true) (S:FnScope N ps scope)
  (len:∀ vs H Q E,sp vs H Q E->vs.length=ps.length)
  (g:∀(A:Around) (outer:List Env) (s:Shared) (H:Hp) (vs:List V) (Q:VK) (E:XK),Room k (A.deeper (envOfC qual scope s.heap.objs.size f a))->sp vs H Q E ->
   ∃ t,PSs (qeX CX P w K mg base N qual scope f a A outer s H E) body t/\t { nx:=fun _ H'=>Q .non H',rt:=Q } (start N vs) H) :
  FnOk P w K mg base CX (k+1) f (PySem.W.fnOf name qual c body scope M kV j O L a ct) ps sp:=by
 show⟨len,fun A outer s H args us vs Q E B l U r p=>?_⟩;have hl:=len _ _ _ _ p;have G:K.In s.heap:=l.mod.kin.keeps fun b o e=>(l.bs b o e).1;have C:s.heap.NoLimit:=l.mod.nolimit.keeps fun b o e=>(l.bs b o e).1
 have h:∀ y∈ps.zip us,scope.names.lookup y.1=some .local\/(scope.names.lookup y.1=some .cell/\((cellsFrom (s.heap.objs.size+1) scope.names []).lookup y.1).isSome=true):=fun⟨n,v⟩ hy=>by
  rcases S.par n (k8 hy).1 with q | q
  .show .inl q
  .show .inr ⟨q,PySem.W.cellsFrom_some _ _ _ (.inl q)⟩
 show codeAny_call_function B.depth (G _ _ lk) rfl S.co S.gen rfl (PySem.W.codeRec_of G z) (U _ _ _ _ ?_);show wpAny_newFunctionEnv_cells S.kind h fun env X R x=>?_;subst X;show⟨C.keeps x.toInCall.keep,codeAny_func ?_⟩;obtain⟨t,Z,Y⟩:=g A outer s H vs Q E (B.deeper _) p;have I:Inv (qeX CX P w K mg base N qual scope f a A outer s H E) [] (start N vs) H R:=inv_start S B.hd l hl r x;show YV (Z [] R (start N vs) H _ I Y) (fun T s' i=>?_) fun e s' i=>i
 have m:∀{d:St} {H':Hp} {v:V} {u:Value},Inv (qeX CX P w K mg base N qual scope f a A outer s H E) [] d H' s'->RelV v u->Q v H'->CE outer P w H s Q u s':=
  fun{d H' v u} J F q=>⟨v,H',J.os,J.bare,J.base,J.hok,F,q⟩
 cases T with
 | ret u =>
  obtain⟨v,d,H',J,F,q⟩:=i;show m J F q
 | next =>
  obtain⟨d,H',J,q⟩:=i;show m (v:=V.non) (u:=Value.none) J rfl q
 | brk =>
  obtain⟨_,_,_,q⟩:=i;show False.elim q
 | cont =>
  obtain⟨_,_,_,q⟩:=i;show False.elim q
section
variable{X:Cx}{x:Str}{p pos:Pos}{e:Expr}{es:List Expr}{t:TA}{id T:String}{r:List V->Hp->VK->Prop}
def tCB(r:List V->Hp->VK->Prop)(t:TA):TE:=fun σ H Q=>t σ H fun vs a=>r vs a Q
theorem qm(hc:zO X (.builtin id) r)(i:Gl X x)(j:X.mg x=none)(hv:bootBuiltins x=some (.builtin id))(f:PA X (e::es) t)(l:x≠"__name__":=by decide)(a:(x==("__debug__":Str))=false:=by decide)
  (g:starEach (e::es) X.env=(false,eval e X.env)::starEach es X.env:=by rfl) (b:(backTo pos (starEach es X.env)).any (·.1)=false:=by rfl):PE X (.Call (.Name x p) (e::es) [] pos) (tCB r t):=by
 intro pins s σ H Q I h;show XG (qa9 I i j hv ?_ l a);show PyProof.Rows.callWith_builtin1 (thn (f pos pins s σ H _ I h) fun us o ⟨vs,c,d,n,m⟩=>hc pins o σ c vs us Q d n m) g b
theorem jr(hc:zO X (.type T) r)(i:Gl X x)(j:X.mg x=none)(hv:bootBuiltins x=some (.type T))(f:PA X (e::es) t)(l:x≠"__name__":=by decide)(a:(x==("__debug__":Str))=false:=by decide)
  (g:starEach (e::es) X.env=(false,eval e X.env)::starEach es X.env:=by rfl) (b:(backTo pos (starEach es X.env)).any (·.1)=false:=by rfl):PE X (.Call (.Name x p) (e::es) [] pos) (tCB r t):=by
 intro pins s σ H Q I h;show XG (qa9 I i j hv ?_ l a);show Y7 (thn (f pos pins s σ H _ I h) fun us o ⟨vs,c,d,n,m⟩=>hc pins o σ c vs us Q d n m) g b
end
end L2
namespace HT
open PySem PyProof.Rows
variable{hi lo:Option Int}{sl t:Addr}{vl vu:Value}
noncomputable def lexLt:LX->LX->Bool
 | [],[]=>false
 | [],_::_=>true
 | _::_,[]=>false
 | x::xs,y::ys=>if x=y then lexLt xs ys else decide (x<y)
section
open PySem.SeqAt
open PySem.AutoSeq1 (wpAny_loadPart')
open PySem.MeetsSeq PySem.MeetsSeq2 PySem.MeetsSeq3
end
section
variable{prog:Program}{w:World}{A:Around}{E:Value->Shared->Prop}{s:Shared}
theorem cat_tup{b:Addr}{vs a:List Value}{Q:Value->Shared->Prop}(u:IsTup s.heap t vs.toArray)(r:IsTup s.heap b a.toArray)(hv:vs≠[])
  (h1:a=[]->Q (.ref t) s) (q:a≠[]->Q (.ref s.heap.objs.size) { s with heap:=s.heap.push { cls:=.type "tuple",data:=.seq (vs++a).toArray } })
  (hsz:vs.length+a.length<=sizeLine):wpAny (model prog w) A (binaryOp .Add (.ref t) (.ref b)) Q E s:=by
 obtain⟨⟨cls,m,data,sl⟩,i,hc,n,o⟩:=id u;obtain⟨⟨l,d,j,h⟩,c,f,p,g⟩:=id r;simp only at hc o f g;subst hc o f g;have e:vs.toArray++a.toArray=(vs++a).toArray:=by simp
 by_cases hw:a=[]
 .show concat_meets ⟨_,i,rfl⟩ ⟨_,c,rfl⟩ noFill_tuple_add seq_tuple_add PySem.F.slot_tuple_add PySem.F.entry_tuple_add (PySem.F.args_tuple_add_2 _ _)
   (tuple_addW1 t b vs.toArray a.toArray n p m d sl h (by simpa using hv) (by simp[hw])) ⟨i,c,h1 hw⟩
 .show concat_meets ⟨_,i,rfl⟩ ⟨_,c,rfl⟩ noFill_tuple_add seq_tuple_add PySem.F.slot_tuple_add PySem.F.entry_tuple_add (PySem.F.args_tuple_add_2 _ _)
   (tuple_addW2 t b vs.toArray a.toArray n p m d sl h (by simpa using hv) (by simpa using hw) (by rw[yx,yx];show hsz)) ⟨i,c,?_⟩
  rw[e];show q hw
noncomputable def sIx(n d:Nat):Option Int->Nat
 | none=>d
 | some v=>if v<0 then(v+(n:Int)).toNat else min v.toNat n
theorem sIx_none(n d:Nat):sIx n d none=d:=rfl
theorem sIx_nat(n d k:Nat):sIx n d (some (k:Int))=min k n:=by
 show(if (k:Int)<0 then((k:Int)+(n:Int)).toNat else min (k:Int).toNat n)=min k n;rw[yE (by lk),YI]
theorem sIx_le(n d:Nat)(a:d<=n)(o:Option Int):sIx n d o<=n:=by
 cases o with
 | none=>show a
 | some v =>
  show(if v<0 then(v+(n:Int)).toNat else min v.toNat n)<=n;by_cases hv:v<0
  .rw [yO hv];lk
  .rw [yE hv];show kQ _ _
theorem qdz(v:Int)(n d:Nat):(if v<0 then max (v+(n:Int)) 0 else min v (n:Int))=((sIx n d (some v):Nat):Int):=by
 show(if v<0 then max (v+(n:Int)) 0 else min v (n:Int))=(((if v<0 then(v+(n:Int)).toNat else min v.toNat n):Nat):Int);by_cases hv:v<0
 .simp only[yO hv];lk
 .simp only[yE hv];lk
theorem adjust_gen(lo hi:Option Int)(n:Nat):Builtin.Slice.sliceAdjust lo hi 1 (n:Int)=(((sIx n 0 lo:Nat):Int),((sIx n n hi:Nat):Int)):=by
 have h1:¬ ((1:Int)<0):=by lk
 unfold Builtin.Slice.sliceAdjust;simp only[h1,XR];show XS ?_ ?_
 .cases lo with
  | none=>rfl
  | some v=>show qdz v n 0
 .cases hi with
  | none=>rfl
  | some v=>show qdz v n n
theorem places_gen(i j:Nat):Builtin.Slice.slicePlaces (i:Int) (j:Int) 1=j-i:=by
 unfold Builtin.Slice.slicePlaces;have h1:(1:Int)>0:=by lk
 simp only[h1,X9,Int.ediv_one];split<;>lk
theorem qaM{v:Value}{o:Option Int}{Q:Option Int->Shared->Prop}(p:IsPart v o)(h:Q o s):wpAny (model prog w) A (Builtin.Slice.slicePartIndex v) Q E s:=by
 cases p with
 | none=>show kD h
 | int i t=>show slicePart_int h
theorem sliceApplied_gen{n:Nat}{Q:Int×Int×Nat->Shared->Prop}(d:s.heap.IsSliceOf sl vl vu .none)(pl:IsPart vl lo)(e:IsPart vu hi)
  (h:Q (((sIx n 0 lo:Nat):Int),1,sIx n n hi-sIx n 0 lo) s):wpAny (model prog w) A (Builtin.Slice.sliceApplied (.ref sl) (pure (n:Int))) Q E s:=by
 obtain⟨f,b,c,a⟩:=id d;unfold Builtin.Slice.sliceApplied Builtin.Slice.sliceFields;show yr (yr (xt b a (x:=vl) rfl (yr (xt b a (x:=vu) rfl (yr (xt b a (x:=.none) rfl (yt ?_)))))));show yr (kD ?_);show wpAny _ _ (if ((1:Int)==0)=true then _ else _) _ _ s;rw[yE (by decide)];show yr (qaM pl (yr (qaM e (yr (yt ?_)))));show wpAny _ _ (match Builtin.Slice.sliceAdjust lo hi 1 (n:Int) with | (lo,hi)=>pure (lo,(1:Int),Builtin.Slice.slicePlaces lo hi 1)) _ _ s;rw[adjust_gen lo hi n];show wpAny _ _ (pure (((sIx n 0 lo:Nat):Int),(1:Int),Builtin.Slice.slicePlaces ((sIx n 0 lo:Nat):Int) ((sIx n n hi:Nat):Int) 1)) _ _ s;rw[places_gen];show yt h
theorem pick_gen(xs:Array Value)(i k:Nat):((List.range k).filterMap fun(m:Nat)=>xs[((i:Int)+(m:Int)*1).toNat]?).toArray=((xs.toList.drop i).take k).toArray:=by
 have e:(fun(m:Nat)=>xs[((i:Int)+(m:Int)*1).toNat]?)=fun m=>xs[i+m]?:=by
  funext m;have:((i:Int)+(m:Int)*1).toNat=i+m:=by lk
  rw[this]
 rw[e];have:=pick_run xs i k;rw[List.filterMap_map] at this;have a:((fun x=>xs[x]?) ∘ fun x=>i+x)=fun m=>xs[i+m]?:=rfl;rw[a] at this;rw[this]
theorem getItem_tuple_cut{a:Array Value}{Q:Value->Shared->Prop}(c:IsTup s.heap t a)(i:s.heap.IsSliceOf sl vl vu .none)(pl:IsPart vl lo)(n:IsPart vu hi)
  (hw:¬ (sIx a.size 0 lo=0/\sIx a.size a.size hi=a.size))
  (h:Q (.ref s.heap.objs.size) { s with heap:=s.heap.push { cls:=.type "tuple",data:=.seq ((a.toList.drop (sIx a.size 0 lo)).take (sIx a.size a.size hi-sIx a.size 0 lo)).toArray } })
  (hsz:a.size<=sizeLine):wpAny (model prog w) A (getItem (.ref t) (.ref sl)) Q E s:=by
 have b:sizeOk (.seq ((a.toList.drop (sIx a.size 0 lo)).take (sIx a.size a.size hi-sIx a.size 0 lo)).toArray):=by
  show((a.toList.drop (sIx a.size 0 lo)).take (sIx a.size a.size hi-sIx a.size 0 lo)).toArray.size<=sizeLine;rw[yx,yH,X6,Yk];lk
 have o:sIx a.size a.size hi<=a.size:=sIx_le _ _ (yh _) hi;obtain⟨l,g,e,j⟩:=id i;have d:s.TypeIs (.ref sl) "slice":=⟨l,g,e⟩;unfold getItem
 try with_reducible show Yc ?_
 first | show yr (yt ?_) | skip
 show yr (wpAny_sequenceKey c.typeIs (by decide) ?_);show yr (YM (name:=Str.ofString "__getitem__") c.typeIs Yz
  (YD Yz c.typeIs entry_tuple_getitem ?_ (args_tuple_getitem _ _)))
 show wpAny _ _ (Builtin.Tuple.tupleItemsOf (.ref t)>>=_) _ _ s;show yr (tupleItemsOf_ c ?_);show yr (kA d ?_);rw[yO (by decide)];show yr (sliceApplied_gen i pl n ?_)
 have f:¬ ((((sIx a.size 0 lo:Nat):Int)==0&&(1:Int)==1&&(sIx a.size a.size hi-sIx a.size 0 lo)==a.size)=true):=by
  intro q;rw[yY,yY] at q;have p:((sIx a.size 0 lo:Nat):Int)=0:=eq_of_beq q.1.1;have r:sIx a.size a.size hi-sIx a.size 0 lo=a.size:=eq_of_beq q.2;show hw ⟨by lk,by lk⟩
 show wpAny _ _ (if (((sIx a.size 0 lo:Nat):Int)==0&&(1:Int)==1&&(sIx a.size a.size hi-sIx a.size 0 lo)==a.size)=true then _ else _) _ _ s;rw[yE f,pick_gen]
 first
  | show yr (m:=Builtin.Tuple.tupleExact _) (Yl (yt ⟨_,rfl,yt h⟩) b)
  | show yr (m:=Builtin.Tuple.tupleExact _) (Yl (yr (yt (yt ⟨_,rfl,yt h⟩))) b)
  | show yr (yr (m:=Builtin.Tuple.tupleExact _) (Yl (yt (yt ⟨_,rfl,yt h⟩)) b))
  | show yr (yr (m:=Builtin.Tuple.tupleExact _) (Yl (yt ⟨_,rfl,yt h⟩) b))
end
end HT
namespace L2
open PySem PySem.Spec PyProof.Rows
variable{A:Around}{H H':Hp}{P:Program}{X:Cx}{a p:Addr}{h':Heap}{i:Int}{its its' us:List Value}{j n t':Nat}{kvs:List (List Key×V)}{o:Option V}{pins:List (Addr×Obj)}{r:R2}{s:Shared}{u v:Value}{w:World}{x y:V}{xs:List V}{α:Type}{σ:St}
abbrev TO:=St->Hp->(Option Int->Hp->Prop)->Prop
def PO(X:Cx)(e:Option Expr)(t:TO):Prop:=
 ∀(pins:List (Addr×Obj)) (s:Shared) (σ:St) (H:Hp) (Q:Option Int->Hp->Prop),Inv X pins σ H s->t σ H Q ->
  wpAny (model X.prog X.w) X.A (evalPart e X.env) (fun u a=>∃ o H',Inv X pins σ H' a/\IsPart u o/\Q o H') X.xe s
def qdA:TO:=fun _ H Q=>Q none H
def qfa(t:TE):TO:=fun σ H Q=>t σ H fun x a=>∃ i,x=.int i/\Q (some i) a
section
variable{X:Cx}{e:Expr}{te:TE}{lo hi:Option Expr}{tl th:TO}{pos p2:Pos}
theorem jZ:PO X none qdA:=by
 intro pins s σ H Q I h;rw[kO];show yt ⟨none,H,I,.none,h⟩
theorem jp(h:PE X e te):PO X (some e) (qfa te):=by
 intro pins s σ H Q I hw;rw[evalPart_some];show thn (h pins s σ H _ I hw) fun u f ⟨x,a,b,d,c⟩=>?_;obtain⟨i,rfl,q⟩:=c;obtain⟨t,rfl⟩:=d;show⟨some i,a,b,.int i t,q⟩
def SlR(X:Cx)(r:V->Option Int->Option Int->Hp->VK->Prop):Prop:=
 ∀(pins:List (Addr×Obj)) (s:Shared) (σ:St) (H:Hp) (x:V) (v b c:Value) (lo hi:Option Int) (a:Addr) (Q:VK),Inv X pins σ H s->RelV x v->s.heap.IsSliceOf a b c .none->IsPart b lo->IsPart c hi->r x lo hi H Q ->
  ∃ T id,typeLookup (.type T) "__getitem__"=pure (some (.builtin id))/\s.TypeIs v T/\wpAny (model X.prog X.w) X.A (getItem v (.ref a)) (EP X pins σ Q) X.xe s
def tSl(r:V->Option Int->Option Int->Hp->VK->Prop)(te:TE)(tl th:TO):TE:=fun σ H Q=>te σ H fun x a=>tl σ a fun l b=>th σ b fun u c=>r x l u c Q
theorem jx{r:V->Option Int->Option Int->Hp->VK->Prop}(z:SlR X r)(t:PE X e te)(hl:PO X lo tl)(C:PO X hi th):PE X (.Subscript e (.Slice lo hi none p2) pos) (tSl r te tl th):=by
 intro pins s σ H Q I h;show Subscript_ (thn (t pins s σ H _ I h) fun v K ⟨x,g,j,J,E⟩=>?_);show wpAny_Slice (thn (hl pins K σ g _ j E) fun c L ⟨l,i,m,pl,F⟩=>thn (C pins L σ i _ m F) fun d a ⟨u,f,n,D,G⟩=>?_);rw[kO];show yt ?_;have o:Inv X pins σ f { a with heap:=a.heap.push { cls:=.type "slice",data:=.fields #[c,d,.none] } }:=n.kept (t':=a.toks) fun b M q=>yv _ q;obtain⟨T,id,p,B,y⟩:=z pins { a with heap:=a.heap.push { cls:=.type "slice",data:=.fields #[c,d,.none] } } σ f x v c d l u a.heap.objs.size Q o J (kE ..) pl D G;show wpAny (model X.prog X.w) X.A (subscriptTail e (.Slice lo hi none p2) v (.ref a.heap.objs.size)) (EP X pins σ Q) X.xe { a with heap:=a.heap.push { cls:=.type "slice",data:=.fields #[c,d,.none] } };show tail_any (ops:=[.ref a.heap.objs.size,v]) B p y (by with_unfolding_all rfl)
noncomputable def qcV(xs:List V)(lo hi:Option Int):List V:=(xs.drop (HT.sIx xs.length 0 lo)).take (HT.sIx xs.length xs.length hi-HT.sIx xs.length 0 lo)
theorem qbe(xs:List V)(lo hi:Option Int):(qcV xs lo hi).length<=xs.length:=by
 unfold qcV;rw[yH,X6];lk
inductive rSlT(K:yg)(x:V)(lo:Option Int)(hi:Option Int)(H:Hp)(Q:VK):Prop|mk (a xs:_) (_:x=.ref a) (_:SqT K H a xs) (_:¬ (HT.sIx xs.length 0 lo=0/\HT.sIx xs.length xs.length hi=xs.length)) (_:∀ p,H p=none->Q (.ref p) (upd H p (.tup (qcV xs lo hi))))
theorem sl_tup:SlR X (rSlT X.K):=by
 intro pins s σ H x v m n lo hi l Q I i e pl g h;obtain⟨a,xs,rfl,f,hw,q⟩:=h;cases i;obtain⟨its,r,d,hz⟩:=I.tuple f;have c:its.toArray.size=xs.length:=by rw[yx];show r.length.symm
 show⟨"tuple",_,Yz.lookup,d.typeIs,?_⟩;show HT.getItem_tuple_cut d e pl g (by rw[c];show hw) ?_ (by rw[c];show hz);rw[c];show⟨.ref s.heap.objs.size,_,I.laid (t':=s.toks) (o:=.tup (qcV xs lo hi)) (fun b j q=>yv _ q) (yh _) ?_,rfl,q _ (I.hok.fresh (yh _))⟩;show⟨yi (qbe xs lo hi) hz,_,(r.drop (HT.sIx xs.length 0 lo)).take (HT.sIx xs.length xs.length hi-HT.sIx xs.length 0 lo),IsTup.new _ _⟩
inductive rLtT(K:yg)(x:V)(y:V)(H:Hp)(Q:VK):Prop|mk (a b ns ms:_) (_:x=.ref a) (_:y=.ref b) (_:SqT K H a (ns.map V.int)) (_:SqT K H b (ms.map V.int)) (_:Q (.bl (HT.lexLt ns ms)) H)
inductive rCatT(K:yg)(x:V)(y:V)(H:Hp)(Q:VK):Prop|mk (a b xs ys:_) (_:x=.ref a) (_:y=.ref b) (_:SqT K H a xs) (_:SqT K H b ys) (_:xs≠[]) (_:xs.length+ys.length<=sizeLine) (_:(ys=[]->Q (.ref a) H)) (_:(ys≠[]->∀ p,H p=none->Q (.ref p) (upd H p (.tup (xs++ys)))))
theorem Vals.nil_iff(r:Vals xs us):us=[]↔xs=[]:=by
 cases r with
 | nil=>simp
 | cons _ _=>simp
theorem op_catT:OpR X (binaryOp .Add) (rCatT X.K):=by
 intro pins s σ H x y v u Q I n p h;obtain⟨a,b,xs,ys,rfl,rfl,f,g,i,hz,l,m⟩:=h;cases n;cases p;obtain⟨its,d,j,_⟩:=I.tuple f;obtain⟨e,c,p2,_⟩:=I.tuple g;show HT.cat_tup j p2 (fun z=>i (d.nil_iff.mp z)) (fun z=>⟨.ref a,H,I,rfl,l (c.nil_iff.mp z)⟩) (fun z=>?_) (by rw[<- d.length,<- c.length];show hz);show⟨.ref s.heap.objs.size,_,I.laid (t':=s.toks) (o:=.tup (xs++ys)) (fun b r q=>yv _ q) (yh _) ?_,rfl,m (fun w=>z (c.nil_iff.mpr w)) _ (I.hok.fresh (yh _))⟩;show⟨by rw[yu];show hz,_,d.append c,IsTup.new _ _⟩
end
noncomputable def ixN(n:Nat)(i:Int):Option Nat:=if 0<=i then(if i<n then some i.toNat else none) else if -(n:Int)<=i then some (i+n).toNat else none
noncomputable def atI{α:Type}(xs:List α)(i:Int):Option α:=(ixN xs.length i).bind fun j=>xs[j]?
theorem qcx(h:ixN n i=some j):seqIndex? i n=some j/\j<n/\-(n:Int)<=i/\i<n:=by
 unfold ixN at h;by_cases a:0<=i
 .rw [yO a] at h;by_cases h1:i<n
  .rw [yO h1] at h;have e:i.toNat=j:=ym h;show⟨by rw[seqIndex_of a h1,e],by lk,by lk,h1⟩
  .rw [yE h1] at h;cases h
 .rw [yE a] at h;by_cases h1:-(n:Int)<=i
  .rw [yO h1] at h;have e:(i+n).toNat=j:=ym h;show⟨by rw[seqIndex_neg (by lk) h1,e],by lk,h1,by lk⟩
  .rw [yE h1] at h;cases h
theorem qcy{xs:List α}{v:α}(h:atI xs i=some v):∃ j,seqIndex? i xs.length=some j/\xs[j]?=some v/\j<xs.length/\-(xs.length:Int)<=i/\i<xs.length:=by
 unfold atI at h
 cases e:ixN xs.length i with
 | none=>rw[e] at h;cases h
 | some j =>
  rw[e] at h;obtain⟨h1,a,b,c⟩:=qcx e;show⟨j,h1,h,a,b,c⟩
theorem qF{xs:List α}{v:α}(h:xs[j]?=some v):atI xs (j:Int)=some v:=by
 have a:j<xs.length:=(yc.mp h).1
 have e:ixN xs.length (j:Int)=some j:=by
  unfold ixN;rw[yO (by lk),yO (by lk)];simp
 unfold atI;rw[e];show h
theorem atI_last(xs:List α)(v:α):atI (xs++[v]) (-1)=some v:=by
 have hl:(xs++[v]).length=xs.length+1:=by simp
 have e:ixN (xs++[v]).length (-1)=some xs.length:=by
  unfold ixN;rw[hl,yE (by decide),yO (by lk)]
  congr 1
  lk
 unfold atI;rw[e];show(xs++[v])[xs.length]?=some v;simp
def PlainIx(b:Expr):Prop:=∀ o i,subscripted b false o i=operate [o,i] (getItem o i)
def IxR(X:Cx)(r:R2):Prop:=
 ∀(b a:Expr) (pins:List (Addr×Obj)) (s:Shared) (σ:St) (H:Hp) (x y:V) (v u:Value) (Q:VK),Inv X pins σ H s->RelV x v->RelV y u->r x y H Q ->
  subscripted a false v u=operate [v,u] (getItem v u)->wpAny (model X.prog X.w) X.A (subscriptTail b a v u) (EP X pins σ Q) X.xe s
def MtR(X:Cx)(id:String)(r:V->List V->Hp->VK->Prop):Prop:=
 ∀(pins:List (Addr×Obj)) (s:Shared) (σ:St) (H:Hp) (x:V) (xs:List V) (v:Value) (us:List Value) (Q:VK),Inv X pins σ H s->RelV x v->Vals xs us->r x xs H Q ->
  wpAny (model X.prog X.w) X.A (call (.builtin id) (v::us)) (EP X pins σ Q) X.xe s
section
variable{X:Cx}{a b:Expr}{ta tb:TE}{pos:Pos}
theorem IxR.or{d:R2}(h:IxR X r)(h':IxR X d):IxR X (fun x y H Q=>r x y H Q\/d x y H Q):=by
 intro b a pins s σ H x y v u Q I e f q c;rcases q with q | q
 .show h b a pins s σ H x y v u Q I e f q c
 .show h' b a pins s σ H x y v u Q I e f q c
theorem qx(g:IxR X r)(e:PE X a ta)(f:PE X b tb)(i:PlainIx b):PE X (.Subscript a b pos) (tOp r ta tb):=by
 intro pins s σ H Q I h;show Subscript_ (qfG e f I h fun v u m x y c d j l q=>g a b pins m σ c x y v u Q d j l q (i _ _))
inductive rIxL(K:yg)(x:V)(y:V)(H:Hp)(Q:VK):Prop|mk (p xs i v:_) (_:x=.ref p) (_:y=.int i) (_:SqL K H p xs) (_:atI xs i=some v) (_:Q v H)
inductive rIxT(K:yg)(x:V)(y:V)(H:Hp)(Q:VK):Prop|mk (p xs i v:_) (_:x=.ref p) (_:y=.int i) (_:SqT K H p xs) (_:atI xs i=some v) (_:Q v H)
inductive rIxS(x:V)(y:V)(H:Hp)(Q:VK):Prop|mk (z i c:_) (_:x=.str z) (_:y=.int i) (_:z.length<=sizeLine) (_:atI z.cps.toList i=some c) (_:Q (.str ⟨#[c]⟩) H)
theorem ix_list:IxR X (rIxL X.K):=by
 intro e d pins s σ H x y v u Q I C D h l;obtain⟨p,xs,i,z,rfl,rfl,B,A,q⟩:=h;cases C;obtain⟨t,rfl⟩:=D;obtain⟨its,r,pl,hz⟩:=I.list B;obtain⟨j,h1,m,F,n,o⟩:=qcy A;obtain⟨w,f,c⟩:=r.get m;have hl:=r.length;have G:=qbv;have a:EP X pins σ Q w s:=⟨z,H,I,c,q⟩;by_cases g:0<=i
 .have b:i.toNat=j:=by
   rw[seqIndex_of g o] at h1;show ym h1
  show item_listR pl.isList g (by lk) (by rw[b];simpa using f) a l
 .have b:(i+(its.toArray.size:Int)).toNat=j:=by
   rw[seqIndex_neg (by lk) n] at h1;rw[yx,<- hl];show ym h1
  show subscriptTail_builtinR (x:=w) pl.isList.typeIs kJ.lookup
   (wpAny_getItem_list_neg (Q:=fun r E=>r=w/\EP X pins σ Q r E) pl.isList (by lk) (by rw[yx]<;>lk) (by lk) (by rw[b];simpa using f) ⟨rfl,a⟩) l
theorem ix_tup:IxR X (rIxT X.K):=by
 intro d c pins s σ H x y v u Q I n o h m;obtain⟨p,xs,i,z,rfl,rfl,l,g,q⟩:=h;cases n;obtain⟨t,rfl⟩:=o;obtain⟨its,r,pl,hz⟩:=I.tuple l;obtain⟨j,h1,f,B,C,D⟩:=qcy g;obtain⟨w,e,b⟩:=r.get f;have hl:=r.length;have E:=qbv;have a:EP X pins σ Q w s:=⟨z,H,I,b,q⟩;show subscriptTail_builtinR (x:=w) pl.typeIs slot_tuple_getitem.lookup
  (getItem_tuple (j:=j) (Q:=fun r A=>r=w/\EP X pins σ Q r A) pl (by lk) (by lk) (by rw[yx,<- hl];show h1) (by simpa using e) ⟨rfl,a⟩) m
theorem ix_str:IxR X rIxS:=by
 intro b a pins s σ H x y v u Q I o p h n;obtain⟨z,i,c,rfl,rfl,hz,m,q⟩:=h;obtain⟨t,rfl⟩:=o;obtain⟨t',rfl⟩:=p;obtain⟨j,h1,f,r,g,l⟩:=qcy m;have hl:z.cps.toList.length=z.length:=by simp[Str.length]
 rw[hl] at h1 g l;have w:=qbv
 show tail_any (typeIs_str s z t) slot_str_getitem.lookup (getItem_str (c:=c) (by
  have d:decide (i < -(2 ^ 63:Int))=false:=yl (by lk);have e:decide (i ≥ 2 ^ 63)=false:=yl (by lk);rw[d,e,kc]) (by rw[h1];simpa using f) ⟨.str ⟨#[c]⟩,H,I.tok _,⟨_,rfl⟩,q⟩) n
def rIx(K:yg):R2:=fun x y H Q=>rIxL K x y H Q\/rIxT K x y H Q\/rIxS x y H Q
theorem ix_seq:IxR X (rIx X.K):=ix_list.or (ix_tup.or ix_str)
theorem mapSeq_set(its:List Value)(n j:Nat)(u:Value):Obj.mapSeq (·.setIfInBounds j u) { cls:=.type "list",data:=.seq its.toArray n }={ cls:=.type "list",data:=.seq (its.set j u).toArray n }:=by
 simp[Obj.mapSeq]
theorem Inv.lst(I:Inv X pins σ H s)(h:H p=some (.lst xs)) :
  ∃(its:List Value) (n:Nat),Vals xs its/\s.heap.get? p=some { cls:=.type "list",data:=.seq its.toArray n }/\xs.length<=sizeLine:=by
 obtain⟨z,its,n,r,e⟩:=I.hok p _ h;show⟨its,n,r,e,z⟩
theorem Inv.lstUpd{ys:List V}{a:Nat}{f:Obj->Obj}(I:Inv X pins σ H s)(h:H p=some (.lst xs))
  (g:s.heap.get? p=some { cls:=.type "list",data:=.seq its.toArray n }) (c:f { cls:=.type "list",data:=.seq its.toArray n }={ cls:=.type "list",data:=.seq its'.toArray a }) (r:Vals ys its') (hz:ys.length<=sizeLine) (t:Nat) :
  Inv X pins σ (upd H p (.lst ys)) { s with heap:=s.heap.update p f,toks:=t }:=by
 have e:(s.heap.update p f).get? p=some { cls:=.type "list",data:=.seq its'.toArray a }:=by
  rw[Yh f g (by rw[c]<;>rfl),c]
 show I.write (x:=p) (e:=p) (by rw[h];trivial) (.inl rfl) (fun b u d q=>(Y9 _ _ (Ye d)).trans q) ⟨_,e⟩ ?_;show⟨hz,its',a,r,e⟩
inductive rSetL(o:V)(i:V)(v:V)(H:Hp)(Q:(Hp->Prop)):Prop|mk (p xs k j:_) (_:o=.ref p) (_:i=.int k) (_:H p=some (.lst xs)) (_:ixN xs.length k=some j) (_:Q (upd H p (.lst (xs.set j v))))
theorem set_list:qfF X rSetL:=by
 intro pins s σ H o i v B A u Q I w m x h;obtain⟨p,xs,k,j,rfl,rfl,g,l,q⟩:=h;cases w;obtain⟨t,rfl⟩:=m;obtain⟨its,n,r,b,hz⟩:=I.lst g;obtain⟨h1,y,e,f⟩:=qcx l;have hl:=r.length;have z:=qbv
 have c:Inv X pins σ (upd H p (.lst (xs.set j v))) { s with heap:=s.heap.update p (Obj.mapSeq (·.setIfInBounds j u)) }:=
  I.lstUpd g b (mapSeq_set its n j u) (r.set x j) (by rw[ki];show hz) s.toks
 by_cases d:0<=k
 .have a:k.toNat=j:=by
   rw[seqIndex_of d f] at h1;show ym h1
  show PySem.W.ki_setAt b d (by lk) (by rw[yx,<- hl];show f) (by rw[a];show⟨_,c,q⟩)
 .have a:(k+(its.toArray.size:Int)).toNat=j:=by
   rw[seqIndex_neg (by lk) e] at h1;rw[yx,<- hl];show ym h1
  show PySem.W.ki_setBack b (by lk) (by rw[yx,<- hl];show e) (by lk) (by rw[a];show⟨_,c,q⟩)
theorem slice_bounds(lo a:Option Int)(n:Nat):(sliceBounds lo a none n).1=((HT.sIx n 0 lo:Nat):Int)/\(sliceBounds lo a none n).2.1=((HT.sIx n n a:Nat):Int)/\(sliceBounds lo a none n).2.2=1:=by
 show⟨?_,?_,rfl⟩
 .cases lo with
  | none=>simp[sliceBounds,HT.sIx]
  | some i =>
   simp only[sliceBounds,HT.sIx,Option.getD_none,show(1:Int)>0 by decide,X9];by_cases h:i<0
   .simp only[h,X9]<;>lk
   .simp only[h,XR]<;>lk
 .cases a with
  | none=>simp[sliceBounds,HT.sIx]
  | some i =>
   simp only[sliceBounds,HT.sIx,Option.getD_none,show(1:Int)>0 by decide,X9];by_cases h:i<0
   .simp only[h,X9]<;>lk
   .simp only[h,XR]<;>lk
theorem slicePick_cut(its:List Value)(lo a:Option Int):slicePick its.toArray lo a none=((its.drop (HT.sIx its.length 0 lo)).take (HT.sIx its.length its.length a-HT.sIx its.length 0 lo)).toArray:=by
 obtain⟨h1,b,c⟩:=slice_bounds lo a its.toArray.size;unfold slicePick;rw[h1,b,c];simp only[sliceRange_one,pick_run,yx]<;>rfl
inductive rSlL(K:yg)(x:V)(lo:Option Int)(hi:Option Int)(H:Hp)(Q:VK):Prop|mk (a xs:_) (_:x=.ref a) (_:SqL K H a xs) (_:∀ p,H p=none->Q (.ref p) (upd H p (.lst (qcV xs lo hi))))
theorem sl_list:SlR X (rSlL X.K):=by
 intro pins s σ H x v n p lo d m Q I j f pl i h;obtain⟨a,xs,rfl,g,q⟩:=h;cases j;obtain⟨its,r,e,hz⟩:=I.list g;have c:=r.length;show⟨"list",_,kJ.lookup,e.isList.typeIs,?_⟩;show wpAny_getItem_list_slice e.isList f pl i .none (by simp) ?_ (by rw[yx]<;>lk);rw[slicePick_cut,<- c];show⟨.ref s.heap.objs.size,_,I.laid (t':=s.toks) (o:=.lst (qcV xs lo d)) (fun b l q=>yv _ q) (yh _) ?_,rfl,q _ (I.hok.fresh (yh _))⟩;show⟨yi (qbe xs lo d) hz,_,0,(r.drop (HT.sIx xs.length 0 lo)).take (HT.sIx xs.length xs.length d-HT.sIx xs.length 0 lo),yK _ rfl⟩
noncomputable def qar:V->Bool
 | .non=>true
 | .bl _=>true
 | .int _=>true
 | .str _=>true
 | _=>false
noncomputable def eqV:V->V->Bool
 | .non,.non=>true
 | .bl a,.bl b=>a==b
 | .bl a,.int b=>(if a then 1 else 0)==b
 | .int a,.bl b=>a==(if b then 1 else 0)
 | .int a,.int b=>a==b
 | .str a,.str b=>a==b
 | _,_=>false
theorem qdB(e:RelV y u)(c:RelV x v)(f:qar y=true)(d:qar x=true):SeqAt.EqAt A s u v (eqV y x):=by
 cases y with
 | non =>
  cases e
  cases x with
  | non=>cases c;show kj _
  | bl b=>cases c;show SeqAt.EqAt.none_bool b
  | int b=>obtain⟨t,rfl⟩:=c;show SeqAt.EqAt.none_int b t
  | str b=>obtain⟨t,rfl⟩:=c;show SeqAt.EqAt.none_str b t
  | _=>show absurd (show false=true from d) Yi
 | bl a =>
  cases e
  cases x with
  | non=>cases c;show SeqAt.EqAt.bool_none a
  | bl b=>cases c;show SeqAt.EqAt.bool_bool a b
  | int b=>obtain⟨t,rfl⟩:=c;show SeqAt.EqAt.bool_int a b t
  | str b=>obtain⟨t,rfl⟩:=c;show SeqAt.EqAt.bool_str a b t
  | _=>show absurd (show false=true from d) Yi
 | int a =>
  obtain⟨t',rfl⟩:=e
  cases x with
  | non=>cases c;show SeqAt.EqAt.int_none a t'
  | bl b=>cases c;show SeqAt.EqAt.int_bool a t' b
  | int b=>obtain⟨t,rfl⟩:=c;show SeqAt.EqAt.int_int a t' b t
  | str b=>obtain⟨t,rfl⟩:=c;show SeqAt.EqAt.int_str a t' b t
  | _=>show absurd (show false=true from d) Yi
 | str a =>
  obtain⟨t',rfl⟩:=e
  cases x with
  | non=>cases c;show SeqAt.EqAt.str_none a t'
  | bl b=>cases c;show SeqAt.EqAt.str_bool a t' b
  | int b=>obtain⟨t,rfl⟩:=c;show SeqAt.EqAt.str_int a t' b t
  | str b=>obtain⟨t,rfl⟩:=c;show SeqAt.EqAt.str_str a t' b t
  | _=>show absurd (show false=true from d) Yi
 | _=>show absurd (show false=true from f) Yi
noncomputable def eqU(x:V)(u:Value):Bool:=match u with
 | .none=>eqV .non x
 | .bool b=>eqV (.bl b) x
 | .int i _=>eqV (.int i) x
 | .str z _=>eqV (.str z) x
 | _=>false
theorem qdC(r:RelV y u)(f:qar y=true):eqU x u=eqV y x:=by
 cases y with
 | non=>cases r;rfl
 | bl b=>cases r;rfl
 | int i=>obtain⟨t,rfl⟩:=r;rfl
 | str z=>obtain⟨t,rfl⟩:=r;rfl
 | _=>show absurd (show false=true from f) Yi
theorem qbf:∀{xs:List V} {us:List Value},Vals xs us->xs.all qar=true->us.any (eqU x)=xs.any fun y=>eqV y x
 | _,_,.nil,_=>rfl
 | y::xs,u::us,.cons r t,f=>by
  rw[XB,yY] at f;rw[ke,ke,qdC r f.1,qbf t f.2]
theorem qad(b:RelV x v)(a:qar x=true):∀{xs:List V} {us:List Value},Vals xs us->xs.all qar=true->∀ u∈us,SeqAt.EqAt A s u v (eqU x u)
 | _,_,.nil,_=>fun u hu=>by cases hu
 | y::xs,u::us,.cons r t,f=>fun c hu=>by
  rw[XB,yY] at f;rcases yz.mp hu with rfl | hu
  .rw [qdC r f.1];show qdB r b f.1 a
  .show qad b a t f.2 c hu
noncomputable def inV(x:V)(xs:List V):Bool:=xs.any fun y=>eqV y x
inductive rIn(K:yg)(neg:Bool)(x:V)(y:V)(H:Hp)(Q:VK):Prop|mk (p xs:_) (_:y=.ref p) (_:(SqL K H p xs\/SqT K H p xs)) (_:qar x=true) (_:xs.all qar=true) (_:Q (.bl (if neg then !inV x xs else inV x xs)) H)
theorem op_in_seq:OpR X (compareOp .In) (rIn X.K false):=by
 intro pins s σ H x y v u Q I b c h;obtain⟨p,xs,rfl,hq,a,fs,q⟩:=h;cases c;rcases hq with hq | hq
 .obtain⟨its,r,pl,hz⟩:=I.list hq;show SeqAt.in_listAt (eqU x) pl.isList (fun w hw=>qad b a r fs w (by simpa using hw)) ⟨.bl _,H,I,rfl,?_⟩;rw[show its.toArray.any (eqU x)=its.any (eqU x) by simp,qbf r fs];show q
 .obtain⟨its,r,pl,hz⟩:=I.tuple hq;show SeqAt.in_tupleAt (eqU x) pl (fun w hw=>qad b a r fs w (by simpa using hw)) ⟨.bl _,H,I,rfl,?_⟩;rw[show its.toArray.any (eqU x)=its.any (eqU x) by simp,qbf r fs];show q
theorem op_notIn_seq:OpR X (compareOp .NotIn) (rIn X.K true):=by
 intro pins s σ H x y v u Q I b c h;obtain⟨p,xs,rfl,hq,a,fs,q⟩:=h;cases c;rcases hq with hq | hq
 .obtain⟨its,r,pl,hz⟩:=I.list hq;show SeqAt.notIn_listAt (eqU x) pl.isList (fun w hw=>qad b a r fs w (by simpa using hw)) ⟨.bl _,H,I,rfl,?_⟩;rw[show its.toArray.any (eqU x)=its.any (eqU x) by simp,qbf r fs];show q
 .obtain⟨its,r,pl,hz⟩:=I.tuple hq;show SeqAt.notIn_tupleAt (eqU x) pl (fun w hw=>qad b a r fs w (by simpa using hw)) ⟨.bl _,H,I,rfl,?_⟩;rw[show its.toArray.any (eqU x)=its.any (eqU x) by simp,qbf r fs];show q
theorem call_len_seq:zO X (.builtin "len") (fun xs H Q=>∃ p ys,xs=[.ref p]/\(SqL X.K H p ys\/SqT X.K H p ys)/\Q (.int ys.length) H):=by
 intro pins s σ H xs us Q I r h;obtain⟨p,ys,rfl,hq,q⟩:=h;obtain⟨u,rfl,c⟩:=qbc r;cases c;have d:=qbv;rcases hq with hq | hq
 .obtain⟨its,b,pl,hz⟩:=I.list hq;have a:=b.length;show Calls.call_len_list pl.isList (by simp only[yx]<;>lk) ⟨.int ys.length,H,I.tok _,⟨s.toks+1,by rw[yx,a]⟩,q⟩
 .obtain⟨its,b,pl,hz⟩:=I.tuple hq;have a:=b.length;show len_tuple pl (by simp only[yx]<;>lk) ⟨.int ys.length,H,I.tok _,⟨s.toks+1,by rw[yx,a]⟩,q⟩
theorem call_len_str:zO X (.builtin "len") (fun xs H Q=>∃ z,xs=[.str z]/\z.length<=sizeLine/\Q (.int z.length) H):=by
 intro pins s σ H xs us Q I r h;obtain⟨z,rfl,hz,q⟩:=h;obtain⟨u,rfl,t,rfl⟩:=qbc r;have a:=qbv;show len_str (by lk) ⟨.int z.length,H,I.tok _,⟨_,rfl⟩,q⟩
theorem call_list_of:zO X (.type "list") (fun xs H Q=>∃ p ys,xs=[.ref p]/\(SqL X.K H p ys\/SqT X.K H p ys)/\∀ l,H l=none->Q (.ref l) (upd H l (.lst ys))):=by
 intro pins s σ H xs us Q I r h;obtain⟨p,ys,rfl,hq,q⟩:=h;obtain⟨u,rfl,t⟩:=qbc r;cases t;have d:∀(its:List Value),Vals ys its->ys.length<=sizeLine->∀(h':Heap) (a:Nat),(∀ b m,s.heap.get? b=some m->h'.get? b=some m) ->
   h'.get? s.heap.objs.size=some { cls:=.type "list",dict:=none,data:=.seq its.toArray a,slots:=#[] }->EP X pins σ Q (.ref s.heap.objs.size) { s with heap:=h' }:=fun its c hz h' a g e =>
  ⟨.ref s.heap.objs.size,_,I.laid (t':=s.toks) g (yh _) (show ObjOk X.prog X.w _ h' _ (.lst ys) from⟨hz,its,a,c,e⟩),rfl,q _ (I.hok.fresh (yh _))⟩
 rcases hq with hq | hq
 .obtain⟨its,c,pl,hz⟩:=I.list hq;have f:=c.length;obtain⟨o,j,hc,n,i⟩:=pl.isList;show call_list_seq p (.inl rfl) j hc i (fun h' a g e=>d its c hz h' a g e) (by simp only[yx]<;>lk)
 .obtain⟨its,c,pl,hz⟩:=I.tuple hq;have f:=c.length;obtain⟨o,j,hc,n,i⟩:=pl;show call_list_seq p (.inr rfl) j hc i (fun h' a g e=>d its c hz h' a g e) (by simp only[yx]<;>lk)
def tyV(K:yg)(T:String)(x:V)(H:Hp):Prop:=match x with
 | .str _=>T="str"
 | .int _=>T="int"
 | .ref p=>(T="list"/\∃ xs,SqL K H p xs)\/(T="tuple"/\∃ o,K.lookup p=some o/\o.cls=.type "tuple"/\o.dict=none) \/
   (T="dict"/\((∃ kvs,H p=some (.dK kvs))\/∃ kvs,H p=some (.dT kvs)))\/(T="set"/\∃ S n,H p=some (.set S n))
 | _=>False
theorem qek{T:String}(I:Inv X pins σ H s)(r:RelV x v)(ty:tyV X.K T x H) :
  s.TypeIs v T/\∀ a,v=.ref a->∃ g,s.heap.get? a=some g/\g.dict=none:=by
 cases x with
 | str z =>
  obtain⟨t,rfl⟩:=r;cases (show T="str" from ty);show⟨typeIs_str s z t,fun _ e=>nomatch e⟩
 | int i =>
  obtain⟨t,rfl⟩:=r;cases (show T="int" from ty);show⟨typeIs_int s i t,fun _ e=>nomatch e⟩
 | ref p =>
  cases r;rcases ty with⟨rfl,xs,h⟩ | ⟨rfl,o,b,hc,f⟩ | ⟨rfl,b⟩ | ⟨rfl,S,n,b⟩
  .obtain⟨its,_,pl,_⟩:=I.list h;show⟨pl.isList.typeIs,fun a e=>?_⟩;cases e;obtain⟨o,n,e,c,f,_⟩:=pl;show⟨o,e,f⟩
  .show⟨⟨o,I.kIn p o b,hc⟩,fun a e=>?_⟩;cases e;show⟨o,I.kIn _ o b,f⟩
  .have z:∃ o,s.heap.get? p=some o/\o.ExactDict:=by
    rcases b with⟨kvs,b⟩ | ⟨kvs,b⟩
    .obtain⟨_,_,_,_,o,_,_,e,ex,_⟩:=I.hok p _ b;show⟨o,e,ex⟩
    .obtain⟨_,_,_,_,o,_,_,e,ex,_⟩:=I.hok p _ b;show⟨o,e,ex⟩
   obtain⟨o,e,ex⟩:=z;show⟨⟨o,e,ex.1⟩,fun a d=>?_⟩;cases d;show⟨o,e,ex.2.1⟩
  .obtain⟨o,_,_,_,e,ex,_⟩:=I.hok p _ b;show⟨⟨o,e,ex.1⟩,fun a d=>?_⟩;cases d;show⟨o,e,ex.2.1⟩
 | _=>show False.elim ty
def qfH(K:yg)(T:String)(r:V->List V->Hp->VK->Prop)(b:TE):TE:=fun σ H Q=>b σ H fun x a=>tyV K T x a/\r x [] a Q
def tBM(K:yg)(T:String)(r:V->List V->Hp->VK->Prop)(c:TE)(t:TA):TE:=fun σ H Q=>c σ H fun x a=>tyV K T x a/\t σ a fun xs b=>r x xs b Q
variable{o e:Expr}{es:List Expr}{to:TE}{t:TA}{name:Str}{apos cpos:Pos}{T id:String}{r:V->List V->Hp->VK->Prop}
theorem pe_bm0(m:PlainAttrs T)(c:Slot T name id)(d:typeOf (.builtin id)=pure (.type "method_descriptor"))(j:MtR X id r)(l:PE X o to)
  (a:attributeBase o name X.env (eval o X.env)=eval o X.env:=by rfl) (b:(apos.endLine==cpos.line)=true:=by rfl):PE X (.Call (.Attribute o name apos) [] [] cpos) (qfH X.K T r to):=by
 intro pins s σ H Q I h;show wpAny_Call_method0_late a b (thn (l pins s σ H _ I h) fun v p ⟨x,g,e,f,ty,n⟩=>?_);obtain⟨h1,i⟩:=qek e f ty;show⟨T,id,m,c,d,h1,i,XT rfl (PySem.evalArgs_none (j pins p σ g x [] v [] Q e f .nil n))⟩
theorem pe_bm(A:PlainAttrs T)(f:Slot T name id)(g:typeOf (.builtin id)=pure (.type "method_descriptor"))(w:MtR X id r)(y:PE X o to)(u:PA X (e::es) t)
  (b:attributeBase o name X.env (eval o X.env)=eval o X.env:=by rfl)
  (d:((backTo cpos (starEach (e::es) X.env)).all (fun x=>!x.1)&&(backToKw cpos (keywordEach [] X.env)).all (fun x=>x.1.isSome)
   && decide ((e::es).length+([]:List Keyword).length+(if ([]:List Keyword).isEmpty then 0 else 1)<30))=true:=by rfl)
  (c:(apos.endLine==cpos.line)=true:=by rfl) (z:starEach (e::es) X.env=(false,eval e X.env)::starEach es X.env:=by rfl) (a:(backTo cpos (starEach es X.env)).any (·.1)=false:=by rfl) :
  PE X (.Call (.Attribute o name apos) (e::es) [] cpos) (tBM X.K T r to t):=by
 intro pins s σ H Q I h;show wpAny_Call_method_late b d c rfl (thn (y pins s σ H _ I h) fun v E ⟨x,m,i,l,ty,B⟩=>?_);obtain⟨h1,q⟩:=qek i l ty;show⟨T,id,A,f,g,h1,q,?_⟩;have j:=u cpos pins E σ m _ i B;rw[z] at j ⊢;show XT (by show(false||(backTo cpos (starEach es X.env)).any (·.1))=false;rw[a]<;>rfl) (Calls.evalArgs_plain ?_);show thn j fun us F ⟨vs,n,p,D,C⟩=>w pins F σ n x vs v us Q p l D C
end
def MtM(X:Cx)(id:String)(r:V->List V->Hp->VK->Prop):Prop:=
 ∀(pins:List (Addr×Obj)) (s:Shared) (σ:St) (H:Hp) (x:V) (xs:List V) (v:Value) (us:List Value) (Q:VK),Inv X pins σ H s->RelV x v->Vals xs us->r x xs H Q ->
  wpAny (model X.prog X.w) X.A (call (.builtin id) (v::us)) (EP X pins σ Q) X.xe s
theorem Vals.one:∀{x:V} {us:List Value},Vals [x] us->∃ u,us=[u]/\RelV x u
 | _,_,.cons r .nil=>⟨_,rfl,r⟩
theorem Vals.zero:∀{us:List Value},Vals [] us->us=[]
 | _,.nil=>rfl
theorem Vals.dropLast(h:Vals xs us):Vals xs.dropLast us.dropLast:=by
 induction h with
 | nil=>show .nil
 | cons r t ih =>
  cases t with
  | nil=>show .nil
  | cons q t'=>show .cons r ih
theorem Vals.eraseIdx:∀{xs:List V} {us:List Value} (i:Nat),Vals xs us->Vals (xs.eraseIdx i) (us.eraseIdx i)
 | _,_,_,.nil=>.nil
 | _,_,0,.cons _ t=>t
 | _,_,i+1,.cons r t=>.cons r (Vals.eraseIdx i t)
theorem Vals.rep(h:Vals xs us):∀ k:Nat,Vals (List.replicate k xs).flatten (List.replicate k us).flatten
 | 0=>.nil
 | k+1=>by
  rw[xC,xC,xU,xU];show Vals.append h (Vals.rep h k)
theorem erase_last(l:List α):l.eraseIdx (l.length-1)=l.dropLast:=by
 induction l with
 | nil=>rfl
 | cons a r ih =>
  cases r with
  | nil=>rfl
  | cons b r =>
   have e:(a::b::r).length-1=((b::r).length-1)+1:=by
    have h1:(a::b::r).length=r.length+2:=rfl;have c:(b::r).length=r.length+1:=rfl;lk
   rw[e,List.eraseIdx_cons_succ,ih]
   all_goals rfl
theorem qb2:∀(l:List α) (i:Nat),(l.eraseIdx i).length<=l.length
 | [],_=>yh _
 | _::_,0=>xT _
 | _::r,i+1=>Nat.succ_le_succ (qb2 r i)
theorem qb3(its:List Value):∀(k:Nat) (acc:List Value),
  List.foldl (fun b c=>b++c) acc.toArray (List.replicate k its.toArray)=(acc++(List.replicate k its).flatten).toArray
 | 0,acc=>by simp
 | k+1,acc=>by
  have e:acc.toArray++its.toArray=(acc++its).toArray:=by simp
  have a:(acc++its)++(List.replicate k its).flatten=acc++(List.replicate (k+1) its).flatten:=by
   rw[xC,xU,y8]
  rw[<- a,<- qb3 its k (acc++its),<- e,xC,List.foldl_cons]
section
variable{X:Cx}{pins:List (Addr×Obj)}{σ:St}{H:Hp}{s:Shared}{l b:Addr}{xs ys zs:List V}
theorem Inv.lset{f:Array Value->Array Value}(I:Inv X pins σ H s)(a:H l=some (.lst xs))
  (e:s.heap.get? l=some { cls:=.type "list",data:=.seq its.toArray n }) (c:f its.toArray=its'.toArray) (hv:Vals ys its') (hz:ys.length<=sizeLine) :
  Inv X pins σ (upd H l (.lst ys)) { s with heap:=s.heap.update l (Obj.mapSeq f),toks:=t' }:=by
 have q:=PySem.IsL.update e f;rw[c] at q;show I.write (x:=l) (e:=l) (by rw[a];show trivial) (.inl rfl) (fun g u b d=>(Y9 s.heap (Obj.mapSeq f) (Ye b)).trans d) ⟨_,q⟩ ?_;show⟨hz,its',_,hv,q⟩
theorem Inv.lnew(I:Inv X pins σ H s)(hv:Vals ys its)(hz:ys.length<=sizeLine) :
  Inv X pins σ (upd H s.heap.objs.size (.lst ys)) { s with heap:=s.heap.push { cls:=.type "list",data:=.seq its.toArray },toks:=t' }:=
 I.laid (fun _ _ q=>yv _ q) (yh _) ⟨hz,its,0,hv,yK _ rfl⟩
theorem Inv.fresh(I:Inv X pins σ H s):H s.heap.objs.size=none:=I.hok.fresh (yh _)
theorem Inv.lstM(I:Inv X pins σ H s)(a:H l=some (.lst xs)):xs.length<=sizeLine/\∃(its:List Value) (n:Nat),Vals xs its/\xs.length=its.length/\s.heap.get? l=some { cls:=.type "list",data:=.seq its.toArray n }:=by
 obtain⟨z,its,n,r,e⟩:=I.hok l _ a;show⟨z,its,n,r,r.length,e⟩
theorem qcW(h:n<=sizeLine):Builtin.List.listTooLong n=false:=by
 unfold Builtin.List.listTooLong;show yl (by lk)
end
section
variable{X:Cx}
inductive rAppend(x:V)(vs:List V)(H:Hp)(Q:VK):Prop|mk (l xs y:_) (_:x=.ref l) (_:vs=[y]) (_:H l=some (.lst xs)) (_:xs.length<sizeLine) (_:Q .non (upd H l (.lst (xs++[y]))))
theorem mt_append:MtM X "list.append" rAppend:=by
 intro pins s σ H x vs v us Q I d c h;obtain⟨l,xs,y,rfl,rfl,a,hz,q⟩:=h;cases d;obtain⟨u,rfl,b⟩:=c.one;obtain⟨z,its,n,r,hl,e⟩:=I.lstM a;show XH F.slot_list_append ⟨_,e,rfl⟩ F.entry_list_append (F.args_list_append_2 _ _) (PySem.list_append l its.toArray n u (by rw[yx];lk)) ⟨e,?_⟩;show⟨.non,_,I.lset (its':=its++[u]) a e (by simp) (r.append (.cons b .nil)) ?_,rfl,q⟩;rw[yu,xk];lk
inductive rExtend(x:V)(vs:List V)(H:Hp)(Q:VK):Prop|mk (l b xs zs:_) (_:x=.ref l) (_:vs=[.ref b]) (_:H l=some (.lst xs)) (_:H b=some (.lst zs)) (_:xs.length+zs.length<=sizeLine) (_:Q .non (upd H l (.lst (xs++zs))))
theorem mt_extend:MtM X "list.extend" rExtend:=by
 intro pins s σ H x vs v us Q I t p h;obtain⟨l,b,xs,y,rfl,rfl,d,g,hz,q⟩:=h;cases t;obtain⟨u,rfl,o⟩:=p.one;cases o;obtain⟨z,its,n,r,hl,e⟩:=I.lstM d;obtain⟨w,a,j,m,i,f⟩:=I.lstM g;have hsz:its.toArray.size+a.toArray.size<=sizeLine:=by rw[yx,yx];lk
 have c:¬ (!its.toArray.isEmpty&&Builtin.List.listTooLong (its.toArray.size+a.toArray.size))=true:=by
  rw[qcW hsz,Bool.and_false];show Yi
 show XH F.slot_list_extend ⟨_,e,rfl⟩ F.entry_list_extend (F.args_list_extend_2 _ _)
  (AutoSeq1.list_extend_list_list_0 l its.toArray n b a.toArray j c (by rw[yx];lk) (by lk)) ⟨e,f,?_⟩
 show⟨.non,_,I.lset (its':=its++a) d e (by simp) (r.append m) ?_,rfl,q⟩;rw[yu];lk
inductive rPop(x:V)(vs:List V)(H:Hp)(Q:VK):Prop|mk (l xs y:_) (_:x=.ref l) (_:vs=[]) (_:H l=some (.lst xs)) (_:xs[xs.length-1]?=some y) (_:Q y (upd H l (.lst xs.dropLast)))
theorem mt_pop:MtM X "list.pop" rPop:=by
 intro pins s σ H x vs v us Q I j i h;obtain⟨l,xs,y,rfl,rfl,c,f,q⟩:=h;cases j;have a:=i.zero;subst a;obtain⟨z,its,n,r,hl,e⟩:=I.lstM c;obtain⟨u,d,g⟩:=r.get f
 have b:its.toArray[its.toArray.size-1]?=some u:=by
  show its.toArray[its.length-1]?=some u;rw[<- xl,<- hl];show d
 show XH F.slot_list_pop ⟨_,e,rfl⟩ F.entry_list_pop (F.args_list_pop_1 _) (MeetsSeq.list_pop_last l its.toArray n u b (by rw[yx];lk)) ⟨e,?_⟩;show⟨y,_,I.lset (its':=its.dropLast) c e ?_ r.dropLast ?_,g,q⟩
 .show its.toArray.eraseIdxIfInBounds (its.toArray.size-1)=its.dropLast.toArray;rw[yx,List.eraseIdxIfInBounds_toArray,erase_last]
 .rw [List.length_dropLast];lk
inductive rPopAt(x:V)(vs:List V)(H:Hp)(Q:VK):Prop|mk (l xs i k y:_) (_:x=.ref l) (_:vs=[.int i]) (_:H l=some (.lst xs)) (_:-(2 ^ 63)<=i) (_:i<2 ^ 63) (_:seqIndex? i xs.length=some k) (_:xs[k]?=some y) (_:Q y (upd H l (.lst (xs.eraseIdx k))))
theorem mt_popAt:MtM X "list.pop" rPopAt:=by
 intro pins s σ H x vs v us Q I m j h;obtain⟨l,xs,i,k,y,rfl,rfl,b,h1,c,d,f,q⟩:=h;cases m;obtain⟨u,rfl,g⟩:=j.one;obtain⟨t,rfl⟩:=g;obtain⟨z,its,n,r,hl,e⟩:=I.lstM b;obtain⟨w,hw,a⟩:=r.get f;show XH F.slot_list_pop ⟨_,e,rfl⟩ F.entry_list_pop (F.args_list_pop_2 _ _)
  (MeetsSeq.list_pop_at l its.toArray n i t k w (fitsIndex_both h1 c) (by rw[yx,<- hl];show d) (by rw[<- xl];show hw) (by rw[yx];lk)) ⟨e,?_⟩
 show⟨y,_,I.lset (its':=its.eraseIdx k) b e ?_ (r.eraseIdx k) ?_,a,q⟩
 .show its.toArray.eraseIdxIfInBounds k=(its.eraseIdx k).toArray;rw[List.eraseIdxIfInBounds_toArray]
 .have:=qb2 xs k;lk
inductive rReverse(x:V)(vs:List V)(H:Hp)(Q:VK):Prop|mk (l xs:_) (_:x=.ref l) (_:vs=[]) (_:H l=some (.lst xs)) (_:Q .non (upd H l (.lst xs.reverse)))
inductive rClear(x:V)(vs:List V)(H:Hp)(Q:VK):Prop|mk (l xs:_) (_:x=.ref l) (_:vs=[]) (_:H l=some (.lst xs)) (_:Q .non (upd H l (.lst [])))
theorem mt_clear:MtM X "list.clear" rClear:=by
 intro pins s σ H x vs v us Q I d c h;obtain⟨l,xs,rfl,rfl,b,q⟩:=h;cases d;have a:=c.zero;subst a;obtain⟨z,its,n,r,hl,e⟩:=I.lstM b;show XH F.slot_list_clear ⟨_,e,rfl⟩ F.entry_list_clear (F.args_list_clear_1 _) (AutoSeq1.list_clear_list_0 l its.toArray n (by rw[yx];lk)) ⟨e,?_⟩;show⟨.non,_,I.lset (its':=[]) (ys:=[]) b e rfl .nil (YX _),rfl,q⟩
inductive rCat(x:V)(y:V)(H:Hp)(Q:VK):Prop|mk (l b xs zs:_) (_:x=.ref l) (_:y=.ref b) (_:H l=some (.lst xs)) (_:H b=some (.lst zs)) (_:xs.length+zs.length<=sizeLine) (_:∀ p,H p=none->Q (.ref p) (upd H p (.lst (xs++zs))))
theorem op_cat:OpR X (binaryOp .Add) rCat:=by
 intro pins s σ H x y v u Q I m o h;obtain⟨l,b,xs,w,rfl,rfl,g,f,hz,q⟩:=h;cases m;cases o;obtain⟨z,its,n,r,hl,e⟩:=I.lstM g;obtain⟨t,a,p,j,i,c⟩:=I.lstM f;show PySem.P.add_list e c ?_ (by rw[yx,yx];lk);have d:its.toArray++a.toArray=(its++a).toArray:=by simp
 rw[d];show⟨.ref _,_,I.lnew (t':=s.toks) (r.append j) (by rw[yu];lk),rfl,q _ I.fresh⟩
inductive rRep(x:V)(y:V)(H:Hp)(Q:VK):Prop|mk (l k xs:_) (_:x=.ref l) (_:y=.int k) (_:H l=some (.lst xs)) (_:-(2 ^ 63)<=k) (_:k<2 ^ 63) (_:xs.length*k.toNat<=sizeLine) (_:∀ p,H p=none->Q (.ref p) (upd H p (.lst (List.replicate k.toNat xs).flatten)))
theorem len_rep(xs:List α)(k:Nat):(List.replicate k xs).flatten.length=k*xs.length:=by
 induction k with
 | zero=>simp
 | succ k ih=>rw[xC,xU,yu,ih,Nat.succ_mul,Nat.add_comm]
theorem qel:OpR X (binaryOp .Mult) rRep:=by
 intro pins s σ H x y v u Q I A B h;obtain⟨l,k,xs,rfl,rfl,w,h1,p,hz,q⟩:=h;cases A;obtain⟨t,rfl⟩:=B;obtain⟨z,its,n,r,hl,e⟩:=I.lstM w;have f:its.toArray.size*k.toNat<=sizeLine:=by rw[yx,<- hl];show hz
 have c:¬ its.toArray.size*k.toNat>(2 ^ 63-1) / 8:=by
  have:(sizeLine:Nat)<=(2 ^ 63-1) / 8:=by decide
  lk
 have d:¬ (!Builtin.List.listFitsIndex k)=true:=by
  rw[fitsIndex_both h1 p];show Yi
 have b:¬ Builtin.List.listTooLong (its.toArray.size*k.toNat)=true:=by
  rw[qcW f];show Yi
 have g:List.foldl (fun i j=>i++j) #[] (List.replicate (if its.toArray.isEmpty=true then 0 else k.toNat) its.toArray)=(List.replicate k.toNat its).flatten.toArray:=by
  have o:∀ m:Nat,List.foldl (fun i j=>i++j) #[] (List.replicate m its.toArray)=(List.replicate m its).flatten.toArray:=fun m=>by
   have:=qb3 its m [];rw[List.nil_append] at this;show this
  rw[o]
  cases its with
  | nil=>simp
  | cons a r'=>rw[yE (by simp)]
 show wpAny_binaryOp_repeat_ref (T:="list") (U:="int") (by decide) ⟨_,e,rfl⟩ (fun C=>typeIs_int C k t) noFill_list_mul F.fills_int_mul F.slot_int_rmul repeat_list F.slot_int_index.lookup
  (XH F.slot_int_rmul (typeIs_int s k t) F.entry_int_rmul (F.args_int_rmul_2 _ _) (int___rmul___int_list k t l its.toArray n)
   ⟨e,rfl,⟨_,e,rfl⟩,XH F.slot_list_mul ⟨_,e,rfl⟩ F.entry_list_mul (F.args_list_mul_2 _ _) (AutoListH.list___mul___list_int_3 l its.toArray n k t d c b) ⟨e,?_⟩⟩)
 rw[g];show⟨.ref _,_,I.lnew (t':=s.toks) (r.rep k.toNat) (by rw[len_rep,Nat.mul_comm];show hz),rfl,q _ I.fresh⟩
end
section
variable{prog:Program}{w:World}{A:Around}{E:Value->Shared->Prop}{s:Shared}
set_option maxRecDepth 100000 in
end
section
variable{X:Cx}
end
section
variable{κ:Type}[DecidableEq κ]
noncomputable def ze(kvs:List (κ×V))(k:κ):Option V:=(kvs.find? fun a=>decide (a.1=k)).map (·.2)
noncomputable def zA(kvs:List (κ×V))(k:κ)(v:V):List (κ×V):=
 if (kvs.any fun a=>decide (a.1=k))=true then kvs.map (fun a=>if a.1=k then(a.1,v) else a) else kvs++[(k,v)]
noncomputable def dropK(kvs:List (κ×V))(k:κ):List (κ×V):=kvs.filter fun a=>decide (a.1≠k)
theorem jh{p:κ×V}{r:List (κ×V)}{k:κ}(e:p.1=k):ze (p::r) k=some p.2:=by simp[ze,xN,e]
theorem qX{p:κ×V}{r:List (κ×V)}{k:κ}(e:¬ p.1=k):ze (p::r) k=ze r k:=by simp[ze,xN,e]
theorem qae(k:κ):∀ kvs:List (κ×V),(kvs.any fun a=>decide (a.1=k))=(ze kvs k).isSome
 | []=>rfl
 | p::r=>by
  rw[ke];by_cases e:p.1=k
  .simp only[jh e,yM e,Bool.true_or,Option.isSome_some]
  .rw [qX e,yl e,Bool.false_or];show qae k r
theorem qcX(k j:κ)(y:V):∀ kvs:List (κ×V),ze (kvs.map fun a=>if a.1=k then(a.1,y) else a) j=(ze kvs j).map fun x=>if j=k then y else x
 | []=>rfl
 | p::r=>by
  have b:=qcX k j y r;rw[YH];by_cases h:p.1=k
  .rw [yO h];by_cases e:p.1=j
   .rw [jh (p:=(p.1,y)) e,jh e,kl,yO (e.symm.trans h)]
   .rw [qX (p:=(p.1,y)) e,qX e,b]
  .rw [yE h];by_cases e:p.1=j
   .rw [jh (p:=p) e,jh e,kl,yE (fun z=>h (e.trans z))]
   .rw [qX (p:=p) e,qX e,b]
theorem qb4(k j:κ)(y:V):∀ kvs:List (κ×V),ze kvs k=none->ze (kvs++[(k,y)]) j=if j=k then some y else ze kvs j
 | [],_=>by
  by_cases e:k=j
  .rw [yO e.symm];show jh (p:=(k,y)) e
  .rw [yE (fun z=>e z.symm)];show qX (p:=(k,y)) e
 | p::r,hn=>by
  rw[kR];have a:¬ p.1=k:=fun z=>by rw[jh z] at hn;cases hn
  rw[qX a] at hn;have b:=qb4 k j y r hn;by_cases e:p.1=j
  .rw [jh e,jh e,yE (fun z=>a (e.trans z))]
  .rw [qX e,qX e,b]
theorem qaX(kvs:List (κ×V))(k j:κ)(y:V):ze (zA kvs k y) j=if j=k then some y else ze kvs j:=by
 unfold zA;by_cases a:(kvs.any fun c=>decide (c.1=k))=true
 .rw [yO a,qcX];rw[qae] at a;by_cases e:j=k
  .obtain⟨x,b⟩:=xq.mp a;rw[yO e,e,b,kl,yO rfl]
  .rw [yE e]
   cases ze kvs j with
   | none=>rfl
   | some x=>rw[kl,yE e]
 .rw [yE a];show qb4 k j y kvs ?_;rw[qae] at a
  cases q:ze kvs k with
  | none=>rfl
  | some x=>rw[q] at a;show(a rfl).elim
theorem jN(kvs:List (κ×V))(k:κ)(v:V):(zA kvs k v).length<=kvs.length+1:=by
 unfold zA;split
 .rw [ya];lk
 .rw [yu,yA,xB];lk
theorem qaY{kvs:List (κ×V)}{k:κ}(v:V)(h:ze kvs k=none):zA kvs k v=kvs++[(k,v)]:=by
 unfold zA;rw[qae,h];show yE (by decide)
theorem RelO.isSome_eq{u:Option Value}(r:RelO o u):o.isSome=u.isSome:=by
 cases o with
 | none=>cases u with
  | none=>rfl
  | some _=>show(show False from r).elim
 | some _=>cases u with
  | none=>show(show False from r).elim
  | some _=>rfl
theorem RelO.getD{u:Option Value}{d:V}{d':Value}(r:RelO o u)(rd:RelV d d'):RelV (o.getD d) (u.getD d'):=by
 cases o with
 | none=>cases u with
  | none=>show rd
  | some _=>show(show False from r).elim
 | some _=>cases u with
  | none=>show(show False from r).elim
  | some _=>show r
theorem KV.val{kvs:List (κ×V)}{vs:List (κ×Value)}(r:KV kvs vs)(k:κ):RelO (ze kvs k) (valueAt vs k):=by
 unfold KV at r
 induction r with
 | nil=>show Y8
 | @cons p q ps qs h t ih =>
  obtain⟨h1,c⟩:=h;by_cases e:p.1=k
  .have a:q.1=k:=h1.symm.trans e;have b:valueAt (q::qs) k=some q.2:=by simp[valueAt,xN,a]
   rw[jh e,b];show c
  .have a:¬ q.1=k:=fun z=>e (h1.trans z);have b:valueAt (q::qs) k=valueAt qs k:=by simp[valueAt,xN,a]
   rw[qX e,b];show ih
theorem KV.any{kvs:List (κ×V)}{vs:List (κ×Value)}(r:KV kvs vs)(k:κ):(kvs.any fun a=>decide (a.1=k))=vs.any fun a=>decide (a.1=k):=by
 unfold KV at r
 induction r with
 | nil=>rfl
 | cons h t ih=>rw[ke,ke,ih,h.1]
theorem KV.repl{kvs:List (κ×V)}{vs:List (κ×Value)}(r:KV kvs vs)(k:κ)(c:RelV y u) :
  KV (kvs.map fun a=>if a.1=k then(a.1,y) else a) (vs.map fun a=>if a.1=k then(a.1,u) else a):=by
 unfold KV at r ⊢
 induction r with
 | nil=>show .nil
 | @cons p q ps qs h t ih =>
  rw[YH,YH];show .cons ?_ ih;obtain⟨h1,b⟩:=h;by_cases e:p.1=k
  .rw [yO e,yO (h1.symm.trans e)];show⟨h1,c⟩
  .rw [yE e,yE (fun z=>e (h1.trans z))];show⟨h1,b⟩
theorem KV.put{kvs:List (κ×V)}{vs:List (κ×Value)}(r:KV kvs vs)(k:κ)(a:RelV y u):KV (zA kvs k y) (stored vs k u):=by
 unfold zA stored;rw[r.any k];by_cases e:(vs.any fun b=>decide (b.1=k))=true
 .rw [yO e,yO e];show r.repl k a
 .rw [yE e,yE e];show Paired.snoc r ⟨rfl,a⟩
theorem KV.length{kvs:List (κ×V)}{vs:List (κ×Value)}(r:KV kvs vs):kvs.length=vs.length:=Paired.length r
end
theorem qdk{k:Key}(r:RelV (kV k) u):(jl P w).is k u=true:=by
 cases k with
 | inl i=>obtain⟨t,e⟩:=(show ∃ t,u=Value.int i t from r);subst e;show mixKind_int P w i t
 | inr x=>obtain⟨t,e⟩:=(show ∃ t,u=Value.str x t from r);subst e;show mixKind_str P w x t
theorem qb5:∀{ks:List Key} {us:List Value},Vals (ks.map kV) us->ItemsAre (jl P w) ks us
 | [],_,r=>by rw[List.map_nil] at r;cases r;show .nil
 | k::ks,_,r=>by
  rw[YH] at r
  cases r with
  | cons h t=>show .cons (qdk h) (qb5 t)
abbrev KT(H:Hp):List (List Key×V)->List (List Key×Addr×Value)->Prop:=Paired fun p q=>p.1=q.1/\H q.2.1=some (.tup (p.1.map kV))/\RelV p.2 q.2.2
theorem KT.val{xs:List (List Key×Addr×Value)}(r:KT H kvs xs)(k:List Key):RelO (ze kvs k) ((atKey xs k).map (·.2)):=by
 induction r with
 | nil=>show Y8
 | @cons p q ps qs h t ih =>
  obtain⟨h1,_,c⟩:=h;by_cases e:p.1=k
  .have a:q.1=k:=h1.symm.trans e;have b:atKey (q::qs) k=some q.2:=by simp[atKey,xN,a]
   rw[jh e,b];show c
  .have a:¬ q.1=k:=fun z=>e (h1.trans z);have b:atKey (q::qs) k=atKey qs k:=by simp[atKey,xN,a]
   rw[qX e,b];show ih
theorem KT.repl{xs:List (List Key×Addr×Value)}(r:KT H kvs xs)(k:List Key)(d:RelV y u) :
  KT H (kvs.map fun a=>if a.1=k then(a.1,y) else a) (xs.map (putAt k u)):=by
 induction r with
 | nil=>show .nil
 | @cons p q ps qs h t ih =>
  rw[YH,YH];show .cons ?_ ih;obtain⟨h1,b,c⟩:=h;unfold putAt;by_cases e:p.1=k
  .rw [yO e,yO (h1.symm.trans e)];show⟨h1,b,d⟩
  .rw [yE e,yE (fun z=>e (h1.trans z))];show⟨h1,b,c⟩
theorem KT.put{xs:List (List Key×Addr×Value)}(r:KT H kvs xs)(k:List Key){b:Addr}(c:H b=some (.tup (k.map kV)))(a:RelV y u) :
  KT H (zA kvs k y) (storedH xs k b u):=by
 have e:(kvs.any fun d=>decide (d.1=k))=(atKey xs k).isSome:=by
  rw[qae,(r.val k).isSome_eq,Xo]
 unfold zA storedH;rw[e];by_cases q:(atKey xs k).isSome=true
 .rw [yO q,yO q];show r.repl k a
 .rw [yE q,yE q];show Paired.snoc r ⟨rfl,c,a⟩
theorem KT.keeps{xs:List (List Key×Addr×Value)}(r:KT H kvs xs)(a:∀ b ys,H b=some (.tup ys)->H' b=some (.tup ys)):KT H' kvs xs:=
 Paired.mapP r fun _ _ z=>⟨z.1,a _ _ z.2.1,z.2.2⟩
section
variable{P:Program}{w:World}{H:Hp}{h:Heap}{a:Addr}
theorem qfb{u:HO}(ok:HOk P w H h)(e:Rd H a u):ObjOk P w H h a u:=e.ok ok
theorem qb6{kvs:List (Key×V)}(ok:HOk P w H h)(e:Rd H a (.dK kvs)):kvs.length<=sizeLine/\(a==sysModules)=false/\∃ vs,KV kvs vs/\h.DictOf (jl P w) a vs:=
 show ObjOk P w H h a (.dK kvs) from qfb ok e
theorem dk_of{kvs:List (Key×V)}(ok:HOk P w H h)(e:H a=some (.dK kvs)):kvs.length<=sizeLine/\(a==sysModules)=false/\∃ vs,KV kvs vs/\h.DictOf (jl P w) a vs:=qb6 ok (.inl e)
theorem qbx{ks:List Key}(ok:HOk P w H h)(e:H a=some (.tup (ks.map kV))):(tupleKind (jl P w)).is h ks a:=by
 obtain⟨_,its,r,o,h1,b,n,c⟩:=(show ObjOk P w H h a (.tup (ks.map kV)) from ok a _ e);show⟨o,its.toArray,n,h1,b,c,by simpa using qb5 r⟩
theorem qcz(ok:HOk P w H h)(e:Rd H a (.dT kvs)):kvs.length<=sizeLine/\(a==sysModules)=false /\
  ∃ xs,KT H kvs xs/\h.DictOfH (tupleKind (jl P w)) a xs:=by
 obtain⟨z,y,xs,r,o,es,ep,h1,b,c,d,f⟩:=(show ObjOk P w H h a (.dT kvs) from qfb ok e);show⟨z,y,xs,r,o,es,ep,h1,b,c,d,fun x hx=>?_,f⟩
 have all:∀{l:List (List Key×V)} {m:List (List Key×Addr×Value)},KT H l m->∀ x∈m,(tupleKind (jl P w)).is h x.1 x.2.1:=by
  intro l m q
  induction q with
  | nil=>intro x hx;show nomatch hx
  | @cons p q ps qs hq t ih =>
   intro x hx;rcases yz.mp hx with e | hx
   .subst e;show qbx ok (by rw[<- hq.1];show hq.2.1)
   .show ih x hx
 show all r x hx
theorem dt_of(ok:HOk P w H h)(e:H a=some (.dT kvs)):kvs.length<=sizeLine/\(a==sysModules)=false /\
  ∃ xs,KT H kvs xs/\h.DictOfH (tupleKind (jl P w)) a xs:=qcz ok (.inl e)
end
def DGet(H:Hp)(a:Addr)(y:V)(r:Option V):Prop:=
 (∃ kvs k,Rd H a (.dK kvs)/\y=kV k/\r=ze kvs k)\/∃ kvs k b,Rd H a (.dT kvs)/\y=.ref b/\H b=some (.tup (k.map kV))/\r=ze kvs k
def DPut(H:Hp)(a:Addr)(y v:V)(H':Hp):Prop:=
 (∃ kvs k,H a=some (.dK kvs)/\y=kV k/\kvs.length<sizeLine/\H'=upd H a (.dK (zA kvs k v))) \/
 ∃ kvs k b,H a=some (.dT kvs)/\y=.ref b/\H b=some (.tup (k.map kV))/\kvs.length<sizeLine/\H'=upd H a (.dT (zA kvs k v))
theorem DGet.k{kvs:List (Key×V)}{k:Key}(e:H a=some (.dK kvs)):DGet H a (kV k) (ze kvs k):=.inl ⟨kvs,k,.inl e,rfl,rfl⟩
theorem DPut.k{kvs:List (Key×V)}{k:Key}{v:V}(e:H a=some (.dK kvs))(hl:kvs.length<sizeLine):DPut H a (kV k) v (upd H a (.dK (zA kvs k v))):=.inl ⟨kvs,k,e,rfl,hl,rfl⟩
section
variable{X:Cx}{pins:List (Addr×Obj)}{σ:St}{H:Hp}{s:Shared}{a:Addr}{y v:V}{u r:Value}{o:Option V}{A:Around}{E:Value->Shared->Prop}
theorem Inv.big(I:Inv X pins σ H s):sysModules<s.heap.objs.size:=by
 have h:mainGlobals<s.heap.objs.size:=(I.mod.glob.keeps I.bk).lt;show kY (by decide) h
theorem d_getItem{Q:Value->Shared->Prop}(B:A.units+1<cLine)(I:Inv X pins σ H s)(g:DGet H a y (some v))(n:RelV y u)(h:∀ f q,Inv X pins σ H q->RelV v f->Q f q) :
  wpAny (model X.prog X.w) A (getItem (.ref a) u) Q E s:=by
 rcases g with⟨kvs,k,e,j,l⟩ | ⟨kvs,k,b,e,j,r,l⟩
 .subst j;obtain⟨z,t,vs,c,i⟩:=qb6 I.hok e;obtain⟨f,hw,d⟩:=RelO.some_of (v:=v) (o:=valueAt vs k) (by rw[l];show c.val k);show wpAny_getItem_of (qdk n) i.mapOf hw (h f _ (I.tok _) d)
 .subst j;cases (show u=Value.ref b from n);obtain⟨z,t,xs,c,i⟩:=qcz I.hok e;obtain⟨f,hw,d⟩:=RelO.some_of (v:=v) (o:=(atKey xs k).map (·.2)) (by rw[l];show c.val k);obtain⟨p,x,m⟩:=yn.mp hw;show wpAny_getItem_heap (Xg B) (qbx I.hok r) i x ?_;rw[m];show h f _ (I.tok _) d
theorem d_in{Q:Value->Shared->Prop}(p:A.units+1<cLine)(I:Inv X pins σ H s)(g:DGet H a y o)(j:RelV y u)(h:∀ m,Inv X pins σ H m->Q (.bool o.isSome) m) :
  wpAny (model X.prog X.w) A (compareOp .In u (.ref a)) Q E s:=by
 rcases g with⟨kvs,k,e,f,l⟩ | ⟨kvs,k,b,e,f,n,l⟩
 .subst f;obtain⟨z,i,vs,c,d⟩:=qb6 I.hok e;show wpAny_in_of (qdk j) i d.mapOf ?_;rw[<- (c.val k).isSome_eq,<- l];show h _ (I.tok _)
 .subst f;cases (show u=Value.ref b from j);obtain⟨z,i,xs,c,d⟩:=qcz I.hok e;show wpAny_in_heap (Xg p) (qbx I.hok n) i d ?_;have q:=(c.val k).isSome_eq;rw[Xo] at q;rw[<- q,<- l];show h _ (I.tok _)
theorem d_notIn{Q:Value->Shared->Prop}(p:A.units+1<cLine)(I:Inv X pins σ H s)(g:DGet H a y o)(j:RelV y u)(h:∀ m,Inv X pins σ H m->Q (.bool (!o.isSome)) m) :
  wpAny (model X.prog X.w) A (compareOp .NotIn u (.ref a)) Q E s:=by
 rcases g with⟨kvs,k,e,f,l⟩ | ⟨kvs,k,b,e,f,n,l⟩
 .subst f;obtain⟨z,i,vs,c,d⟩:=qb6 I.hok e;show wpAny_notIn_of (qdk j) i d.mapOf ?_;rw[<- (c.val k).isSome_eq,<- l];show h _ (I.tok _)
 .subst f;cases (show u=Value.ref b from j);obtain⟨z,i,xs,c,d⟩:=qcz I.hok e;show wpAny_notIn_heap (Xg p) (qbx I.hok n) i d ?_;have q:=(c.val k).isSome_eq;rw[Xo] at q;rw[<- q,<- l];show h _ (I.tok _)
theorem qdD{c:HO}(I:Inv X pins σ H s)(h:Mut (H a))(g:Heap.SameBut a s.heap h')(f:∃ q,h'.get? a=some q)(new:ObjOk X.prog X.w (upd H a c) h' a c) :
  Inv X pins σ (upd H a c) { s with heap:=h',toks:=t' }:=
 I.write (x:=a) (e:=a) h (.inl rfl) (fun b q d z=>(g.2 b d).trans z) f new
theorem dk_new{kvs:List (Key×V)}{vs:List (Key×Value)}(z:kvs.length<=sizeLine)(d:(a==sysModules)=false)(b:KV kvs vs)(c:h'.DictOf (jl P w) a vs) :
  ObjOk P w H' h' a (.dK kvs):=⟨z,d,vs,b,c⟩
theorem d_setItem{Q:Unit->Shared->Prop}(M:A.units+1<cLine)(I:Inv X pins σ H s)(g:DPut H a y v H')(C:RelV y u)(B:RelV v r)(h:∀ D,Inv X pins σ H' D->Q () D) :
  wpAny (model X.prog X.w) A (setItem (.ref a) u r) Q E s:=by
 rcases g with⟨kvs,k,e,n,l,m⟩ | ⟨kvs,k,b,e,n,t,l,m⟩
 .subst n m;obtain⟨z,o,vs,d,j⟩:=dk_of I.hok e;have hz:vs.length<=sizeLine:=by rw[<- d.length];show z
  have hl:(zA kvs k v).length<=sizeLine:=by have:=jN kvs k v;lk
  show wpAny_setItem_pairs (hsz:=hz) (qdk C) j fun h' f p=>h _ ?_;have L:∃ q,h'.get? a=some q:=let ⟨q,_,_,i,_⟩:=f;⟨q,i⟩;show qdD I (by rw[e];show Y8) p L (dk_new hl o (d.put k B) f)
 .subst n m;cases (show u=Value.ref b from C);obtain⟨z,o,xs,d,j⟩:=dt_of I.hok e;have hz:xs.length<=sizeLine:=by rw[<- Paired.length d];show z
  have hl:(zA kvs k v).length<=sizeLine:=by have:=jN kvs k v;lk
  show wpAny_setItem_heap (hsz:=hz) (Xg M) (qbx I.hok t) j fun h' f p=>h _ ?_;obtain⟨q,es,ep,i,F,G,J,_,K⟩:=f;show qdD I (by rw[e];show Y8) p ⟨q,i⟩ ⟨hl,o,_,(d.put k t B).keeps fun c ys x=>?_,q,es,ep,i,F,G,J,K⟩;rw[qf (qaq x e (fun z=>nomatch z))];show x
end
section
variable{X:Cx}{pins:List (Addr×Obj)}{σ:St}{H:Hp}{s:Shared}{a:Addr}{kvs:List (Key×V)}{k:Key}{u:Value}{A:Around}{E:Value->Shared->Prop}
theorem d_len{Q:Value->Shared->Prop}(I:Inv X pins σ H s)(e:Rd H a (.dK kvs))(h:∀ t c,Inv X pins σ H c->Q (.int kvs.length t) c):wpAny (model X.prog X.w) A (call (.builtin "len") [.ref a]) Q E s:=by
 obtain⟨z,f,vs,b,d⟩:=qb6 I.hok e;show call_len_dict f d (by rw[<- b.length];rw[YA] at z;lk) ?_;rw[<- b.length];show h _ _ (I.tok _)
end
theorem dict_typeIs(I:Inv X pins σ H s)(g:DGet H a y o):s.TypeIs (.ref a) "dict":=by
 rcases g with⟨kvs,k,e,_,_⟩ | ⟨kvs,k,b,e,_,_,_⟩
 .obtain⟨_,_,vs,_,c⟩:=qb6 I.hok e;show c.typeIs
 .obtain⟨_,_,xs,_,c⟩:=qcz I.hok e;show c.typeIs
section
variable{X:Cx}{o i e value:Expr}{pos pos' tpos:Pos}{td ty tv:TE}
end
theorem dk_empty(h:Heap)(a:sysModules<h.objs.size):ObjOk P w H (h.push { cls:=.type "dict",data:=.dict #[] }) h.objs.size (.dK []):=
 ⟨YX _,YU.mpr (Ye (yL a)),[],.nil,Heap.DictOf.new h⟩
def tDNewK:TE:=fun _ H Q=>∀ p,H p=none->Q (.ref p) (upd H p (.dK []))
section
variable{X:Cx}{pos:Pos}
theorem zB:PE X (.Dict [] [] pos) tDNewK:=fun pins s σ H Q I h =>
 wpAny_Dict_empty ⟨.ref s.heap.objs.size,_,I.laid (a:=s.heap.objs.size) (o:=.dK []) (t':=s.toks) (fun _ _ q=>yv _ q) (yh _) (dk_empty s.heap I.big),rfl,h _ (I.hok.fresh (yh _))⟩
end
noncomputable def mergeK(kvs more:List (Key×V)):List (Key×V):=more.foldl (fun acc a=>zA acc a.1 a.2) kvs
structure M1(X:Cx)(o:Expr)(m:Str)(apos:Pos)(e:Expr)(cpos:Pos):Prop where
 base:attributeBase o m X.env (eval o X.env)=eval o X.env
 few:((backTo cpos (starEach [e] X.env)).all (fun x=>!x.1)&&(backToKw cpos (keywordEach [] X.env)).all (fun x=>x.1.isSome)
  && decide (([e]:List Expr).length+([]:List Keyword).length+(if ([]:List Keyword).isEmpty then 0 else 1)<30))=true
 line:(apos.endLine==cpos.line)=true
 trees:backTo cpos (starEach [e] X.env)=[(false,eval e X.env)]
structure M2(X:Cx)(o:Expr)(m:Str)(apos:Pos)(e f:Expr)(cpos:Pos):Prop where
 base:attributeBase o m X.env (eval o X.env)=eval o X.env
 few:((backTo cpos (starEach [e,f] X.env)).all (fun x=>!x.1)&&(backToKw cpos (keywordEach [] X.env)).all (fun x=>x.1.isSome)
  && decide (([e,f]:List Expr).length+([]:List Keyword).length+(if ([]:List Keyword).isEmpty then 0 else 1)<30))=true
 line:(apos.endLine==cpos.line)=true
 trees:backTo cpos (starEach [e,f] X.env)=[(false,eval e X.env),(false,eval f X.env)]
def IsD(H:Hp)(a:Addr):Prop:=(∃ kvs,Rd H a (.dK kvs))\/∃ kvs,Rd H a (.dT kvs)
theorem isD_at(I:Inv X pins σ H s)(d:IsD H a) :
  s.TypeIs (.ref a) "dict"/\(∀ b,Value.ref a=.ref b->∃ c,s.heap.get? b=some c/\c.dict=none)/\(a==sysModules)=false:=by
 rcases d with⟨kvs,e⟩ | ⟨kvs,e⟩
 .obtain⟨_,h,vs,_,f⟩:=qb6 I.hok e;show⟨f.typeIs,fun b q=>?_,h⟩;cases q;obtain⟨c,_,_,h1,g,_⟩:=f;show⟨c,h1,g.2.1⟩
 .obtain⟨_,h,xs,_,f⟩:=qcz I.hok e;show⟨f.typeIs,fun b q=>?_,h⟩;cases q;obtain⟨c,_,_,h1,g,_⟩:=f;show⟨c,h1,g.2.1⟩
section
variable{X:Cx}{pins:List (Addr×Obj)}{σ:St}{H:Hp}{s:Shared}{a:Addr}{y d:V}{u r:Value}{o:Option V}{A:Around}{E:Value->Shared->Prop}
theorem d_get1{Q:Value->Shared->Prop}(q:A.units+1<cLine)(I:Inv X pins σ H s)(g:DGet H a y o)(j:RelV y u)(h:∀ n m,Inv X pins σ H m->RelV (o.getD .non) n->Q n m) :
  wpAny (model X.prog X.w) A (call (.builtin "dict.get") [.ref a,u]) Q E s:=by
 rcases g with⟨kvs,k,e,f,l⟩ | ⟨kvs,k,b,e,f,p,l⟩
 .subst f;obtain⟨z,i,vs,c,d⟩:=qb6 I.hok e;show call_meetsIn X2 d.typeIs PySem.F.entry_dict_get (PySem.F.args_dict_get_2 _ _) (meets_dict_get (jl X.prog X.w) a (qdk j) i) ⟨_,d.mapOf,h _ _ (I.tok _) ?_⟩;rw[l];show(c.val k).getD rfl
 .subst f;cases (show u=Value.ref b from j);obtain⟨z,i,xs,c,d⟩:=qcz I.hok e;show call_meetsIn X2 d.typeIs PySem.F.entry_dict_get (PySem.F.args_dict_get_2 _ _) (meetsH_dict_get (tupleKind (jl X.prog X.w)) a b i) ⟨Xg q,k,xs,qbx I.hok p,d,h _ _ (I.tok _) ?_⟩;rw[l];show(c.val k).getD rfl
end
def qem(d ty:TE):TE:=fun σ H Q=>d σ H fun x b=>∃ a,x=.ref a/\IsD b a/\ty σ b fun y c=>∃ o,DGet c a y o/\Q (o.getD .non) c
def tDGet2(e ty f:TE):TE:=fun σ H Q=>e σ H fun x b=>∃ a,x=.ref a/\IsD b a/\ty σ b fun y d=>f σ d fun z c=>∃ o,DGet c a y o/\Q (o.getD z) c
section
variable{X:Cx}{o e f:Expr}{apos cpos:Pos}{td ty tx:TE}
theorem qaz(q:X.A.units+1<cLine)(p:PE X o td)(n:PE X e ty)(m:M1 X o "get" apos e cpos):PE X (.Call (.Attribute o "get" apos) [e] [] cpos) (qem td ty):=by
 intro pins s σ H Q I h;show wpAny_Call_method m.base m.few m.line PySem.F.plainAttrs_dict X2 PySem.F.type_dict_get (thn (p pins s σ H _ I h) fun u z ⟨x,f,c,v,a,ex,d,r⟩=>?_);subst ex;obtain rfl:u=Value.ref a:=v;obtain⟨B,C,_⟩:=isD_at c d;show⟨B,C,?_⟩;rw[m.trees];show XT rfl (Calls.evalArgs_plain (kB (thn (n pins z σ f _ c r) fun D G ⟨y,i,j,w,E,g,t⟩=>kI ?_)));show d_get1 q j g w fun K J l b=>⟨_,i,l,b,t⟩
end
section
variable{X:Cx}{pins:List (Addr×Obj)}{σ:St}{H:Hp}{s:Shared}{a:Addr}{kvs:List (Key×V)}{A:Around}{E:Value->Shared->Prop}
end
section
variable{X:Cx}{pins:List (Addr×Obj)}{σ:St}{H:Hp}{s:Shared}{a:Addr}{y:V}{u:Value}{A:Around}{E:Value->Shared->Prop}
end
end L2
namespace Att
open PySem PySem.W PySem.Calls PyProof.Rows
variable{P:Params}{h:Heap}{l:OpenLaw}{n:Nat}
theorem ints_of_wellAll:∀(ns:LX) (vs:List Value),WellAll P h vs (ns.map WData.int)->IntsAre vs ns:=by
 intro ns
 induction ns with
 | nil =>
  intro vs w;rw[List.map_nil] at w;cases w;show .nil
 | cons n ns ih =>
  intro vs w;rw[YH] at w
  cases w with
  | cons a b =>
   cases a;show .cons _ _ (ih _ b)
theorem script_of(p:l.most=some n){args:List WData}{c:List Value}
  (b:l.row.toRowW.claim.pre args=true) (j:WellAll P h c args) :
  ∃ a vs ns,c=[Value.ref a]/\args=[WData.list (ns.map WData.int)]/\h.get? a=some { cls:=.type "list",data:=.seq vs.toArray }/\IntsAre vs ns/\ns.length<=n:=by
 have i:WShape.hasAll [] args [.list .int]=true:=(pre_splitW b).1;have hc:l.pre.holds [] { args:=args }=true:=(pre_splitW b).2;obtain⟨d,r,rfl,h1,m⟩:=hasAllW_cons i;obtain rfl:=hasAllW_nil m;obtain⟨xs,rfl,o⟩:=hasW_list h1;obtain⟨ns,rfl⟩:=items_int o
 have e:ns.length<=n:=by
  unfold OpenLaw.pre at hc
  have f:(WTm.not (.lt (.lit (.int (n:Int))) (.len (.arg 0)))).holds [] { args:=[.list (ns.map .int)] }=true:=by
   have f:=(holds_andW hc).1;rw[p] at f;show f
  have g:=condW_of f (w_not (w_lt w_lit (w_len_list (w_arg rfl))));rw[ya] at g;show Nat.le_of_not_lt fun q=>?_;have s:(n:Int)<((ns.length:Nat):Int):=by lk
  first
   | (rw[yM s] at g;show absurd g (by decide))
   | (simp at g;lk)
 cases j with
 | cons w1 w2 =>
  cases w2
  cases w1 with
  | list ho hall=>show⟨_,_,ns,rfl,rfl,ho,ints_of_wellAll ns _ hall,e⟩
theorem post_true(l:OpenLaw)(args:List WData):l.row.toRowW.claim.post args (.bool true) args=true:=
 postW_of (r:=l.row.toRowW) (X:=(true==true))
  (show WShape.has [] (.bool true) .bool=true by first | rfl | decide | simp[WShape.has,WShape.arms,WShape.armsAll])
  (show(WTm.eq .res (.lit (.bool true))).value [] { args:=args,res:=some (.bool true),after:=args }=some (.bool (true==true)) from w_eq_bool (w_res rfl) w_lit) rfl
theorem attach_call{q:Program}{loose:LS}{XP:(Str->Option Value)->Heap->Prop}{YP:World->Heap->Prop}{d:DefRec}
  (M:l.most=some n) (u:d.params.defaults=[])
  (call:∀(w:World) (s₀ b:Shared) (p y:Str->Option Value) (g:Addr) (o:Obj) (z m c:Value) (a:Addr) (vs:List Value) (ns:LX),
   Ground q loose [] XP w s₀ p y b.heap->YP w b.heap ->
   b.heap.get? g=some o->o.data=.func (docDef d.name d.params d.body d.scope z m c)->b.heap.CodeRec m d.name->p d.name=some (.ref g) ->
   b.heap.get? a=some { cls:=.type "list",data:=.seq vs.toArray }->IntsAre vs ns->ns.length<=n->b.gens=#[] ->
   codeAny (model l.prog w) callerA (.call (.ref g) ⟨[.ref a],[]⟩) (fun r s=>r=.ok (.ret (.bool true))/\OldK b.heap s.heap/\s.os=b.os/\AllBare s.gens) b) :
  WalkO q loose XP YP l.row.toRowW d [] (fun f vs=>PySem.call f vs):=by
 intro w s₀ b p y G Y g o z m c D kV N I t A v J args C as j B P x K;obtain rfl:D=.none:=Dflts.none A u;obtain rfl:kV=.none:=Dflts.noKw A;obtain⟨a,vs,ns,rfl,rfl,i,e,h⟩:=script_of M j x;show enter_call (Xv (call w s₀ b p y g o z m c a vs ns G Y N (fd_plain I) t v i e h J) fun r s O=>?_);obtain⟨rfl,E,F,H⟩:=O;show⟨.inl ⟨.bool true,.bool true,[],rfl,fun _=>rfl,.bool true,post_true l _,fun _=>⟨List.Pairwise.nil,fun _ L=>(nomatch L)⟩⟩,E,F,H⟩
section
variable{prog:Program}{w:World}{A:Around}{E:Value->Shared->Prop}{s:Shared}{K:Frag}
noncomputable def ledger(h:Heap)(L d:Addr):List (Addr×Obj):=(List.range h.objs.size).filterMap fun a=>if a=L\/a=d then none else(h.get? a).map fun o=>(a,o)
end
end Att
namespace L2
open PySem PySem.Spec PyProof.Rows
variable{A B:Prop}{H H':Hp}{a f:Addr}{fd:FuncData}{n:Nat}{ps:LS}{qual x:Str}{sp:Sp}{st:Stmt}
theorem qb7:∀{vs:List Value} {ns:LX},IntsAre vs ns->Vals (ns.map V.int) vs
 | _,_,.nil=>.nil
 | _,_,.cons n t h=>.cons ⟨t,rfl⟩ (qb7 h)
def qfI(H:Hp):Prop:=∀ b,H b=none\/∃ o xs,H b=some (.frz o (.lst xs))
theorem law_call{P:Program}{w:World}{K:yg}{G T:Str->Option Value}{CX:CXT}{k:Nat}{M:Addr}{c:Shared}{vs:List Value}{ns:LX}
  (W:K.In c.heap) (B:c.heap.Ns mainGlobals G) (f:c.heap.Ns builtinsNs T) (O:∀ x:Str,x≠"__name__"->T x=bootBuiltins x) (A:c.heap.NoLimit) (hg:c.gens=#[])
  (J:c.heap.get? a=some { cls:=.type "list",data:=.seq vs.toArray }) (hi:IntsAre vs ns) (hl:ns.length<=sizeLine) (hr:Room k callerA)
  (F:∀ g:Heap,K.In g->g.Ns mainGlobals G->FnOk P w K G g CX k M fd [x] sp) (p:∀(s:Shared) (u:Value),BindsTo s fd ⟨[u],[]⟩ [(x,u)])
  (S:∀ H:Hp,qfI H->SqL K H a (ns.map V.int)->sp [.ref a] H (fun v _=>v=.bl true) fun _ _ _=>False)
  (N:∀ H e i,CX [] H c (fun _ _ _=>False) e i->False) :
  codeAny (model P w) callerA (.call (.ref M) ⟨[.ref a],[]⟩) (fun r i=>r=.ok (.ret (.bool true))/\OldK c.heap i.heap/\i.os=c.os/\AllBare i.gens) c:=by
 have rv:=qb7 hi;have E:=hi.length;have l:∀ H:Hp,qfI H->SqL K H a (ns.map V.int)->HOk P w H c.heap->(∀ b,H b≠none->b=a)->(H a≠none->K.lookup a=none) ->
   codeAny (model P w) callerA (.call (.ref M) ⟨[.ref a],[]⟩) (fun r i=>r=.ok (.ret (.bool true))/\OldK c.heap i.heap/\i.os=c.os/\AllBare i.gens) c:=by
  intro H Z hS C Y hK;have base_of:∀{b:Addr} {o:Obj},c.heap.get? b=some o->H b=none->(qeb c.heap H).get? b=some o:=fun e n=>hidT_get e n
  have U:∀{b:Addr} {o:Obj} {es:Array DictEntry} {ep:Nat},c.heap.get? b=some o->o.data=.dict es ep->H b=none:=fun{b o es ep} e d=>by
   cases q:H b with
   | none=>rfl
   | some u =>
    have L:b=a:=Y b (by rw[q];simp);subst L;rw[J] at e;cases e;have d':Data.seq vs.toArray _=Data.dict es ep:=d;cases d'
  have j:∀{b:Addr} {m:Str->Option Value},c.heap.Ns b m->(qeb c.heap H).Ns b m:=fun{b m} ⟨o,es,ep,e,d,r⟩=>⟨o,es,ep,base_of e (U e d),d,r⟩
  have y:K.In (qeb c.heap H):=fun b o e=>base_of (W b o e) (by
   cases q:H b with
   | none=>rfl
   | some u =>
    have L:b=a:=Y b (by rw[q];simp);subst L;rw[hK (by rw[q];simp)] at e;cases e)
  have hM:Mod K G (qeb c.heap H):=⟨y,j B,⟨T,j f,O⟩,let ⟨mc,h1,h2⟩:=A;⟨mc,j h1,h2⟩⟩;have e0:Env0 P w K G (qeb c.heap H) callerA [] c H:=⟨rfl,hM,fun b o e=>of_hidT e,kz (hidT_size _ _),trivial,fun b f=>absurd (show b∈([]:LQ) from f) (by simp),C,.of_eq hg⟩;show Xv ((F _ y (j B)).run callerA [] c H ⟨[.ref a],[]⟩ [.ref a] [.ref a] _ _ hr e0 (p c (.ref a)) (.cons rfl .nil) (S H Z hS)) fun r i h=>?_
  cases r with
  | error e=>show(N H e i h).elim
  | ok fl =>
   cases fl with
   | next=>show False.elim h
   | brk=>show False.elim h
   | cont=>show False.elim h
   | ret u =>
    obtain⟨v,H',os,t,un,D,r',q⟩:=h;have q':v=.bl true:=q;subst q';obtain rfl:u=Value.bool true:=r';show⟨rfl,OldK.of_keep fun b o e=>?_,os,t⟩
    cases q:H b with
    | none=>show un.keep b o e q (by intro z;show absurd (show b∈([]:LQ) from z) (by simp)) (by simp)
    | some u =>
     rcases Z b with z | ⟨ob,xs,z⟩
     .rw [q] at z;cases z
     .have z2:=un.frzs b ob _ z;obtain⟨X,_⟩:=C b _ z;obtain⟨e2,_⟩:=D b _ z2;rw[e] at X;cases X;show e2
 cases R:K.lookup a with
 | some o =>
  have e:=W a o R;rw[J] at e;cases e;show l (fun _=>none) (fun _=>.inl rfl) (.inr ⟨_,vs.toArray,_,R,rfl,rfl,rfl,by rw[yx,E];show hl,by simpa using rv⟩) (fun b u z=>by have I:(none:Option HO)=some u:=z;cases I) (fun b z=>absurd rfl z) fun z=>absurd rfl z
 | none =>
  show l (fun b=>if b=a then some (.frz { cls:=.type "list",data:=.seq vs.toArray } (.lst (ns.map V.int))) else none) (fun b=>?_) (.inl (.inr ⟨{ cls:=.type "list",data:=.seq vs.toArray },yO rfl⟩)) (fun b u z=>?_) (fun b z=>?_) fun _=>R
  .by_cases f:b=a
   .show .inr ⟨_,_,yO f⟩
   .show .inl (yE f)
  .by_cases f:b=a
   .have I:=(yO f).symm.trans z;cases I;subst f;show⟨J,by rw[ya];show hl,vs,_,rv,J⟩
   .have I:=(yE f).symm.trans z;cases I
  .by_cases f:b=a
   .show f
   .show absurd (yE f) z
noncomputable abbrev KOf{K:yg}{h:Heap}(_:K.In h):yg:=K
theorem walk_of{l:PySem.W.OpenLaw}{k:Nat}{q:Program}{loose:LS}{XP:(Str->Option Value)->Heap->Prop}{YP:World->Heap->Prop}{d:DefRec}{K:Params->yg}{CX:World->CXT}{sp:World->Sp}
  (S:l.most=some n) (B:n<=sizeLine) (z:d.params.defaults=[]) (U:Room k callerA)
  (N:∀(w:World) (h:Heap),YP w h->(K w.params).In h)
  (F:∀(w:World) (m:Str->Option Value) (t:Addr) (h:Heap),(K w.params).In h->h.Ns mainGlobals m->m d.name=some (.ref t) ->
   ∃ fd:FuncData,(∀(s:Shared) (u:Value),BindsTo s fd ⟨[u],[]⟩ [(x,u)]) /\
    ∀ c:Heap,(K w.params).In c->c.Ns mainGlobals m->FnOk l.prog w (K w.params) m c (CX w) k t fd [x] (sp w))
  (C:∀(w:World) (H:Hp) (a:Addr) (ns:LX),ns.length<=n->qfI H->SqL (K w.params) H a (ns.map V.int)->sp w [.ref a] H (fun v _=>v=.bl true) fun _ _ _=>False)
  (y:∀(w:World) (H:Hp) (s:Shared) (e:Value) (D:Shared),CX w [] H s (fun _ _ _=>False) e D->False) :
  PySem.W.WalkO q loose XP YP l.row.toRowW d [] (fun f vs=>PySem.call f vs):=by
 show Att.attach_call S z fun w s₀ r m mb t o pm X I a vs ns G Y ho Z P A p j i R=>?_;have E:=N w _ Y;obtain⟨fd,O,J⟩:=F w m t _ E G.T.g A;show law_call E G.T.g G.T.b G.T.builtins G.T.nolimit R p j (yi i B) U J O (fun H L M=>C w H a ns i L M) fun H e D=>y w H r e D
abbrev CX0:CXT:=fun _ _ _ _ _ _=>False
abbrev E0:XK:=fun _ _ _=>False
theorem qz{X:Cx}:qaV CX0 X E0:=fun _ _ _ _ _ _ _ h=>h.elim
structure Fun(K:yg)(x qual:Str)(st:Stmt)(f:Addr)(fd:FuncData):Prop where
 ex:∃(oc:Value) (od:Option Addr) (kV doc pm:Value) (an:Option Addr) (cdv ct:Value) (osl:Array (Option Value)),
  fd=PySem.W.fnOf x qual (qat st) (zR st) (qg st) .none kV doc pm an cdv ct/\K.lookup f=some ⟨oc,od,.func fd,osl⟩/\PySem.W.codeIn K cdv qual=true
 kp:PySem.W.keepIn K (.ref f)=true
section
variable{P:Program}{w:World}{K:yg}{mg:Str->Option Value}{base:Heap}
theorem Fun.ok{N:LS}{k:Nat}(F:Fun K x qual st f fd)(S:FnScope N ps (qg st)) (c:∀(b:Value) (A:Around) (a:List Env) (s:Shared) (H:Hp) (vs:List V) (Q:VK) (E:XK),Room k (A.deeper (envOfC qual (qg st) s.heap.objs.size f b))->sp vs H Q E ->
   ∃ t,PSs (qeX CX0 P w K mg base N qual (qg st) f b A a s H E).nox (zR st) t/\t { nx:=fun _ H'=>Q .non H',rt:=Q } (start N vs) H) (len:∀ vs H Q E,sp vs H Q E->vs.length=ps.length:=by intro _ _ _ _ h;cases h;subst_vars;rfl):FnOk P w K mg base CX0 (k+1) f fd ps sp:=by
 obtain⟨n,od,kV,g,o,m,b,ct,l,rfl,j,d⟩:=F.ex;show fn_of j d S len fun A a s H vs Q E i e=>?_;obtain⟨t,h,q⟩:=c b A a s H vs Q E i e;show⟨t,h.nox,q⟩
theorem Fun.binds(F:Fun K x qual st f fd)
  (h:∀(kV b d:Value) (c:Option Addr) (a ct:Value) (us:List Value),us.length=ps.length->bindArgs (PySem.W.fnOf x qual (qat st) (zR st) (qg st) .none kV b d c a ct) ⟨us,[]⟩=pure (ps.zip us)):Binds K fd ps []:=by
 obtain⟨j,od,kV,b,d,c,a,ct,g,rfl,i,e⟩:=F.ex;show .all (h kV b d c a ct)
theorem fun_mk{h:Value}{od e:Option Addr}{d:Array (Option Value)}{kV b g a ct:Value}(l:K.lookup f=some ⟨h,od,.func (PySem.W.fnOf x qual (qat st) (zR st) (qg st) .none kV b g e a ct),d⟩)
  (c:PySem.W.codeIn K a qual=true) (k:PySem.W.keepIn K (.ref f)=true):Fun K x qual st f (PySem.W.fnOf x qual (qat st) (zR st) (qg st) .none kV b g e a ct):=⟨⟨h,od,kV,b,g,e,a,ct,d,rfl,l,c⟩,k⟩
end
theorem qh(h:n<=1000):n<sizeLine:=Yy h (by decide)
section
variable{X:Cx}
theorem pv(i:Nat){b:Pos}(c:X.N[i]?=some x:=by rfl)(hv:Vis X.env.scope x:=by first | show yQ rfl | show Xr (yQ rfl) | show Xr (Xr rfl))(d:(x==("__debug__":Str))=false:=by decide)
  (a:(x==("__classdict__":Str))=false:=by decide):PE X (.Name x b) (qfD i):=pe_var c hv d a
theorem call_lenD:zO X (.builtin "len") (fun xs H Q=>∃ a kvs,xs=[V.ref a]/\H a=some (.dK kvs)/\Q (.int kvs.length) H):=by
 intro b s g H xs us Q I r h;obtain⟨a,kvs,rfl,d,q⟩:=h;obtain⟨u,rfl,e⟩:=qbc r;cases e;show d_len I (.inl d) fun t f c=>⟨.int kvs.length,H,c,⟨t,rfl⟩,q⟩
end
theorem zr(h:A):if true=true then A else B:=by
 rw[yO rfl];show h
theorem qI{c:Prop}[Decidable c](h1:c->A)(a:¬ c->B):if c then A else B:=by
 by_cases h:c
 .rw [yO h];show h1 h
 .rw [yE h];show a h
def Same(H H':Hp):Prop:=∀ b o,H b=some o->H' b=some o
theorem Same.refl(H:Hp):Same H H:=fun _ _ h=>h
theorem Same.trans{d e:Hp}(a:Same H d)(b:Same d e):Same H e:=fun c o h=>b c o (a c o h)
theorem Same.free(e:Same H H'){l:Addr}(h:H' l=Option.none):H l=Option.none:=by
 cases q:H l with
 | none=>rfl
 | some o =>
  rw[e l o q] at h;cases h
theorem Same.seq{K:yg}{xs:List V}(e:Same H H')(h:SqL K H a xs):SqL K H' a xs:=by
 rcases h with(h | ⟨o,h⟩) | h
 .show .inl (.inl (e _ _ h))
 .show .inl (.inr ⟨o,e _ _ h⟩)
 .show .inr h
section
variable{κ:Type}[DecidableEq κ]
end
end L2
set_option maxHeartbeats 4000000
namespace L2
open PySem PySem.Spec PyProof.Rows
variable{C D c e it p:Addr}{E:Value->Shared->Prop}{H:Hp}{N:LS}{P:Program}{QO:Option Int->Hp->Prop}{R:It->Hp->Prop}{T:String}{X:Cx}{acc:List (Str×Addr)}{dx:Option Addr}{elt iter tg:Expr}{env:Env}{expr:Bool}{f:V->List V->Hp->VK->Prop}{fp:LQ}{g:TG}{h:Heap}{i j:Int}{ifs:List Expr}{its:List Value}{ixs:LN}{n nl:Nat}{od:Option Obj}{ox:Obj}{pins:List (Addr×Obj)}{pos:Pos}{s:Shared}{sc scope:Scope}{t u:Value}{tc:TT}{te:TE}{tk:Tok}{v y:V}{w:World}{wi:TI}{x z:Str}{xs ys:List V}{α:Type}{σ:St}
section
variable{prog:Program}{w:World}{A:Around}{R:Result->Shared->Prop}{s:Shared}
theorem compLoop_own{a:Expr}{it acc:Value}(I:Nat->Shared->Prop)
  (turn:∀ n s,I n s->wpAny (model prog w) A (pyNext it) (fun r e=>match r with
   | none=>R (.ok .next) e
   | some v=>wpAny (model prog w) A (letOwnedTupleGo a it v) (fun _ b=>wpAny (model prog w) A (assign a env v) (fun _ i =>
     wpAny (model prog w) A (forIn ifs true fun c r=>if r=true then do let ok <- isTrue c env (eval c env);pure (ForInStep.yield ok) else pure (ForInStep.yield r)) (fun ok f =>
      if ok=true then wpAny (model prog w) A (eval elt env) (fun x j =>
       wpAny (model prog w) A (call (.builtin "list.append") [acc,x]) (fun _ l=>∃ m,m<n/\I m l) (fun _ _=>False) j) (fun _ _=>False) f
      else ∃ m,m<n/\I m f) (fun _ _=>False) i) (fun _ _=>False) b) (fun _ _=>False) e) (fun _ _=>False) s)
  (n:Nat) (h:I n s) :
  codeAny (model prog w) A (.compLoop (.ListComp elt [⟨a,iter,ifs,0⟩] scope pos) 0 it acc env) R s:=by
 show codeAny_loop rfl I (fun n s t=>?_) n h;show wpAny _ A ((compTurn (.ListComp elt [⟨a,iter,ifs,0⟩] scope pos) 0 it acc env).onRaise (fun x=>do noteFrame x env;theTreesLotGoes x)) _ _ s;show wpAny_noted ?_;rw[compTurn_list];show yr (wpAny_standAt (yr (YV (turn n s t) (fun r e h1=>?_) fun _ _ h'=>h'.elim)))
 cases r with
 | none=>show yt h1
 | some v =>
  show yr (YV h1 (fun _ b d=>?_) fun _ _ h'=>h'.elim);show yr (YV d (fun _ i o=>yr (YV o (fun ok f g=>?_) fun _ _ h'=>h'.elim)) fun _ _ h'=>h'.elim)
  cases ok with
  | false=>show yt ⟨rfl,g⟩
  | true =>
   show yr (yr (YV g (fun x j p=>yr (YV p (fun _ l q=>yt (yt ⟨rfl,q⟩)) fun _ _ h'=>h'.elim)) fun _ _ h'=>h'.elim))
end
noncomputable def qO(env:Env):List (Str×NameKind)->List (Str×Addr)->List (Str×Addr)
 | [],acc=>acc
 | (n,k)::r,acc=>qO env r (if (k==.free)=true then(n,(env.cells.lookup n).getD 0)::acc else acc)
theorem zC:∀{names:List (Str×NameKind)} {acc:List (Str×Addr)} {x:Str} {c:Addr},(qO env names acc).lookup x=some c ->
  ((x,NameKind.free)∈names/\c=(env.cells.lookup x).getD 0)\/acc.lookup x=some c
 | [],_,_,_,h=>.inr h
 | (n,k)::r,acc,x,c,h=>by
  unfold qO at h;rcases zC h with⟨h1,f⟩ | h1
  .show .inl ⟨yB _ h1,f⟩
  .by_cases a:(k==NameKind.free)=true
   .rw [yO a,xn] at h1
    cases b:x==n with
    | true =>
     rw[b] at h1;have e:x=n:=Yr.mp b;have d:k=.free:=Yr.mp a;subst e d;show .inl ⟨yR,(ym h1).symm⟩
    | false =>
     rw[b] at h1;show .inr h1
   .rw [yE a] at h1;show .inr h1
theorem qaA:∀{names:List (Str×NameKind)} {acc:List (Str×Addr)} {x:Str},(∃ c,acc.lookup x=some c)->∃ c,(qO env names acc).lookup x=some c
 | [],_,_,h=>h
 | (n,k)::r,acc,x,h=>by
  unfold qO;apply qaA;by_cases a:(k==NameKind.free)=true
  .rw [yO a,xn]
   cases b:x==n with
   | true=>show⟨_,rfl⟩
   | false=>show h
  .rw [yE a];show h
theorem zD:∀{names:List (Str×NameKind)} {acc:List (Str×Addr)} {x:Str},(x,NameKind.free)∈names->∃ c,(qO env names acc).lookup x=some c
 | [],_,_,h=>by cases h
 | (n,k)::r,acc,x,h=>by
  unfold qO;rcases yz.mp h with e | e
  .cases e;apply qaA;rw[show(NameKind.free==NameKind.free)=true from rfl,yO rfl,xn,Xa];show⟨_,rfl⟩
  .show zD e
theorem qaB(h:∀ n,(n,NameKind.free)∈scope.names->∃ c,env.cells.lookup n=some c):closureFor scope env=pure (qO env scope.names []):=by
 have f:∀(names:List (Str×NameKind)) (acc:List (Str×Addr)),(∀ n,(n,NameKind.free)∈names->∃ c,env.cells.lookup n=some c) ->
   (forIn names acc (fun(x:Str×NameKind) (r:List (Str×Addr))=>(if (x.2==NameKind.free)=true then(cellOf env x.1>>=fun c=>pure (ForInStep.yield ((x.1,c)::r))) else pure (ForInStep.yield r):Sem (ForInStep (List (Str×Addr))))))=(pure (qO env names acc):Sem (List (Str×Addr))):=by
  intro names
  induction names with
  | nil=>intro acc _;rfl
  | cons x r ih =>
   intro acc d;obtain⟨n,k⟩:=x;rw[k9];unfold qO;by_cases a:(k==NameKind.free)=true
   .have g:k=.free:=Yr.mp a;subst g;obtain⟨c,hc⟩:=d n yR;have i:cellOf env n=pure c:=by unfold cellOf;rw[hc]
    simp only[a,X9,i,hc,Option.getD_some];show ih _ fun m b=>d m (yB _ b)
   .simp only[a,XR];show ih _ fun m b=>d m (yB _ b)
 have e:=f scope.names [] h;unfold closureFor;show Eq.trans (congrArg (fun m=>m>>=pure) e) rfl
@[reducible] noncomputable def Cx.comp(X:Cx)(N:LS)(scope:Scope)(C:Addr)(s0:Shared)(H0:Hp)(ex:LQ):Cx where
 prog:=X.prog
 w:=X.w
 K:=X.K
 mg:=X.mg
 base:=X.base
 A:=X.A
 N:=N
 s₀:=s0
 H₀:=H0
 env:=compEnvC scope (cellsFrom (C+1) scope.names (qO X.env scope.names [])) C X.env
 outer:=X.stack
 stack:=X.stack
 ex:=ex
 fn:=fun x=>scope.names.lookup x==some NameKind.cell
 calm:=X.calm
 pn:=[]
 xe:=fun _ _=>False
theorem jt:∀(names:List (Str×NameKind)) (n:Nat) (acc:List (Str×Addr)),cellsFrom n names acc=cellsFrom n names []++acc
 | [],_,_=>rfl
 | (m,k)::r,n,acc=>by
  unfold cellsFrom;split
  .rw [jt r (n+1) ((m,n)::acc),jt r (n+1) [(m,n)],y8];rfl
  .show jt r n acc
theorem qaC:∀{names:List (Str×NameKind)} {n:Nat} {x:Str},(x,NameKind.cell)∈names->∃ c,(cellsFrom n names []).lookup x=some c
 | (m,k)::r,n,x,h=>by
  unfold cellsFrom;rcases yz.mp h with e | e
  .cases e;rw[yO (show(NameKind.cell==NameKind.cell)=true from rfl),jt,xJ]
   cases q:(cellsFrom (n+1) r []).lookup m with
   | some c=>show⟨c,rfl⟩
   | none=>show⟨n,by show List.lookup m [(m,n)]=some n;rw[xn,Xa]⟩
  .split
   .rw [jt,xJ];obtain⟨c,hc⟩:=qaC (n:=n+1) e;show⟨c,by rw[hc];rfl⟩
   .show qaC e
theorem qbg:∀{names:List (Str×NameKind)} {n:Nat} {x:Str} {c:Addr},(x,c)∈cellsFrom n names []->(x,NameKind.cell)∈names
 | (m,k)::r,n,x,c,h=>by
  unfold cellsFrom at h;split at h
  .rename_i hk
   rw[jt] at h;rcases yw.mp h with z | z
   .show yB _ (qbg z)
   .have e:(x,c)=(m,n):=yD.mp z;cases e;rw[Yr.mp hk];show yR
  .show yB _ (qbg h)
theorem qbh{names:List (Str×NameKind)}(h:(cellsFrom n names acc).lookup x=some c):(x,c)∈cellsFrom n names []\/acc.lookup x=some c:=by
 rw[jt,xJ] at h
 cases e:(cellsFrom n names []).lookup x with
 | some d=>rw[e] at h;cases h;show .inl (mem_of_lookup e)
 | none=>rw[e] at h;show .inr h
theorem cells_some{names:List (Str×NameKind)}(h:(x,NameKind.cell)∈names\/∃ c,acc.lookup x=some c):∃ c,(cellsFrom n names acc).lookup x=some c:=by
 rw[jt,xJ]
 cases e:(cellsFrom n names []).lookup x with
 | some d=>show⟨d,rfl⟩
 | none =>
  rcases h with z | ⟨c,hc⟩
  .obtain⟨d,a⟩:=qaC (n:=n) z;rw[e] at a;cases a
  .show⟨c,hc⟩
section
variable{M:Model}{A:Around}{E:Value->Shared->Prop}{s:Shared}
theorem newEnvK{c:Addr}{b:List (Str×Addr)}{g:Str}{f:Option Addr}{e:Value}{d:Env}{a:Addr}{Q:Env->Shared->Prop}
  (j:Q (newEnv scope s.heap.objs.size c (cellsFrom (s.heap.objs.size+1) scope.names b) g f e (some d) a) { s with heap:=pushCells (s.heap.push { cls:=.type "dict",data:=.dict #[] }) scope.names }) :
  wpAny M A (newFunctionEnv scope c b [] g f e (some d) a) Q E s:=by
 simp only[newFunctionEnv,Option.isSome_some,X9];show yr (wpAny_alloc ?_);show yr (wpAny_layCells _ (fun name kind h=>by cases i:kind==NameKind.cell<;>simp[i]) _ _ _ _ ?_);rw[show({ s with heap:=s.heap.push { cls:=.type "dict",data:=.dict #[] } }:Shared).heap.objs.size=s.heap.objs.size+1 from YJ ..];rw[Kd];show yr (yt (yt j))
end
structure CompOk(sc scope:Scope):Prop where
 kind:scope.kind=.function
 cel:∀ y∈scope.names,y.2=.cell->scope.names.lookup y.1=some .cell
 loc:∀ y∈scope.names,y.2=.local->scope.names.lookup y.1=some .local
 free:∀ y∈scope.names,y.2=.free->sc.names.lookup y.1=some .cell\/sc.names.lookup y.1=some .free
 once:∀ y∈scope.names,y.2=.free->scope.names.lookup y.1=some .free
noncomputable def qb8(sc scope:Scope):Bool:=decide (scope.kind=.function)&&scope.names.all fun y=>match y.2 with
 | .local=>scope.names.lookup y.1==some .local
 | .free=>(sc.names.lookup y.1==some .cell||sc.names.lookup y.1==some .free)&&scope.names.lookup y.1==some .free
 | .cell=>scope.names.lookup y.1==some .cell
 | _=>true
theorem qcY(h:qb8 sc scope=true):CompOk sc scope:=by
 unfold qb8 at h;rw[yY] at h;have b:=YK.mp h.2;show⟨yk h.1,fun y a e=>?_,fun y a e=>?_,fun y a e=>?_,fun y a e=>?_⟩
 .have:=b y a;rw[e] at this;show Yr.mp this
 .have:=b y a;rw[e] at this;show Yr.mp this
 .have:=b y a;rw[e,yY,km] at this;show this.1.imp Yr.mp Yr.mp
 .have:=b y a;rw[e,yY] at this;show Yr.mp this.2
noncomputable def qfA(nl:Nat)(ixs:LN)(N XN:LS)(names:List (Str×NameKind)):Bool:=(List.range ixs.length).all fun k=>match ixs[k]?,N[nl+k]? with
 | some j,some x=>XN[j]?==some x&&names.any fun y=>y.1==x&&y.2==.free
 | _,_=>true
theorem qdE{XN:LS}{names:List (Str×NameKind)}(h:qfA nl ixs N XN names=true)(k j:Nat)(x:Str)(h1:ixs[k]?=some j)(c:N[nl+k]?=some x):XN[j]?=some x/\(x,NameKind.free)∈names:=by
 have d:k<ixs.length:=(yc.mp h1).1;have:=YK.mp h k (YC.mpr d);rw[h1,c] at this;simp only[yY] at this;show⟨Yr.mp this.1,?_⟩;obtain⟨⟨n,g⟩,f,e⟩:=Xb.mp this.2;rw[yY] at e;have a:n=x:=Yr.mp e.1;have b:g=.free:=Yr.mp e.2;subst a b;show f
noncomputable def qdq(nl:Nat)(ixs:LN)(σ:St):St:=List.replicate nl none++ixs.map fun j=>(σ[j]?).getD none
theorem capS_len(nl:Nat)(ixs:LN)(σ:St):(qdq nl ixs σ).length=nl+ixs.length:=by
 unfold qdq;rw[yu,YZ,ya]
theorem qcZ{i:Nat}(h:(qdq nl ixs σ)[i]?=some (some v)):nl<=i/\∃ j,ixs[i-nl]?=some j/\σ[j]?=some (some v):=by
 unfold qdq at h;by_cases a:i<nl
 .rw [yZ (by rw[YZ];show a),XI] at h;split at h<;>cases h
 .rw [yC (by rw[YZ];lk),YZ,yd] at h;show⟨by lk,?_⟩
  cases e:ixs[i-nl]? with
  | none=>rw[e] at h;cases h
  | some j =>
   rw[e] at h;have h':(σ[j]?).getD none=some v:=ym h
   cases q:σ[j]? with
   | none=>rw[q] at h';cases h'
   | some u =>
    rw[q] at h';show⟨j,rfl,by rw[q];show congrArg some h'⟩
noncomputable def qec(env:Env)(y:Str×NameKind):Str×NameKind:=if (y.2==NameKind.free&&env.scope.kind==.function&&env.kindOf y.1==some .cell)=true then(y.1,NameKind.cell) else(y.1,y.2)
theorem relF_fst(env:Env)(y:Str×NameKind):(qec env y).1=y.1:=by unfold qec;split<;>rfl
theorem relF_snd(env:Env)(y:Str×NameKind):(qec env y).2=y.2\/((qec env y).2=.cell/\y.2=.free):=by
 unfold qec;split
 .rename_i h
  rw[yY,yY] at h;show .inr ⟨rfl,Yr.mp h.1.1⟩
 .show .inl rfl
theorem zh:∀{names:List (Str×NameKind)} {x:Str} {k:NameKind},(names.map (qec env)).lookup x=some k->∃ b,names.lookup x=some b/\(x,b)∈names/\(k=b\/(k=.cell/\b=.free))
 | [],_,_,h=>by cases h
 | (n,k1)::r,x,k,h=>by
  rw[YH,show qec env (n,k1)=((qec env (n,k1)).1,(qec env (n,k1)).2) from rfl,xn,relF_fst] at h;rw[xn]
  cases c:x==n with
  | true =>
   have e:x=n:=Yr.mp c;subst e;have a:(x==(x,k1).1)=true:=c;rw[a] at h;have h':=ym h;show⟨k1,rfl,yR,?_⟩;rcases relF_snd env (x,k1) with z | ⟨z1,z2⟩
   .show .inl (h'.symm.trans z)
   .show .inr ⟨h'.symm.trans z1,z2⟩
  | false =>
   have a:(x==(n,k1).1)=false:=c;rw[a] at h;obtain⟨b,d,f,g⟩:=zh h;show⟨b,d,yB _ f,g⟩
section
variable{X:Cx}{pins:List (Addr×Obj)}{σ:St}{H:Hp}{s:Shared}
theorem comp_free_of{b:List (Str×Addr)}(h:(compEnvC scope b C X.env).kindOf x=some .cell\/(compEnvC scope b C X.env).kindOf x=some .free):(x,NameKind.cell)∈scope.names\/(x,NameKind.free)∈scope.names:=by
 rcases h with h | h
 .obtain⟨c,_,a,e | ⟨_,e⟩⟩:=zh (env:=X.env) (names:=scope.names) h
  .rw [<- e] at a;show .inl a
  .rw [e] at a;show .inr a
 .obtain⟨c,_,a,e | ⟨e,_⟩⟩:=zh (env:=X.env) (names:=scope.names) h
  .rw [<- e] at a;show .inr a
  .cases e
theorem Inv.comp{T:Obj}{h1:Heap}{tk:Nat}(I:Inv X pins σ H s)(O:CompOk X.env.scope scope)
  (hN:N.length=nl+ixs.length) (J:∀(k j:Nat) (x:Str),ixs[k]?=some j->N[nl+k]?=some x->X.N[j]?=some x/\(x,NameKind.free)∈scope.names)
  (R:∀ b∈fp,qcv X pins H b) (K:∀ b∈fp,b<s.heap.objs.size) (M:s.heap.objs.size<=C) (Y:s.heap.objs.size<=D) (Z:D≠C) (ad:h1.Ns C fun _=>none) (k:∀ b o,s.heap.get? b=some o->h1.get? b=some o)
  (ae:h1.get? D=some T) (ab:∀ v,T.data≠.cell v) (E:CellsOk h1 (C+1) (cellsFrom (C+1) scope.names [])):Inv (X.comp N scope C s H fp) [(D,T)] (qdq nl ixs σ) H { s with heap:=h1,toks:=tk }:=by
 have a:∀ x c,(qO X.env scope.names []).lookup x=some c->X.env.cells.lookup x=some c/\(x,NameKind.free)∈scope.names:=fun x c h=>by
  rcases zC h with⟨h1,L⟩ | h1
  .obtain⟨G,l⟩:=I.ok.has x (by
    rcases O.free _ h1 rfl with z | z
    .show .inl z
    .show .inr z)
   rw[l] at L;show⟨by rw[l,L];rfl,h1⟩
  .cases h1
 have big:∀ c:Addr,C+1<=c->s.heap.objs.size<=c:=fun c h=>yi M (Nat.le_of_succ_le h);have S:∀{P:Prop} {c:Addr},C+1<=c->c<s.heap.objs.size->P:=fun h g=>absurd (yj g (big _ h)) (Yv _)
 have all:∀ x c,(cellsFrom (C+1) scope.names (qO X.env scope.names [])).lookup x=some c->((x,c)∈cellsFrom (C+1) scope.names []/\C+1<=c/\h1.IsCell c none)\/(X.env.cells.lookup x=some c/\c<s.heap.objs.size):=fun x c h=>by
  rcases qbh h with z | z
  .show .inl ⟨z,(E.empty _ _ z).2,(E.empty _ _ z).1⟩
  .obtain⟨_,q⟩:=I.cell x c (a x c z).1;show .inr ⟨(a x c z).1,q.lt⟩
 show⟨⟨I.ok.mod,O.kind,I.ok.glob,I.ok.blt,M,fun x y c h1 L=>?inj,fun x hx=>cells_some ((comp_free_of hx).imp id zD),fun x c z h=>?cab,I.ok.hd,I.ok.frames,.inl rfl,
   fun b w=>⟨yL (yj (K b w) M),fun x c e=>?exf⟩,I.bs,yi I.ok.bsz I.sz,fun b o e w=>?_,fun b w z=>?_,I.stack,I.stkFree⟩,
  rfl,I.bare,Un.kept k,⟨_,ad,fun i x v e1 e2 e3=>?_⟩,fun x c e=>?_,I.hok.fresh M,fun x c e=>?fre,fun p hp=>?_,I.hok.kept k,?_⟩
 case inj =>
  rcases all x c h1 with⟨r,f,_⟩ | ⟨r,f⟩<;>rcases all y c L with⟨U,W,_⟩ | ⟨U,W⟩
  .show name_of_addr E.apart r U
  .show S f W
  .show S W f
  .show I.ok.inj x y c r U
 case cab =>
  rcases all x c h with⟨_,f,_⟩ | ⟨r,f⟩
  .show big _ f
  .exfalso;obtain⟨d,F⟩:=qaC (n:=C+1) (mem_of_lookup (Yr.mp z));have h:(cellsFrom (C+1) scope.names (qO X.env scope.names [])).lookup x=some c:=h;rw[jt,xJ,F] at h;cases h;show S (E.empty _ _ (mem_of_lookup F)).2 f
 case exf =>
  rcases all x c e with⟨_,f,_⟩ | ⟨r,_⟩
  .show fun z=>S f (by rw[z];show K b w)
  .show(R b w).2.2.2.2.1 x c r
 case fre =>
  rcases all x c e with⟨_,f,_⟩ | ⟨r,_⟩
  .show I.hok.fresh (big _ f)
  .show I.freeC x c r
 .rcases(R b w).2.2.2.1 with z | z
  .show I.ok.noex b o e z
  .have:=(I.ok.bs b o e).1;show absurd (yj (yI this) z) (Yv _)
 .rcases yz.mp (I.stkSub b z) with e | e
  .show(R b w).2.1 e
  .show(R b w).2.2.1 e
 .obtain⟨hi,j,hj,hv⟩:=qcZ e2;obtain⟨hx,t⟩:=J (i-nl) j x hj (by rw[Nat.add_sub_cancel' hi];show e1);obtain⟨m,hn,hl⟩:=I.loc;have E:=O.free _ t rfl
  obtain⟨u,ru,lk⟩:=hl j x v hx hv (by
   rcases E with z | z
   .show .inr (.inl z)
   .show .inr (.inr z))
  show⟨u,ru,?_⟩;rcases lk with⟨ac,_⟩ | ⟨_,c,hc,B⟩
  .have A:X.env.scope.names.lookup x=some .local:=ac;rcases E with z | z<;>· rw[z] at A;cases A
  .obtain⟨G,l⟩:=zD (env:=X.env) (acc:=[]) t
   have e:G=c:=by
    have:=(a x G l).1;rw[hc] at this;show(ym this).symm
   subst e
   have aa:(cellsFrom (C+1) scope.names (qO X.env scope.names [])).lookup x=some G:=by
    rw[jt,xJ]
    cases q:(cellsFrom (C+1) scope.names []).lookup x with
    | none=>show l
    | some d=>have:=O.cel _ (qbg (mem_of_lookup q)) rfl;rw[O.once _ t rfl] at this;cases this
   show .inr ⟨?_,G,aa,?_⟩
   .rcases e3 with z | z | z
    .obtain⟨k0,z3,_,e | ⟨e,_⟩⟩:=zh (env:=X.env) (names:=scope.names) z
     .rw [O.once _ t rfl] at z3;cases z3;cases e
     .cases e
    .show .inl z
    .show .inr z
   .obtain⟨o,ho,F⟩:=B;show⟨o,k _ _ ho,F⟩
 .rcases all x c e with⟨_,_,a3⟩ | ⟨r,_⟩
  .show⟨none,a3⟩
  .obtain⟨v,o,ho,F⟩:=I.cell x c r;show⟨v,o,k _ _ ho,F⟩
 .have e:p=(D,T):=by simpa using hp
  subst e;show⟨ae,I.hok.fresh Y,Z,fun z=>?_,ab⟩;rcases yz.mp (I.stkSub D z) with e | e
  .show absurd (show X.env.locals<D from yj I.lt Y) (by rw[e];show Yv _)
  .show I.nofs Y e
 .show(qdq nl ixs σ).length=N.length;rw[capS_len,hN]
theorem Inv.compBack{j:Shared}{H':Hp}{i:St}(I:Inv X pins σ H s)(g:∀ b∈fp,qcv X pins H b)(w:s.heap.objs.size<=C)(l:s.heap.objs.size<=D)
  (J:Inv (X.comp N scope C s H fp) [(D,{ cls:=.type "list",data:=.seq its.toArray n })] i H' j) (hv:Vals ys its) (hz:ys.length<=sizeLine):Inv X pins σ (upd H' D (.lst ys)) j:=by
 obtain⟨r,f,p,_,_⟩:=J.pin (D,{ cls:=.type "list",data:=.seq its.toArray n }) (yN _ (yD.mpr rfl));have h:∀ b o,s.heap.get? b=some o->b≠D:=fun b o e=>yL (yj (yI e) l);have a:=J.base;show I.call' (ch:=fp) J.os ⟨a.keep,a.slot,fun b o e n m=>?_,a.there,fun b xs e=>?_,fun b o u e=>?_,fun b t e=>?_⟩ (fun b u e=>?_) J.bare fun b d=>⟨(g b d).2.2.2.1,(g b d).2.1,(g b d).2.2.2.2.1,(g b d).2.2.2.2.2⟩
 .rw [qf (h b o e)];show a.free b o e n m
 .have q:=a.tups b xs e;rw[qf (qu q f)];show q
 .have q:=a.frzs b o u e;rw[qf (qu q f)];show q
 .obtain⟨more,q⟩:=a.tbls b t e;show⟨more,by rw[qf (qu q f)];show q⟩
 .by_cases d:b=D
  .subst d;rw[qb] at e;cases e;show⟨hz,its,n,hv,r⟩
  .rw [qf d] at e;show(J.hok b u e).stay (fun c v _ q=>q) (fun c q=>by rw[qf (qu q f)];show q) fun c xs q=>by rw[qf (qu q f)];show q
end
def qfY:TT:=fun _ H Q=>Q true H
def qed(wi:TI)(g:TG)(tc:TT)(te:TE)(nl:Nat)(ixs:LN):TE:=fun σ H Q=>wi σ H fun J e =>
 ∃ W:Nat->Nat->List V->Hp->Prop,(∃ m,W 0 m [] e)/\∀ i m ys H,W i m ys H ->
  (J.stop i H/\ys.length<=sizeLine/\∀ p,H p=none->Q (.ref p) (upd H p (.lst ys))) \/
  (J.go i H/\∃ M:List V->Hp->Prop,(∀ ys' H',M ys' H'->∃ d,d<m/\W (i+1) d ys' H')/\∀ x H',J.yld i H x H'->g x (qdq nl ixs σ) H' fun a f=>tc a f fun b c =>
   if b=true then te a c fun v h=>ys.length<sizeLine/\M (ys++[v]) h else M ys c)
def qdl(nl:Nat)(g:TG):Prop:=∀ x σ H Q,g x σ H Q->g x σ H fun a b=>Q a b/\a.length=σ.length/\∀ i,nl<=i->a[i]?=σ[i]?
theorem qP{i:Nat}(h:i<nl:=by decide):qdl nl (qbE i):=fun x σ H Q q=>⟨q,ki ..,fun j a=>xS (by lk)⟩
def qeY(X:Cx)(ifs:List Expr)(tc:TT):Prop:=
 ∀(pins:List (Addr×Obj)) (s:Shared) (σ:St) (H:Hp) (Q:Bool->Hp->Prop),Inv X pins σ H s->tc σ H Q ->
  wpAny (model X.prog X.w) X.A (forIn ifs true fun c r=>if r=true then do let ok <- isTrue c X.env (eval c X.env);pure (ForInStep.yield ok) else pure (ForInStep.yield r)) (TP X pins σ Q) X.xe s
theorem jR:qeY X [] qfY:=fun pins s σ H Q I h=>wpAny_tests_nil ⟨H,I,h⟩
theorem qU{c:Expr}(h:PT X c tc):qeY X [c] tc:=fun pins s σ H Q I q=>wpAny_tests_one (h pins s σ H Q I q)
section
variable{X:Cx}{pins:List (Addr×Obj)}{σ:St}{H:Hp}{s:Shared}
theorem qby{tn:Nat->Heap->Prop}{J:It}{Q:V->Hp->Prop}
  {RR:Value->Addr->Result->Shared->Prop} (I:Inv X pins σ H s) (hc:X.calm=true) (O:CompOk X.env.scope scope)
  (hN:N.length=nl+ixs.length) (ai:∀(k j:Nat) (x:Str),ixs[k]?=some j->N[nl+k]?=some x->X.N[j]?=some x/\(x,NameKind.free)∈scope.names)
  (T:Turn X.prog X.w X.K tg J fp it tn) (st:tn 0 s.heap) (hf:∀ b∈fp,qcv X pins H b)
  (hg:∀ C s0 H0 ex,PG (X.comp N scope C s0 H0 ex) tg g) (gk:qdl nl g) (hi:∀ C s0 H0 ex,qeY (X.comp N scope C s0 H0 ex) ifs tc) (he:∀ C s0 H0 ex,PE (X.comp N scope C s0 H0 ex) elt te)
  (h:∃ W:Nat->Nat->List V->Hp->Prop,(∃ m,W 0 m [] H)/\∀ i m ys H,W i m ys H ->
   (J.stop i H/\ys.length<=sizeLine/\∀ p,H p=none->Q (.ref p) (upd H p (.lst ys))) \/
   (J.go i H/\∃ M:List V->Hp->Prop,(∀ ys' H',M ys' H'->∃ m',m'<m/\W (i+1) m' ys' H')/\∀ x H',J.yld i H x H'->g x (qdq nl ixs σ) H' fun ao a=>tc ao a fun b H3 =>
    if b=true then te ao H3 fun v H4=>ys.length<sizeLine/\M (ys++[v]) H4 else M ys H3))
  (av:∀(D C:Addr) (t:Shared) (H':Hp) (S:St) (ys:List V) (its:List Value) (n:Nat),s.heap.objs.size<=C->s.heap.objs.size<=D->Inv (X.comp N scope C s H fp) [(D,{ cls:=.type "list",data:=.seq its.toArray n })] S H' t->Vals ys its->ys.length<=sizeLine ->
   (∀ p,H' p=none->Q (.ref p) (upd H' p (.lst ys)))->RR (.ref D) C (.ok .next) t) :
  wpAny (model X.prog X.w) X.A (newList []) (fun acc s3=>wpAny (model X.prog X.w) X.A (newFunctionEnv scope X.env.globals (qO X.env scope.names []) [] X.env.qual none .none (some X.env)) (fun Y s4 =>
   codeAny (model X.prog X.w) X.A (.compStart (.ListComp elt [⟨tg,iter,ifs,0⟩] scope pos) 0 (.ref it) acc { Y with scope:=relabel scope X.env }) (RR acc Y.locals) s4) E s3) E s:=by
 obtain⟨W,⟨m0,w0⟩,turn⟩:=h;show Yl (newEnvK ?_);dsimp only;generalize ac:s.heap.push { cls:=.type "list",dict:=none,data:=.seq ([]:List Value).toArray }=a;have aa:(pushCells (a.push { cls:=.type "dict",data:=.dict #[] }) scope.names).Ns a.objs.size fun _=>none:=(Heap.Ns.new a (.type "dict")).keeps (pushCells_keeps _ _);have G:=cellsFrom_ok scope.names (a.push { cls:=.type "dict",data:=.dict #[] }) (a.objs.size+1) [] ⟨fun _ _ hm=>(nomatch hm),List.Pairwise.nil⟩ (by rw[YJ];show yh _);rw[YJ] at G;have ad:∀ b o,a.get? b=some o->(pushCells (a.push { cls:=.type "dict",data:=.dict #[] }) scope.names).get? b=some o:=fun b o e=>pushCells_keeps _ _ b o (yv _ e);generalize pushCells (a.push { cls:=.type "dict",data:=.dict #[] }) scope.names=h1 at aa G ad ⊢;have hC:a.objs.size=s.heap.objs.size+1:=by rw[<- ac,YJ]
 have au:s.heap.objs.size≠a.objs.size:=by rw[hC];show yL (xG _)
 have Z:s.heap.objs.size<=a.objs.size:=by rw[hC];show xT _
 have l:∀ b,b<s.heap.objs.size->b≠a.objs.size/\b≠s.heap.objs.size:=fun b f=>⟨by rw[hC];show yL (XU f),yL f⟩;have old:∀ b o,s.heap.get? b=some o->h1.get? b=some o:=fun b o e=>ad b o (ac ▸ yv _ e);have ag:h1.get? s.heap.objs.size=some { cls:=.type "list",data:=.seq ([]:List Value).toArray }:=ad _ _ (ac ▸ yK _ rfl)
 have F:∀ b∈fp,b<s.heap.objs.size:=fun b f=>by
  obtain⟨o,ho,_⟩:=T.obj 0 _ st b f;show yI ho
 have ab:∀ s3:Shared,s3={ s with heap:=h1 } ->
   codeAny (model X.prog X.w) X.A (.compLoop (.ListComp elt [⟨tg,iter,ifs,0⟩] scope pos) 0 (.ref it) (.ref s.heap.objs.size) (compEnvC scope (cellsFrom (a.objs.size+1) scope.names (qO X.env scope.names [])) a.objs.size X.env)) (RR (.ref s.heap.objs.size) a.objs.size) s3:=by
  rintro s3 rfl;have I0:=I.comp (N:=N) (C:=a.objs.size) (D:=s.heap.objs.size) (h1:=h1) (tk:=s.toks) O hN ai hf F Z (yh _) au aa old ag (fun v z=>by cases z) G
  have B:∀{H':Hp} {S:St} {t:Shared} {pl:List (Addr×Obj)},Inv (X.comp N scope a.objs.size s H fp) pl S H' t->(∀ p∈pl,p.1=s.heap.objs.size)->(∀ b∈fp,H' b=none)->∀ b∈fp,qcv (X.comp N scope a.objs.size s H fp) pl H' b:=fun{H' S t pl} J ax hn b f =>
   ⟨hn b f,(l b (F b f)).1,fun z=>(by
     rcases yz.mp (I.stkSub b z) with e | e
     .show(hf b f).2.1 e
     .show(hf b f).2.2.1 e),.inl f,J.ok.exf b f |>.2,fun p P z=>by
    have e:=ax p (by simpa using P);rw[e] at z;show(l b (F b f)).2 z.symm⟩
  show compLoop_own (fun k t=>∃ i H' ys its n,Inv (X.comp N scope a.objs.size s H fp) [(s.heap.objs.size,{ cls:=.type "list",data:=.seq its.toArray n })] (qdq nl ixs σ) H' t/\tn i t.heap/\(∀ b∈fp,H' b=none)/\Vals ys its/\W i k ys H') ?_ m0
   ⟨0,H,[],[],0,I0,T.keep _ _ _ st fun b _ o e=>old b o e,fun b f=>(hf b f).1,.nil,w0⟩
  rintro k t ⟨i,H',ys,its,n,J1,am,af,v1,w1⟩
  have one:∀ p∈[((s.heap.objs.size,{ cls:=.type "list",data:=.seq its.toArray n }):Addr×Obj)],p.1=s.heap.objs.size:=fun p P=>by
   have e:p=_:=yD.mp P;rw[e]
  rcases turn i k ys H' w1 with⟨an,hz,q⟩ | ⟨go,M,hM,step⟩
  .show thn (T.done (X.comp N scope a.objs.size s H fp) rfl rfl rfl hc i _ t _ H' _ J1 (B J1 one af) am an) fun r s4 ⟨hr,J4⟩=>?_;subst hr;show av _ _ s4 H' _ ys its n Z (yh _) J4 v1 hz q
  .show thn (T.item (X.comp N scope a.objs.size s H fp) rfl rfl rfl hc i _ t _ H' _ J1 (B J1 one af) am go) fun r s4 ⟨u,hr,h4⟩=>?_;subst hr;show thn h4 fun _ s5 ⟨x,H5,J5,r5,y5,ae,aq⟩=>?_;have ap:=J5.pinned (B J5 one aq) (T.obj _ _ ae);show thn (hg _ _ _ _ _ s5 _ H5 x u _ ap r5 (gk _ _ _ _ (step x H5 y5))) fun _ s6 ⟨U,H6,J6,q6,l6,k6⟩=>?_;show thn (hi _ _ _ _ _ s6 U H6 _ J6 q6) fun ok s7 ⟨H7,J7,q7⟩=>?_;have again:∀{R:Shared} {H8:Hp} {ys':List V} {k':Nat},Inv (X.comp N scope a.objs.size s H fp) ([((s.heap.objs.size,{ cls:=.type "list",data:=.seq its.toArray n }):Addr×Obj)]++qbV fp s5.heap) U H8 R ->
     (∀ b o,b≠s.heap.objs.size->R.heap.get? b=some o->R.heap.get? b=some o)->tn (i+1) R.heap/\∀ b∈fp,H8 b=none:=fun{R H8 ys' k'} J8 _=>by
    show⟨T.keep _ _ _ ae fun b f o e=>(J8.pin (b,o) (yN _ (yN _ (qac f e)))).1,fun b f=>?_⟩;obtain⟨o,e,d⟩:=T.obj _ _ ae b f;show(J8.pin (b,o) (yN _ (yN _ (qac f e)))).2.1
   have wk:∀(j:Nat) v,(qdq nl ixs σ)[j]?=some (some v)->U[j]?=some (some v):=fun j v e=>by
    obtain⟨hj,_⟩:=qcZ e;rw[k6 j hj];show e
   cases ok with
   | false =>
    rw[yE Yi] at q7 ⊢;obtain⟨m',hm,w7⟩:=hM _ _ q7;obtain⟨az,ar⟩:=again (ys':=ys) (k':=0) J7 (fun _ _ _ e=>e);show⟨m',hm,i+1,H7,ys,its,n,J7.unpinned.weak l6.symm wk,az,ar,v1,w7⟩
   | true =>
    rw[yO rfl] at q7 ⊢;show thn (he _ _ _ _ _ s7 U H7 _ J7 q7) fun y R ⟨v,H8,J8,r8,bc,mq⟩=>?_;obtain⟨m',hm,w8⟩:=hM _ _ mq;obtain⟨ba,as⟩:=again (ys':=ys) (k':=0) J8 (fun _ _ _ e=>e);have J9:=J8.unpinned;obtain⟨pD,nD,al,ay,_⟩:=J9.pin (s.heap.objs.size,{ cls:=.type "list",data:=.seq its.toArray n }) (yN _ (yD.mpr rfl));show wpAny_list_append_plain (hsz:=by rw[yx,<- v1.length];lk) ⟨n,pD⟩ fun h9 L ak=>?_;obtain⟨n9,L⟩:=L;have e9:(its.toArray.push y)=(its++[y]).toArray:=by simp
    rw[e9] at L
    have Ja:Inv (X.comp N scope a.objs.size s H fp) [] (qdq nl ixs σ) H8 { R with heap:=h9,toks:=R.toks }:=
     ((J9.pins_of (pins':=[]) fun p P=>absurd P (by simp)).turned (it:=s.heap.objs.size) (h':=h9) (t':=R.toks) (fun b o f e=>(ak.2 b f).trans e) nD al (.inr (yh _))
      (fun x c e z=>by
       rcases qbh e with w | e
       .have:=(G.empty _ _ w).2;rw[z,hC] at this;show absurd (yi (xT _) this) (Nat.not_succ_le_self _)
       have:=zC e;rcases this with⟨aw,hcc⟩ | hcc
       .obtain⟨c',ah⟩:=I.ok.has x (by
         rcases O.free _ aw rfl with q | q
         .show .inl q
         .show .inr q)
        rw[ah] at hcc;have aj:c=c':=hcc;obtain⟨_,q⟩:=I.cell x c' ah;rw[<- aj,z] at q;show absurd q.lt (Yv _)
       .cases hcc) (fun p P=>absurd P (by simp))).weak l6.symm wk
    show⟨m',hm,i+1,H8,ys++[v],its++[y],n9,Ja.pins_of fun p P=>?_,?_,as,v1.append (.cons r8 .nil),w8⟩
    .have e:p=_:=yD.mp P;subst e;show⟨L,nD,al,ay,fun v z=>by cases z⟩
    .show T.keep _ _ _ ba fun b f o e=>(ak.2 b (l b (F b f)).2).trans e
 show codeAny_compStart_list (ab _ rfl) (T.self _ 0 _ _ _ (T.keep _ _ _ st fun b _ o e=>old b o e) (ab _ rfl))
end
section
variable{X:Cx}{tg elt iter:Expr}{ifs:List Expr}{scope:Scope}{pos:Pos}{N:LS}{nl:Nat}{ixs:LN}{wi:TI}{g:TG}{tc:TT}{te:TE}
theorem jd{XN:LS}(N:LS)(nl:Nat)(ixs:LN)(F:X.env.scope=sc)(u:X.N=XN)(hc:X.calm=true)(M:qb8 sc scope=true)(U:N.length=nl+ixs.length)(d:qfA nl ixs N XN scope.names=true)
  (hi:PI X tg iter wi) (hg:∀ C r i ex,PG (X.comp N scope C r i ex) tg g) (P:qdl nl g) (ht:∀ C r i ex,qeY (X.comp N scope C r i ex) ifs tc) (Z:∀ C r i ex,PE (X.comp N scope C r i ex) elt te)
  (hs:∀ x,foldedSetIterable iter X.env x=pure x:=by intro _;rfl):PE X (.ListComp elt [⟨tg,iter,ifs,0⟩] scope pos) (qed wi g tc te nl ixs):=by
 intro pins s σ H Q I h;subst F u;have O:=qcY M;have l:=qdE d;rw[eval_ListComp]
 have y:=qaB (scope:=scope) (env:=X.env) fun n E=>I.ok.has n (by
  rcases O.free _ E rfl with z | z
  .show .inl z
  .show .inr z)
 show wpAny_comprehension_free (use:=none) rfl hs y O.kind O.loc (thn (hi pins s σ H _ I h) fun v s1 h1=>thn h1 fun aa s2 R=>?_);obtain⟨it,fp,tn,J,H2,e,f,T,K,L,W⟩:=R;subst e;show qby (Q:=Q) (RR:=fun acc C=>compPost (model X.prog X.w) X.A X.xe none (EP X pins σ Q) acc C) f hc O U l T K L hg P ht Z W ?_;intro D C s' H' ab ys its n j S t hv hz q;obtain⟨m,E,_⟩:=id t.loc;have B:=f.compBack L j S t hv hz;obtain⟨_,nD,G,_,_⟩:=t.pin (D,{ cls:=.type "list",data:=.seq its.toArray n }) (yN _ (yD.mpr rfl));show⟨m,E,fun h' sb=>⟨.ref D,_,?_,rfl,q D nD⟩⟩;show B.turned (it:=C) (h':=h') (t':=s'.toks) (fun b o Y e=>(sb.2 b Y).trans e) ((qf (H:=H') (a:=D) (b:=C) (o:=.lst ys) (Ye G)).trans t.free) (Yg (yj f.lt j)) (.inr (yi f.sz j)) (fun x c e z=>?_) (fun p hp z=>?_)
 .obtain⟨_,q⟩:=f.cell x c e;show absurd (yj q.lt (by rw[z];show j)) (Yv _)
 .show absurd (yj (yI (f.pin p hp).1) (by rw[z];show j)) (Yv _)
theorem zS{i:Nat}{y:Str}{r f:Pos}{XN:LS}(N:LS)(nl:Nat)(ixs:LN)(Y:X.env.scope=sc)(u:X.N=XN)(hc:X.calm=true)(O':qb8 sc scope=true)(hN:N.length=nl+ixs.length)(l:qfA nl ixs N XN scope.names=true)
  (P:X.N.Nodup) (S:X.N[i]?=some y) (hy:X.env.scope.names.lookup y=some .local)
  (hi:PI X tg iter wi) (hg:∀ C G t ex,PG (X.comp N scope C G t ex) tg g) (gk:qdl nl g) (ht:∀ C G t ex,qeY (X.comp N scope C G t ex) ifs tc) (he:∀ C G t ex,PE (X.comp N scope C G t ex) elt te)
  (Z:swapsWith (.ListComp elt [⟨tg,iter,ifs,0⟩] scope pos) (some (.Name y r)) f.line X.env=pure true:=by rfl)
  (hs:∀ x,foldedSetIterable iter X.env x=pure x:=by intro _;rfl):PS X (.Assign [.Name y r] (.ListComp elt [⟨tg,iter,ifs,0⟩] scope pos) f) (qeW (qed wi g tc te nl ixs) (qbE i)):=by
 intro pins s σ H L I h;subst Y u;have O:=qcY O';have E:=qdE l
 have R:=qaB (scope:=scope) (env:=X.env) fun n U=>I.ok.has n (by
  rcases O.free _ U rfl with z | z
  .show .inl z
  .show .inr z)
 rw[exec_Assign_Name_used _ _ _ _ Z];show yr (wpAny_standAt (yr ?_));show wpAny _ X.A (do let _ <- comprehension (.ListComp elt [⟨tg,iter,ifs,0⟩] scope pos) scope X.env _ (newList []) false (eval iter X.env) (some (assign (.Name y r) X.env))) _ _ s;show yr (YV (wpAny_comprehension_free (use:=some (assign (.Name y r) X.env)) (Q:=fun _ F=>SP X pins L .next F) rfl hs R O.kind O.loc
  (thn (hi pins s σ H _ I h) fun v s1 h1=>thn h1 fun ad s2 h2=>?_)) (fun _ F hq=>yt (yt hq)) fun _ _ e=>e)
 obtain⟨it,fp,tn,J,H2,e,d,T,ac,f2,hW⟩:=h2;subst e;show qby (Q:=fun v H'=>qbE i v σ H' L.nx) (RR:=fun acc C=>compPost (model X.prog X.w) X.A X.xe (some (assign (.Name y r) X.env)) (fun _ F=>SP X pins L .next F) acc C) d hc O hN E T ac f2 hg gk ht he hW ?_;intro D C F H' ae ys its n j hD K hv hz q;obtain⟨m,U,_⟩:=id K.loc;have B:=d.compBack f2 j hD K hv hz;obtain⟨_,nD,aa,_,_⟩:=K.pin (D,{ cls:=.type "list",data:=.seq its.toArray n }) (yN _ (yD.mpr rfl));show wpAny _ X.A (assign (.Name y r) X.env (.ref D)) _ _ _;show wpAny_assign_Name (qbS (i:=i) (x:=y) (v:=.ref D) B P S (.inl hy) rfl (fun ab B' W=>?_) (.inr hy));obtain⟨a,sa,ha⟩:=W
 have M:C≠a:=by
  rintro rfl;rcases ha with z | z
  .show absurd (show X.env.locals<C from yj d.lt j) (by rw[z];show Yv _)
  .obtain⟨_,q⟩:=d.cell y C z;show absurd (yj q.lt j) (Yv _)
 show⟨m,U.sameBut sa M,fun h' sb=>⟨_,_,?_,q D nD⟩⟩;show B'.turned (it:=C) (h':=h') (t':=ab.toks) (fun b o hb e=>(sb.2 b hb).trans e) ((qf (H:=H') (a:=D) (b:=C) (o:=.lst ys) (Ye aa)).trans K.free) (Yg (yj d.lt j)) (.inr (yi d.sz j)) (fun x c e z=>?_) (fun p hp z=>?_)
 .obtain⟨_,q⟩:=d.cell x c e;show absurd (yj q.lt (by rw[z];show j)) (Yv _)
 .show absurd (yj (yI (d.pin p hp).1) (by rw[z];show j)) (Yv _)
end
noncomputable def Its(x:Str):It:=⟨fun i _=>i<x.cps.size,fun i H v H'=>H'=H/\∃ c,x.cps[i]?=some c/\v=.str ⟨#[c]⟩,fun i _=>i=x.cps.size⟩
theorem qc0{K:yg}{t:Tok}(W:∀ A:Around,A.handled=none->Walks P w A it [it] [it] x.cps.size (SignAt x) fun i h=>h.IsStrIter it T x t i)
  (L:∀(A:Around) (i:Nat) (s:Shared) (Q:Value->Shared->Prop) (E:Value->Shared->Prop),s.heap.IsStrIter it T x t i->Q (.ref it) s->wpAny (model P w) A (pyIter (.ref it)) Q E s)
  (C:∀ v,letOwnedTupleGo tg (.ref it) v=pure ()):Turn P w K tg (Its x) [it] it (fun i h=>h.IsStrIter it T x t i) where
 mem:=by simp
 obj:=fun i h st b a=>by
  have e:b=it:=by simpa using a
  subst e;obtain⟨o,e,c,d⟩:=st;show⟨o,e,fun v z=>by rw[d] at z;cases z⟩
 keep:=fun i h h' st k=>by
  obtain⟨o,e,r⟩:=st;show⟨o,k it (by simp) o e,r⟩
 item:=by
  intro X q hw p hc i pins s σ H E I f st B;subst q hw p;obtain⟨g,j,J,l,m,n⟩:=f it (by simp);show(W X.A (I.ok.hd hc)).item i s _ _ B st fun v h' tk hv F D=>?_;obtain⟨c,u,y,rfl⟩:=hv;have G:Inv X pins σ H { s with heap:=h',toks:=tk }:=I.turned (fun b o a e=>D b o (by simpa using a) e) g j l m n;show⟨_,rfl,Y6 (C _) ⟨.str ⟨#[c]⟩,H,G,⟨u,rfl⟩,⟨rfl,c,y,rfl⟩,F,fun b a=>(f b a).1⟩⟩
 done:=by
  intro X q hw p hc i pins s σ H E I f st B;subst q hw p;obtain⟨g,j,J,l,m,n⟩:=f it (by simp);have e:i=x.cps.size:=B;subst e;show(W X.A (I.ok.hd hc)).done s _ _ st fun h' tk D=>⟨rfl,I.turned (fun b o a e=>D b o (by simpa using a) e) g j l m n⟩
 self:=L
section
variable{X:Cx}{tg:Expr}
end
section
variable{K:yg}{a:Addr}{xs:List V}{g:TG}{tc:TT}{te:TE}{σ':St}{H1:Hp}{Q:V->Hp->Prop}
def qdF(J:It)(g:TG)(tc:TT)(te:TE)(σ':St)(H1:Hp)(Q:V->Hp->Prop):Prop:=
 ∃ W:Nat->Nat->List V->Hp->Prop,(∃ m,W 0 m [] H1)/\∀ i m ys H,W i m ys H ->
   (J.stop i H/\ys.length<=sizeLine/\∀ p,H p=none->Q (.ref p) (upd H p (.lst ys))) \/
   (J.go i H/\∃ M:List V->Hp->Prop,(∀ ys' H',M ys' H'->∃ d,d<m/\W (i+1) d ys' H')/\∀ x H',J.yld i H x H'->g x σ' H' fun a e=>tc a e fun b c =>
    if b=true then te a c fun v f=>ys.length<sizeLine/\M (ys++[v]) f else M ys c)
theorem qD(c:Nat->List V->Hp->Prop)(n:c 0 [] H1)(hl:∀ i ys H,i<=xs.length->c i ys H->SqL K H a xs)
  (s:∀ i x ys H,xs[i]?=some x->c i ys H->g x σ' H fun f j=>tc f j fun b h=>if b=true then te f h fun v l=>ys.length<sizeLine/\c (i+1) (ys++[v]) l else c (i+1) ys h)
  (o:∀ ys H,c xs.length ys H->ys.length<=sizeLine/\∀ p,H p=none->Q (.ref p) (upd H p (.lst ys))):qdF (Itl K a) g tc te σ' H1 Q:=by
 show⟨fun i m ys H=>m=xs.length-i/\i<=xs.length/\c i ys H,⟨xs.length,by simp,YX _,n⟩,?_⟩;rintro i m ys H ⟨rfl,r,p⟩;have q:=hl i ys H r p;by_cases d:i<xs.length
 .show .inr ⟨⟨xs,xs[i],q,by simp[d]⟩,c (i+1),fun ys' H' t=>⟨xs.length-(i+1),by lk,rfl,d,t⟩,fun x H' y=>?_⟩;obtain⟨e,y⟩:=y;subst e;show s i x ys _ (y xs q) p
 .have e:i=xs.length:=by lk
  subst e;show .inl ⟨⟨xs,q,yh _⟩,o ys H p⟩
theorem qaN{lo:Int}(a:Nat->List V->Hp->Prop)(l:a 0 [] H1)
  (q:∀ i ys H,i<n->a i ys H->g (.int (lo+i)) σ' H fun d h=>tc d h fun b f=>if b=true then te d f fun v j=>ys.length<sizeLine/\a (i+1) (ys++[v]) j else a (i+1) ys f)
  (o:∀ ys H,a n ys H->ys.length<=sizeLine/\∀ p,H p=none->Q (.ref p) (upd H p (.lst ys))):qdF (Itr lo n) g tc te σ' H1 Q:=by
 show⟨fun i m ys H=>m=n-i/\i<=n/\a i ys H,⟨n,by simp,YX _,l⟩,?_⟩;rintro i m ys H ⟨rfl,s,p⟩;by_cases c:i<n
 .show .inr ⟨c,a (i+1),fun ys' H' r=>⟨n-(i+1),by lk,rfl,c,r⟩,fun x H' y=>?_⟩;obtain⟨e,y⟩:=y;subst e y;show q i ys _ c p
 .have e:i=n:=by lk
  subst e;show .inl ⟨yh _,o ys H p⟩
theorem comp_str(a:Nat->List V->Hp->Prop)(n:a 0 [] H1)
  (q:∀ i c ys H,x.cps[i]?=some c->a i ys H->g (.str ⟨#[c]⟩) σ' H fun f j=>tc f j fun b h=>if b=true then te f h fun v l=>ys.length<sizeLine/\a (i+1) (ys++[v]) l else a (i+1) ys h)
  (o:∀ ys H,a x.cps.size ys H->ys.length<=sizeLine/\∀ p,H p=none->Q (.ref p) (upd H p (.lst ys))):qdF (Its x) g tc te σ' H1 Q:=by
 show⟨fun i m ys H=>m=x.cps.size-i/\i<=x.cps.size/\a i ys H,⟨x.cps.size,by simp,YX _,n⟩,?_⟩;rintro i m ys H ⟨rfl,s,p⟩;by_cases d:i<x.cps.size
 .show .inr ⟨d,a (i+1),fun ys' H' r=>⟨x.cps.size-(i+1),by lk,rfl,d,r⟩,fun v H' y=>?_⟩;obtain⟨e,c,hc,y⟩:=y;subst e y;show q i c ys _ hc p
 .have e:i=x.cps.size:=by lk
  subst e;show .inl ⟨rfl,o ys H p⟩
end
noncomputable def qb9:V->Option Value
 | .ty n=>some (.type n)
 | .ref a=>some (.ref a)
 | _=>none
theorem qbz{c:Value}(h:qb9 y=some c)(r:RelV y u):u=c:=by
 cases y with
 | ty n=>cases h;show r
 | ref a=>cases h;show r
 | _=>cases h
section
variable{X:Cx}{pins:List (Addr×Obj)}{σ:St}{H:Hp}{s:Shared}
theorem TyOf.kit{x:V}(I:Inv X pins σ H s)(b:RelV x u)(ty:TyOf X.K H x t):∃ P:Heap->Prop,PySem.W.KitX X.K u t P/\P s.heap/\u≠.builtin "__main__.__loader__#opaque":=by
 cases ty with
 | non=>cases (show u=Value.none from b);show⟨_,PySem.W.kitx_none,Y8,(fun z=>nomatch z)⟩
 | bl y=>cases (show u=Value.bool y from b);show⟨_,PySem.W.kitx_bool,Y8,(fun z=>nomatch z)⟩
 | int i=>obtain⟨t,q⟩:=(show ∃ t,u=Value.int i t from b);cases q;show⟨_,PySem.W.kitx_int,Y8,(fun z=>nomatch z)⟩
 | str y=>obtain⟨t,q⟩:=(show ∃ t,u=Value.str y t from b);cases q;show⟨_,PySem.W.kitx_str,Y8,(fun z=>nomatch z)⟩
 | flt y=>obtain⟨t,q⟩:=(show ∃ t,u=Value.float y t from b);cases q;show⟨_,PySem.W.kitx_float,Y8,(fun z=>nomatch z)⟩
 | @lst a xs ea =>
  cases (show u=Value.ref a from b);obtain⟨_,_,n,_,h1⟩:=(show ObjOk X.prog X.w H s.heap a (.lst xs) from I.hok a _ ea);show⟨_,PySem.W.kitx_list,⟨_,h1,rfl⟩,(fun z=>nomatch z)⟩
 | @frz a ob xs ea =>
  cases (show u=Value.ref a from b);obtain⟨_,_,_,n,_,h1⟩:=(show ObjOk X.prog X.w H s.heap a (.frz ob (.lst xs)) from I.hok a _ ea);show⟨_,PySem.W.kitx_list,⟨_,h1,rfl⟩,(fun z=>nomatch z)⟩
 | @tup a xs ea =>
  cases (show u=Value.ref a from b);obtain⟨_,_,_,p⟩:=(show ObjOk X.prog X.w H s.heap a (.tup xs) from I.hok a _ ea);obtain⟨o,h1,c,_⟩:=p;show⟨_,PySem.W.kitx_tuple,⟨o,h1,c⟩,(fun z=>nomatch z)⟩
 | @dK a kvs ea =>
  cases (show u=Value.ref a from b);obtain⟨_,_,vs,_,p⟩:=(show ObjOk X.prog X.w H s.heap a (.dK kvs) from I.hok a _ ea);obtain⟨o,es,ep,h1,c,_⟩:=p;show⟨_,PySem.W.kitx_dict,⟨o,h1,c.1⟩,(fun z=>nomatch z)⟩
 | @dT a kvs ea =>
  cases (show u=Value.ref a from b);obtain⟨_,_,xs,_,o,es,ep,h1,c,_⟩:=(show ObjOk X.prog X.w H s.heap a (.dT kvs) from I.hok a _ ea);show⟨_,PySem.W.kitx_dict,⟨o,h1,c.1⟩,(fun z=>nomatch z)⟩
 | @ins a C dx fs ea cl ha hn htk hm =>
  cases (show u=Value.ref a from b);obtain⟨d,O,_⟩:=qaL I.hok ea;obtain⟨od,J,_⟩:=O.look;show⟨_,PySem.W.kitx_own (cl.get _) cl.hd ha hn htk hm,J,(fun z=>nomatch z)⟩
end
section
variable{X:Cx}
theorem qbi:∀{ys:List V} {a us:List Value},ys.map qb9=a.map some->Vals ys us->us=a
 | [],[],_,_,.nil=>rfl
 | [],_::_,_,h,_=>by cases h
 | y::ys,[],_,h,_=>by cases h
 | y::ys,c::a,_,h,.cons r t=>by
  rw[YH,YH] at h
  injection h with h1 h2
  rw[qbz h1 r,qbi h2 t]
theorem qc1:∀{bs:List Bool} {us:List Value},Vals (bs.map V.bl) us->us=bs.map Value.bool
 | [],_,.nil=>rfl
 | b::bs,_,.cons r t=>by
  have e:=qc1 t;rw[e];cases r;rfl
def qfZ(K:yg):List V->Hp->VK->Prop:=fun xs H Q=>∃(p:Addr) (bs:List Bool),xs=[.ref p]/\SqL K H p (bs.map V.bl)/\Q (.bl (bs.all id)) H
theorem call_all(hc:X.calm=true):zO X (.builtin "all") (qfZ X.K):=by
 intro pins s σ H xs us Q I r h;obtain⟨p,bs,rfl,w,q⟩:=h;obtain⟨u,rfl,y⟩:=qbc r;cases y;obtain⟨its,z,pl,hz⟩:=I.list w;have e:=qc1 z;subst e;have m:X.A.in1.handled=none:=I.ok.hd hc;show call_all_walk (XV pl.isList ?_)
 have f:p≠s.heap.objs.size:=by
  obtain⟨o,t,_⟩:=pl.isList;show yL (yI t)
 show⟨s.heap.objs.size,_,_,_,_,_,fun i=>(bs[i]?).getD false,rfl,Walks.list m s.heap.objs.size p f (bs.map Value.bool).toArray,⟨⟨_,yK _ rfl,rfl,rfl⟩,pl.isList.at fun o e=>yv _ e⟩,fun i v s Q E hv x=>?_,fun h' tk n=>?_⟩
 .have a:(bs.map Value.bool)[i]?=some v:=by simpa using hv
  rw[yd] at a
  cases e:bs[i]? with
  | none=>rw[e] at a;cases a
  | some b =>
   rw[e] at a;cases a;have c:Q ((bs[i]?).getD false) s:=x;rw[e] at c;show yt c
 .have e:((List.range (bs.map Value.bool).toArray.size).all fun i=>(bs[i]?).getD false)=bs.all id:=by
   rw[yx,ya]
   have g:∀ bs:List Bool,((List.range bs.length).all fun i=>(bs[i]?).getD false)=bs.all id:=by
    intro bs
    induction bs with
    | nil=>rfl
    | cons b r ih =>
     rw[yA,List.range_succ_eq_map,XB,kZ,XB,<- ih];rfl
   show g bs
  rw[e];show⟨.bl _,H,?_,rfl,q⟩;have j:Inv X pins σ H { s with heap:=s.heap.push { cls:=.type "list_iterator",data:=.fields #[.ref p,.int 0 0] } }:=I.kept (t':=s.toks) fun b o e=>yv _ e;have d:=I.fpOk (b:=s.heap.objs.size) (yh _) (I.hok.fresh (yh _));show j.turned (it:=s.heap.objs.size) (h':=h') (t':=tk) (fun b o l e=>n b o (by simpa using l) e) d.1 d.2.1 d.2.2.2.1 d.2.2.2.2.1 d.2.2.2.2.2
theorem op_le_str:OpR X (compareOp .LtE) (fun x y H Q=>∃ i j,x=.str i/\y=.str j/\Q (.bl (!decide (j.cps.toList<i.cps.toList))) H):=by
 intro pins s σ H x y v u Q I a b h;obtain⟨i,j,rfl,rfl,q⟩:=h;obtain⟨t,rfl⟩:=a;obtain⟨t',rfl⟩:=b;show PySem.P.le_str (qcT I q (by rfl))
def qfJ:R2:=fun x y H Q=>match x,y with
 | .int i,.int j=>Q (.bl (decide (i<=j))) H
 | .str i,.str j=>Q (.bl (!decide (j.cps.toList<i.cps.toList))) H
 | _,_=>False
theorem qfB:OpR X (compareOp .LtE) qfJ:=by
 intro pins s σ H x y v u Q I a b h
 cases x with
 | int i=>cases y with
  | int j=>show op_le pins s σ H _ _ v u Q I a b ⟨i,j,rfl,rfl,h⟩
  | _=>show False.elim h
 | str i=>cases y with
  | str j=>show op_le_str pins s σ H _ _ v u Q I a b ⟨i,j,rfl,rfl,h⟩
  | _=>show False.elim h
 | _=>show False.elim h
theorem op_is_bl:OpR X (compareOp .Is) (fun x y H Q=>∃ i j,x=.bl i/\y=.bl j/\Q (.bl (i==j)) H):=by
 intro pins s σ H x y v u Q I a b h;obtain⟨i,j,rfl,rfl,q⟩:=h;cases a;cases b;show wpAny_is_plain (by cases i<;>cases j<;>rfl) (qcT I q (by cases i<;>cases j<;>rfl))
def qf0:R2:=fun x y H Q=>match x,y with
 | .bl i,.bl j=>Q (.bl (i==j)) H
 | x,.non=>Q (.bl (decide (x=.non))) H
 | _,_=>False
theorem qfc:OpR X (compareOp .Is) qf0:=by
 intro pins s σ H x y v u Q I a b h
 cases y with
 | non=>show op_isN pins s σ H x _ v u Q I a b ⟨rfl,by cases x<;>show h⟩
 | bl j=>cases x with
  | bl i=>show op_is_bl pins s σ H _ _ v u Q I a b ⟨i,j,rfl,rfl,h⟩
  | _=>show False.elim h
 | _=>cases x<;>show False.elim h
theorem op_rep_str:OpR X (binaryOp .Mult) (fun x y H Q=>∃ z k,x=.str z/\y=.int k/\MulOk z k/\Q (.str (Txt.mul z k)) H):=by
 intro pins s σ H x y v u Q I b c h;obtain⟨z,k,rfl,rfl,a,q⟩:=h;obtain⟨t,rfl⟩:=b;obtain⟨t',rfl⟩:=c;show SB.mul a fun t' k'=>⟨.str _,H,I.tok _,⟨_,rfl⟩,q⟩
def qfd:R2:=fun x y H Q=>match x,y with
 | .int i,.int j=>CMul i j/\Q (.int (i*j)) H
 | .str z,.int k=>MulOk z k/\Q (.str (Txt.mul z k)) H
 | .ref a,.int k=>rRep (.ref a) (.int k) H Q
 | _,_=>False
theorem qbG:OpR X (binaryOp .Mult) qfd:=by
 intro pins s σ H x y v u Q I b c h
 cases y with
 | int j=>cases x with
  | int i=>show op_mul pins s σ H _ _ v u Q I b c ⟨i,j,rfl,rfl,h.1,h.2⟩
  | str i=>show op_rep_str pins s σ H _ _ v u Q I b c ⟨i,j,rfl,rfl,h.1,h.2⟩
  | ref a=>show qel pins s σ H _ _ v u Q I b c h
  | _=>show False.elim h
 | _=>cases x<;>show False.elim h
def qdm(K:yg):R2:=fun x y H Q=>match x,y with
 | .int i,.int j=>Q (.int (i+j)) H
 | .str i,.str j=>i.length+j.length<=sizeLine/\Q (.str (i++j)) H
 | .ref a,.ref b=>rCat (.ref a) (.ref b) H Q\/rCatT K (.ref a) (.ref b) H Q
 | _,_=>False
theorem u_add:OpR X (binaryOp .Add) (qdm X.K):=by
 intro pins s σ H x y v u Q I c d h
 cases x with
 | int i=>cases y with
  | int j=>show op_add pins s σ H _ _ v u Q I c d ⟨i,j,rfl,rfl,h⟩
  | _=>show False.elim h
 | str i=>cases y with
  | str j=>show op_add_str pins s σ H _ _ v u Q I c d ⟨i,j,rfl,rfl,h.1,h.2⟩
  | _=>show False.elim h
 | ref a=>cases y with
  | ref b=>show h.elim (fun h=>op_cat pins s σ H _ _ v u Q I c d h) fun h=>op_catT pins s σ H _ _ v u Q I c d h
  | _=>show False.elim h
 | _=>show False.elim h
def qdn(K:yg):List V->Hp->VK->Prop:=fun xs H Q=>match xs with
 | [.str z]=>z.length<=sizeLine/\Q (.int z.length) H
 | [.ref p]=>(∃ ys,(SqL K H p ys\/SqT K H p ys)/\Q (.int ys.length) H)\/∃ kvs,H p=some (.dK kvs)/\Q (.int kvs.length) H
 | _=>False
theorem call_lenU:zO X (.builtin "len") (qdn X.K):=by
 intro pins s σ H xs us Q I r h
 match xs,h with
 | [.str z],h=>show call_len_str pins s σ H _ us Q I r ⟨z,rfl,h.1,h.2⟩
 | [.ref p],.inl ⟨ys,h,q⟩=>show call_len_seq pins s σ H _ us Q I r ⟨p,ys,rfl,h,q⟩
 | [.ref p],.inr ⟨kvs,h,q⟩=>show call_lenD pins s σ H _ us Q I r ⟨p,kvs,rfl,h,q⟩
theorem sl_str:SlR X (fun x lo b H Q=>∃ z,x=.str z/\z.length<=sizeLine/\Q (.str (Txt.slice z lo b)) H):=by
 intro pins s σ H x v f g lo b e Q I d a pl c h;obtain⟨z,rfl,hz,q⟩:=h;obtain⟨t,rfl⟩:=d;show⟨"str",_,F.slot_str_getitem.lookup,typeIs_str _ _ _,?_⟩
 cases pl with
 | none =>
  cases c with
  | none=>show Xc (l:=none) (u:=none) (st:=none) a rfl (kn ⟨yi (k7 z _ _) hz,fun t' k=>⟨.str _,H,I.tok _,⟨_,rfl⟩,q⟩⟩)
  | int j uj=>show Xc (l:=none) (u:=some (j,uj)) (st:=none) a rfl (kn ⟨yi (k7 z _ _) hz,fun t' k=>⟨.str _,H,I.tok _,⟨_,rfl⟩,q⟩⟩)
 | int i ui =>
  cases c with
  | none=>show Xc (l:=some (i,ui)) (u:=none) (st:=none) a rfl (kn ⟨yi (k7 z _ _) hz,fun t' k=>⟨.str _,H,I.tok _,⟨_,rfl⟩,q⟩⟩)
  | int j uj=>show Xc (l:=some (i,ui)) (u:=some (j,uj)) (st:=none) a rfl (kn ⟨yi (k7 z _ _) hz,fun t' k=>⟨.str _,H,I.tok _,⟨_,rfl⟩,q⟩⟩)
def qfK(K:yg):V->Option Int->Option Int->Hp->VK->Prop:=fun x lo b H Q=>match x with
 | .str z=>z.length<=sizeLine/\Q (.str (Txt.slice z lo b)) H
 | .ref a=>rSlL K (.ref a) lo b H Q\/rSlT K (.ref a) lo b H Q
 | _=>False
theorem u_sl:SlR X (qfK X.K):=by
 intro pins s σ H x v g i lo b f Q I e c pl d h
 cases x with
 | str z=>show sl_str pins s σ H _ v g i lo b f Q I e c pl d ⟨z,rfl,h.1,h.2⟩
 | ref a=>show h.elim (fun h=>sl_list pins s σ H _ v g i lo b f Q I e c pl d h) fun h=>sl_tup pins s σ H _ v g i lo b f Q I e c pl d h
 | _=>show False.elim h
theorem qcA:∀{ys:LS} {us:List Value},Vals (ys.map V.str) us->StrsAre us ys
 | [],_,.nil=>.nil
 | y::ys,_,.cons r t=>by
  obtain⟨tk,rfl⟩:=r;show .cons y tk (qcA t)
def qfe(K:yg):V->List V->Hp->VK->Prop:=fun x vs H Q=>∃(z:Str) (p:Addr) (ys:LS),x=.str z/\vs=[.ref p]/\SqL K H p (ys.map V.str)/\(ys.map (·.length)).sum+ys.length*z.length<=16777216/\Q (.str (Txt.join z ys)) H
theorem mt_join:MtR X "str.join" (qfe X.K):=by
 intro pins s σ H x vs v us Q I d c h;obtain⟨z,p,ys,rfl,rfl,a,hz,q⟩:=h;obtain⟨t,rfl⟩:=d;obtain⟨u,rfl,b⟩:=c.one;cases b;obtain⟨its,r,pl,_⟩:=I.list a;show join_list pl.isList (by simpa using qcA r) hz fun t' k=>⟨.str _,H,I.tok _,⟨_,rfl⟩,q⟩
def qfL(K:yg)(te:TE):TI:=fun σ H R=>te σ H fun v b=>match v with
 | .str x=>R (Its x) b
 | .ref a=>((∃ xs,SqL K b a xs)/\R (Itl K a) b)\/((∃ xs,SqT K b a xs)/\R (Itt K a) b)
 | _=>False
theorem pi_any{e:Expr}(w:PE X e te)(g:∀ it v,letOwnedTupleGo tg it v=pure ():=by intro _ _;rfl):PI X tg e (qfL X.K te):=by
 intro pins s σ H R I h;show thn (w pins s σ H _ I h) fun v c ⟨y,f,d,u,j⟩=>?_
 cases y with
 | str x =>
  obtain⟨t,rfl⟩:=u
  have fp:∀ b∈[c.heap.objs.size],qcv X pins f b:=fun b m=>by
   have e:b=c.heap.objs.size:=by simpa using m
   subst e;show d.fpOk (yh _) (d.hok.fresh (yh _))
  cases r:x.cps.all (· < 128)
  .show wpAny_pyIter_wide r ⟨c.heap.objs.size,[c.heap.objs.size],_,_,f,rfl,d.kept (t':=c.toks) fun b o e=>yv _ e,
    qc0 (T:="str_iterator") (fun A l=>Walks.strWide l _ x t) (fun A i s Q E st h=>wpAny_pyIter_striter_wide st h) (g _),⟨_,yK _ rfl,rfl,rfl⟩,fp,j⟩
  .show wpAny_pyIter_ascii r ⟨c.heap.objs.size,[c.heap.objs.size],_,_,f,rfl,d.kept (t':=c.toks) fun b o e=>yv _ e,
    qc0 (T:="str_ascii_iterator") (fun A l=>Walks.strAscii l _ x t) (fun A i s Q E st h=>wpAny_pyIter_striter_ascii st h) (g _),⟨_,yK _ rfl,rfl,rfl⟩,fp,j⟩
 | ref a =>
  cases u
  have fp:∀ b∈[c.heap.objs.size],qcv X pins f b:=fun b m=>by
   have e:b=c.heap.objs.size:=by simpa using m
   subst e;show d.fpOk (yh _) (d.hok.fresh (yh _))
  rcases j with⟨⟨xs,n⟩,q⟩ | ⟨⟨xs,n⟩,q⟩
  .obtain⟨its,z,p,hz⟩:=d.list n;show XV p.isList ⟨c.heap.objs.size,[c.heap.objs.size],_,_,f,rfl,d.kept (t':=c.toks) fun b o e=>yv _ e,qbU a _,⟨_,yK _ rfl,rfl,rfl⟩,fp,q⟩
  .obtain⟨its,z,p,hz⟩:=d.tuple n;show wpAny_pyIter_tuple (show c.heap.IsTuple a its.toArray from p) ⟨c.heap.objs.size,[c.heap.objs.size],_,_,f,rfl,d.kept (t':=c.toks) fun b o e=>yv _ e,turn_tuple a _,⟨_,yK _ rfl,rfl,rfl⟩,fp,q⟩
 | _=>show False.elim j
end
section
variable{D:Ends}{σ:St}{H:Hp}{Q:VK}{QT:Bool->Hp->Prop}{QA:List V->Hp->Prop}{t u:TS}{te ta tb tc:TE}{c c':TT}{tr tas:TA}{r r':R2}{K:yg}
theorem vSeq(h:t { D with nx:=u D } σ H):qfE t u D σ H:=h
theorem vAsg{i:Nat}(h:te σ H fun x a=>D.nx (σ.set i (some x)) a):qeW te (qbE i) D σ H:=h
theorem vAsgS{b a:TE}{s:qe6}(h:te σ H fun x c=>b σ c fun o d=>a σ d fun i e=>s o i x e fun f=>D.nx σ f):qeW te (qfT b a s) D σ H:=h
theorem vIfS(h:c σ H fun b a=>if b=true then t D σ a else u D σ a):qfR c t u D σ H:=h
theorem vRet(h:te σ H D.rt):qfQ te D σ H:=h
theorem vRetN(h:D.rt .non H):qe5 D σ H:=h
theorem vDrop(h:te σ H fun _ a=>D.nx σ a):qe4 te D σ H:=h
theorem vNext(h:D.nx σ H):qe3 D σ H:=h
theorem vC(h:Q v H):tC v σ H Q:=h
theorem vVar{i:Nat}(e:σ[i]?=some (some v))(h:Q v H):qfD i σ H Q:=⟨v,e,h⟩
theorem vOp(h:ta σ H fun x a=>tb σ a fun y b=>r x y b Q):tOp r ta tb σ H Q:=h
theorem vUn{f:V->Hp->VK->Prop}(h:ta σ H fun x a=>f x a Q):tUn f ta σ H Q:=h
theorem vChain(h:ta σ H fun x b=>tb σ b fun y c=>r x y c fun z a=>∃ k,z=.bl k/\if k=true then tc σ a fun e d=>r' y e d Q else Q (.bl false) a):qdv r r' ta tb tc σ H Q:=h
theorem vNil(h:QA [] H):qfz σ H QA:=h
theorem vCons(h:ta σ H fun x a=>tr σ a fun xs b=>QA (x::xs) b):qe9 ta tr σ H QA:=h
theorem vCB{f:List V->Hp->VK->Prop}(h:tas σ H fun vs a=>f vs a Q):tCB f tas σ H Q:=h
theorem vCall{sp:Sp}{E:XK}(h:tas σ H fun vs a=>sp (vs++[]) a Q E):qeN sp [] E tas σ H Q:=h
theorem vLst(h:tas σ H fun xs a=>NewL xs a Q):qfX tas σ H Q:=h
theorem vTup(h:tas σ H fun xs a=>NewT xs a Q):qfW tas σ H Q:=h
theorem vTest(h:te σ H fun x H'=>∃ k,x=.bl k/\QT k H'):qeM te σ H QT:=h
theorem vB(h:te σ H fun x H'=>∃ k,x=.bl k/\QT k H'):tB te σ H QT:=h
theorem vNot(h:c σ H fun b a=>QT (!b) a):qfO c σ H QT:=h
theorem vAnd(h:c σ H fun b a=>if b=true then c' σ a QT else QT false a):qfN c c' σ H QT:=h
theorem vOr(h:c σ H fun b a=>if b=true then QT true a else c' σ a QT):tOr c c' σ H QT:=h
theorem vAndV(h:ta σ H fun x a=>∃ k,x=.bl k/\if k=true then tb σ a Q else Q (.bl false) a):qe2 ta tb σ H Q:=h
theorem vOrV(h:ta σ H fun x a=>∃ k,x=.bl k/\if k=true then Q (.bl true) a else tb σ a Q):qfP ta tb σ H Q:=h
theorem vNotV(h:ta σ H fun x a=>∃ k,x=.bl k/\Q (.bl (!k)) a):tNotV ta σ H Q:=h
theorem vIf(h:c σ H fun b a=>if b=true then ta σ a Q else tb σ a Q):tIf c ta tb σ H Q:=h
theorem vYes(h:QT true H):qfY σ H QT:=h
theorem vI0{g:Int->Int->V}(h:Q (g i j) H):rI0 g (.int i) (.int j) H Q:=⟨i,j,rfl,rfl,h⟩
theorem vI{C:Int->Int->Prop}{g:Int->Int->V}(hc:C i j)(h:Q (g i j) H):rI C g (.int i) (.int j) H Q:=⟨i,j,rfl,rfl,hc,h⟩
theorem vU{g:Int->V}(h:Q (g i) H):rU g (.int i) H Q:=⟨i,rfl,h⟩
theorem vEqI(h:Q (.bl (decide (i=j))) H):rEq (.int i) (.int j) H Q:=⟨rfl,by
 have e:decide (V.int i=V.int j)=decide (i=j):=by
  by_cases h:i=j
  .subst h;simp
  .rw [yl h,yl (fun e=>h (V.int.inj e))]
 rw[e];show h⟩
theorem vEqB{i j:Bool}(h:Q (.bl (i==j)) H):rEq (.bl i) (.bl j) H Q:=⟨rfl,by rw[dec_bl];show h⟩
theorem qau(b:H p=some (.lst xs))(a:atI xs i=some v)(h:Q v H):rIx K (.ref p) (.int i) H Q:=.inl ⟨p,xs,i,v,rfl,rfl,SqL.of b,a,h⟩
theorem vIxLs(b:SqL K H p xs)(a:atI xs i=some v)(h:Q v H):rIx K (.ref p) (.int i) H Q:=.inl ⟨p,xs,i,v,rfl,rfl,b,a,h⟩
theorem qaO(b:H p=some (.tup xs))(a:atI xs i=some v)(h:Q v H):rIx K (.ref p) (.int i) H Q:=.inr (.inl ⟨p,xs,i,v,rfl,rfl,SqT.of b,a,h⟩)
theorem qf1{ch:Nat}(hz:z.length<=sizeLine)(a:atI z.cps.toList i=some ch)(h:Q (.str ⟨#[ch]⟩) H):rIx K (.str z) (.int i) H Q:=.inr (.inr ⟨z,i,ch,rfl,rfl,hz,a,h⟩)
theorem qee{k:Int}{j:Nat}{a:Hp->Prop}(c:H p=some (.lst xs))(b:ixN xs.length k=some j)(h:a (upd H p (.lst (xs.set j v)))):rSetL (.ref p) (.int k) v H a:=⟨p,xs,k,j,rfl,rfl,c,b,h⟩
theorem vEx{k:Bool}{P:Bool->Prop}(h:P k):∃ k',V.bl k=.bl k'/\P k':=⟨k,rfl,h⟩
theorem vLeI(h:Q (.bl (decide (i<=j))) H):qfJ (.int i) (.int j) H Q:=h
theorem vLeS{i j:Str}(h:Q (.bl (!decide (j.cps.toList<i.cps.toList))) H):qfJ (.str i) (.str j) H Q:=h
theorem vIsB{i j:Bool}(h:Q (.bl (i==j)) H):qf0 (.bl i) (.bl j) H Q:=h
theorem vAddI(h:Q (.int (i+j)) H):qdm K (.int i) (.int j) H Q:=h
theorem qeP{i j:Str}(hz:i.length+j.length<=sizeLine)(h:Q (.str (i++j)) H):qdm K (.str i) (.str j) H Q:=⟨hz,h⟩
theorem qbH(hc:CMul i j)(h:Q (.int (i*j)) H):qfd (.int i) (.int j) H Q:=⟨hc,h⟩
theorem vLenS(hz:z.length<=sizeLine)(h:Q (.int z.length) H):qdn K [.str z] H Q:=⟨hz,h⟩
theorem jO(a:H p=some (.lst ys))(h:Q (.int ys.length) H):qdn K [.ref p] H Q:=.inl ⟨ys,.inl (SqL.of a),h⟩
theorem qen(a:SqL K H p ys)(h:Q (.int ys.length) H):qdn K [.ref p] H Q:=.inl ⟨ys,.inl a,h⟩
theorem vLenT(a:H p=some (.tup ys))(h:Q (.int ys.length) H):qdn K [.ref p] H Q:=.inl ⟨ys,.inr (SqT.of a),h⟩
theorem qfM{lo a:Option Int}(hz:z.length<=sizeLine)(h:Q (.str (Txt.slice z lo a)) H):qfK K (.str z) lo a H Q:=⟨hz,h⟩
theorem vSl{f:V->Option Int->Option Int->Hp->VK->Prop}{tl a:TO}(h:te σ H fun x b=>tl σ b fun l c=>a σ c fun u d=>f x l u d Q):tSl f te tl a σ H Q:=h
theorem vNoPart(h:QO none H):qdA σ H QO:=h
theorem vPart(h:te σ H fun x a=>∃ i,x=.int i/\QO (some i) a):qfa te σ H QO:=h
theorem vExI{P:Int->Prop}(h:P i):∃ j,V.int i=.int j/\P j:=⟨i,rfl,h⟩
theorem vBM(h:te σ H fun x a=>tyV K T x a/\tas σ a fun xs b=>f x xs b Q):tBM K T f te tas σ H Q:=h
theorem vBM0(h:te σ H fun x a=>tyV K T x a/\f x [] a Q):qfH K T f te σ H Q:=h
theorem vComp(h:wi σ H fun J a=>qdF J g c te (qdq nl ixs σ) a Q):qed wi g c te nl ixs σ H Q:=h
theorem vFor (h:wi σ H fun J d=>∃ W:Nat->Nat->St->Hp->Prop,(∃ m,W 0 m σ d)/\∀ i m σ H,W i m σ H ->
 (J.stop i H/\D.nx σ H)\/(J.go i H/\∃ N:St->Hp->Prop,(∀ a H',N a H'->∃ c,c<m/\W (i+1) c a H')/\∀ x H',J.yld i H x H'->g x σ H' fun b e=>t { D with nx:=N,ct:=N,bk:=D.nx } b e)):qfU wi g t D σ H:=h
theorem vRng1(h:tas σ H fun vs a=>∃ j:Int,vs=[.int j]/\-(2 ^ 62)<=j/\j<2 ^ 62/\R (Itr 0 j.toNat) a):qe7 tas σ H R:=h
theorem vAny (h:te σ H fun v b=>match v with
 | .str x=>R (Its x) b
 | .ref a=>((∃ xs,SqL K b a xs)/\R (Itl K a) b)\/((∃ xs,SqT K b a xs)/\R (Itt K a) b)
 | _=>False):qfL K te σ H R:=h
theorem vGN{i:Nat}{a:St->Hp->Prop}(h:a (σ.set i (some v)) H):qbE i v σ H a:=h
theorem qdG{xs:List α}(b:0<=i)(h1:i<xs.length):∃ v,atI xs i=some v/\xs[i.toNat]?=some v:=by
 obtain⟨n,rfl⟩:=Xd b;have a:n<xs.length:=by lk
 show⟨xs[n],qF (by simp[a]),by simp[a]⟩
end
section
variable{X:Cx}{K:yg}{o e:Expr}{es:List Expr}{to ta:TE}{t:TA}{name f:Str}{apos cpos pos:Pos}{T id:String}{r:V->List V->Hp->VK->Prop}{tg:Expr}
theorem jj(a:X.K=K):zO X (.builtin "len") (qdn K):=by subst a;show call_lenU
theorem qeQ(a:X.K=K)(hc:X.calm=true):zO X (.builtin "all") (qfZ K):=by subst a;show call_all hc
theorem qdr(a:X.K=K):SlR X (qfK K):=by subst a;show u_sl
theorem jU(a:X.K=K):OpR X (binaryOp .Add) (qdm K):=by subst a;show u_add
theorem k_join(a:X.K=K):MtR X "str.join" (qfe K):=by subst a;show mt_join
theorem qM(b:X.K=K)(c:PE X e ta)(a:∀ it v,letOwnedTupleGo tg it v=pure ():=by intro _ _;rfl):PI X tg e (qfL K ta):=by subst b;show pi_any c a
theorem qff(e:X.K=K)(h:PlainAttrs T)(c:Slot T name id)(d:typeOf (.builtin id)=pure (.type "method_descriptor"))(f:MtR X id r)(g:PE X o to)
  (a:attributeBase o name X.env (eval o X.env)=eval o X.env:=by rfl) (b:(apos.endLine==cpos.line)=true:=by rfl):PE X (.Call (.Attribute o name apos) [] [] cpos) (qfH K T r to):=by
 subst e;show pe_bm0 h c d f g a b
theorem qbI(h:X.K=K)(n:PlainAttrs T)(f:Slot T name id)(g:typeOf (.builtin id)=pure (.type "method_descriptor"))(j:MtR X id r)(l:PE X o to)(i:PA X (e::es) t)
  (b:attributeBase o name X.env (eval o X.env)=eval o X.env:=by rfl)
  (d:((backTo cpos (starEach (e::es) X.env)).all (fun x=>!x.1)&&(backToKw cpos (keywordEach [] X.env)).all (fun x=>x.1.isSome)
   && decide ((e::es).length+([]:List Keyword).length+(if ([]:List Keyword).isEmpty then 0 else 1)<30))=true:=by rfl)
  (c:(apos.endLine==cpos.line)=true:=by rfl) (m:starEach (e::es) X.env=(false,eval e X.env)::starEach es X.env:=by rfl) (a:(backTo cpos (starEach es X.env)).any (·.1)=false:=by rfl) :
  PE X (.Call (.Attribute o name apos) (e::es) [] cpos) (tBM K T r to t):=by
 subst h;show pe_bm n f g j l i b d c m a
end
structure DefOk(P:Program)(w:World)(K:yg)(mg:Str->Option Value)(base:Heap)(CX:CXT)(k:Nat)(x:Str)(ps:LS)(sp:Sp):Prop where
 ex:∃ f fd,FnOk P w K mg base CX k f fd ps sp/\mg x=some (.ref f)/\PySem.W.keepIn K (.ref f)=true/\Binds K fd ps []
section
variable{X:Cx}{CX:CXT}{k:Nat}{ps:LS}{sp:Sp}{E:XK}{x:Str}{p pos:Pos}{e:Expr}{es:List Expr}{t:TA}
theorem qp(D:DefOk X.prog X.w X.K X.mg X.base CX k x ps sp)(l:Room k X.A)(m:qaV CX X E)(c:PA X (e::es) t)(h:Gl X x:=by rfl)(a:(x==("__debug__":Str))=false:=by decide)
  (g:starEach (e::es) X.env=(false,eval e X.env)::starEach es X.env:=by rfl) (b:(backTo pos (starEach es X.env)).any (·.1)=false:=by rfl):PE X (.Call (.Name x p) (e::es) [] pos) (qeN sp [] E t):=by
 obtain⟨f,n,F,j,i,d⟩:=D.ex;show pe_call F l h j i d .nil m c a g b
theorem qbJ(c:Gl X x)(a:∃ tk,X.mg x=some (.int i tk))(b:(x==("__debug__":Str))=false:=by decide):PE X (.Name x pos) (tC (.int i)):=by
 obtain⟨tk,a⟩:=a;show pe_glob c a ⟨tk,rfl⟩ b
end
noncomputable def isaT(t c:String):Bool:=t==c||(t=="bool"&&c=="int")
theorem j0(K:yg):∀ t∈["NoneType","bool","int","str","list","tuple","dict"],∀ c∈["bool","int","str","list","tuple","dict"],PySem.W.kitOne K (.type t) (.type c)=some (isaT t c):=by
 intro t a c hc;simp only[yz,yW,YE] at a hc;rcases a with rfl | rfl | rfl | rfl | rfl | rfl | rfl<;>rcases hc with rfl | rfl | rfl | rfl | rfl | rfl<;>rfl
noncomputable def qeo:List Value->Bool
 | [.type a,.type b,.type c,.type d]=>a=="ValueError"&&b=="Exception"&&c=="BaseException"&&d=="object"
 | .ref _::r=>qeo r
 | _=>false
noncomputable def xcIn(K:yg)(C:Addr):Bool:=match K.lookup C with
 | some ⟨.type "type",_,.cls cd,sl⟩=>(match cd.mro,sl.toList with
  | .ref D::bm,[_,_,_,_,some (.builtin n),_]=>D==C&&!cd.hasDel&&qeo bm&&n=="ValueError.__new__"
  | _,_=>false)
 | _=>false
structure XAt(K:yg)(C:Addr):Prop where
 ga:PySem.W.findIn K (.ref C) "__getattribute__"=some (some (.builtin "BaseException.__getattribute__"))
 gn:PySem.W.findIn K (.ref C) "__getattr__"=some none
 bx:PySem.W.mroIn K C (.type "BaseException")=some true
 ob:PySem.W.mroIn K C (.type "object")=some true
 hd:PySem.W.hasDictIn K C=true
 cl:PySem.W.findIn K (.ref C) "__class__"=some (some (.builtin "object.__class__"))
 cg:PySem.W.specialIn K (.builtin "object.__class__") "__get__"=some (some (.builtin "getset_descriptor.__get__"))
 ct:PySem.W.takesIn K (.builtin "object.__class__")=some true
 sa:PySem.W.findIn K (.ref C) "__setattr__"=some (some (.builtin "object.__setattr__"))
 mr:(PySem.W.clsIn K C).any (fun cd=>qeo cd.mro)=true
 xc:xcIn K C=true
theorem bexc_ga_slot:Slot "ValueError" "__getattribute__" "BaseException.__getattribute__":=PySem.F.attr_ValueError.ga
section
variable{prog:Program}{w:World}{A:Around}{E:Value->Shared->Prop}{s:Shared}{K:yg}{x C:Addr}{ox:Obj}{od:Option Obj}{name:Str}{v:Value}
theorem xga_value{Q:Fin->Shared->Prop}(X:K.In s.heap)(I:PySem.W.InstAt s.heap x ox C od)(a:PySem.W.findObj K C od name=some (.value v))(h:Q (.done (.ret v)) s) :
  wpAny (model prog w) A (Builtin.«object.__getattribute__» ⟨[.ref x,.str name tk],[]⟩) Q E s:=by
 have F:=PySem.W.looks_find (M:=model prog w) X I a;show yr (yt (yr (yt (yr (I.type.here (yr (F.here ?_)))))));show yt h
theorem xga_call{R:Result->Shared->Prop}(X:K.In s.heap)(I:PySem.W.InstAt s.heap x ox C od)(c:PySem.W.mroIn K C (.type "BaseException")=some true)
  (h:wpAny (model prog w) A.in1 (Builtin.«object.__getattribute__» ⟨[.ref x,.str name tk],[]⟩) (fun b a=>match b with | .done f=>R (.ok f) a | .again c'=>c'.quiet=true/\codeAny (model prog w) A c' R a) (fun e a=>R (.error e) a) s) :
  codeAny (model prog w) A (.call (.builtin "BaseException.__getattribute__") ⟨[.ref x,.str name tk],[]⟩) R s:=by
 show xV bexc_ga_slot.plain PySem.F.entry_bexc_ga ?_;show @PySem.W.check_slot (model prog w) _ _ s "BaseException.__getattribute__" "BaseException" "__getattribute__" (.ref x) [.str name tk] [] _ (by room) (by room) (I.type.andThen (xY X c)) (PySem.F.args_bexc_ga _ _) h
theorem qdH{b:Bool}{Q:Value->Shared->Prop}(X:K.In s.heap)(I:PySem.W.InstAt s.heap x ox C od)(c:XAt K C)
  (h:wpAny (model prog w) A.in1 (Builtin.«object.__getattribute__» ⟨[.ref x,.str name tk],[]⟩) (fun a d=>match a with | .done (.ret v)=>wpAny (model prog w) A (handedOut v) Q E d | _=>False) (fun _ _=>False) s) :
  wpAny (model prog w) A (getAttrBy (.ref x) (.str name tk) b expr) Q E s:=by
 unfold getAttrBy;show Yc (yr (I.type.here (yr ((xr X c.ga).here ?_))))
 have e:(onTheHeap (Value.ref C)&&Value.builtin "BaseException.__getattribute__"==Value.builtin "object.__getattribute__")=false:=by
  rw[show(Value.builtin "BaseException.__getattribute__"==Value.builtin "object.__getattribute__")=false by room];rfl
 dsimp only;rw[e,yE (by decide)];unfold getAttrByItsOwn hookBefore;rw[yO (show onTheHeap (Value.ref C)=true from rfl)];show yr ((xr X c.gn).here (yr (Xl (Yc ?_))));have f:(expr&&onTheHeap (Value.builtin "BaseException.__getattribute__"))=false:=by cases expr<;>rfl
 unfold callGetattribute;rw[f,yE (by decide)];unfold boundAndCalled;rw[bexc_ga_slot.bind];show yr (yt ?_);show wpAny _ _ (call (.builtin "BaseException.__getattribute__") [.ref x,.str name tk]) _ _ _;show X5 (xga_call X I c.bx (YV h (fun a d z=>?_) fun _ _ z=>z.elim));rcases a with(_ | _ | _ | _) | _<;>first | show z | show z.elim
theorem xget{Q:Value->Shared->Prop}(X:K.In s.heap)(I:PySem.W.InstAt s.heap x ox C od)(c:XAt K C)(a:PySem.W.findObj K C od name=some (.value v))(b:PySem.W.handedIn v=true)
  (h:Q v { s with toks:=s.toks+1 }):wpAny (model prog w) A (getAttr (.ref x) name expr) Q E s:=by
 unfold getAttr;show yr (wpAny_mkText (qdH (s:={ s with toks:=s.toks+1 }) X I c (xga_value (s:={ s with toks:=s.toks+1 }) X I a ?_)));show wpAny _ _ (handedOut v) _ _ _;rw[PySem.W.handedOut_of b];show yt h
theorem xclass{Q:Option Value->Shared->Prop}(X:K.In s.heap)(I:PySem.W.InstAt s.heap x ox C od)(c:XAt K C)(a:PySem.W.findObj K C od "__class__"=some (.bind (.builtin "getset_descriptor.__get__") (.builtin "object.__class__")))
  (h:Q (some (.ref C)) { s with toks:=s.toks+1 }):wpAny (model prog w) A (getAttr? (.ref x) "__class__") Q E s:=by
 unfold getAttr? getAttrBy?;show yr (wpAny_mkText (yr (Xl (qdH (s:={ s with toks:=s.toks+1 }) X I c ?_))));have F:=PySem.W.looks_find (M:=model prog w) X I a;show yr (yt (yr (yt (yr (I.type.here (s:={ s with toks:=s.toks+1 }) (yr (F.here (s:={ s with toks:=s.toks+1 }) ?_)))))));show wpAny _ _ (holding [Value.builtin "object.__class__"] (call (.builtin "getset_descriptor.__get__") [.builtin "object.__class__",.ref x,.ref C])>>=ret) _ _ _;show yr (Yc (X5 (PySem.W.class_get (s:={ s with toks:=s.toks+1 }) X I c.ob ?_)));show yt ?_;show wpAny _ _ (handedOut (.ref C)) _ _ _;show yt (yt h)
theorem findObj_class(c:XAt K C):PySem.W.findObj K C od "__class__"=some (.bind (.builtin "getset_descriptor.__get__") (.builtin "object.__class__")):=by
 obtain⟨a,hc,_⟩:=x0 c.hd;unfold PySem.W.findObj;rw[hc,Option.bind_some,c.cl,Option.bind_some];simp[c.cg,c.ct]
theorem qc2(c:XAt K C):PySem.W.KitX K (.ref x) (.ref C) (fun h=>PySem.W.InstAt h x ox C od) where
 ty:=fun _ _ _ I=>I.type
 it:=fun _ _ X _=>by
  obtain⟨b,hc,_⟩:=x0 c.hd;unfold PySem.W.clsIn at hc;split at hc
  .rename_i c1 d1 cd1 sl1 ho
   intro f i g l k q;unfold isType loadHead;show yr (wpAny_loadPart (k _ _ (X _ _ ho)) (yt q))
  .cases hc
 ne:=fun h d j its n m X a=>by
  obtain⟨b,hc,_⟩:=x0 c.hd;show kK.mpr fun q=>?_;have e:C=d:=Value.ref.inj (Yr.mp q);subst e;unfold PySem.W.clsIn at hc;split at hc
  .rename_i c1 d1 cd1 sl1 ho
   have z:=(X _ _ ho).symm.trans a;cases z
  .cases hc
 ca:=fun X I k=>xclass X I c (findObj_class c) k
end
theorem qca{r:List Value}(e:qeo (.ref c::r)=true):qeo r=true:=by
 cases r with
 | nil=>cases e
 | cons a r=>show e
theorem qcb:∀{l:List Value},qeo l=true->∃ rs:LQ,l=rs.map Value.ref++[.type "ValueError",.type "Exception",.type "BaseException",.type "object"]
 | [],e=>by cases e
 | .ref c::r,e=>by
  obtain⟨rs,q⟩:=qcb (qca e);show⟨c::rs,by rw[q];rfl⟩
 | .type a::r,e=>by
  match r,e with
  | [.type b,.type c,.type d],e =>
   simp only[qeo,yY,Yr] at e;obtain⟨⟨⟨rfl,rfl⟩,rfl⟩,rfl⟩:=e;show⟨[],rfl⟩
theorem refuse_exc(self:Value){l:List Value}(e:qeo l=true):refuseLoop self "__setattr__" l=pure ():=by
 obtain⟨rs,rfl⟩:=qcb e
 induction rs with
 | nil=>show PySem.F.store_ValueError.passes self
 | cons c rs ih=>rw[YH,kR,refuseLoop_ref];show ih (qca e)
section
variable{prog:Program}{w:World}{A:Around}{E:Value->Shared->Prop}{s:Shared}{K:yg}{x C:Addr}{name:Str}{v:Value}{R:Result->Shared->Prop}
theorem xosa(X:K.In s.heap)(I:PySem.W.InstAt s.heap x ox C od)(c:XAt K C)(n:NoAttr K C name)
  (h:wpAny (model prog w) A.in1 (Builtin.ObjectAttr.storeInOwnDict (.ref x) (.ref C) (.str name tk) name v false)
   (fun d b=>match d with | .done f=>R (.ok f) b | .again c'=>c'.quiet=true/\codeAny (model prog w) A c' R b) (fun e b=>R (.error e) b) s) :
  codeAny (model prog w) A (.call (.builtin "object.__setattr__") ⟨[.ref x,.str name tk,v],[]⟩) R s:=by
 have a:=PySem.F.store_object;obtain⟨g,hc,j⟩:=x0 c.mr;have i:PySem.W.Looks (model prog w) s.heap (mroOf (.ref C)) g.mro:=(kx X hc).andThen .now;show xV a.slot.plain a.entry (@PySem.W.check_slot (model prog w) _ _ s "object.__setattr__" "object" "__setattr__" (.ref x) [.str name tk,v] [] _ a.kind a.split (I.type.andThen (xY X c.ob)) (a.args (.ref x) (.str name tk) v) ?_);rw[PySem.W.osa_eq,refuse_eq];show yr (yr (I.type.here (yr (i.here ?_))));rw[refuse_exc _ j];show yt (yr (I.type.here (yr ((xr X n).here (yr (yt ?_))))));show h
theorem xset{vs:Array Value}(X:K.In s.heap)(m:s.heap.get? x=some ⟨.ref C,none,.fields vs,#[]⟩)(c:XAt K C)(n:NoAttr K C name){Q:Unit->Shared->Prop}
  (h:∀ h',h'.get? x=some ⟨.ref C,some s.heap.objs.size,.fields vs,#[]⟩->h'.Ns1 s.heap.objs.size (fun y=>if y=name then some v else none)->(∀ b o,b≠x->s.heap.get? b=some o->h'.get? b=some o) ->
   Q () { s with heap:=h',toks:=s.toks+2 }):wpAny (model prog w) A (setAttr (.ref x) name v) Q E s:=by
 have I:PySem.W.InstAt s.heap x ⟨.ref C,none,.fields vs,#[]⟩ C none:=⟨m,rfl,rfl,Y8⟩;obtain⟨J,hc,F⟩:=x0 c.hd;show PySem.W.set_plain X I c.sa (xosa (s:={ s with toks:=s.toks+1 }) X I c n ?_);show yr (yt (yr (yr (wpAny_loadPart m (yr ((kx X hc).here (s:={ s with toks:=s.toks+1 }) ?_))))));rw[F];obtain⟨a,g,L,tk,N⟩:=s;show wpAny _ _ (alloc { cls:=.type "dict",data:=.dict #[] }>>=fun d=>update x (fun o=>{ cls:=o.cls,dict:=some d,data:=o.data,slots:=o.slots })>>=fun _=>pure (some d)) _ _ _;have l:x≠a.objs.size:=yL (yI m);have i:=yv { cls:=.type "dict",data:=.dict #[] } m;show yr (wpAny_alloc' (yr (wpAny_update' i (yt ?_))));have j:=Yh (fun o:Obj=>{ cls:=o.cls,dict:=some a.objs.size,data:=o.data,slots:=o.slots }) i rfl;have f:=(Heap.get?_update_ne (a.push { cls:=.type "dict",data:=.dict #[] }) a.objs.size x (fun o:Obj=>{ cls:=o.cls,dict:=some a.objs.size,data:=o.data,slots:=o.slots }) l.symm).trans (Heap.get?_push_at rfl rfl);generalize H:(a.push { cls:=.type "dict",data:=.dict #[] }).update x (fun o:Obj=>{ cls:=o.cls,dict:=some a.objs.size,data:=o.data,slots:=o.slots })=h2 at j f ⊢;have nd:h2.Ns a.objs.size (fun _=>none):=⟨_,#[],_,f,rfl,fun e G=>absurd G (by simp),fun _=>rfl⟩;show wpAny _ _ (Builtin.ObjectAttr.storeInDict a.objs.size (.str name tk) name v) _ _ _;unfold Builtin.ObjectAttr.storeInDict Builtin.ObjectAttr.newKeyGuard;show yr (yt (yr (wpAny_nsSet1 (Heap.Ns1.of_empty nd) fun h' u z=>?_)));obtain⟨M,p,B,t,r,q⟩:=u.count (PySem.Within.cons name v PySem.Within.nil);have hz:p.size<=sizeLine:=yi q (by rw[yA,xB,YA];lk);show yr (wpAny_lookBehind t (by rw[r];show pastItsLine_dict (XW hz)) ?_);show yt (h h' ((z.2 x l).trans j) u fun b o D e=>(z.2 b (yL (yI e))).trans ?_);rw[<- H];show(Heap.get?_update_ne _ _ _ _ D).trans (yv _ e)
noncomputable abbrev xfs(a:Addr):Array Value:=#[.ref a,.none,.none,.none,.bool false,.none]
end
section
variable{prog:Program}{w:World}{A:Around}{R:Result->Shared->Prop}{E:Value->Shared->Prop}{h:Heap}{g:Array GenState}{d:Drawn}{t:Nat}{os:OsState}
variable{nm q:Str}{C N:Addr}{bs bm:List Value}{hdct:Bool}{sn:LS}{sub:List Value}{ab:Bool}{col:Option Bool}{dd:Option Addr}{k0 k1 k2 k3 k5:Option Value}
end
noncomputable def XN(e C:Addr)(dx:Option Addr):HO:=.ext fun h=>∃ a,h.get? e=some ⟨.ref C,dx,.fields (xfs a),#[]⟩
noncomputable def XO(e C:Addr)(dx:Option Addr):HO:=.ext fun h=>∃ vs,h.get? e=some ⟨.ref C,dx,.fields vs,#[]⟩
theorem XN.ok{b:Addr}(q:h.get? e=some ⟨.ref C,dx,.fields (xfs b),#[]⟩):ObjOk P w H h e (XN e C dx):=
 ⟨⟨b,q⟩,⟨_,q⟩,fun _ _ ⟨a,x⟩ k=>⟨a,k _ x⟩⟩
def IsX(H:Hp)(e C:Addr)(dx:Option Addr):Prop:=H e=some (XN e C dx)\/H e=some (XO e C dx)
theorem IsX.get(q:IsX H e C dx)(b:HOk P w H h):∃ vs,h.get? e=some ⟨.ref C,dx,.fields vs,#[]⟩:=by
 rcases q with q | q
 .obtain⟨⟨a,x⟩,_⟩:=(show ObjOk P w H h e (XN e C dx) from b e _ q);show⟨_,x⟩
 .obtain⟨⟨a,x⟩,_⟩:=(show ObjOk P w H h e (XO e C dx) from b e _ q);show⟨_,x⟩
section
variable{X:Cx}{pins:List (Addr×Obj)}{σ:St}{H:Hp}{s:Shared}{e C:Addr}{dx:Option Addr}
theorem qep(I:Inv X pins σ H s){d:Addr}{fs:List (Str×V)}(h:H d=some (.xd fs)):∃(od:Obj) (a:Str->Option Value),s.heap.get? d=some od/\(∀ name,PySem.W.lookIn name od=some (a name))/\∀ f,RelO (fs.lookup f) (a f):=by
 obtain⟨a,n,r⟩:=(show ObjOk X.prog X.w H s.heap d (.xd fs) from I.hok d _ h);obtain⟨od,h1,b⟩:=qbW n;show⟨od,a,h1,b,r⟩
end
section
variable{X:Cx}{pins:List (Addr×Obj)}{σ:St}{H:Hp}{s:Shared}{a d:Addr}{h':Heap}{o u:HO}{t':Nat}
theorem Inv.both(I:Inv X pins σ H s)(i:Mut (H a))(l:s.heap.objs.size<=d)(k:∀ b v,b≠a->s.heap.get? b=some v->h'.get? b=some v)(m:∃ v,h'.get? a=some v)
  (p:ObjOk X.prog X.w (upd (upd H d u) a o) h' a o) (t:ObjOk X.prog X.w (upd (upd H d u) a o) h' d u) (ne:d≠a):Inv X pins σ (upd (upd H d u) a o) { s with heap:=h',toks:=t' }:=by
 have nd:H d=none:=I.hok.fresh l;have g:∀ b q,H b=some q->¬ Mut (some q)->b≠a:=fun b q e x z=>by subst z;rw[e] at i;show x i
 have j:∀ b,H b=none->b≠a:=fun b e z=>by subst z;rw[e] at i;show i
 have big:∀ b v,s.heap.get? b=some v->b≠d:=fun b v e=>yL (yj (yI e) l);have up:∀ b q,H b=some q->b≠a->upd (upd H d u) a o b=some q:=fun b q e n=>by rw[qf n,qf (qu e nd)];show e
 show I.un ⟨fun b v e n _ _=>k b v (j b n) e,fun b v e n _ _=>⟨v.slots,k b v (j b n) e⟩,fun b v e n _=>by rw[qf (j b n),qf (big b v e)];show n,fun b v e _=>?_,fun b xs e=>up b _ e (g b _ e fun z=>z),fun b q xs e=>up b _ e (g b _ e fun z=>z),
  fun b y e=>⟨#[],by rw[up b _ e (g b _ e fun z=>z)];simp⟩⟩ fun b q e=>?_
 .by_cases f:b=a
  .subst f;show m
  .show⟨v,k b v f e⟩
 .by_cases f:b=a
  .subst f;rw[qb] at e;cases e;show p
  .rw [qf f] at e;by_cases h:b=d
   .subst h;rw[qb] at e;cases e;show t
   .rw [qf h] at e;show(I.hok b q e).stay (fun c v hc r=>k c v ?_ r) (fun c r=>up c _ r (g c _ r fun z=>z)) fun c xs r=>up c _ r (g c _ r fun z=>z);rcases hc with rfl | hc
    .show f
    .show g c _ hc fun z=>z
end
inductive FldR(K:yg)(f:Str)(x:V)(H:Hp)(Q:VK):Prop|mk (a C dx:Addr) (fs:List (Str×V)) (v:V) (_:x=.ref a) (_:H a=some (.ins C dx fs)) (_:Cls K C) (_:NoAttr K C f) (_:fs.lookup f=some v) (_:Q v H)
inductive XFlR(K:yg)(f:Str)(x:V)(H:Hp)(Q:VK):Prop|mk (a C dx:Addr) (fs:List (Str×V)) (v:V) (_:x=.ref a) (_:IsX H a C (some dx)) (_:XAt K C) (_:NoAttr K C f) (_:H dx=some (.xd fs)) (_:fs.lookup f=some v) (_:Q v H)
inductive FlUR(K:yg)(f:Str)(x:V)(H:Hp)(Q:VK):Prop | inl (_:FldR K f x H Q) | inr (_:XFlR K f x H Q)
inductive SFdR(K:yg)(f:Str)(x y:V)(H:Hp)(k:Hp->Prop):Prop|mk (a C dx:Addr) (fs:List (Str×V)) (_:x=.ref a) (_:H a=some (.ins C dx fs)) (_:Cls K C) (_:NoAttr K C f) (_:fs.length<1000) (_:k (upd H a (.ins C dx (qH f y fs))))
inductive SXdR(K:yg)(f:Str)(x y:V)(H:Hp)(k:Hp->Prop):Prop|mk (a C:Addr) (_:x=.ref a) (_:H a=some (XN a C none)) (_:XAt K C) (_:NoAttr K C f) (_:∀ dx,H dx=none->k (upd (upd H dx (.xd [(f,y)])) a (XN a C (some dx))))
inductive SFUR(K:yg)(f:Str)(x y:V)(H:Hp)(k:Hp->Prop):Prop | inl (_:SFdR K f x y H k) | inr (_:SXdR K f x y H k)
def qfg(K:yg)(b:TE)(f:Str):TE:=fun σ H Q=>b σ H fun x a=>FlUR K f x a Q
def qfh(K:yg)(c d:TE)(f:Str):TS:=fun D σ H=>d σ H fun y a=>c σ a fun x b=>SFUR K f x y b (D.nx σ)
section
variable{X:Cx}{o e value:Expr}{f:Str}{pos pos':Pos}{ta tv:TE}{K:yg}
theorem qC(w:X.K=K)(A:PE X e ta)(y:attributeBase e f X.env (eval e X.env)=eval e X.env):PE X (.Attribute e f pos) (qfg K ta f):=by
 subst w;intro pins s σ H Q I h;show attr_of y (thn (A pins s σ H _ I h) fun u F ⟨x,j,b,m,i⟩=>?_);rcases i with⟨a,C,dx,fs,v,rfl,g,c,n,l,q⟩ | ⟨a,C,dx,fs,v,rfl,g,c,n,z,l,q⟩
 .obtain rfl:u=Value.ref a:=m;show getattr_ok b g c n l fun E G p d=>⟨v,j,p,d,q⟩
 .obtain rfl:u=Value.ref a:=m;obtain⟨vs,i⟩:=g.get b.hok;obtain⟨od,D,h1,t,r⟩:=qep b z;obtain⟨E,B,d⟩:=RelO.some_of (v:=v) (o:=D f) (by rw[<- l];show r f);show xget b.kIn (od:=some od) ⟨i,rfl,rfl,h1⟩ c (PySem.W.findObj_own c.hd n rfl (by rw[t,B])) (qbX d) ⟨v,j,b.tok _,d,q⟩
theorem j3(J:X.K=K)(L:PE X o ta)(hv:PE X value tv)(N:swapsWith value (some (.Attribute o f pos')) pos.line X.env=pure false):PS X (.Assign [.Attribute o f pos'] value pos) (qfh K ta tv f):=by
 subst J;intro pins s σ H D I h;show plainObj_wpAny_Assign_Attribute (thn (hv pins s σ H _ I h) fun u O ⟨y,A,B,z,q⟩=>thn (L pins O σ A _ B q) fun t i ⟨x,p,b,v,e⟩=>?_) N;rcases e with⟨a,C,dx,fs,rfl,d,c,n,l,m⟩ | ⟨a,C,rfl,d,c,n,m⟩
 .obtain rfl:t=Value.ref a:=v;show setattr_ok b d c n l z fun R E=>⟨σ,_,E,m⟩
 .obtain rfl:t=Value.ref a:=v;obtain⟨⟨P,e⟩,_⟩:=(show ObjOk X.prog X.w p i.heap a (XN a C none) from b.hok a _ d);show xset b.kIn e c n fun h' r F G=>?_;have nd:p i.heap.objs.size=none:=b.hok.fresh (yh _);have ne:i.heap.objs.size≠a:=Yg (yI e);show⟨σ,_,b.both (o:=XN a C (some i.heap.objs.size)) (u:=.xd [(f,y)]) (by rw[d];show Y8) (yh _) G ⟨_,r⟩ (XN.ok r) ⟨_,F,fun g=>?_⟩ ne,m _ nd⟩;by_cases j:g=f
  .subst j;simp only[List.lookup,Xa,X9];show z
  .have M:(g==f)=false:=YU.mpr j;simp only[List.lookup,M,yE j];show Y8
end
def tXMake(C:Addr)(sp:Sp)(E:XK)(t:TA):TE:=fun σ H Q=>t σ H fun vs a=>vs.length<=1000/\∀ x,a x=none->sp (.ref x::vs) (upd a x (XN x C none)) (fun v b=>v=.non/\Q (.ref x) b) E
structure XMk(K:yg)(C f:Addr):Prop where
 at_:XAt K C
 init:PySem.W.findIn K (.ref C) "__init__"=some (some (.ref f))
 fn:PySem.W.isFn K (.ref f)=true
 kp:PySem.W.keepIn K (.ref C)=true
section
variable{X:Cx}{CX:CXT}{k:Nat}{f C:Addr}{fd:FuncData}{ps:LS}{sp:Sp}{E:XK}{x m:Str}{p pos apos:Pos}{e o:Expr}{es:List Expr}{ta:TE}{t:TA}
structure CMeth(K:yg)(C:Addr)(m:Str)(f:Addr):Prop where
 rd:PySem.W.readsIn K C (.type "type")=true
 at_:PySem.W.findCls K (.ref C) (.type "type") m=some (.val (.ref f))
 ga:PySem.W.specialIn K (.ref C) "__getattribute__"=some (some (.builtin "type.__getattribute__"))
 kp:PySem.W.keepIn K (.ref f)=true
end
def tVinit(K:yg)(t:TA):TE:=fun σ H Q=>t σ H fun vs b=>∃ a C y,vs=[.ref a,y]/\b a=some (XN a C none)/\XAt K C/\Q .non b
structure VInit(K:yg):Prop where
 ga:PySem.W.findIn K (.type "type") "__getattribute__"=some (some (.builtin "type.__getattribute__"))
 su:PySem.W.subIn K (.type "type") (.type "type")=some true
 at_:PySem.W.findCls K (.type "ValueError") (.type "type") "__init__"=some (.val (.builtin "ValueError.__init__"))
section
variable{X:Cx}{p pos apos:Pos}{e:Expr}{es:List Expr}{t:TA}{K:yg}
end
structure Keep(fs zs:LQ)(h h':Heap):Prop where
 keep:∀ b o,h.get? b=some o->b∉zs->b∉fs->h'.get? b=some o
 slot:∀ b o,h.get? b=some o->b∉zs->b∈fs->∃ sl,h'.get? b=some { o with slots:=sl }
structure Trc(h:Heap)(e:Addr)(C:Value)(dx:Option Addr)(T:Addr)(fl:Value):Prop where
 ex:∃ vs,h.get? e=some ⟨C,dx,.fields vs,#[]⟩/\vs[1]?=some (.ref T)/\vs[2]?=some .none
 tb:∃ ts,h.get? T=some ⟨.type "traceback",none,.fields ts,#[]⟩/\ts[3]?=some fl
 ne:T≠e
section
variable{M:Model}{A:Around}{E:Value->Shared->Prop}{s:Shared}{base:Heap}{env:Env}{outer:List Env}{L e:Addr}{C:Value}{dx:Option Addr}{vs:Array Value}
end
def CX1(P:Program)(w:World):CXT:=fun b H s E d c=>∃(a C:Addr) (dx:Option Addr) (T:Addr) (H':Hp),d=.ref a/\c.os=s.os/\AllBare c.gens/\Un (frs b) [] H H' s.heap c.heap/\HOk P w H' c.heap /\
 H' a=some (XO a C dx)/\Trc c.heap a (.ref C) dx T .none/\s.heap.objs.size<=T/\H' T=none/\E (.ref C) dx H'
section
variable{X:Cx}{pins:List (Addr×Obj)}{σ:St}{H:Hp}{s:Shared}
end
structure XOk(X:Cx)(EK:St->XK):Prop where
 pass:∀(pins:List (Addr×Obj)) (σ:St) (H:Hp) (s:Shared) (e:Value) (s':Shared),Inv X pins σ H s->CX1 X.prog X.w X.stack H s (EK σ) e s'->X.xe e s'
 rais:∀(pins:List (Addr×Obj)) (σ:St) (H:Hp) (s:Shared) (a C:Addr) (dx:Option Addr),Inv X pins σ H s->H a=some (XN a C dx)->EK σ (.ref C) dx (upd H a (XO a C dx))->X.xe (.ref a) s
 calm:X.calm=true
section
variable{P:Program}{w:World}{K:yg}{mg:Str->Option Value}{base:Heap}{N:LS}{qual:Str}{scope:Scope}{f:Addr}{cd:Value}{A:Around}{outer:List Env}{s0:Shared}{H0:Hp}{E:XK}
end
def tRaise(K:yg)(c:St->XK)(te:TE):TS:=fun _ σ H=>te σ H fun x b=>∃ a C dx,x=.ref a/\b a=some (XN a C dx)/\XAt K C/\c σ (.ref C) dx (upd b a (XO a C dx))
section
variable{X:Cx}{EK:St->XK}{e:Expr}{te:TE}{pos:Pos}{K:yg}
end
def tCallS(sp:Sp)(a:St->XK)(t:TA):TE:=fun σ H Q=>t σ H fun vs b=>sp vs b Q (a σ)
def tMethS(C:Addr)(m:Str)(sp:Sp)(b:St->XK)(d:TE)(t:TA):TE:=fun σ H Q=>d σ H fun x a=>MeR C m x a (t σ a fun vs c=>sp (x::vs) c Q (b σ))
def tMakeS(C:Addr)(sp:Sp)(b:St->XK)(t:TA):TE:=fun σ H Q=>t σ H fun vs a=>∀ x dx,a x=none->a dx=none->dx≠x ->
 sp (.ref x::vs) (upd (upd a dx (.own x)) x (.ins C dx [])) (fun v c=>v=.non/\Q (.ref x) c) (b σ)
structure MethOk(P:Program)(w:World)(K:yg)(mg:Str->Option Value)(base:Heap)(CX:CXT)(k:Nat)(C:Addr)(m:Str)(ps:LS)(sp:Sp):Prop where
 ex:∃ f fd,FnOk P w K mg base CX k f fd ps sp/\Meth K C m f/\Binds K fd ps []
 cl:Cls K C
structure MakeOk(P:Program)(w:World)(K:yg)(mg:Str->Option Value)(base:Heap)(CX:CXT)(k:Nat)(C:Addr)(x:Str)(ps:LS)(sp:Sp):Prop where
 ex:∃ f fd,FnOk P w K mg base CX k f fd ps sp/\Mk K C f/\Binds K fd ps []
 mg_:mg x=some (.ref C)
structure XMakeOk(P:Program)(w:World)(K:yg)(mg:Str->Option Value)(base:Heap)(k:Nat)(C:Addr)(x:Str)(ps:LS)(sp:Sp):Prop where
 ex:∃ f fd,FnOk P w K mg base CX0 k f fd ps sp/\XMk K C f/\Binds K fd ps []
 mg_:mg x=some (.ref C)
section
variable{X:Cx}{EK:St->XK}{k:Nat}{f C:Addr}{fd:FuncData}{ps:LS}{sp:Sp}{x m:Str}{p pos apos:Pos}{e o:Expr}{es:List Expr}{ta:TE}{t:TA}
theorem qK{pl:Sem Bool}(D:MethOk X.prog X.w X.K X.mg X.base CX0 k C m ps sp)(i:Room k X.A)(g:PE X o ta)(c:PA X (e::es) t)
  (b:starEach (e::es) X.env=(false,eval e X.env)::starEach es X.env:=by rfl) (a:(backTo pos (starEach es X.env)).any (·.1)=false:=by rfl)
  (j:eval (.Call (.Attribute o m apos) (e::es) [] pos) X.env=(do
   let ov <- eval o X.env
   standAt apos.atName
   let (f,first) <- holding [ov] (getMethod ov m pl)
   callWith pos f first (backTo pos (starEach (e::es) X.env)) (backToKw pos (keywordEach [] X.env))):=by rfl) :
  PE X (.Call (.Attribute o m apos) (e::es) [] pos) (qdx C m sp [] E0 ta t):=by
 obtain⟨f,fd,F,h,d⟩:=D.ex;show pe_meth (pl:=pl) g D.cl h F i d .nil qz c b a j
theorem jG{pl:Sem Bool}(D:MethOk X.prog X.w X.K X.mg X.base CX0 k C m ps sp)(d:Room k X.A)(b:PE X o ta)
  (e:eval (.Call (.Attribute o m apos) [] [] pos) X.env=(do
   let ov <- eval o X.env
   standAt apos.atName
   let (f,first) <- holding [ov] (getMethod ov m pl)
   callWith pos f first (backTo pos (starEach [] X.env)) (backToKw pos (keywordEach [] X.env))):=by rfl) :
  PE X (.Call (.Attribute o m apos) [] [] pos) (qdx C m sp [] E0 ta qfz):=by
 obtain⟨f,fd,F,c,a⟩:=D.ex;show pe_meth0 (pl:=pl) b D.cl c F d a .nil qz e
end
section
variable{P:Program}{w:World}{K:yg}{mg:Str->Option Value}{base:Heap}
end
noncomputable abbrev Cx.tried(X:Cx)(pn:List (Addr×Obj))(E:Value->Shared->Prop):Cx:={ X with pn:=pn,xe:=E }
noncomputable abbrev Cx.hand(X:Cx)(a:Addr):Cx:={ X with A:=X.A.mark (some (.ref a)),calm:=false,xe:=fun _ _=>False }
section
variable{X:Cx}{pins pins':List (Addr×Obj)}{σ:St}{H:Hp}{s:Shared}{E:Value->Shared->Prop}{a:Addr}
structure Loose(X:Cx)(pins:List (Addr×Obj))(H:Hp)(T:Addr):Prop where
 hn:H T=none
 lo:X.s₀.heap.objs.size<=T
 nl:T≠X.env.locals
 nf:T∉X.fs
 nc:∀ x c,X.env.cells.lookup x=some c->c≠T
 np:∀ p∈X.pn++pins,p.1≠T
end
structure Held(X:Cx)(pins:List (Addr×Obj))(H:Hp)(h:Heap)(a C:Addr)(dx:Option Addr):Prop where
 at_:H a=some (XO a C dx)
 tr:∃ T,Trc h a (.ref C) dx T .none/\Loose X pins H T
section
variable{X:Cx}{a C D:Addr}{dx:Option Addr}{c n:Str}{cp pos:Pos}{b0:Stmt}{body:List Stmt}{qbR:List ExceptHandler}{tb tr:TS}{i:Nat}{K:yg}
end
section
variable{X:Cx}{body orelse:List Stmt}{h0:ExceptHandler}{hs:List ExceptHandler}{pos:Pos}{te:TS}
end
def TyX(K:yg)(H:Hp)(x:V)(t:Value):Prop:=TyOf K H x t\/∃ a C dx,x=.ref a/\t=.ref C/\IsX H a C dx/\XAt K C/\∀ d,dx=some d->∃ fs,H d=some (.xd fs)
theorem TyX.kit{x:V}(I:Inv X pins σ H s)(e:RelV x u)(ty:TyX X.K H x t):∃ P:Heap->Prop,PySem.W.KitX X.K u t P/\P s.heap/\u≠.builtin "__main__.__loader__#opaque":=by
 rcases ty with ty | ⟨a,C,dx,rfl,rfl,hx,c,hd⟩
 .show ty.kit I e
 .cases e;obtain⟨vs,b⟩:=hx.get I.hok
  cases dx with
  | none=>show⟨_,qc2 (od:=none) c,⟨b,rfl,rfl,Y8⟩,fun z=>nomatch z⟩
  | some d =>
   obtain⟨fs,f⟩:=hd d rfl;obtain⟨od,g,h1,_⟩:=qep I f;show⟨_,qc2 (od:=some od) c,⟨b,rfl,rfl,h1⟩,fun z=>nomatch z⟩
def qfi(K:yg):List V->Hp->VK->Prop:=fun xs H Q=>∃ x y t c b,xs=[x,y]/\TyX K H x t/\qb9 y=some c/\PySem.W.kitOne K t c=some b/\Q (.bl b) H
def qeq(K:yg):List V->Hp->VK->Prop:=fun xs H Q=>∃ x p ys t a b,xs=[x,.ref p]/\TyX K H x t/\H p=some (.tup ys)/\ys.map qb9=a.map some/\PySem.W.kitAny K t a=some b/\Q (.bl b) H
section
variable{X:Cx}{K:yg}
theorem zL(a:X.K=K):zO X (.builtin "isinstance") (qfi K):=by
 subst a;intro pins s σ H xs us Q I r h;obtain⟨x,y,t,c,b,rfl,ty,f,d,q⟩:=h;obtain⟨u,v,rfl,g,i⟩:=qdw r;have e:=qbz f i;subst e;obtain⟨P,Z,p,ne⟩:=ty.kit I g;show PySem.W.kia_one Z I.kIn p d ne fun tk=>⟨.bl b,H,I.tok tk,rfl,q⟩
theorem qdI(i:X.K=K):zO X (.builtin "isinstance") (qeq K):=by
 subst i;intro pins s σ H xs us Q I r h;obtain⟨x,p,ys,t,C,b,rfl,ty,y,z,j,q⟩:=h;obtain⟨u,v,rfl,B,f⟩:=qdw r;cases f;obtain⟨P,Z,A,ne⟩:=ty.kit I B;obtain⟨_,its,f,o,m,hc,n,l⟩:=(show ObjOk X.prog X.w H s.heap p (.tup ys) from I.hok p _ y);have e:=qbi z f;subst e;obtain⟨c,D,g,E⟩:=o;have a:c=.type "tuple":=hc;have d:g=.seq its.toArray n:=l;subst a d;show PySem.W.kia_tup Z I.kIn A m j ne fun tk=>⟨.bl b,H,I.tok tk,rfl,q⟩
end
mutual
inductive EqD(K:yg)(H:Hp):Nat->V->V->Bool->Prop
 | flat {n:Nat} {x y:V} (fx:qar x=true) (fy:qar y=true):EqD K H n x y (eqV x y)
 | self {n:Nat} {a:Addr}:EqD K H n (.ref a) (.ref a) true
 | deep {n:Nat} {a b:Addr} {k:Bool} (h:EqT K H n a b k) (ne:a≠b):EqD K H n (.ref a) (.ref b) k
inductive EqT(K:yg)(H:Hp):Nat->Addr->Addr->Bool->Prop
 | lst {n:Nat} {a b:Addr} {xs ys:List V} {e:Nat->Bool} (ha:SqL K H a xs) (hb:SqL K H b ys) (hl:xs.length=ys.length) (he:∀ j x y,xs[j]?=some x->ys[j]?=some y->EqD K H n x y (e j)):EqT K H (n+1) a b ((List.range xs.length).all e)
 | lstL {n:Nat} {a b:Addr} {xs ys:List V} (ha:SqL K H a xs) (hb:SqL K H b ys) (hl:xs.length≠ys.length):EqT K H (n+1) a b false
 | tup {n:Nat} {a b:Addr} {xs ys:List V} {e:Nat->Bool} (ha:SqT K H a xs) (hb:SqT K H b ys) (he:∀ j x y,xs[j]?=some x->ys[j]?=some y->EqD K H n x y (e j)):EqT K H (n+1) a b ((List.range (min xs.length ys.length)).all e&&xs.length==ys.length)
 | lt {n:Nat} {a b:Addr} {xs ys:List V} (ha:SqL K H a xs) (hb:SqT K H b ys):EqT K H (n+1) a b false
 | tl {n:Nat} {a b:Addr} {xs ys:List V} (ha:SqT K H a xs) (hb:SqL K H b ys):EqT K H (n+1) a b false
end
theorem ju:∀{xs:List V} {us:List Value} {j:Nat} {u:Value},Vals xs us->us[j]?=some u->∃ x,xs[j]?=some x/\RelV x u
 | _,_,_,_,.nil,e=>by simp at e
 | _,_,0,_,.cons r _,e=>by simp at e;subst e;show⟨_,rfl,r⟩
 | _,_,j+1,u,.cons _ t,e=>by
  obtain⟨x,h1,a⟩:=ju (j:=j) (u:=u) t (by simpa using e);show⟨x,by simpa using h1,a⟩
section
variable{X:Cx}{pins:List (Addr×Obj)}{σ:St}{H:Hp}{s:Shared}
theorem qcB(I:Inv X pins σ H s):∀ n,(∀(A:Around) (x y:V) (k:Bool) (u v:Value),EqD X.K H n x y k->RelV x u->RelV y v->A.units+n<cLine->SeqAt.EqAt A s u v k)/\(∀(A:Around) (a b:Addr) (k:Bool),EqT X.K H n a b k->A.units+n<cLine->SeqAt.RcAt A s (.ref a) (.ref b) k):=by
 intro n
 induction n with
 | zero =>
  have F:∀(A:Around) (a b:Addr) (k:Bool),EqT X.K H 0 a b k->A.units+0<cLine->SeqAt.RcAt A s (.ref a) (.ref b) k:=fun A a b k h=>by cases h
  show⟨fun A x y k u v h g i z=>?_,F⟩
  cases h with
  | flat fx fy=>show qdB g i fx fy
  | self=>cases g;cases i;show kj _
  | deep h ne=>cases h
 | succ n ih =>
  have D:∀(A:Around) (a b:Addr) (k:Bool),EqT X.K H (n+1) a b k->A.units+(n+1)<cLine->SeqAt.RcAt A s (.ref a) (.ref b) k:=fun A a b k h z=>by
   have f:A.units<cLine:=by lk
   have o:A.in1.units+n<cLine:=by show A.units+1+n<cLine;lk
   cases h with
   | @lst _ _ _ xs ys e ha hb hl he =>
    obtain⟨its,r,pl,hz⟩:=I.list ha;obtain⟨c,m,d,l⟩:=I.list hb;have p:xs.length=its.toArray.size:=by rw[yx];show r.length
    have q:ys.length=c.toArray.size:=by rw[yx];show m.length
    rw[p];show SeqAt.RcAt.lists pl.isList d.isList (by rw[<- p,<- q,hl]) f fun j h1 E=>?_;have t:its[j]?=some its.toArray[j]:=by simp
    have w:c[j]?=some c.toArray[j]:=by simp
    obtain⟨x,B,g⟩:=ju r t;obtain⟨y,C,i⟩:=ju m w;show ih.1 A.in1 x y (e j) _ _ (he j x y B C) g i o
   | @lstL _ _ _ xs ys ha hb hl =>
    obtain⟨its,r,pl,hz⟩:=I.list ha;obtain⟨c,m,d,l⟩:=I.list hb;show SeqAt.RcAt.lists_lengths pl.isList d.isList ?_ f;rw[yx,yx,<- r.length,<- m.length];simp[hl]
   | @tup _ _ _ xs ys e ha hb he =>
    obtain⟨its,r,pl,hz⟩:=I.tuple ha;obtain⟨c,m,d,l⟩:=I.tuple hb;have p:xs.length=its.toArray.size:=by rw[yx];show r.length
    have q:ys.length=c.toArray.size:=by rw[yx];show m.length
    rw[p,q];show SeqAt.RcAt.tuples pl d f fun j h1 E=>?_;have t:its[j]?=some its.toArray[j]:=by simp
    have w:c[j]?=some c.toArray[j]:=by simp
    obtain⟨x,B,g⟩:=ju r t;obtain⟨y,C,i⟩:=ju m w;show ih.1 A.in1 x y (e j) _ _ (he j x y B C) g i o
   | lt ha hb =>
    obtain⟨its,r,pl,hz⟩:=I.list ha;obtain⟨c,m,d,l⟩:=I.tuple hb;show SeqAt.RcAt.list_tuple pl.isList d f
   | tl ha hb =>
    obtain⟨its,r,pl,hz⟩:=I.tuple ha;obtain⟨c,m,d,l⟩:=I.list hb;show SeqAt.RcAt.tuple_list pl d.isList f
  show⟨fun A x y k u v h g i z=>?_,D⟩
  cases h with
  | flat fx fy=>show qdB g i fx fy
  | self=>cases g;cases i;show kj _
  | deep h ne=>cases g;cases i;show SeqAt.EqAt.of_refs ne (D A _ _ k h z)
theorem ne_refs(I:Inv X pins σ H s){n:Nat}{A:Around}{a b:Addr}{k:Bool}(h:EqT X.K H n a b k)(z:A.units+n<cLine):SeqAt.RcNeAt A s (.ref a) (.ref b) (!k):=by
 cases n with
 | zero=>cases h
 | succ n =>
  have v:=qcB I n;have f:A.units<cLine:=by lk
  have l:A.in1.units+n<cLine:=by show A.units+1+n<cLine;lk
  cases h with
  | @lst _ _ _ xs ys e ha hb hl he =>
   obtain⟨its,r,pl,hz⟩:=I.list ha;obtain⟨c,i,d,g⟩:=I.list hb;have m:xs.length=its.toArray.size:=by rw[yx];show r.length
   have o:ys.length=c.toArray.size:=by rw[yx];show i.length
   rw[m];show SeqAt.RcNeAt.lists pl.isList d.isList (by rw[<- m,<- o,hl]) f fun j h1 w=>?_;obtain⟨x,p,t⟩:=ju r (show its[j]?=some its.toArray[j] by simp);obtain⟨y,q,u⟩:=ju i (show c[j]?=some c.toArray[j] by simp);show v.1 A.in1 x y (e j) _ _ (he j x y p q) t u l
  | @lstL _ _ _ xs ys ha hb hl =>
   obtain⟨its,r,pl,hz⟩:=I.list ha;obtain⟨c,i,d,g⟩:=I.list hb;show SeqAt.RcNeAt.lists_lengths pl.isList d.isList ?_ f;rw[yx,yx,<- r.length,<- i.length];simp[hl]
  | @tup _ _ _ xs ys e ha hb he =>
   obtain⟨its,r,pl,hz⟩:=I.tuple ha;obtain⟨c,i,d,g⟩:=I.tuple hb;have m:xs.length=its.toArray.size:=by rw[yx];show r.length
   have o:ys.length=c.toArray.size:=by rw[yx];show i.length
   rw[m,o];show SeqAt.RcNeAt.tuples pl d f fun j h1 w=>?_;obtain⟨x,p,t⟩:=ju r (show its[j]?=some its.toArray[j] by simp);obtain⟨y,q,u⟩:=ju i (show c[j]?=some c.toArray[j] by simp);show v.1 A.in1 x y (e j) _ _ (he j x y p q) t u l
  | lt ha hb =>
   obtain⟨its,r,pl,hz⟩:=I.list ha;obtain⟨c,i,d,g⟩:=I.tuple hb;show SeqAt.RcNeAt.list_tuple pl.isList d f
  | tl ha hb =>
   obtain⟨its,r,pl,hz⟩:=I.tuple ha;obtain⟨c,i,d,g⟩:=I.list hb;show SeqAt.RcNeAt.tuple_list pl d.isList f
theorem qer{A:Around}{x y:V}{u v:Value}(e:RelV x u)(c:RelV y v)(f:qar x=true)(d:qar y=true):SeqAt.RcAt A s u v (eqV x y)/\SeqAt.RcNeAt A s u v (!eqV x y):=by
 cases x with
 | non =>
  cases e
  cases y with
  | non=>cases c;show⟨SeqAt.RcAt.none_none,SeqAt.RcNeAt.none_none⟩
  | bl b=>cases c;show⟨SeqAt.RcAt.none_bool b,SeqAt.RcNeAt.none_bool b⟩
  | int b=>obtain⟨t,rfl⟩:=c;show⟨SeqAt.RcAt.none_int b t,SeqAt.RcNeAt.none_int b t⟩
  | str b=>obtain⟨t,rfl⟩:=c;show⟨SeqAt.RcAt.none_str b t,SeqAt.RcNeAt.none_str b t⟩
  | _=>cases d
 | bl a =>
  cases e
  cases y with
  | non=>cases c;show⟨SeqAt.RcAt.bool_none a,SeqAt.RcNeAt.bool_none a⟩
  | bl b=>cases c;show⟨SeqAt.RcAt.bool_bool a b,SeqAt.RcNeAt.bool_bool a b⟩
  | int b=>obtain⟨t,rfl⟩:=c;show⟨SeqAt.RcAt.bool_int a b t,SeqAt.RcNeAt.bool_int a b t⟩
  | str b=>obtain⟨t,rfl⟩:=c;show⟨SeqAt.RcAt.bool_str a b t,SeqAt.RcNeAt.bool_str a b t⟩
  | _=>cases d
 | int a =>
  obtain⟨t',rfl⟩:=e
  cases y with
  | non=>cases c;show⟨SeqAt.RcAt.int_none a t',SeqAt.RcNeAt.int_none a t'⟩
  | bl b=>cases c;show⟨SeqAt.RcAt.int_bool a t' b,SeqAt.RcNeAt.int_bool a t' b⟩
  | int b=>obtain⟨t,rfl⟩:=c;show⟨SeqAt.RcAt.int_int a t' b t,SeqAt.RcNeAt.int_int a t' b t⟩
  | str b=>obtain⟨t,rfl⟩:=c;show⟨SeqAt.RcAt.int_str a t' b t,SeqAt.RcNeAt.int_str a t' b t⟩
  | _=>cases d
 | str a =>
  obtain⟨t',rfl⟩:=e
  cases y with
  | non=>cases c;show⟨SeqAt.RcAt.str_none a t',SeqAt.RcNeAt.str_none a t'⟩
  | bl b=>cases c;show⟨SeqAt.RcAt.str_bool a t' b,SeqAt.RcNeAt.str_bool a t' b⟩
  | int b=>obtain⟨t,rfl⟩:=c;show⟨SeqAt.RcAt.str_int a t' b t,SeqAt.RcNeAt.str_int a t' b t⟩
  | str b=>obtain⟨t,rfl⟩:=c;show⟨SeqAt.RcAt.str_str a t' b t,SeqAt.RcNeAt.str_str a t' b t⟩
  | _=>cases d
 | _=>cases f
end
def qeZ(K:yg)(c:Bool):R2:=fun x y H Q=>(qar x=true/\qar y=true/\Q (.bl (if c then !eqV x y else eqV x y)) H) \/
 (∃ a b k n,x=.ref a/\y=.ref b/\n<=60/\EqT K H n a b k/\Q (.bl (if c then !k else k)) H) \/
 (∃ a kvs,x=.ref a/\y=.ref a/\H a=some (.dK kvs)/\Q (.bl (!c)) H)
theorem qbj{b:Type}[DecidableEq b]:∀{a:List (b×Value)} {k:b} {v:Value},(a.map (·.1)).Nodup->(k,v)∈a->valueAt a k=some v
 | [],_,_,_,h=>by cases h
 | (k',v')::r,k,v,hn,h=>by
  obtain⟨h1,c⟩:=yo.mp (show(k'::r.map (·.1)).Nodup from hn);unfold valueAt;rw[xN];by_cases e:k'=k
  .subst e;simp only[decide_true];rcases yz.mp h with z | z
   .cases z;rfl
   .show absurd (Yq.mpr ⟨(k',v),z,rfl⟩) h1
  .simp only[e,Kg];rcases yz.mp h with z | z
   .cases z;show absurd rfl e
   .show qbj c z
theorem qcC{A:Around}{s:Shared}{c:Type}[DecidableEq c](a:List (c×Value))(d:(a.map (·.1)).Nodup):∀ f:List (c×Value),(∀ p∈f,p∈a)->PySem.W.KeqHits A s a f true
 | [],_=>.nil
 | (k,v)::r,h=>by
  have hv:valueAt a k=some v:=qbj d (h (k,v) yR);show .hit (e:=true) (b:=true) hv (kj v) (qcC a d r fun p g=>h p (yB _ g))
section
variable{X:Cx}{K:yg}
theorem k_eqU(m:X.K=K)(p:X.A.units+100<cLine):OpR X (compareOp .Eq) (qeZ K false):=by
 subst m;intro pins s σ H x y u v Q I c f h;rcases h with⟨j,l,q⟩ | ⟨a,b,k,n,rfl,rfl,o,e,q⟩ | ⟨a,kvs,rfl,rfl,i,q⟩
 .show(qer c f j l).1 _ _ _ _ ⟨.bl _,H,I,rfl,q⟩
 .cases c;cases f;show(qcB I n).2 X.A a b k e (by lk) _ _ _ _ ⟨.bl _,H,I,rfl,q⟩
 .cases c;cases f;obtain⟨_,g,vs,r,d⟩:=(show ObjOk X.prog X.w H s.heap a (.dK kvs) from I.hok a _ i);obtain⟨_,_,_,_,_,_,_,_,nd⟩:=id d;show PySem.W.keq_eq g g d d (by lk) (fun _=>qcC vs nd vs fun _ h=>h) ?_;rw[Xa];show⟨.bl true,H,I,rfl,q⟩
theorem zw(m:X.K=K)(p:X.A.units+100<cLine):OpR X (compareOp .NotEq) (qeZ K true):=by
 subst m;intro pins s σ H x y u v Q I c f h;rcases h with⟨j,l,q⟩ | ⟨a,b,k,n,rfl,rfl,o,e,q⟩ | ⟨a,kvs,rfl,rfl,i,q⟩
 .show(qer c f j l).2 _ _ _ _ ⟨.bl _,H,I,rfl,q⟩
 .cases c;cases f;show ne_refs I e (by lk) _ _ _ _ ⟨.bl _,H,I,rfl,q⟩
 .cases c;cases f;obtain⟨_,g,vs,r,d⟩:=(show ObjOk X.prog X.w H s.heap a (.dK kvs) from I.hok a _ i);obtain⟨_,_,_,_,_,_,_,_,nd⟩:=id d;show PySem.W.keq_ne g g d d (by lk) (fun _=>qcC vs nd vs fun _ h=>h) ?_;rw[Xa];show⟨.bl false,H,I,rfl,q⟩
end
section
variable{X:Cx}{K:yg}
def qfj(K:yg):R2:=fun x y H Q=>rIx K x y H Q\/∃ a v,x=.ref a/\DGet H a y (some v)/\Q v H
theorem qy(f:X.K=K)(m:X.A.units+100<cLine):IxR X (qfj K):=by
 subst f;show IxR.or ix_seq ?_;intro d c pins s σ H x y v u Q I j l h i;obtain⟨a,z,rfl,g,q⟩:=h;cases j;show tail_any (dict_typeIs I g) PySem.F.slot_dict_getitem.lookup (d_getItem (by lk) I g l fun o n e b=>⟨z,H,e,b,q⟩) i
def rSetU:qe6:=fun o i v H Q=>rSetL o i v H Q\/∃ a H',o=.ref a/\DPut H a i v H'/\Q H'
theorem zi(l:X.A.units+100<cLine):qfF X rSetU:=by
 intro pins s σ H o i v j f u Q I c b d h;rcases h with h | ⟨a,H',rfl,g,q⟩
 .show set_list pins s σ H o i v j f u Q I c b d h
 .cases c;show d_setItem (by lk) I g b d fun m e=>⟨H',e,q⟩
def qef(K:yg)(b:Bool):R2:=fun x y H Q=>rIn K b x y H Q\/(∃ a o,y=.ref a/\DGet H a x o/\Q (.bl (if b then !o.isSome else o.isSome)) H) \/
 (∃ p xs e n,y=.ref p/\SqL K H p xs/\n<=60/\(∀ z∈xs,EqD K H n z x (e z))/\Q (.bl (if b then !xs.any e else xs.any e)) H)
theorem qes{pins:List (Addr×Obj)}{σ:St}{H:Hp}{s:Shared}{xs:List V}{its:List Value}{x:V}{u:Value}{e:V->Bool}{n:Nat}{A:Around}(I:Inv X pins σ H s)(r:Vals xs its)(p:RelV x u)(o:A.units+n<cLine)(m:∀ z∈xs,EqD X.K H n z x (e z)) :
  ∃ g:Value->Bool,(∀ w,w∈its.toArray->SeqAt.EqAt A s w u (g w))/\its.toArray.any g=xs.any e:=by
 classical
 show⟨fun w=>decide (∃ z∈xs,RelV z w/\e z=true),fun w hw=>?_,?_⟩
 .have d:w∈its:=by simpa using hw
  obtain⟨j,c⟩:=xm.mp d;obtain⟨z,hz,a⟩:=ju r c;have i:=ye hz
  have eq:decide (∃ z∈xs,RelV z w/\e z=true)=e z:=by
   cases q:e z with
   | true=>show yM ⟨z,i,a,q⟩
   | false =>
    show yl fun⟨t,_,f,l⟩=>?_;rw[RelV.inj f a,q] at l;cases l
  show SeqAt.EqAt A s w u (decide (∃ z∈xs,RelV z w/\e z=true));rw[eq];show(qcB I n).1 A z x (e z) w u (m z i) a p o
 .rw [Y2,Xb];constructor
  .intro h;have h':its.any (fun w=>decide (∃ z∈xs,RelV z w/\e z=true))=true:=by simpa using h
   obtain⟨w,_,q⟩:=Xb.mp h';obtain⟨z,hz,_,b⟩:=yk q;show⟨z,hz,b⟩
  .rintro ⟨z,hz,b⟩;obtain⟨j,c⟩:=xm.mp hz;obtain⟨w,hw,a⟩:=r.get c;have:its.any (fun w=>decide (∃ z∈xs,RelV z w/\e z=true))=true:=Xb.mpr ⟨w,ye hw,yM ⟨z,hz,a,b⟩⟩;simpa using this
theorem zT(j:X.K=K)(l:X.A.units+100<cLine):OpR X (compareOp .In) (qef K false):=by
 subst j;intro pins s σ H x y u v Q I b c h;rcases h with h | ⟨a,o,rfl,g,q⟩ | ⟨p,xs,e,n,rfl,hl,hn,he,q⟩
 .show op_in_seq pins s σ H x y u v Q I b c h
 .cases c;show d_in (by lk) I g b fun m d=>⟨.bl _,H,d,rfl,q⟩
 .cases c;obtain⟨its,r,pl,hz⟩:=I.list hl;obtain⟨f,h1,i⟩:=qes (A:=X.A.in1) I r b (by show X.A.units+1+n<cLine;lk) he;show SeqAt.in_listAt f pl.isList h1 (by rw[i];show⟨.bl _,H,I,rfl,q⟩)
theorem zj(j:X.K=K)(l:X.A.units+100<cLine):OpR X (compareOp .NotIn) (qef K true):=by
 subst j;intro pins s σ H x y u v Q I b c h;rcases h with h | ⟨a,o,rfl,g,q⟩ | ⟨p,xs,e,n,rfl,hl,hn,he,q⟩
 .show op_notIn_seq pins s σ H x y u v Q I b c h
 .cases c;show d_notIn (by lk) I g b fun m d=>⟨.bl _,H,d,rfl,q⟩
 .cases c;obtain⟨its,r,pl,hz⟩:=I.list hl;obtain⟨f,h1,i⟩:=qes (A:=X.A.in1) I r b (by show X.A.units+1+n<cLine;lk) he;show SeqAt.notIn_listAt f pl.isList h1 (by rw[i];show⟨.bl _,H,I,rfl,q⟩)
def rListU(K:yg):List V->Hp->VK->Prop:=fun xs H Q=>(∃ p ys,xs=[.ref p]/\(SqL K H p ys\/SqT K H p ys)/\∀ l,H l=none->Q (.ref l) (upd H l (.lst ys))) \/
 (∃ p kvs,xs=[.ref p]/\H p=some (.dK kvs)/\∀ l,H l=none->Q (.ref l) (upd H l (.lst (kvs.map fun a=>kV a.1)))) \/
 (∃ x,xs=[.str x]/\x.length<=1000/\∀ l,H l=none->Q (.ref l) (upd H l (.lst (x.cps.toList.map fun c=>.str ⟨#[c]⟩))))
theorem qbA{α c:Type}{F:α->c->Prop}:∀{l:List α} {m:List c} {j:Nat} {a:α},Paired F l m->l[j]?=some a->∃ b,m[j]?=some b/\F a b
 | _,_,_,_,.nil,e=>by simp at e
 | _,_,0,_,.cons r _,e=>by simp at e;subst e;show⟨_,rfl,r⟩
 | _,_,j+1,a,.cons _ t,e=>by
  obtain⟨b,h1,d⟩:=qbA (j:=j) (a:=a) t (by simpa using e);show⟨b,by simpa using h1,d⟩
theorem qaf:∀{ys:List V} {us:List Value},ys.length=us.length->(∀(j:Nat) y u,ys[j]?=some y->us[j]?=some u->RelV y u)->Vals ys us
 | [],[],_,_=>.nil
 | [],_::_,h,_=>by cases h
 | _::_,[],h,_=>by cases h
 | y::ys,u::us,h,q=>.cons (q 0 y u rfl rfl) (qaf (Nat.succ.inj h) fun j c b h1 a=>q (j+1) c b (by simpa using h1) (by simpa using a))
theorem zU(J:X.K=K)(hc:X.calm=true):zO X (.type "list") (rListU K):=by
 subst J;intro pins s σ H xs us Q I r h;rcases h with h | ⟨p,kvs,rfl,ea,q⟩ | ⟨x,rfl,hx,q⟩
 .show call_list_of pins s σ H xs us Q I r h
 .obtain⟨u,rfl,M⟩:=qbc r;cases M;obtain⟨hz,L,vs,D,d⟩:=(show ObjOk X.prog X.w H s.heap p (.dK kvs) from I.hok p _ ea);obtain⟨ep,n⟩:=d.dictAt;have hl:kvs.length=vs.length:=D.length;show PySem.W.kdl_call (PySem.W.kdl_dict (knd:=jl X.prog X.w) (kvs:=vs) (ep:=ep) L) (I.ok.hd hc) n (by rw[<- hl];show hz) fun h' tk a f A e it=>?_;obtain⟨o,v⟩:=it
  have hv:Vals (kvs.map fun b=>kV b.1) a.toList:=by
   show qaf (by rw[ya,hl,<- o];simp) fun j y u h1 g=>?_;obtain⟨k,x,l,F⟩:=v j u (by simpa using g);rw[yd] at h1
   cases B:kvs[j]? with
   | none=>rw[B] at h1;cases h1
   | some b =>
    rw[B] at h1;cases h1;obtain⟨O,C,G,N⟩:=qbA D B;rw[l] at C;cases C;have E:b.1=k:=G;show RelV (kV b.1) u;rw[E];rcases qV (show qct k u=true from F) with⟨i,t,rfl,rfl⟩ | ⟨z,t,rfl,rfl⟩
    .show⟨t,rfl⟩
    .show⟨t,rfl⟩
  show⟨.ref s.heap.objs.size,_,I.laid (t':=tk) A (yh _) (show ObjOk X.prog X.w _ h' _ (.lst (kvs.map fun b=>kV b.1)) from⟨by rw[ya];show hz,a.toList,f,hv,by simpa using e⟩),rfl,q _ (I.hok.fresh (yh _))⟩
 .obtain⟨u,rfl,t,rfl⟩:=qbc r;have hsz:x.cps.size<=sizeLine:=yT (qh hx);show call_list_str (I.ok.hd hc) x t (fun h' tk a f A e it=>?_) hsz;obtain⟨o,v⟩:=it
  have hv:Vals (x.cps.toList.map fun c=>V.str ⟨#[c]⟩) a.toList:=by
   show qaf (by rw[ya];simp[o]) fun j y u h1 g=>?_;obtain⟨c,t',l,rfl⟩:=v j u (by simpa using g);rw[yd] at h1;have m:x.cps.toList[j]?=some c:=by simpa using l
   rw[m] at h1;cases h1;show⟨t',rfl⟩
  show⟨.ref s.heap.objs.size,_,I.laid (t':=tk) A (yh _) (show ObjOk X.prog X.w _ h' _ (.lst (x.cps.toList.map fun c=>V.str ⟨#[c]⟩)) from⟨by rw[ya];simpa using hsz,a.toList,f,hv,by simpa using e⟩),rfl,q _ (I.hok.fresh (yh _))⟩
end
structure CMethOk(P:Program)(w:World)(K:yg)(mg:Str->Option Value)(base:Heap)(CX:CXT)(k:Nat)(C:Addr)(x m:Str)(ps:LS)(sp:Sp):Prop where
 ex:∃ f fd,FnOk P w K mg base CX k f fd ps sp/\CMeth K C m f/\Binds K fd ps []
 mg_:mg x=some (.ref C)
section
variable{X:Cx}{k:Nat}{C:Addr}{ps:LS}{sp:Sp}{x m:Str}{p pos apos:Pos}{e:Expr}{es:List Expr}{t:TA}
theorem qaZ(D:MakeOk X.prog X.w X.K X.mg X.base CX0 k C x ps sp)(i:Room (k+1) X.A)(c:PA X (e::es) t)(h:Gl X x:=by rfl)(a:(x==("__debug__":Str))=false:=by decide)
  (g:starEach (e::es) X.env=(false,eval e X.env)::starEach es X.env:=by rfl) (b:(backTo pos (starEach es X.env)).any (·.1)=false:=by rfl):PE X (.Call (.Name x p) (e::es) [] pos) (qeO C sp [] E0 t):=by
 obtain⟨f,j,F,M,d⟩:=D.ex;show pe_make M F i h D.mg_ d .nil qz c a g b
end
theorem own_eq_same{prog:Program}{w:World}{A:Around}{E:Value->Shared->Prop}{s:Shared}{K:yg}{x C:Addr}{ox:Obj}{od:Option Obj}{Q:Value->Shared->Prop}(m:A.units<cLine)(X:K.In s.heap)(I:PySem.W.InstAt s.heap x ox C od)
  (l:PySem.W.findIn K (.ref C) "__eq__"=some (some (.builtin "object.__eq__"))) (i:PySem.W.mroIn K C (.type "object")=some true) (h:Q (.bool true) s):wpAny (model prog w) A (richCompare .Eq (.ref x) (.ref x)) Q E s:=by
 have a:∀{g:Around} {f:Value->Shared->Prop},f (.bool true) s->wpAny (model prog w) g (call (.builtin "object.__eq__") [.ref x,.ref x]) f E s:=fun{g f} q=>by
  show X5 (xV PySem.F.slot_object_eq.plain PySem.F.entry_object_eq (@PySem.W.check_slot (model prog w) _ _ s "object.__eq__" "object" "__eq__" (.ref x) [.ref x] [] _ (by room) (by room) (I.type.andThen (xY X i)) (PySem.F.args_object_eq_2 _ _) ?_));show yr (yt (yr (wpAny_isSame_ref_self ?_)));show yt q
 have one:wpAny (model prog w) A (tryCompare (.ref x) "__eq__" (.ref x)) (fun r c=>∃ v,r=some v/\Q v c) E s:=by
  unfold tryCompare;show yr ?_;simp only[callSpecialIfBound?,bindSpecialIfBound?];show Yc (yr (yr (yr (I.type.here ((xr X l).here ?_)))));show yr (xo (wpAny_ite ?_));have b:=PySem.F.slot_object_eq.bind (.ref x)
  have d:wpAny (model prog w) A (call (.builtin "object.__eq__") ([.ref x]++[.ref x])>>=fun v=>pure (some v)) (fun r c=>wpAny (model prog w) A (match r with | some .notImplemented | none=>pure none | some v=>pure (some v)) (fun r c=>∃ v,r=some v/\Q v c) E c) E s:=
   yr (a (yt (yt ⟨_,rfl,h⟩)))
  split
  .show yr (Y6 b (yt d))
  .show wpAny_tryCatch (yr (Y6 b (yt d)))
 unfold richCompare;simp only[oneThing_ref];show Yc (yr (wpAny_cRoomFor m ?_));show yr (I.type.here (yr (I.type.here ?_)));rw[yE (by simp)];show yr (yt ?_);simp only[xK,XR];show yr (YV one (fun r c z=>?_) fun _ _ e=>e);obtain⟨v,rfl,j⟩:=z;show yt j
structure OEq(K:yg)(C:Addr):Prop where
 eq:PySem.W.findIn K (.ref C) "__eq__"=some (some (.builtin "object.__eq__"))
 ob:PySem.W.mroIn K C (.type "object")=some true
def qf2(K:yg):R2:=fun x y H Q=>qeZ K false x y H Q\/∃ a C dx fs,x=.ref a/\y=.ref a/\H a=some (.ins C dx fs)/\OEq K C/\Q (.bl true) H
theorem k_eqW{X:Cx}{K:yg}(d:X.K=K)(e:X.A.units+100<cLine):OpR X (compareOp .Eq) (qf2 K):=by
 subst d;intro pins s σ H x y u v Q I b c h;rcases h with h | ⟨a,C,dx,fs,rfl,rfl,ea,oe,q⟩
 .show k_eqU rfl e pins s σ H x y u v Q I b c h
 .cases b;cases c;obtain⟨f,O,_⟩:=qaL I.hok ea;obtain⟨od,J,_⟩:=O.look;show own_eq_same (by lk) I.kIn J oe.eq oe.ob ⟨.bl true,H,I,rfl,q⟩
theorem jg{X:Cx}:MtR X "list.append" rAppend:=mt_append
theorem qaP{X:Cx}:MtR X "list.extend" rExtend:=mt_extend
theorem mtR_pop{X:Cx}:MtR X "list.pop" rPop:=mt_pop
theorem qcc{X:Cx}:MtR X "list.pop" rPopAt:=mt_popAt
theorem mtR_clear{X:Cx}:MtR X "list.clear" rClear:=mt_clear
section
variable{D:Ends}{σ:St}{H:Hp}{Q:VK}{t u:TS}{te ta tb tc:TE}{tas:TA}{K:yg}{sp:Sp}{E:XK}{EK:St->XK}{C:Addr}{f m:Str}
theorem vFldU(h:ta σ H fun x a=>FlUR K f x a Q):qfg K ta f σ H Q:=h
theorem vSFldU(h:te σ H fun y a=>ta σ a fun x b=>SFUR K f x y b (D.nx σ)):qfh K ta te f D σ H:=h
theorem vXMake(h:tas σ H fun vs a=>vs.length<=1000/\∀ x,a x=none->sp (.ref x::vs) (upd a x (XN x C none)) (fun v b=>v=.non/\Q (.ref x) b) E):tXMake C sp E tas σ H Q:=h
theorem vMake(h:tas σ H fun vs a=>∀ x dx,a x=none->a dx=none->dx≠x->sp (.ref x::(vs++[])) (upd (upd a dx (.own x)) x (.ins C dx [])) (fun v b=>v=.non/\Q (.ref x) b) E):qeO C sp [] E tas σ H Q:=h
theorem vMeth(h:ta σ H fun x a=>MeR C m x a (tas σ a fun vs b=>sp (x::(vs++[])) b Q E)):qdx C m sp [] E ta tas σ H Q:=h
theorem vVinit(h:tas σ H fun vs b=>∃ a C y,vs=[.ref a,y]/\b a=some (XN a C none)/\XAt K C/\Q .non b):tVinit K tas σ H Q:=h
theorem vCallS(h:tas σ H fun vs a=>sp vs a Q (EK σ)):tCallS sp EK tas σ H Q:=h
theorem vMethS(h:ta σ H fun x a=>MeR C m x a (tas σ a fun vs b=>sp (x::vs) b Q (EK σ))):tMethS C m sp EK ta tas σ H Q:=h
theorem vMakeS(h:tas σ H fun vs a=>∀ x dx,a x=none->a dx=none->dx≠x->sp (.ref x::vs) (upd (upd a dx (.own x)) x (.ins C dx [])) (fun v b=>v=.non/\Q (.ref x) b) (EK σ)):tMakeS C sp EK tas σ H Q:=h
theorem vRaise(h:te σ H fun x b=>∃ a C dx,x=.ref a/\b a=some (XN a C dx)/\XAt K C/\EK σ (.ref C) dx (upd b a (XO a C dx))):tRaise K EK te D σ H:=h
theorem qaW{x y:V}{t a:Value}{b:Bool}(ty:TyX K H x t)(d:qb9 y=some a)(c:PySem.W.kitOne K t a=some b)(h:Q (.bl b) H):qfi K [x,y] H Q:=⟨x,y,t,a,b,rfl,ty,d,c,h⟩
end
section
variable{prog:Program}{w:World}{A:Around}{E:Value->Shared->Prop}{s:Shared}
theorem none_dict{a:Addr}{Q:Value->Shared->Prop}(d:s.TypeIs (.ref a) "dict")(e:A.units<cLine)(h:Q (.bool false) s):wpAny (model prog w) A (richCompare .Eq .none (.ref a)) Q E s:=by
 show SeqAt.rc_eq_decline_or (k:=false) rfl d (by decide) PySem.F.sub_dict_NoneType Y0 PySem.F.slot_dict_eq_refl
  (fun _ c=>call_gives Y0 rfl PySem.F.entry_NoneType_eq (PySem.F.args_NoneType_eq_2 _ _) (SeqAt.NoneType___eq___none_ref_0 a) c) (fun f c=>?_) (fun _ c=>Y6 (rfl:isSame .none (.ref a)=pure false) c) (.inr e) h
 show YD PySem.F.slot_dict_eq_refl d PySem.F.entry_dict_eq ?_ (PySem.F.args_dict_eq_2 _ _);show wpAny _ _ (Builtin.Dict.dictSlotArgs "__eq__" ⟨[.ref a,.none],[]⟩>>=_) _ _ s;show yr ?_;unfold Builtin.Dict.dictSlotArgs;show yr (wpAny_notOrdered_dict d ?_);show wpAny _ _ (pure (Value.ref a,Value.none)) _ _ s;show yt ?_;show yr (X7 (T:="NoneType") (b:=false) rfl PySem.F.sub_NoneType_dict ?_);simp only[Bool.not_false,X9];show yr (kF (yt ⟨_,rfl,c⟩))
theorem none_own{K:yg}{x C:Addr}{ox:Obj}{od:Option Obj}{Q:Value->Shared->Prop}(j:A.units<cLine)(X:K.In s.heap)(I:PySem.W.InstAt s.heap x ox C od)(g:OEq K C)(i:PySem.W.mroIn K C (.type "NoneType")=some false)
  (h:Q (.bool false) s):wpAny (model prog w) A (richCompare .Eq .none (.ref x)) Q E s:=by
 have l:wpAny (model prog w) A (tryCompare .none "__eq__" (.ref x)) (fun r a=>r=none/\a=s) E s:=by
  unfold tryCompare;show yr ?_;simp only[callSpecialIfBound?,bindSpecialIfBound?];show Yc (yr (yr ?_));show yr (Y6 (rfl:typeOf .none=pure (.type "NoneType")) ?_);show Y6 Y0.lookup ?_;show yr (xo (wpAny_ite ?_))
  have d:wpAny (model prog w) A (call (.builtin "NoneType.__eq__") ([.none]++[.ref x])>>=fun v=>pure (some v)) (fun r a=>wpAny (model prog w) A (match r with | some .notImplemented | none=>pure none | some v=>pure (some v)) (fun r a=>r=none/\a=s) E a) E s:=
   yr (call_gives Y0 rfl PySem.F.entry_NoneType_eq (PySem.F.args_NoneType_eq_2 _ _) (SeqAt.NoneType___eq___none_ref_0 x) (yt (yt ⟨rfl,rfl⟩)))
  split
  .show yr (Y6 (Y0.bind .none) (yt d))
  .show wpAny_tryCatch (yr (Y6 (Y0.bind .none) (yt d)))
 have m:wpAny (model prog w) A (tryCompare (.ref x) "__eq__" .none) (fun r a=>r=none/\a=s) E s:=by
  unfold tryCompare;show yr ?_;simp only[callSpecialIfBound?,bindSpecialIfBound?];show Yc (yr (yr (yr (I.type.here ((xr X g.eq).here ?_)))));show yr (xo (wpAny_ite ?_));have b:=PySem.F.slot_object_eq.bind (.ref x)
  have c:∀{f:Value->Shared->Prop},f .notImplemented s->wpAny (model prog w) A (call (.builtin "object.__eq__") [.ref x,.none]) f E s:=fun{f} q=>by
   show X5 (xV PySem.F.slot_object_eq.plain PySem.F.entry_object_eq (@PySem.W.check_slot (model prog w) _ _ s "object.__eq__" "object" "__eq__" (.ref x) [.none] [] _ (by room) (by room) (I.type.andThen (xY X g.ob)) (PySem.F.args_object_eq_2 _ _) ?_));show yr (yt (yr (Y6 (rfl:isSame (.ref x) .none=pure false) ?_)));show yt q
  have d:wpAny (model prog w) A (call (.builtin "object.__eq__") ([.ref x]++[.none])>>=fun v=>pure (some v)) (fun r a=>wpAny (model prog w) A (match r with | some .notImplemented | none=>pure none | some v=>pure (some v)) (fun r a=>r=none/\a=s) E a) E s:=
   yr (c (yt (yt ⟨rfl,rfl⟩)))
  split
  .show yr (Y6 b (yt d))
  .show wpAny_tryCatch (yr (Y6 b (yt d)))
 unfold richCompare;show Yc (yr (wpAny_cRoomFor j ?_));show wpAny _ _ (typeOf .none>>=_) _ _ _;show yr (Y6 (rfl:typeOf .none=pure (.type "NoneType")) (yr (I.type.here ?_)));rw[yO (by rfl)];show yr ((xY X i).here ?_);simp only[xK,XR];show yr (YV l (fun r a z=>?_) fun _ _ e=>e);obtain⟨rfl,rfl⟩:=z;simp only[Bool.not_false,X9];show yr (YV m (fun r a z=>?_) fun _ _ e=>e);obtain⟨rfl,rfl⟩:=z;show yr (kF (yr (Y6 (rfl:isSame .none (.ref x)=pure false) (yt h))))
end
def rNoneRef(K:yg):R2:=fun x y H Q=>∃ a,x=.non/\y=.ref a/\((∃ xs,SqL K H a xs\/SqT K H a xs)\/(∃ kvs,H a=some (.dK kvs))\/∃ C dx fs,H a=some (.ins C dx fs)/\OEq K C/\PySem.W.mroIn K C (.type "NoneType")=some false)/\Q (.bl false) H
def qfk(K:yg):R2:=fun x y H Q=>qf2 K x y H Q\/rNoneRef K x y H Q
theorem zV{X:Cx}{K:yg}(e:X.K=K)(j:X.A.units+100<cLine):OpR X (compareOp .Eq) (qfk K):=by
 intro pins s σ H x y u v Q I f g h;rcases h with h | ⟨a,rfl,rfl,h,q⟩
 .show k_eqW e j pins s σ H x y u v Q I f g h
 .subst e;cases f;cases g;have b:EP X pins σ Q (.bool false) s:=⟨.bl false,H,I,rfl,q⟩;rcases h with⟨xs,hl | hl⟩ | ⟨kvs,c⟩ | ⟨C,dx,fs,c,l,i⟩
  .obtain⟨its,r,pl,_⟩:=I.list hl;show SeqAt.RcAt.none_list pl.isList (by lk) _ _ _ _ b
  .obtain⟨its,r,pl,_⟩:=I.tuple hl;show SeqAt.RcAt.none_tuple pl (by lk) _ _ _ _ b
  .obtain⟨_,_,vs,_,d⟩:=(show ObjOk X.prog X.w H s.heap a (.dK kvs) from I.hok a _ c);show none_dict d.typeIs (by lk) b
  .obtain⟨m,O,_⟩:=qaL I.hok c;obtain⟨od,J,_⟩:=O.look;show none_own (by lk) I.kIn J l i b
def XL(K:yg)(C:Addr)(c:List Value):Prop:=∃ j l N bs a sn sub ab b d e f g h i,K.lookup C=some (excClassObj j l C N bs c a sn sub ab b d e f g h i "ValueError.__new__")
section
variable{K:yg}{C D:Addr}{bm bn:List Value}
end
end L2
namespace HT
open PySem PySem.Spec PyProof.Rows
variable{sl:Addr}{vs:Value}
section
variable{prog:Program}{w:World}{A:Around}{E:Value->Shared->Prop}{s:Shared}
theorem sliceApplied_rev{Q:Int×Int×Nat->Shared->Prop}(d:s.heap.IsSliceOf sl .none .none vs)(e:IsPart vs (some (-1)))
  (h:Q (1,-1,2) s):wpAny (model prog w) A (Builtin.Slice.sliceApplied (.ref sl) (pure ((2:Nat):Int))) Q E s:=by
 obtain⟨f,b,c,a⟩:=id d;unfold Builtin.Slice.sliceApplied Builtin.Slice.sliceFields;show yr (yr (xt b a (x:=.none) rfl (yr (xt b a (x:=.none) rfl (yr (xt b a (x:=vs) rfl (yt ?_)))))));show yr (qaM e ?_);show wpAny _ _ (if ((-1:Int)==0)=true then _ else _) _ _ s;rw[yE (by decide)];show yr (kD (yr (kD (yr (yt ?_)))));show yt h
theorem getItem_pair_rev{t:Addr}{x y:Value}{Q:Value->Shared->Prop}(b:IsTup s.heap t #[x,y])(f:s.heap.IsSliceOf sl .none .none vs)(j:IsPart vs (some (-1)))
  (h:Q (.ref s.heap.objs.size) { s with heap:=s.heap.push { cls:=.type "tuple",data:=.seq #[y,x] } }):wpAny (model prog w) A (getItem (.ref t) (.ref sl)) Q E s:=by
 have a:sizeOk (.seq #[y,x]):=by
  show 2<=sizeLine
  decide
 obtain⟨i,e,d,g⟩:=id f;have c:s.TypeIs (.ref sl) "slice":=⟨i,e,d⟩;unfold getItem
 try with_reducible show Yc ?_
 first | show yr (yt ?_) | skip
 show yr (wpAny_sequenceKey b.typeIs (by decide) ?_);show yr (YM (name:=Str.ofString "__getitem__") b.typeIs Yz
  (YD Yz b.typeIs entry_tuple_getitem ?_ (args_tuple_getitem _ _)))
 show wpAny _ _ (Builtin.Tuple.tupleItemsOf (.ref t)>>=_) _ _ s;show yr (tupleItemsOf_ b ?_);show yr (kA c ?_);rw[yO (by decide)];show yr (sliceApplied_rev f j ?_);show wpAny _ _ (if ((1:Int)==0&&(-1:Int)==1&&2==2)=true then _ else _) _ _ s;rw[yE (by decide)]
 first
  | show yr (m:=Builtin.Tuple.tupleExact _) (Yl (yt ⟨_,rfl,yt h⟩) a)
  | show yr (m:=Builtin.Tuple.tupleExact _) (Yl (yr (yt (yt ⟨_,rfl,yt h⟩))) a)
  | show yr (yr (m:=Builtin.Tuple.tupleExact _) (Yl (yt (yt ⟨_,rfl,yt h⟩)) a))
  | show yr (yr (m:=Builtin.Tuple.tupleExact _) (Yl (yt ⟨_,rfl,yt h⟩) a))
end
end HT
namespace L2
open PySem PySem.Spec PyProof.Rows
variable{H:Hp}{σ:St}
def qf3(K:yg)(d:TE)(e:TO):TE:=fun σ H Q=>d σ H fun x c=>e σ c fun o b=>o=some (-1)/\∃ a y z,x=.ref a/\SqT K b a [y,z]/\∀ p,b p=none->Q (.ref p) (upd b p (.tup [z,y]))
theorem vRev{K:yg}{c:TE}{d:TO}{Q:VK}(h:c σ H fun x e=>d σ e fun o b=>o=some (-1)/\∃ a y z,x=.ref a/\SqT K b a [y,z]/\∀ p,b p=none->Q (.ref p) (upd b p (.tup [z,y]))):qf3 K c d σ H Q:=h
section
variable{X:Cx}{K:yg}{e st:Expr}{te:TE}{ts:TO}{p2 pos:Pos}
theorem qet(B:X.K=K)(C:PE X e te)(D:PO X (some st) ts):PE X (.Subscript e (.Slice none none (some st) p2) pos) (qf3 K te ts):=by
 subst B;intro c s σ H Q I h;show Subscript_ (thn (C c s σ H _ I h) fun v M ⟨x,m,p,L,J⟩=>?_);show wpAny_Slice ?_;rw[kO];show yt ?_;show yt ?_;show thn (D c M σ m _ p J) fun l d ⟨o,n,t,pt,u,a,y,z,ex,E,q⟩=>?_;subst u ex;cases L;have f:Inv X c σ n { d with heap:=d.heap.push { cls:=.type "slice",data:=.fields #[.none,.none,l] } }:=t.kept (t':=d.toks) fun b G q=>yv _ q;obtain⟨F,r,j,hz⟩:=f.tuple E;obtain⟨N,O,rfl,g,i⟩:=qdw r;show wpAny (model X.prog X.w) X.A (subscriptTail e (.Slice none none (some st) p2) (.ref a) (.ref d.heap.objs.size)) (EP X c σ Q) X.xe { d with heap:=d.heap.push { cls:=.type "slice",data:=.fields #[.none,.none,l] } };show tail_any (ops:=[.ref a,.ref d.heap.objs.size]) j.typeIs Yz.lookup (HT.getItem_pair_rev j (kE ..) pt ?_) (by with_unfolding_all rfl);show⟨.ref _,_,f.laid (t':=d.toks) (o:=.tup [z,y]) (fun b G q=>yv _ q) (yh _) ?_,rfl,q _ (f.hok.fresh (yh _))⟩;show⟨by show 2<=sizeLine;decide,_,.cons i (.cons g .nil),IsTup.new _ _⟩
end
theorem Inv.turnedL{X:Cx}{a:List (Addr×Obj)}{s:Shared}{h':Heap}{t':Nat}{fp:LQ}(I:Inv X a σ H s)(k:∀ b o,b∉fp->s.heap.get? b=some o->h'.get? b=some o)(f:∀ b∈fp,qcv X a H b):Inv X a σ H { s with heap:=h',toks:=t' }:=by
 have d:∀ b u,H b=some u->b∉fp:=fun b u e z=>by rw[(f b z).1] at e;cases e
 have l:X.env.locals∉fp:=fun z=>(f _ z).2.1 rfl;show I.step (g':=s.gens) (d':=s.drawn) (ch:=fp) (fun b p=>?_) (fun b o _ _ hc e _=>k b o hc e) (fun b o _ _ hc e _=>⟨o.slots,k b o hc e⟩) (fun _ _ _ _ n=>n)
  (fun b o hc e=>⟨o,k b o hc e⟩) (fun _ _ e=>e) (fun _ _ _ e=>e) (fun b A e=>⟨#[],by rw[e];simp⟩) (fun m t=>?_) (fun b u e=>?_) I.bare
 .obtain⟨x,g,y,h,i,j⟩:=f b p;show⟨h,g,i,j⟩
 .obtain⟨o,es,ep,w,r⟩:=t;show⟨o,es,ep,k _ o l w,r⟩
 .show(I.hok b u e).stay (fun c v hc q=>k c v ?_ q) (fun _ q=>q) fun _ _ q=>q;rcases hc with z | z
  .rw [z];show d b u e
  .show d c _ z
noncomputable def Ite(K:yg)(a:Addr):It:=
 ⟨fun i H=>∃ xs x,SqL K H a xs/\xs[i]?=some x,fun i H x H'=>∃ t y,x=.ref t/\H t=none/\H'=upd H t (.tup [.int i,y])/\∀ xs,SqL K H a xs->xs[i]?=some y,fun i H=>∃ xs,SqL K H a xs/\xs.length<=i⟩
theorem push_some{h:Heap}{o v:Obj}{b:Addr}(e:(h.push o).get? b=some v)(ne:b≠h.objs.size):h.get? b=some v:=(Heap.get?_push_cases e).elim (fun z=>absurd z.1 ne) fun z=>z
def iEnum(K:yg)(c:TA):TI:=fun σ H R=>c σ H fun vs b=>∃ a xs,vs=[.ref a]/\SqL K b a xs/\R (Ite K a) b
theorem vEnum{K:yg}{b:TA}{R:It->Hp->Prop}(h:b σ H fun vs c=>∃ a xs,vs=[.ref a]/\SqL K c a xs/\R (Ite K a) c):iEnum K b σ H R:=h
section
variable{X:Cx}
end
end L2
namespace L2
open PySem PySem.Spec PyProof.Rows PySem.Builtin PySem.Builtin.Str
theorem qfl{a c:Nat}(h:a+100<c):a+1<c:=by lk
theorem vDGet2{e ty f:TE}{b:St}{H:Hp}{Q:VK}(h:e b H fun x c=>∃ a,x=.ref a/\IsD c a/\ty b c fun y g=>f b g fun z d=>∃ o,DGet d a y o/\Q (o.getD z) d):tDGet2 e ty f b H Q:=h
end L2
namespace L2
open PySem PySem.Spec PyProof.Rows
theorem eqV_strD(a b:Str):eqV (.str a) (.str b)=decide (a=b):=by
 have e:eqV (.str a) (.str b)=(a==b):=by simp[eqV]
 rw[e,Y2,Yr,Yj]
theorem qcd:∀(ys:LS) (y:Str) (m:Nat) (b:m<ys.length),m<ys.idxOf y->ys[m]≠y
 | [],_,_,b,_=>by simp at b
 | a::r,y,m,b,h=>by
  rw[List.idxOf_cons] at h;by_cases e:a=y
  .subst e;simp at h
  .have c:(a==y)=false:=YU.mpr e;rw[c] at h
   cases m with
   | zero=>show e
   | succ k =>
    have d:k<r.idxOf y:=by
     have h:k+1<r.idxOf y+1:=h;lk
    show qcd r y k (by simpa using b) d
section
variable{X:Cx}{K:yg}
def rIndex(K:yg):V->List V->Hp->VK->Prop:=fun x vs H Q=>∃(p:Addr) (ys:LS) (y:Str),x=.ref p/\vs=[.str y]/\SqL K H p (ys.map V.str)/\y∈ys/\Q (.int (ys.idxOf y:Nat)) H
theorem qcD(A:X.K=K):MtR X "list.index" (rIndex K):=by
 subst A;intro t s N H x vs v us Q I J G h;obtain⟨p,ys,y,rfl,rfl,B,D,q⟩:=h;cases J;obtain⟨u,rfl,E⟩:=G.one;obtain⟨a,r,pl,hz⟩:=I.list B;obtain⟨⟨cls,z,data,L⟩,o,hc,n,l⟩:=id pl.isList;simp only at hc l;subst hc l;have fs:(ys.map V.str).all qar=true:=by rw[kZ];show YK.mpr fun _ _=>rfl
 have b:(ys.map V.str).length=a.length:=r.length;rw[ya] at b;have d:ys.idxOf y<ys.length:=List.idxOf_lt_length_iff.mpr D
 have at_:∀(m:Nat) (i:m<ys.length) (c:m<a.toArray.size),eqU (.str y) a.toArray[m]=decide (ys[m]=y):=fun m i c=>by
  have g:(ys.map V.str)[m]?=some (.str ys[m]):=by rw[yd,yb i];rfl
  obtain⟨w,hw,j⟩:=r.get g
  have e:a.toArray[m]=w:=by
   have:a.toArray[m]?=some w:=by simpa using hw
   rw[YT c] at this;show ym this
  rw[e,qdC j rfl,eqV_strD]
 have M:ys.length<=sizeLine:=by rw[ya] at hz;show hz
 have C:sizeLine<2 ^ 63-1:=by decide
 show XH Xe ⟨_,o,rfl⟩ PySem.F.entry_list_index (PySem.F.args_list_index_2 _ _)
  (SeqAt.list_indexAt p a.toArray n z L u (eqU (.str y)) (ys.idxOf y) (by simpa [<- b] using d) (by lk) ?_ ?_) ⟨o,fun w hw=>qad E rfl r fs w (by simpa using hw),.int _,H,I.tok _,⟨_,rfl⟩,q⟩
 .rw [at_ _ d];show yM (YN d)
 .intro m i f;rw[at_ m (by lk)];show yl fun e=>qcd ys y m (by lk) f e
end
theorem qbk(xs:List V)(k:Nat):qcV xs none (some (k:Int))=xs.take k:=by
 unfold qcV;rw[HT.sIx_none,HT.sIx_nat,List.drop_zero,Kh];by_cases h:k<=xs.length
 .rw [Ka h]
 .rw [kS (by lk),YR (yh _),YR (by lk)]
theorem qbl(xs:List V)(k:Nat):qcV xs (some (k:Int)) none=xs.drop k:=by
 unfold qcV;rw[HT.sIx_none,HT.sIx_nat];by_cases h:k<=xs.length
 .rw [Ka h,YR (by rw[X6];lk)]
 .rw [kS (by lk),X8,List.drop_of_length_le (by lk)];simp
section
variable{X:Cx}{K:yg}
end
end L2
namespace HT
open PySem PySem.Spec PyProof.Rows
section
variable{prog:Program}{w:World}{A:Around}{E:Value->Shared->Prop}{s:Shared}
end
end HT
namespace L2
open PySem PySem.Spec PyProof.Rows
def tStep(K:yg)(e:TE)(f:TO):TE:=fun c H Q=>e c H fun x d=>f c d fun o b=>∃ a y z,x=.ref a/\SqT K b a [y,z]/\((o=some (-1)/\∀ p,b p=none->Q (.ref p) (upd b p (.tup [z,y])))\/(o=some 1/\Q (.ref a) b))
theorem vStep{K:yg}{d:TE}{e:TO}{c:St}{H:Hp}{Q:VK}(h:d c H fun x f=>e c f fun o b=>∃ a y z,x=.ref a/\SqT K b a [y,z]/\((o=some (-1)/\∀ p,b p=none->Q (.ref p) (upd b p (.tup [z,y])))\/(o=some 1/\Q (.ref a) b))):tStep K d e c H Q:=h
section
variable{X:Cx}{K:yg}{e st:Expr}{te:TE}{ts:TO}{p2 pos:Pos}
end
def FG(K:yg)(a:Str)(st:Stmt):Prop:=∃ f b,PySem.W.nsIn K mainGlobals a=some (some (.ref f))/\Fun K a a st f b
def FM(K:yg)(C:Addr)(m b:Str)(st:Stmt):Prop:=∃ f a,PySem.W.findIn K (.ref C) m=some (some (.ref f))/\PySem.W.isFn K (.ref f)=true/\Fun K m b st f a
structure XQ(K:yg)(C:Addr):Prop where
 xa:PySem.W.findIn K (.ref C) "__getattribute__"=some (some (.builtin "BaseException.__getattribute__"))
 xb:PySem.W.findIn K (.ref C) "__getattr__"=some none
 xd:PySem.W.mroIn K C (.type "BaseException")=some true
 xe:PySem.W.mroIn K C (.type "object")=some true
 xf:PySem.W.hasDictIn K C=true
 xg:PySem.W.findIn K (.ref C) "__class__"=some (some (.builtin "object.__class__"))
 xh:PySem.W.findIn K (.ref C) "__setattr__"=some (some (.builtin "object.__setattr__"))
 p:PySem.W.keepIn K (.ref C)=true
section
variable{P:Program}{w:World}{K:yg}{mg:Str->Option Value}{base h:Heap}{CX:CXT}{k:Nat}{sp:Sp}{st:Stmt}{f:Addr}{fd:FuncData}{ps:LS}{nm m ql x:Str}{C:Addr}
theorem lN0{P:List Value->Prop}(h:P []):∀ us:List Value,us.length=0->P us:=fun us e=>by rw[List.eq_nil_of_length_eq_zero e];show h
theorem lNs{P:List Value->Prop}{n:Nat}(h:∀ a r,r.length=n->P (a::r)):∀ us:List Value,us.length=n+1->P us:=fun us e=>by
 cases us with
 |nil=>cases e
 |cons a r=>show h a r (Nat.succ.inj e)
theorem lN1{P:List Value->Prop}(h:∀ a,P [a]):∀ us:List Value,us.length=1->P us:=lNs fun a=>lN0 (h a)
theorem lN2{P:List Value->Prop}(h:∀ a b,P [a,b]):∀ us:List Value,us.length=2->P us:=lNs fun a=>lN1 (h a)
theorem lN3{P:List Value->Prop}(h:∀ a b c,P [a,b,c]):∀ us:List Value,us.length=3->P us:=lNs fun a=>lN2 (h a)
theorem lN4{P:List Value->Prop}(h:∀ a b c d,P [a,b,c,d]):∀ us:List Value,us.length=4->P us:=lNs fun a=>lN3 (h a)
abbrev BA(x ql:Str)(st:Stmt)(ps:LS):Prop:=∀(kV b d:Value) (c:Option Addr) (a ct:Value) (us:List Value),us.length=ps.length->bindArgs (PySem.W.fnOf x ql (qat st) (zR st) (qg st) .none kV b d c a ct) ⟨us,[]⟩=pure (ps.zip us)
theorem fg_mk(X:K.In h)(G:h.Ns mainGlobals mg)(a:PySem.W.nsIn K mainGlobals nm=some (some (.ref f)))(F:Fun K nm nm st f fd)(o:FnOk P w K mg base CX k f fd ps sp)
  (b:BA nm nm st ps:=by first | (show fun _ _ _ _ _ _=>lN1 fun _=>rfl) | (show fun _ _ _ _ _ _=>lN2 fun _ _=>rfl) | (show fun _ _ _ _ _ _=>lN3 fun _ _ _=>rfl) | (show fun _ _ _ _ _ _=>lN4 fun _ _ _ _=>rfl)) :
  DefOk P w K mg base CX k nm ps sp:=⟨_,_,o,PySem.W.mg_of X G a,F.kp,F.binds b⟩
theorem fm_mk(b:Cls K C)(a:PySem.W.findIn K (.ref C) m=some (some (.ref f)))(n:PySem.W.isFn K (.ref f)=true)(F:Fun K m ql st f fd)(o:FnOk P w K mg base CX k f fd ps sp)
  (c:BA m ql st ps:=by first | (show fun _ _ _ _ _ _=>lN1 fun _=>rfl) | (show fun _ _ _ _ _ _=>lN2 fun _ _=>rfl) | (show fun _ _ _ _ _ _=>lN3 fun _ _ _=>rfl) | (show fun _ _ _ _ _ _=>lN4 fun _ _ _ _=>rfl)) :
  MethOk P w K mg base CX k C m ps sp:=⟨⟨_,_,o,⟨a,n,F.kp⟩,F.binds c⟩,b⟩
theorem fw_mk(X:K.In h)(G:h.Ns mainGlobals mg)(c:PySem.W.nsIn K mainGlobals x=some (some (.ref C)))(d:PySem.W.makesIn K C=true)(e:PySem.W.keepIn K (.ref C)=true)(a:PySem.W.findIn K (.ref C) "__init__"=some (some (.ref f)))(n:PySem.W.isFn K (.ref f)=true)(F:Fun K "__init__" ql st f fd)(o:FnOk P w K mg base CX k f fd ps sp)
  (b:BA "__init__" ql st ps:=by first | (show fun _ _ _ _ _ _=>lN1 fun _=>rfl) | (show fun _ _ _ _ _ _=>lN2 fun _ _=>rfl) | (show fun _ _ _ _ _ _=>lN3 fun _ _ _=>rfl)) :
  MakeOk P w K mg base CX k C x ps sp:=⟨⟨_,_,o,⟨d,a,n,e⟩,F.binds b⟩,PySem.W.mg_of X G c⟩
end
end L2
namespace HT
open PySem PySem.Spec PyProof.Rows
section
variable{prog:Program}{w:World}{A:Around}{E:Value->Shared->Prop}{s:Shared}
end
end HT
namespace L2
open PySem PySem.Spec PyProof.Rows
variable{H:Hp}{R:It->Hp->Prop}{es:List Expr}{pos:Pos}{te:TE}{σ:St}
section
variable{X:Cx}{K:yg}{pos p:Pos}{x:Str}
end
section
variable{X:Cx}{K:yg}{e lo st:Expr}{te:TE}{tl ts:TO}{p2 pos:Pos}
def qf4(K:yg)(te:TE):TI:=fun σ H R=>te σ H fun v b=>∃ a xs,v=.ref a/\SqL K b a xs/\R (Itl K a) b
theorem viLst{K:yg}(h:te σ H fun v b=>∃ a xs,v=.ref a/\SqL K b a xs/\R (Itl K a) b):qf4 K te σ H R:=h
theorem ki_lst{u:Expr}(j:X.K=K)(m:PE X e te):PI X u e (qf4 K te):=by
 subst j;intro c s σ H R I h;show thn (m c s σ H _ I h) fun v d ⟨y,g,f,t,a,xs,i,n,q⟩=>?_;subst i;cases t
 have fp:∀ b∈[d.heap.objs.size],qcv X c g b:=fun b l=>by
  have e:b=d.heap.objs.size:=by simpa using l
  subst e;show f.fpOk (yh _) (f.hok.fresh (yh _))
 obtain⟨r,w,p,hz⟩:=f.list n;show XV p.isList ⟨d.heap.objs.size,[d.heap.objs.size],_,_,g,rfl,f.kept (t':=d.toks) fun b o e=>yv _ e,qbU a _,⟨_,yK _ rfl,rfl,rfl⟩,fp,q⟩
end
noncomputable def Itz(K:yg)(a b:Addr):It:=
 ⟨fun i H=>∃ xs ys x y,SqL K H a xs/\SqL K H b ys/\xs[i]?=some x/\ys[i]?=some y,fun i H v H'=>∃ t x y,v=.ref t/\H t=none/\H'=upd H t (.tup [x,y])/\(∀ xs,SqL K H a xs->xs[i]?=some x)/\∀ ys,SqL K H b ys->ys[i]?=some y,fun i H=>∃ xs ys,SqL K H a xs/\SqL K H b ys/\(xs.length<=i\/ys.length<=i)⟩
def tnZ(z TI TO c d a b:Addr)(i:Nat)(h:Heap):Prop:=IsZip h z TI TO .none/\IsPair h TI (.ref c) (.ref d)/\(∃ u v,IsPair h TO u v)/\h.IsListIter c a i/\h.IsListIter d b i
theorem turn_zip{P:Program}{w:World}{K:yg}{x1}(a b z TI TO n q:Addr)(D:ZipApart z TI TO n q a b):Turn P w K (.Tuple es x1 pos) (Itz K a b) [z,TI,TO,n,q] z (tnZ z TI TO n q a b) where
 mem:=by simp
 obj:=fun i h st c hc=>by
  obtain⟨hz,d,⟨u,v,g⟩,⟨o1,e1,c1,d1⟩,⟨o2,e2,c2,d2⟩⟩:=st;simp only[yz,yW,YE] at hc;rcases hc with rfl | rfl | rfl | rfl | rfl
  .show⟨_,hz,fun v z=>by have F:Data.fields _=Data.cell v:=z;cases F⟩
  .show⟨_,d,fun v z=>by have F:Data.seq _ _=Data.cell v:=z;cases F⟩
  .show⟨_,g,fun v z=>by have F:Data.seq _ _=Data.cell v:=z;cases F⟩
  .show⟨o1,e1,fun v z=>by rw[d1] at z;cases z⟩
  .show⟨o2,e2,fun v z=>by rw[d2] at z;cases z⟩
 keep:=fun i h h' st k=>by
  obtain⟨hz,d,⟨u,v,g⟩,h1,t⟩:=st;show⟨k z (by simp) _ hz,k TI (by simp) _ d,⟨u,v,k TO (by simp) _ g⟩,h1.at fun o x=>k n (by simp) o x,t.at fun o x=>k q (by simp) o x⟩
 item:=by
  intro X S hw R hc i l s σ H E I T st U;subst S hw R;obtain⟨hz,d,⟨u,v,g⟩,h1,t⟩:=st;obtain⟨xs,ys,x,y,J,m,hx,hy⟩:=U;obtain⟨ad,rv,p,_⟩:=I.list J;obtain⟨C,r,p2,_⟩:=I.list m;obtain⟨L,W,ag⟩:=rv.get hx;obtain⟨M,Y,ah⟩:=r.get hy;show wpAny_pyNext_zip_item D hz d g h1 t p.isList p2.isList (x:=L) (y:=M) (by simpa using W) (by simpa using Y) fun h' ab A N O hT hsz G=>?_;show⟨_,rfl,wpAny_letOwnedTupleGo_zip ab fun h3 ac j=>?_⟩;have fre:H s.heap.objs.size=none:=I.hok.fresh (yh _);have lt:∀{c o},s.heap.get? c=some o->s.heap.objs.size≠c:=fun e=>Yg (yI e);have nz:=lt hz;have ae:=lt d;have af:=lt g;have n1:s.heap.objs.size≠n:=by obtain⟨_,e,_⟩:=h1;show lt e
  have n2:s.heap.objs.size≠q:=by obtain⟨_,e,_⟩:=t;show lt e
  have I1:Inv X l σ (upd H s.heap.objs.size (.tup [x,y])) { s with heap:=s.heap.push { cls:=.type "tuple",data:=.seq #[L,M] },toks:=s.toks }:=
   I.laid (fun b u e=>yv _ e) (yh _) ⟨by show 2<=sizeLine;decide,[L,M],.cons ag (.cons ah .nil),⟨_,yK _ rfl,rfl,_,rfl⟩⟩
  have B:∀ c∈[z,TI,TO,n,q],qcv X l (upd H s.heap.objs.size (.tup [x,y])) c:=fun c hc=>by
   obtain⟨f0,f⟩:=T c hc;show⟨?_,f⟩;rw[qf]
   .show f0
   .simp only[yz,yW,YE] at hc;rcases hc with rfl | rfl | rfl | rfl | rfl
    .show nz.symm
    .show ae.symm
    .show af.symm
    .show n1.symm
    .show n2.symm
  have kk:∀ c o,c∉[z,TI,TO,n,q]->(s.heap.push { cls:=.type "tuple",data:=.seq #[L,M] }).get? c=some o->h3.get? c=some o:=fun c o hc e=>by
   simp only[yz,yW,YE,not_or] at hc;show j.extBut _ _ hc.1 ?_;by_cases hz:c=s.heap.objs.size
   .subst hz;rw[yK _ rfl] at e;cases e;show hT
   .show G c o hc.1 hc.2.2.1 hc.2.2.2.1 hc.2.2.2.2 (push_some e hz)
  have I2:=I1.turnedL (h':=h3) (t':=s.toks) (fp:=[z,TI,TO,n,q]) kk B;show⟨.ref s.heap.objs.size,_,I2,rfl,⟨_,x,y,rfl,fre,rfl,fun ai Z=>by rw[I.list_inj Z J];show hx,fun ys' aa=>by rw[I.list_inj aa m];show hy⟩,⟨ac,?_,⟨_,_,j.extBut _ _ D.TOz A⟩,N.extBut j.extBut D.i1z,O.extBut j.extBut D.i2z⟩,fun c hc=>(B c hc).1⟩;show j.extBut _ _ D.TIz (G _ _ D.TIz D.TITO D.TIi1 D.TIi2 d)
 done:=by
  intro X S hw R hc i l s σ H E I T st U;subst S hw R;obtain⟨hz,d,⟨u,v,g⟩,h1,t⟩:=st;obtain⟨xs,ys,J,m,he⟩:=U;obtain⟨ad,rv,p,_⟩:=I.list J;obtain⟨C,r,p2,_⟩:=I.list m;have l1:=rv.length;have l2:=r.length;show wpAny_pyNext_zip_end (I.ok.hd hc) D hz d g h1 t p.isList p2.isList (he.imp (fun e=>Xh (by simp;lk)) fun e=>Xh (by simp;lk)) fun h' G=>⟨rfl,I.turnedL (t':=s.toks) (fp:=[z,TI,TO,n,q]) (fun c o hc e=>?_) T⟩;simp only[yz,yW,YE,not_or] at hc;show G c o hc.1 hc.2.2.1 hc.2.2.2.1 hc.2.2.2.2 e
 self:=fun _ _ _ _ _ st h=>kT st.1 h
theorem qc3:bootBuiltins "zip"=some (.type "zip"):=by room
def qf5(K:yg)(d:TA):TI:=fun σ H R=>d σ H fun vs c=>∃ a b xs ys,vs=[.ref a,.ref b]/\SqL K c a xs/\SqL K c b ys/\R (Itz K a b) c
theorem vZip{K:yg}{c:TA}(h:c σ H fun vs d=>∃ a b xs ys,vs=[.ref a,.ref b]/\SqL K d a xs/\SqL K d b ys/\R (Itz K a b) d):qf5 K c σ H R:=h
theorem pi_zip{X:Cx}{K:yg}{a b:Expr}{x:TA}{x1}{N p:Pos}(z:X.K=K)(B:Gl X "zip")(D:X.mg "zip"=none)(A:PA X [a,b] x)(F:starEach [a,b] X.env=[(false,eval a X.env),(false,eval b X.env)]:=by rfl)(g:starEach [b] X.env=[(false,eval b X.env)]:=by rfl):PI X (.Tuple es x1 N) (.Call (.Name "zip" p) [a,b] [] pos) (qf5 K x):=by
 subst z;intro i s σ H R I h;show Call_ (qa9 I B D qc3 (Y7 (thn (A pos i s σ H _ I h) fun us f ⟨vs,y,d,L,J⟩=>?_) (by rw[F,g]) (by rw[g];rfl)));obtain⟨a,b,xs,ys,e,E,t,q⟩:=J;subst e
 cases L with
 | cons r rr =>
  cases rr with
  | cons r2 rr =>
   cases rr;cases r;cases r2;obtain⟨G,O,pl,_⟩:=d.list E;obtain⟨w,M,j,_⟩:=d.list t;have u:a<f.heap.objs.size:=by obtain⟨_,e,_⟩:=pl.isList;show yI e
   have v:b<f.heap.objs.size:=by obtain⟨_,e,_⟩:=j.isList;show yI e
   show call_zip_2 pl.isList j.isList fun h' hz l m n o hsz C=>kT hz ?_;show⟨_,[f.heap.objs.size+4,f.heap.objs.size+2,f.heap.objs.size+3,f.heap.objs.size,f.heap.objs.size+1],_,_,y,rfl,d.kept (t':=f.toks) C,turn_zip a b _ _ _ _ _ (PySem.W.ktu_apart _ _ _ u v),⟨hz,l,⟨_,_,m⟩,n,o⟩,fun c hc=>?_,q⟩;simp only[yz,yW,YE] at hc;rcases hc with rfl | rfl | rfl | rfl | rfl
   .show d.fpOk (Xf _ _) (d.hok.fresh (Xf _ _))
   .show d.fpOk (Xf _ _) (d.hok.fresh (Xf _ _))
   .show d.fpOk (Xf _ _) (d.hok.fresh (Xf _ _))
   .show d.fpOk (yh _) (d.hok.fresh (yh _))
   .show d.fpOk (xT _) (d.hok.fresh (xT _))
def qf6(K:yg)(te:TE)(d:TO):TE:=fun σ H Q=>te σ H fun x c=>d σ c fun o b=>o=some (-1)/\∃ a xs,x=.ref a/\SqL K b a xs/\∀ p,b p=none->Q (.ref p) (upd b p (.lst xs.reverse))
theorem qf7{K:yg}{c:TO}{Q:VK}(h:te σ H fun x d=>c σ d fun o b=>o=some (-1)/\∃ a xs,x=.ref a/\SqL K b a xs/\∀ p,b p=none->Q (.ref p) (upd b p (.lst xs.reverse))):qf6 K te c σ H Q:=h
theorem qc4:∀{xs:List V} {us:List Value},Vals xs us->Vals xs.reverse us.reverse
 | _,_,.nil=>.nil
 | _,_,.cons r t=>by
  rw[List.reverse_cons,List.reverse_cons];show(qc4 t).append (.cons r .nil)
section
variable{X:Cx}{K:yg}{e st:Expr}{te:TE}{ts:TO}{p2 pos:Pos}
theorem qeu(u:X.K=K)(y:PE X e te)(z:PO X (some st) ts):PE X (.Subscript e (.Slice none none (some st) p2) pos) (qf6 K te ts):=by
 subst u;intro c s σ H Q I h;show Subscript_ (thn (y c s σ H _ I h) fun v G ⟨x,l,n,F,E⟩=>?_);show wpAny_Slice ?_;rw[kO];show yt ?_;show yt ?_;show thn (z c G σ l _ n E) fun j d ⟨o,m,p,pt,t,a,xs,ex,B,q⟩=>?_;subst t ex;cases F;have f:Inv X c σ m { d with heap:=d.heap.push { cls:=.type "slice",data:=.fields #[.none,.none,j] } }:=p.kept (t':=d.toks) fun b D q=>yv _ q;obtain⟨C,r,i,hz⟩:=f.list B;have g:=r.length;show wpAny (model X.prog X.w) X.A (subscriptTail e (.Slice none none (some st) p2) (.ref a) (.ref d.heap.objs.size)) (EP X c σ Q) X.xe { d with heap:=d.heap.push { cls:=.type "slice",data:=.fields #[.none,.none,j] } };show tail_any (ops:=[.ref a,.ref d.heap.objs.size]) i.isList.typeIs kJ.lookup (wpAny_getItem_list_slice i.isList (kE ..) .none .none pt (by decide) ?_ (by rw[yx]<;>lk)) (by with_unfolding_all rfl);rw[PySem.W.krv_pick];show⟨.ref _,_,f.laid (t':=d.toks) (o:=.lst xs.reverse) (fun b D q=>yv _ q) (yh _) ?_,rfl,q _ (f.hok.fresh (yh _))⟩;show⟨by rw[YB];show hz,_,0,qc4 r,yK _ rfl⟩
end
section
variable{X:Cx}{a:Expr}{ta:TA}{p p2 pos pos2:Pos}
end
end L2
namespace L2
structure Sb(V:Nat->Prop):Prop where
 z:V 0
 a:∀ x y,V x->V y->V (x ^^^ y)
def jn(V:Nat->Prop)(x:Nat):Nat->Prop:=fun y=>V y\/V (y ^^^ x)
def Spn:LN->Nat->Prop
 | []=>fun y=>y=0
 | a::L=>jn (Spn L) a
open Classical in
def Bnd(b n v:Nat):Prop:=∀ i,v.testBit i=true->b<=i/\i<b+n
open Classical in
noncomputable def swp:Nat->Nat->LN->Nat
 | 0,_,_=>0
 | n+1,b,L=>match L.filter (fun v=>v.testBit b) with
  | []=>swp n (b+1) L
  | p::t=>1+swp n (b+1) (L.filter (fun v=>!v.testBit b)++t.map fun v=>v ^^^ p)
open Classical in
noncomputable def rk(L:LN):Nat:=swp 30 0 L
open Classical in
noncomputable def les:Nat×Nat->List (Nat×Nat)->Nat×Nat
 | s,[]=>s
 | s,o::os=>if s.1 ^^^ o.1<s.1 then les (s.1 ^^^ o.1,s.2 ^^^ o.2) os else les s os
structure Ech(os:List (Nat×Nat)):Prop where
 nz:∀ o∈os,o.1≠0
 pw:os.Pairwise fun a b=>b.1.testBit a.1.log2=false
noncomputable def csm:LN->Nat->Nat->Nat
 | [],_,_=>0
 | a::L,k,c=>(if c.testBit k then a else 0) ^^^ csm L (k+1) c
noncomputable def stp(st:List (Nat×Nat))(n v:Nat):List (Nat×Nat):=if (les (v,1 <<< n) st).1=0 then st else st++[les (v,1 <<< n) st]
structure Stp(L:LN)(n:Nat)(st:List (Nat×Nat)):Prop where
 ech:Ech st
 sum:∀ o∈st,csm L 0 o.2=o.1
 low:∀ o∈st,o.2<2 ^ n
 lt:∀ o∈st,o.1<2 ^ 30
 spn:∀ v,Spn (st.map (·.1)) v↔Spn (L.take n) v
 free:st.map (fun o=>o.2.log2)=(List.range n).filter fun i=>decide (rk (L.take i)<rk (L.take (i+1)))
 len:st.length<=n
end L2
namespace L2
open PySem PySem.Spec PyProof.Rows
variable{i j n:Nat}
section
variable{X:Cx}
end
def Fl:V->Prop
 | .non=>True
 | .bl _=>True
 | .int i=>-999999999999<=i/\i<=999999999999
 | _=>False
noncomputable def fD:V->PyData
 | .non=>.none
 | .bl b=>.bool b
 | .int i=>.int i
 | .str x=>.str x
 | _=>.none
def FlS(xs:List V):Prop:=xs.length<=1000/\∀ x∈xs,Fl x
def ShwT(H:Hp)(v:V)(t:Str):Prop:=match v with
 | .non=>t="None"
 | .bl b=>t=if b then Str.ofString "True" else Str.ofString "False"
 | .int i=>i.natAbs.log2<1920/\t=toString i
 | .str x=>(reprText x).length<=sizeLine/\t=reprText x
 | .ref p=>(∃ xs,H p=some (.lst xs)/\FlS xs/\t=(PyData.list (xs.map fD)).shown)\/∃ xs,H p=some (.tup xs)/\FlS xs/\t=(PyData.tuple (xs.map fD)).shown
 | _=>False
section
variable{X:Cx}{K:yg}
end
theorem gk_two{b:Nat}{K:yg}(o:i<b:=by decide)(p:j<b:=by decide):qdl b (qfw K n (qeK (qbE i) (qeK (qbE j) qfS))):=by
 intro x t H Q ⟨a,xs,e,h,g,v,r,c,m,l,d,q⟩;obtain⟨f,q⟩:=q;show⟨a,xs,e,h,g,v,r,c,m,l,d,f,q,?_,fun k s=>?_⟩
 .rw [ki,ki]
 .rw [xS (by lk),xS (by lk)]
section
variable{K:yg}{a:Addr}{xs:List V}{g:TG}{tc:TT}{te:TE}{σ':St}{H1:Hp}{Q:V->Hp->Prop}
end
section
variable{K:yg}{a b:Addr}{xs ys:List V}{g:TG}{tc:TT}{te:TE}{σ':St}{H1:Hp}{Q:V->Hp->Prop}
theorem comp_zip(E:ys.length<=xs.length)(d:Nat->List V->Hp->Prop)(s:d 0 [] H1)(hl:∀ i c H,i<=ys.length->d i c H->SqL K H a xs/\SqL K H b ys)
  (A:∀ i x y t c H,xs[i]?=some x->ys[i]?=some y->H t=none->d i c H->g (.ref t) σ' (upd H t (.tup [x,y])) fun h o=>tc h o fun b n=>if b=true then te h n fun v r=>c.length<sizeLine/\d (i+1) (c++[v]) r else d (i+1) c n)
  (w:∀ c H,d ys.length c H->c.length<=sizeLine/\∀ p,H p=none->Q (.ref p) (upd H p (.lst c))):qdF (Itz K a b) g tc te σ' H1 Q:=by
 show⟨fun i m c H=>m=ys.length-i/\i<=ys.length/\d i c H,⟨ys.length,by simp,YX _,s⟩,?_⟩;rintro i m c H ⟨rfl,z,p⟩;obtain⟨q,l⟩:=hl i c H z p;by_cases f:i<ys.length
 .have j:i<xs.length:=by lk
  show .inr ⟨⟨xs,ys,xs[i],ys[i],q,l,by simp[j],by simp[f]⟩,d (i+1),fun ys' H' C=>⟨ys.length-(i+1),by lk,rfl,f,C⟩,fun x H' y=>?_⟩;obtain⟨t,v,u,rfl,B,rfl,y,D⟩:=y;show A i v u t c _ (y xs q) (D ys l) B p
 .have e:i=ys.length:=by lk
  subst e;show .inl ⟨⟨xs,ys,q,l,.inr (yh _)⟩,w c H p⟩
end
section
variable{X:Cx}{K:yg}
end
section
variable{X:Cx}{K:yg}{e st:Expr}{te:TE}{ts:TO}{p2 pos:Pos}
end
mutual
inductive Dat(H:Hp):V->PyData->Prop
 | non:Dat H .non .none
 | bl (b:Bool):Dat H (.bl b) (.bool b)
 | int (i:Int):Dat H (.int i) (.int i)
 | str (x:Str):Dat H (.str x) (.str x)
 | lst {a:Addr} {xs:List V} {ds:List PyData}:H a=some (.lst xs)->DatS H xs ds->Dat H (.ref a) (.list ds)
 | tup {a:Addr} {xs:List V} {ds:List PyData}:H a=some (.tup xs)->DatS H xs ds->Dat H (.ref a) (.tuple ds)
 | dnil {a:Addr}:H a=some (.dK [])->Dat H (.ref a) (.dict [])
inductive DatS(H:Hp):List V->List PyData->Prop
 | nil:DatS H [] []
 | cons {v:V} {vs:List V} {d:PyData} {ds:List PyData}:Dat H v d->DatS H vs ds->DatS H (v::vs) (d::ds)
end
structure Shw(d:PyData)(n m:Nat):Prop where
 s:d.showable=true
 l:d.leavesShort 13=true
 b:d.bulk<=n
 p:d.depth<=m
structure ShwS(ds:List PyData)(n m:Nat):Prop where
 s:PyData.showableAll ds=true
 l:PyData.leavesShortAll 13 ds=true
 b:PyData.bulkAll ds<=n
 p:PyData.depthAll ds<=m
section
variable{X:Cx}{K:yg}{pins:List (Addr×Obj)}{σ:List (Option V)}{H:Hp}{s:Shared}
end
theorem qc5{f:Str×NameKind->Str×NameKind}(b:∀ y,(f y).1=y.1)(c:∀ y,(f y).2=y.2\/(f y).2=.cell):∀{ns:List (Str×NameKind)} {x:Str},(ns.lookup x=some .cell\/ns.lookup x=some .free)->((ns.map f).lookup x=some .cell\/(ns.map f).lookup x=some .free)
 | [],x,h=>by simp at h
 | y::r,x,h=>by
  have e:((y::r).map f)=((f y).1,(f y).2)::r.map f:=rfl;have d:y::r=(y.1,y.2)::r:=rfl;rw[d,xn] at h;rw[e,xn,b y]
  cases a:x==y.1 with
  | false=>rw[a] at h;show qc5 b c h
  | true =>
   rw[a] at h;rcases c y with z | z
   .rw [z];show h
   .rw [z];show .inl rfl
theorem compB_re{sc scope:Scope}{env:Env}(h:qb8 sc scope=true):qb8 (relabel sc env) scope=true:=by
 unfold qb8 at h ⊢;rw[yY] at h ⊢;show⟨h.1,YK.mpr fun y b=>?_⟩;have:=YK.mp h.2 y b
 cases a:y.2 with
 | free =>
  rw[a] at this;simp only[yY,km,Yr] at this ⊢;show⟨?_,this.2⟩;show qc5 (fun y=>by dsimp only;split<;>rfl) (fun y=>by dsimp only;split<;>simp) this.1
 | _=>rw[a] at this;first | done | show this | cases this
section
variable{X:Cx}{tg elt iter:Expr}{ifs:List Expr}{scope sc1:Scope}{pos:Pos}{N N1:LS}{nl:Nat}{ixs:LN}{wi:TI}{g:TG}{tc:TT}{te:TE}{C1:Addr}{s1:Shared}{H1:Hp}{ex1:LQ}
theorem pe_compIn(N:LS)(nl:Nat)(ixs:LN)(hc:X.calm=true)(d:qb8 sc1 scope=true)(f:N.length=nl+ixs.length)(a:qfA nl ixs N N1 scope.names=true)
  (j:PI (X.comp N1 sc1 C1 s1 H1 ex1) tg iter wi) (i:∀ C c b ex,PG ((X.comp N1 sc1 C1 s1 H1 ex1).comp N scope C c b ex) tg g) (e:qdl nl g) (m:∀ C c b ex,qeY ((X.comp N1 sc1 C1 s1 H1 ex1).comp N scope C c b ex) ifs tc) (h:∀ C c b ex,PE ((X.comp N1 sc1 C1 s1 H1 ex1).comp N scope C c b ex) elt te)
  (l:∀ x,foldedSetIterable iter (X.comp N1 sc1 C1 s1 H1 ex1).env x=pure x:=by intro _;rfl):PE (X.comp N1 sc1 C1 s1 H1 ex1) (.ListComp elt [⟨tg,iter,ifs,0⟩] scope pos) (qed wi g tc te nl ixs):=
 jd (sc:=relabel sc1 X.env) (XN:=N1) N nl ixs rfl rfl hc (compB_re d) f a j i e m h l
end
section
variable{X:Cx}{K:yg}
theorem qce{e ty:TE}{b:St}{H:Hp}{Q:VK}(h:e b H fun x c=>∃ a,x=.ref a/\IsD c a/\ty b c fun y d=>∃ o,DGet d a y o/\Q (o.getD .non) d):qem e ty b H Q:=h
end
noncomputable abbrev Cx.soft(X:Cx):Cx:={ X with calm:=false }
structure RoomW(k:Nat)(A:Around):Prop where
 dp:A.depth+3*k+5<recursionLimit
 un:A.units+16*k+200<cLine
 gd:A.guards=some []
theorem RoomW.deeper{k:Nat}{A:Around}(r:RoomW (k+1) A)(env:Env):RoomW k (A.deeper env):=
 ⟨by have:=r.dp;show A.depth+1+3*k+5<_;lk,by have:=r.un;show A.units+3+16*k+200<_;lk,r.gd⟩
theorem Room.soft{j k:Nat}{A:Around}{h:Option Value}(r:Room k A)(l:j<=k):RoomW j (A.mark h):=⟨by have:=r.dp;show A.depth+3*j+5<_;lk,by have:=r.un;show A.units+16*j+200<_;lk,r.gd⟩
structure FnOkW(P:Program)(w:World)(K:yg)(mg:Str->Option Value)(base:Heap)(k:Nat)(f:Addr)(fd:FuncData)(ps:LS)(sp:Sp):Prop where
 len:∀ vs H Q E,sp vs H Q E->vs.length=ps.length
 run:∀(A:Around) (outer:List Env) (s:Shared) (H:Hp) (args:Args) (us:List Value) (vs:List V) (Q:VK) (E:XK),RoomW k A->Env0 P w K mg base A outer s H->BindsTo s fd args (ps.zip us)->Vals vs us->sp vs H Q E ->
  codeAny (model P w) A (.call (.ref f) args) (CR CX0 outer P w H s Q E) s
structure DefOkW(P:Program)(w:World)(K:yg)(mg:Str->Option Value)(base:Heap)(k:Nat)(x:Str)(ps:LS)(sp:Sp):Prop where
 ex:∃ f fd,FnOkW P w K mg base k f fd ps sp/\mg x=some (.ref f)/\PySem.W.keepIn K (.ref f)=true/\Binds K fd ps []
section
variable{X:Cx}{k:Nat}{f C:Addr}{fd:FuncData}{ps:LS}{sp:Sp}{x m:Str}{p pos apos:Pos}{e o:Expr}{es:List Expr}{ta:TE}{t:TA}
end
section
variable{P:Program}{w:World}{K:yg}{mg:Str->Option Value}{base:Heap}
end
theorem Inv.laidM{X:Cx}{a:List (Addr×Obj)}{f:St}{H H':Hp}{s:Shared}{h':Heap}{t':Nat}(I:Inv X a f H s)(k:∀ b u,s.heap.get? b=some u->h'.get? b=some u)
  (old:∀ b,b<s.heap.objs.size->H' b=H b) (new:∀ b u,s.heap.objs.size<=b->H' b=some u->ObjOk X.prog X.w H' h' b u):Inv X a f H' { s with heap:=h',toks:=t' }:=by
 have lt:∀ b u,H b=some u->b<s.heap.objs.size:=fun b u e=>kU fun z=>by rw[I.hok.fresh z] at e;cases e
 have up:∀ b u,H b=some u->H' b=some u:=fun b u e=>(old b (lt b u e)).trans e;show I.step (g':=s.gens) (d':=s.drawn) (ch:=[]) (fun b d=>by simp at d) (fun b o _ _ _ e _=>k b o e) (fun b o _ _ _ e _=>⟨o.slots,k b o e⟩) (fun b o _ e n=>(old b (yI e)).trans n)
  (fun b o _ e=>⟨o,k b o e⟩) (fun b xs e=>up b _ e) (fun b _ _ e=>up b _ e) (fun b h e=>⟨#[],by rw[up b _ e];simp⟩) (fun m ⟨o,es,ep,g,r⟩=>⟨o,es,ep,k _ o g,r⟩) (fun b u e=>?_) I.bare
 by_cases d:s.heap.objs.size<=b
 .show new b u d e
 .rw [old b (kU d)] at e;show(I.hok b u e).stay (fun c v _ q=>k c v q) (fun c q=>up c _ q) fun c xs q=>up c _ q
section
variable{prog:Program}{w:World}{A:Around}{E:Value->Shared->Prop}{s:Shared}
theorem alive_{a:Addr}{Q:Option Obj->Shared->Prop}(h:Q (s.heap.get? a) s):wpAny (model prog w) A (loadIfAlive a) Q E s:=fun b p _=>by
 show Sem.wp _ _ (.loadIfAlive a .pure) _ _ _ _;rw[Sem.wp_loadIfAlive];simpa using h
abbrev qe0(h:Heap)(z TI TO:Addr)(b:Value)(a:Bool):Prop:=h.get? z=some { cls:=.type "zip",dict:=none,data:=.fields #[b,.bool a,.bool false,.ref TI,.ref TO],slots:=#[] }
theorem qfm{z TI TO T:Addr}{a:Bool}{f:Obj}{Q:Bool->Shared->Prop}(hz:qe0 s.heap z TI TO (rawInt T) a)(d:s.heap.get? T=some f)
  (b:∀ h',qe0 h' z TI TO (rawInt T) true->Heap.SameBut z s.heap h'->Q false { s with heap:=h' }):wpAny (model prog w) A (Builtin.SmallTypes.ownedTupleIsFree (.ref z)) Q E s:=by
 unfold Builtin.SmallTypes.ownedTupleIsFree;show yr (xt hz rfl (x:=rawInt T) rfl ?_);show wpAny _ _ (loadIfAlive T>>=_) _ _ _;show yr (alive_ ?_);rw[d];show wpAny _ _ (field (.ref z) 1>>=_) _ _ _;show yr (xt hz rfl (x:=.bool a) rfl ?_)
 cases a with
 | true=>show yt (b _ hz ⟨rfl,fun _ _=>rfl⟩)
 | false =>
  show wpAny _ _ (setField (.ref z) 1 (.bool true)>>=_) _ _ _;show yr (wpAny_setField_rec hz (by simp) fun h1 c e=>yt (b h1 c e))
theorem znx{z TI TO d f a b T:Addr}{C:Bool}{L:Obj}{q r:Nat}{xs ys:Array Value}{x y:Value}{Q:Value->Shared->Prop}(D:ZipApart z TI TO d f a b)
  (hz:qe0 s.heap z TI TO (rawInt T) C) (H:s.heap.get? T=some L) (m:IsPair s.heap TI (.ref d) (.ref f))
  (h1:s.heap.IsListIter d a q) (F:s.heap.IsListIter f b r) (n:s.heap.IsList a xs) (p:s.heap.IsList b ys) (I:xs[q]?=some x) (J:ys[r]?=some y)
  (G:∀ h',qe0 h' z TI TO (rawInt T) true->h'.IsListIter d a (q+1)->h'.IsListIter f b (r+1)->IsPair h' s.heap.objs.size x y->h'.objs.size=s.heap.objs.size+1 ->
   (∀ c o,c≠z->c≠d->c≠f->s.heap.get? c=some o->h'.get? c=some o)->Q (.ref s.heap.objs.size) { s with heap:=h' }) :
  wpAny (model prog w) A (Builtin.«zip.__next__» ⟨[.ref z],[]⟩) (fun j O=>∃ v,j=.done (.ret v)/\Q v O) E s:=by
 show wpAny _ _ (field (.ref z) 2>>=_) _ _ _;show yr <| xt hz rfl (x:=.bool false) rfl ?_;show wpAny _ _ (field (.ref z) 3>>=_) _ _ _;show yr <| xt hz rfl (x:=.ref TI) rfl ?_;show yr <| kG m rfl ?_;show wpAny _ _ (Builtin.SmallTypes.ownedTupleIsFree _>>=_) _ _ _;show yr <| qfm hz H fun R P g=>?_;simp only[xK,XR];show yr ?_;rw[<- Array.forIn_toList];simp only[k9,Kd];show yr (yr (Yc ?_));show wpAny _ _ (Builtin.SmallTypes.nextOf (.ref d)>>=_) _ _ _;show yr <| XX (h1.extBut g.extBut D.i1z) (n.extBut g.extBut D.l1z) I fun S M h=>yt (yt ?_);show yr (yr (Yc ?_));show wpAny _ _ (Builtin.SmallTypes.nextOf (.ref f)>>=_) _ _ _;show yr <| XX ((F.extBut g.extBut D.i2z).extBut h.extBut D.i12.symm) ((p.extBut g.extBut D.l2z).extBut h.extBut D.l2i1) J fun l N i=>yt (yt (yt ?_));show yr (wpAny_newTuple (yt ⟨_,rfl,?_⟩) (by show 2<=sizeLine;decide));have es:l.objs.size=s.heap.objs.size:=by rw[i.1,h.1,g.1]
 have K:∀ c o,c≠z->c≠d->c≠f->s.heap.get? c=some o->l.get? c=some o:=fun c o t u B e=>i.extBut _ _ B (h.extBut _ _ u (g.extBut _ _ t e));rw[show(Value.ref l.objs.size)=.ref s.heap.objs.size by rw[es]];show G _ (yv _ (i.extBut _ _ D.i2z.symm (h.extBut _ _ D.i1z.symm P))) ((M.extBut i.extBut D.i12).at fun o e=>yv _ e) (N.at fun o e=>yv _ e) ?_ (by rw[YJ,es]) fun c o t u B e=>yv _ (K c o t u B e);rw[<- es];show yK _ rfl
theorem zne{z TI TO h i a b T:Addr}{F:Bool}{L:Obj}{r t:Nat}{xs ys:Array Value}{Q:Fin->Shared->Prop}(C:A.handled=none)(D:ZipApart z TI TO h i a b)
  (hz:qe0 s.heap z TI TO (rawInt T) F) (I:s.heap.get? T=some L) (l:IsPair s.heap TI (.ref h) (.ref i))
  (h1:s.heap.IsListIter h a r) (H:s.heap.IsListIter i b t) (g:s.heap.IsList a xs) (n:s.heap.IsList b ys) (f:xs[r]?=none\/ys[t]?=none)
  (B:∀ h' e,(∀ c o,c≠z->c≠h->c≠i->s.heap.get? c=some o->h'.get? c=some o)->(∃ o,h'.get? e=some o/\o.cls=.type "StopIteration")->E (.ref e) { s with heap:=h' }) :
  wpAny (model prog w) A (Builtin.«zip.__next__» ⟨[.ref z],[]⟩) Q E s:=by
 show wpAny _ _ (field (.ref z) 2>>=_) _ _ _;show yr <| xt hz rfl (x:=.bool false) rfl ?_;show wpAny _ _ (field (.ref z) 3>>=_) _ _ _;show yr <| xt hz rfl (x:=.ref TI) rfl ?_;show yr <| kG l rfl ?_;show wpAny _ _ (Builtin.SmallTypes.ownedTupleIsFree _>>=_) _ _ _;show yr <| qfm hz I fun N P d=>?_;simp only[xK,XR];show yr ?_;rw[<- Array.forIn_toList];simp only[k9,Kd];show yr (yr (Yc ?_));show wpAny _ _ (Builtin.SmallTypes.nextOf (.ref h)>>=_) _ _ _
 cases p:xs[r]? with
 | none=>show yr <| wpAny_nextOf_list_end C (h1.extBut d.extBut D.i1z) (g.extBut d.extBut D.l1z) p fun y e j m=>B y e (fun c o u v _ q=>j _ _ v (d.extBut _ _ u q)) m
 | some x =>
  have J:ys[t]?=none:=f.elim (fun z=>by rw[p] at z;cases z) id;show yr <| XX (h1.extBut d.extBut D.i1z) (g.extBut d.extBut D.l1z) p fun y O j=>yt (yt ?_);show yr (yr (Yc ?_));show wpAny _ _ (Builtin.SmallTypes.nextOf (.ref i)>>=_) _ _ _;show yr <| wpAny_nextOf_list_end C ((H.extBut d.extBut D.i2z).extBut j.extBut D.i12.symm) ((n.extBut d.extBut D.l2z).extBut j.extBut D.l2i1) J fun G e M m=>B G e (fun c o u v K q=>M _ _ K (j.extBut _ _ v (d.extBut _ _ u q))) m
def ZAt(z TI TO N:Nat)(h:Heap):Prop:=IsZip h z TI TO .none\/∃ T a o,N<=T/\qe0 h z TI TO (rawInt (T:Nat)) a/\h.get? T=some o
theorem ZAt.typ{z TI TO N:Nat}(h:ZAt z TI TO N s.heap):s.TypeIs (.ref z) "zip":=by
 rcases h with e | ⟨_,_,_,_,e,_⟩<;>show⟨_,e,rfl⟩
theorem znx_any{z TI TO h i a b N:Addr}{G H:Nat}{xs ys:Array Value}{x y:Value}{Q:Option Value->Shared->Prop}(D:ZipApart z TI TO h i a b)(O:N<=s.heap.objs.size)
  (hz:ZAt z TI TO N s.heap) (l:IsPair s.heap TI (.ref h) (.ref i)) (d:∃ u v,IsPair s.heap TO u v)
  (h1:s.heap.IsListIter h a G) (I:s.heap.IsListIter i b H) (m:s.heap.IsList a xs) (n:s.heap.IsList b ys) (K:xs[G]?=some x) (L:ys[H]?=some y) (f:z<N/\h<N/\i<N)
  (J:∀ h',ZAt z TI TO N h'->(∃ u v,IsPair h' TO u v)->h'.IsListIter h a (G+1)->h'.IsListIter i b (H+1)->IsPair h' s.heap.objs.size x y->h'.objs.size=s.heap.objs.size+1 ->
   (∀ c o,c≠z->c≠TO->c≠h->c≠i->s.heap.get? c=some o->h'.get? c=some o)->Q (some (.ref s.heap.objs.size)) { s with heap:=h' }) :
  wpAny (model prog w) A (pyNext (.ref z)) Q E s:=by
 obtain⟨u,v,d⟩:=d;have typ:=hz.typ;rcases hz with hz | ⟨T,b1,o,hT,hz,ho⟩
 .show wpAny_pyNext_zip_item D hz l d h1 I m n K L fun g r M t B p C j=>J g (.inr ⟨s.heap.objs.size,false,_,O,r,p⟩) ⟨_,_,M⟩ t B p C j
 .unfold pyNext;show yr (Xl (YM (name:=Str.ofString "__next__") typ ko (YD ko typ F.entry_zip_next (znx D hz ho l h1 I m n K L fun g r t B p C j=>yt ?_) (F.args_zip_next_1 _))));show J g (.inr ⟨T,true,o,hT,r,j _ _ (Yg (yj f.1 hT)) (Yg (yj f.2.1 hT)) (Yg (yj f.2.2 hT)) ho⟩) ⟨_,_,j _ _ D.TOz D.TOi1 D.TOi2 d⟩ t B p C fun c q P _ R S e=>j c q P R S e
theorem zne_any{z TI TO l m a b N:Addr}{t x:Nat}{xs ys:Array Value}{Q:Option Value->Shared->Prop}(r:A.handled=none)(D:ZipApart z TI TO l m a b)
  (hz:ZAt z TI TO N s.heap) (h:IsPair s.heap TI (.ref l) (.ref m)) (f:∃ u v,IsPair s.heap TO u v)
  (h1:s.heap.IsListIter l a t) (n:s.heap.IsListIter m b x) (i:s.heap.IsList a xs) (j:s.heap.IsList b ys) (d:xs[t]?=none\/ys[x]?=none)
  (p:∀ h',(∀ c o,c≠z->c≠TO->c≠l->c≠m->s.heap.get? c=some o->h'.get? c=some o)->Q none { s with heap:=h' }):wpAny (model prog w) A (pyNext (.ref z)) Q E s:=by
 obtain⟨u,v,f⟩:=f;have typ:=hz.typ;rcases hz with hz | ⟨T,b1,o,hT,hz,ho⟩
 .show wpAny_pyNext_zip_end r D hz h f h1 n i j d p
 .unfold pyNext;show yr (Xl (YM (name:=Str.ofString "__next__") typ ko (YD ko typ F.entry_zip_next (zne r D hz ho h h1 n i j d fun g e k y=>?_) (F.args_zip_next_1 _))));obtain⟨q,B,hc⟩:=y;show yr (X7 (T:="StopIteration") (b:=true) ⟨q,B,hc⟩ isSubtype_stop ?_);show yt (p _ fun c o C _ G H e=>k c o C G H e)
end
structure LZ(z TI TO i1 i2 a b S N:Nat)(xs ys:Array Value)(h0:Heap)(i:Nat)(acc:Array Value)(c:Nat)(h:Heap):Prop where
 zp:ZAt z TI TO N h
 ti:IsPair h TI (.ref i1) (.ref i2)
 tO:∃ u v,IsPair h TO u v
 j1:h.IsListIter i1 a i
 j2:h.IsListIter i2 b i
 la:h.IsList a xs
 lb:h.IsList b ys
 ls:h.get? S=some { cls:=.type "list",dict:=none,data:=.seq acc c,slots:=#[] }
 sz:N<=h.objs.size
 len:acc.size=i
 its:∀(j:Nat) v,acc[j]?=some v->∃ t x y,v=.ref t/\N<=t/\IsPair h t x y/\xs[j]?=some x/\ys[j]?=some y
 nd:∀(j k:Nat) v,acc[j]?=some v->acc[k]?=some v->j=k
 kp:∀ q o,q<N->q≠z->q≠TO->q≠i1->q≠i2->q≠S->h0.get? q=some o->h.get? q=some o
structure LE(z TO i1 i2 S N:Nat)(xs ys:Array Value)(h0:Heap)(n:Nat)(acc:Array Value)(c:Nat)(h:Heap):Prop where
 ls:h.get? S=some { cls:=.type "list",dict:=none,data:=.seq acc c,slots:=#[] }
 len:acc.size=n
 its:∀(j:Nat) v,acc[j]?=some v->∃ t x y,v=.ref t/\N<=t/\IsPair h t x y/\xs[j]?=some x/\ys[j]?=some y
 nd:∀(j k:Nat) v,acc[j]?=some v->acc[k]?=some v->j=k
 kp:∀ q o,q<N->q≠z->q≠TO->q≠i1->q≠i2->q≠S->h0.get? q=some o->h.get? q=some o
structure LA(z TI TO i1 i2 a b S N:Nat):Prop where
 D:ZipApart z TI TO i1 i2 a b
 lt:z<S/\TI<S/\TO<S/\i1<S/\i2<S/\a<S/\b<S
 S:S<N
theorem LZ.at{z TI TO g l a b S N:Nat}{xs ys:Array Value}{w h h':Heap}{i c r:Nat}{acc d:Array Value}(L:LA z TI TO g l a b S N)(x:LZ z TI TO g l a b S N xs ys w i acc c h)
  (k:Heap.SameBut S h h') (R:h'.get? S=some { cls:=.type "list",dict:=none,data:=.seq d r,slots:=#[] }) (len:d.size=i) (m:∀(j:Nat) v,d[j]?=some v->∃ t x y,v=.ref t/\N<=t/\IsPair h t x y/\xs[j]?=some x/\ys[j]?=some y) (nd:∀(j k:Nat) v,d[j]?=some v->d[k]?=some v->j=k):LZ z TI TO g l a b S N xs ys w i d r h':=by
 obtain⟨l1,l2,J,K,M,O,P⟩:=L.lt;have A:=L.S;have f:∀{q o},q≠S->h.get? q=some o->h'.get? q=some o:=fun n e=>k.extBut _ _ n e;show⟨?_,f (yL l2) x.ti,?_,x.j1.at fun o e=>f (yL K) e,x.j2.at fun o e=>f (yL M) e,x.la.extBut k.extBut (yL O),x.lb.extBut k.extBut (yL P),R,by rw[k.1];show x.sz,len,fun j v e=>?_,nd,fun q o B C D E F p e=>f p (x.kp q o B C D E F p e)⟩
 .rcases x.zp with e | ⟨T,b1,o,hT,e,eo⟩
  .show .inl (f (yL l1) e)
  .show .inr ⟨T,b1,o,hT,f (yL l1) e,f (Yg (yj A hT)) eo⟩
 .obtain⟨u,v,e⟩:=x.tO;show⟨u,v,f (yL J) e⟩
 .obtain⟨t,u,v,G,s,H,I⟩:=m j v e;show⟨t,u,v,G,s,f (Yg (yj A s)) H,I⟩
section
variable{prog:Program}{w:World}{A:Around}{R:Result->Shared->Prop}{z TI TO i1 i2 a b S N:Nat}{xs ys:Array Value}{h0:Heap}
theorem zloop(hh:A.handled=none)(L:LA z TI TO i1 i2 a b S N)(hn:min xs.size ys.size<=2 ^ 24)(res:Value):∀(k i:Nat) (s:Shared) (acc:Array Value) (c:Nat),min xs.size ys.size-i=k->i<=min xs.size ys.size->LZ z TI TO i1 i2 a b S N xs ys h0 i acc c s.heap ->
  (∀ h' M O,LE z TO i1 i2 S N xs ys h0 (min xs.size ys.size) M O h'->R (.ok (.ret res)) { s with heap:=h' })->codeAny (model prog w) A (.builtin "list.extend.loop" ⟨[.ref S,.ref z,res],[]⟩) R s:=by
 have C:=L.S;obtain⟨l1,l2,U,E,G,l6,l7⟩:=L.lt;have p:∀{t q:Nat},N<=t->q<S->t≠q:=fun h1 h2=>by lk
 intro k
 induction k with
 | zero =>
  intro i s acc c hk hi x hR;show xO F.entry_extend_loop ?_;rw[xu XA _];show wpAny _ A.in1 (pyNext _>>=_) _ _ s
  have he:xs[i]?=none\/ys[i]?=none:=by
   rcases Nat.le_total xs.size ys.size with q | q
   .show .inl (Xh (by lk))
   .show .inr (Xh (by lk))
  show yr (zne_any hh L.D x.zp x.ti x.tO x.j1 x.j2 x.la x.lb he fun h' l=>yt (hR h' acc c ⟨?_,by rw[x.len];lk,fun j v e=>?_,x.nd,fun q o H y I J K X e=>l q o y I J K (x.kp q o H y I J K X e)⟩))
  .show l S _ (Yg l1) (Yg U) (Yg E) (Yg G) x.ls
  .obtain⟨t,u,v,m,g,e3,e4⟩:=x.its j v e;show⟨t,u,v,m,g,l t _ (p g l1) (p g U) (p g E) (p g G) e3,e4⟩
 | succ k ih =>
  intro i s acc c hk hi x hR;show xO F.entry_extend_loop ?_;rw[xu XA _];show wpAny _ A.in1 (pyNext _>>=_) _ _ s;obtain⟨u,hu⟩:∃ u,xs[i]?=some u:=⟨_,YT (by lk)⟩;obtain⟨v,hv⟩:∃ v,ys[i]?=some v:=⟨_,YT (by lk)⟩;show yr (znx_any L.D x.sz x.zp x.ti x.tO x.j1 x.j2 x.la x.lb hu hv ⟨kY l1 C,kY E C,kY G C⟩ fun h1 z1 ab m g eP Z l=>?_);have P:=l S _ (Yg l1) (Yg U) (Yg E) (Yg G) x.ls;show wpAny _ A.in1 (updateSeq S (·.push (.ref s.heap.objs.size))>>=_) _ _ _;have f:=x.len;have hN:=x.sz
  have W:∀ j:Nat,acc[j]?≠some (.ref s.heap.objs.size):=fun j e=>by
   obtain⟨t,Y,w',q1,B,q3,_⟩:=x.its j _ e;cases q1;show absurd (yI q3) (Yv _)
  have aa:∀(j k:Nat) r,(acc.push (.ref s.heap.objs.size))[j]?=some r->(acc.push (.ref s.heap.objs.size))[k]?=some r->j=k:=fun j k r m g=>by
   rw[Array.getElem?_push] at m g;split at m<;>split at g
   .rename_i H y;rw[H,y]
   .cases m;show absurd g (W k)
   .cases g;show absurd m (W j)
   .show x.nd j k r m g
  obtain⟨O,ac⟩:∃ O,(h1.update S (Obj.mapSeq (·.push (.ref s.heap.objs.size)))).get? S=some { cls:=.type "list",dict:=none,data:=.seq (acc.push (.ref s.heap.objs.size)) O,slots:=#[] }:=⟨_,Yh (Obj.mapSeq (·.push (.ref s.heap.objs.size))) P rfl⟩;show yr (Xk P rfl (yt ⟨XC XA _,ih (i+1) _ (acc.push (.ref s.heap.objs.size)) O (by lk) (by lk) ?_ hR⟩) ?_ ?_)
  .have sb:Heap.SameBut S h1 (h1.update S (Obj.mapSeq (·.push (.ref s.heap.objs.size)))):=Yw ..;have h:∀{q o},q≠S->h1.get? q=some o->(h1.update S (Obj.mapSeq (·.push (.ref s.heap.objs.size)))).get? q=some o:=fun n e=>sb.extBut _ _ n e;show⟨?_,h (yL l2) (l _ _ L.D.TIz L.D.TITO L.D.TIi1 L.D.TIi2 x.ti),?_,m.at fun o e=>h (yL E) e,g.at fun o e=>h (yL G) e,?_,?_,ac,by rw[sb.1,Z];lk,by rw[Array.size_push,f],fun j r e=>?_,aa,fun q o H y I J K X e=>h X (l q o y I J K (x.kp q o H y I J K X e))⟩
   .rcases z1 with e | ⟨T,b1,o,hT,e,eo⟩
    .show .inl (h (yL l1) e)
    .show .inr ⟨T,b1,o,hT,h (yL l1) e,h (Yg (yj C hT)) eo⟩
   .obtain⟨Y,r,e⟩:=ab;show⟨Y,r,h (yL U) e⟩
   .obtain⟨o,e,d⟩:=x.la;show⟨o,h (yL l6) (l _ _ L.D.l1z L.D.l1TO L.D.l1i1 L.D.l1i2 e),d⟩
   .obtain⟨o,e,d⟩:=x.lb;show⟨o,h (yL l7) (l _ _ L.D.l2z L.D.l2TO L.D.l2i1 L.D.l2i2 e),d⟩
   .rw [Array.getElem?_push] at e;split at e
    .rename_i ej
     cases e;rw[ej,f];show⟨_,u,v,rfl,hN,h (Yg (yj C hN)) eP,hu,hv⟩
    .obtain⟨t,Y,w',q1,B,q3,q4⟩:=x.its j r e;show⟨t,Y,w',q1,B,h (Yg (yj C B)) (l t _ (p B l1) (p B U) (p B E) (p B G) q3),q4⟩
  .rw [f,YA];lk
  .show(acc.push _).size<=sizeLine+1;rw[Array.size_push,f,YA];lk
theorem zip_len0:typeLookup (.type "zip") "__len__"=pure none:=by rw[kq,Xm];kernel_rfl
theorem zip_hint0:typeLookup (.type "zip") "__length_hint__"=pure none:=by rw[kq,Xm];kernel_rfl
theorem zext{s:Shared}{p:Nat}(u:A.handled=none)(L:LA z TI TO i1 i2 a b S N)(y:min xs.size ys.size<=2 ^ 24)(res:Value)(hz:IsZip s.heap z TI TO .none)(x:LZ z TI TO i1 i2 a b S N xs ys h0 0 #[] p s.heap)
  (t:∀ h' c d,LE z TO i1 i2 S N xs ys h0 (min xs.size ys.size) c d h'->R (.ok (.ret res)) { s with heap:=h' }) :
  wpAny (model prog w) A.in1 (Builtin.List.listExtendWith (.ref S) (.ref z) res) (fun h g=>match h with | .done f=>R (.ok f) g | .again d=>d.quiet=true/\codeAny (model prog w) A d R g) (fun e g=>R (.error e) g) s:=by
 obtain⟨l1,_⟩:=L.lt;have typ:s.TypeIs (.ref z) "zip":=⟨_,hz,rfl⟩;unfold Builtin.List.listExtendWith;show yr <| kA typ ?_;have B:Builtin.List.listSameRef (.ref S) (.ref z)=false:=by simp[Builtin.List.listSameRef,Yg l1]
 have o:(Value.type "zip"==.type "list")=false/\(Value.type "zip"==.type "tuple")=false:=by decide
 simp only[B,o.1,o.2,kc,xK,XR];show yr <| kT hz <| yr <| Yc ?_;unfold Builtin.List.listLengthHint;show yr <| Kb typ zip_len0 ?_;show wpAny _ _ (specialOf (Value.ref z) (Str.ofString "__length_hint__")>>=_) _ _ _;show yr <| Kb typ zip_hint0 <| yt ?_;show wpAny _ _ (rule "list.extend.makes-room">>=fun _=>Builtin.List.listTouch (.ref S)>>=fun _=>again (.builtin "list.extend.loop" ⟨[.ref S,.ref z,res],[]⟩)) _ _ _;show yr <| kF <| yr ?_;show wpAny _ _ (updateSeq S (·.push .none)>>=fun _=>updateSeq S (·.pop)) _ _ _;show yr <| Xk x.ls rfl ?_;have i:=Yh (Obj.mapSeq (·.push Value.none)) x.ls rfl;show Xk (hz:=by seq_fits) i rfl ?_;have r:=Yh (Obj.mapSeq (·.pop)) i rfl
 have C:Heap.SameBut S s.heap ((s.heap.update S (Obj.mapSeq (·.push Value.none))).update S (Obj.mapSeq (·.pop))):=by
  have l:Heap.SameBut S s.heap (s.heap.update S (Obj.mapSeq (·.push Value.none))):=Yw ..;have m:Heap.SameBut S (s.heap.update S (Obj.mapSeq (·.push Value.none))) ((s.heap.update S (Obj.mapSeq (·.push Value.none))).update S (Obj.mapSeq (·.pop))):=Yw ..;show⟨m.1.trans l.1,fun q n=>(m.2 q n).trans (l.2 q n)⟩
 show yt ⟨XC XA _,zloop u L y res _ 0 _ #[] _ rfl (YX _) (x.at L C r rfl (fun j v e=>by simp at e) fun j k v e=>by simp at e) t⟩
theorem zinit{s:Shared}{l:Nat}(o:A.handled=none)(L:LA z TI TO i1 i2 a b S N)(p:min xs.size ys.size<=2 ^ 24)(hz:IsZip s.heap z TI TO .none)(x:LZ z TI TO i1 i2 a b S N xs ys h0 0 #[] l s.heap)
  (n:∀ h' c d,LE z TO i1 i2 S N xs ys h0 (min xs.size ys.size) c d h'->R (.ok (.ret .none)) { s with heap:=h' }) :
  wpAny (model prog w) A.in1 (Builtin.«list.__init__» ⟨[.ref S,.ref z],[]⟩) (fun h g=>match h with | .done f=>R (.ok f) g | .again d=>d.quiet=true/\codeAny (model prog w) A d R g) (fun e g=>R (.error e) g) s:=by
 obtain⟨l1,_⟩:=L.lt;show wpAny _ _ (do let old <- Builtin.List.listItems (.ref S);Builtin.List.listUpdate (.ref S) (fun _=>#[]);letGo old.toList.reverse;Builtin.List.listExtendWith (.ref S) (.ref z) .none) _ _ s;show yr ?_;unfold Builtin.List.listItems;show yr <| kG x.ls rfl <| yt ?_;show wpAny _ _ (updateSeq S (fun _=>#[])>>=fun _=>letGo _>>=fun _=>Builtin.List.listExtendWith (.ref S) (.ref z) .none) _ _ s;show yr <| Xk x.ls rfl ?_;have m:=Yh (Obj.mapSeq (fun _=>(#[]:Array Value))) x.ls rfl;have i:Heap.SameBut S s.heap (s.heap.update S (Obj.mapSeq (fun _=>(#[]:Array Value)))):=Yw ..;show yr <| wpAny_letGo ?_;show zext o L p .none (i.extBut _ _ (yL l1) hz) (x.at L i m rfl (fun j v e=>by simp at e) fun j k v e=>by simp at e) n
end
section
variable{prog:Program}{w:World}{A:Around}{E:Value->Shared->Prop}{s:Shared}
theorem call_list_zip{z TI TO h i a b:Nat}{xs ys:Array Value}{Q:Value->Shared->Prop}(H:A.handled=none)(D:ZipApart z TI TO h i a b)(I:min xs.size ys.size<=2 ^ 24)(hz:IsZip s.heap z TI TO .none)(l:IsPair s.heap TI (.ref h) (.ref i))(f:∃ u v,IsPair s.heap TO u v)
  (h1:s.heap.IsListIter h a 0) (y:s.heap.IsListIter i b 0) (m:s.heap.IsList a xs) (n:s.heap.IsList b ys)
  (G:∀ h' c t,LE z TO h i s.heap.objs.size (s.heap.objs.size+1) xs ys s.heap (min xs.size ys.size) c t h'->Q (.ref s.heap.objs.size) { s with heap:=h' }):wpAny (model prog w) A (call (.type "list") [.ref z]) Q E s:=by
 show callType_codes (Q₁:=fun r g=>r=.ref s.heap.objs.size/\g={ s with heap:=s.heap.push { cls:=.type "list",data:=.seq #[] } }) F.called_list (F.typeCall_list_1 _) F.entry_list_init (code_list_new _ ⟨rfl,rfl⟩) fun r g p=>?_;obtain⟨rfl,rfl⟩:=p;have B:(s.heap.push { cls:=.type "list",data:=.seq #[] }).get? s.heap.objs.size=some { cls:=.type "list",data:=.seq #[] }:=yK _ rfl;have up:∀{q o},s.heap.get? q=some o->(s.heap.push { cls:=.type "list",data:=.seq #[] }).get? q=some o:=fun e=>yv _ e;have lt:∀{q o},s.heap.get? q=some o->q<s.heap.objs.size:=fun e=>yI e;obtain⟨u,v,f⟩:=f
 have L:LA z TI TO h i a b s.heap.objs.size (s.heap.objs.size+1):=by
  show⟨D,⟨lt hz,lt l,lt f,?_,?_,?_,?_⟩,xG _⟩
  .obtain⟨_,e,_⟩:=h1;show lt e
  .obtain⟨_,e,_⟩:=y;show lt e
  .obtain⟨_,e,_⟩:=m;show lt e
  .obtain⟨_,e,_⟩:=n;show lt e
 have x:LZ z TI TO h i a b s.heap.objs.size (s.heap.objs.size+1) xs ys s.heap 0 #[] 0 (s.heap.push { cls:=.type "list",data:=.seq #[] }):=by
  show⟨.inl (up hz),up l,⟨u,v,up f⟩,h1.at fun o e=>up e,y.at fun o e=>up e,?_,?_,B,by rw[YJ];show yh _,rfl,fun j v e=>by simp at e,fun j k v e=>by simp at e,fun q o _ _ _ _ _ _ e=>up e⟩
  .obtain⟨o,e,d⟩:=m;show⟨o,up e,d⟩
  .obtain⟨o,e,d⟩:=n;show⟨o,up e,d⟩
 show⟨⟨_,B,rfl⟩,F.args_list_init_2 _ _,zinit (A:=A.in1) H L I (up hz) x fun h' c t C=>⟨rfl,G h' c t C⟩⟩
end
structure Zl(H H':Hp)(l:Addr)(ts:LQ)(xs ys:List V):Prop where
 sm:L2.Same H H'
 fl:H l=none
 ls:H' l=some (.lst (ts.map V.ref))
 len:ts.length=min xs.length ys.length
 tp:∀(j:Nat) t,ts[j]?=some t->H t=none/\∃ x y,xs[j]?=some x/\ys[j]?=some y/\H' t=some (.tup [x,y])
theorem qfn(H:Hp):∀(a:LQ) (xs ys:List V),a.Nodup->a.length<=xs.length->a.length<=ys.length->∃ G:Hp,(∀(j:Nat) t x y,a[j]?=some t->xs[j]?=some x->ys[j]?=some y->G t=some (.tup [x,y]))/\∀ q,q∉a->G q=H q
 | [],_,_,_,_,_=>⟨H,fun j t x y e=>by simp at e,fun _ _=>rfl⟩
 | t::a,[],_,_,h,_=>by simp at h
 | t::a,_::_,[],_,_,h=>by simp at h
 | t::a,x::xs,y::ys,nd,h1,h2=>by
  obtain⟨m,n⟩:=yo.mp nd;obtain⟨G,i,l⟩:=qfn H a xs ys n (by simpa using h1) (by simpa using h2);show⟨upd G t (.tup [x,y]),fun j t' o p c d f=>?_,fun q g=>?_⟩
  .cases j with
   | zero=>simp at c d f;subst c d f;show qb
   | succ j =>
    have b:a[j]?=some t':=by simpa using c
    rw[qf fun z=>m (by rw[<- z];show ye b)];show i j t' o p b (by simpa using d) (by simpa using f)
  .rw [qf fun z=>g (by rw[z];show yR)];show l q fun z=>g (yB _ z)
noncomputable def refN:Value->Nat
 | .ref a=>a
 | _=>0
def tLZ(K:yg)(d:TA):TE:=fun f H Q=>d f H fun vs c=>∃ a b xs ys,vs=[.ref a,.ref b]/\SqL K c a xs/\SqL K c b ys/\xs.length<=1000/\∀ l e H',Zl c H' l e xs ys->Q (.ref l) H'
theorem vLZ{K:yg}{d:TA}{e:St}{H:Hp}{Q:VK}(h:d e H fun vs c=>∃ a b xs ys,vs=[.ref a,.ref b]/\SqL K c a xs/\SqL K c b ys/\xs.length<=1000/\∀ l f H',Zl c H' l f xs ys->Q (.ref l) H'):tLZ K d e H Q:=h
theorem qcE{X:Cx}{K:yg}{a b:Expr}{ta:TA}{p p2 an f:Pos}(hK:X.K=K)(hc:X.calm=true)(hg:Gl X "list")(af:Gl X "zip")(F:X.mg "list"=none)(aj:X.mg "zip"=none)(ha:PA X [a,b] ta)(hs:starEach [a,b] X.env=[(false,eval a X.env),(false,eval b X.env)]:=by rfl)(P:starEach [b] X.env=[(false,eval b X.env)]:=by rfl)
  (he:starEach [.Call (.Name "zip" p2) [a,b] [] f] X.env=[(false,eval (.Call (.Name "zip" p2) [a,b] [] f) X.env)]:=by rfl):PE X (.Call (.Name "list" p) [.Call (.Name "zip" p2) [a,b] [] f] [] an) (tLZ K ta):=by
 subst hK;intro Y s σ H Q I h;show Call_ (qa9 I hg F xp (Y7 (T:="list") ?_ he rfl));rw[he];show wpAny _ _ (spliced ((false,eval (.Call (.Name "zip" p2) [a,b] [] f) X.env)::[])) _ _ s;show kB ?_;show Call_ (qa9 I af aj qc3 (Y7 (thn (ha f Y s σ H _ I h) fun us w ⟨vs,H1,A,r1,q1⟩=>?_) (by rw[hs,P]) (by rw[P];rfl)));obtain⟨a,b,xs,ys,e,hq,ak,hx,q⟩:=q1;subst e
 cases r1 with
 | cons r rr =>
  cases rr with
  | cons r2 rr =>
   cases rr;cases r;cases r2;obtain⟨C,rv,pl,_⟩:=A.list hq;obtain⟨l,Z,D,_⟩:=A.list ak;have al:a<w.heap.objs.size:=by obtain⟨_,e,_⟩:=pl.isList;show yI e
   have am:b<w.heap.objs.size:=by obtain⟨_,e,_⟩:=D.isList;show yI e
   have l1:=rv.length;have l2:=Z.length;show call_zip_2 pl.isList D.isList fun h1 hz ad ae ag ah hsz hk=>kI ?_;have la:h1.IsList a C.toArray:=by obtain⟨o,e,d⟩:=pl.isList;show⟨o,hk _ _ e,d⟩
   have B:h1.IsList b l.toArray:=by obtain⟨o,e,d⟩:=D.isList;show⟨o,hk _ _ e,d⟩
   show call_list_zip (A.ok.hd hc) (PySem.W.ktu_apart _ _ _ al am) (by simp only[yx];lk) hz ad ⟨_,_,ae⟩ ag ah la B fun h2 acc c L=>?_;have L:LE (w.heap.objs.size+4) (w.heap.objs.size+3) w.heap.objs.size (w.heap.objs.size+1) h1.objs.size (h1.objs.size+1) C.toArray l.toArray h1 (min C.toArray.size l.toArray.size) acc c h2:=L;have O:acc.size=min xs.length ys.length:=by rw[L.len,l1,l2,yx,yx]
   obtain⟨g,R⟩:∃ g,g=acc.toList.map refN:=⟨_,rfl⟩;have n:g.length=min xs.length ys.length:=by rw[R,ya,Yk,O]
   have J:∀(j:Nat) t,g[j]?=some t->acc[j]?=some (.ref t)/\h1.objs.size+1<=t/\∃ x y,xs[j]?=some x/\ys[j]?=some y/\∃ u v,RelV x u/\RelV y v/\IsPair h2 t u v:=fun j t e=>by
    rw[R,yd,xl] at e;obtain⟨v,ev,et⟩:=yn.mp e;obtain⟨t',u1,u2,q1,q2,q3,q4,q5⟩:=L.its j v ev;subst q1;have ac:t'=t:=et;subst ac;have hj:j<acc.size:=(Array.getElem?_eq_some_iff.mp ev).1;obtain⟨x,S⟩:∃ x,xs[j]?=some x:=⟨_,yb (by lk)⟩;obtain⟨y,U⟩:∃ y,ys[j]?=some y:=⟨_,yb (by lk)⟩;obtain⟨a1,aa,ao⟩:=rv.get S;obtain⟨a2,ab,ap⟩:=Z.get U;have b1:a1=u1:=by rw[List.getElem?_toArray,aa] at q4;cases q4;rfl
    have b2:a2=u2:=by rw[List.getElem?_toArray,ab] at q5;cases q5;rfl
    subst b1 b2;show⟨ev,q2,x,y,S,U,a1,a2,ao,ap,q3⟩
   have nd:g.Nodup:=by
    show Yd.mpr fun i j hi hj ai e=>?_;have M:=(J i g[i] (yb hi)).1;have N:=(J j g[j] (yb hj)).1;rw[e] at M;show absurd (L.nd i j _ M N) (yL ai)
   have mem:∀ t∈g,h1.objs.size+1<=t:=fun t ht=>by
    obtain⟨j,e⟩:=xm.mp ht;show(J j t e).2.1
   obtain⟨G,g1,g2⟩:=qfn H1 g xs ys nd (by lk) (by lk)
   have old:∀ q,q<w.heap.objs.size->upd G h1.objs.size (.lst (g.map V.ref)) q=H1 q:=fun q hq=>by
    rw[qf (yL (by lk))];show g2 q fun z=>by have:=mem q z;lk
   have tl:∀ t∈g,t≠h1.objs.size:=fun t ht=>by have:=mem t ht;show Yg this
   show⟨.ref _,_,A.laidM (t':=w.toks) (H':=upd G h1.objs.size (.lst (g.map V.ref))) (fun b u e=>?_) old fun b u hb e=>?_,rfl,q _ g _ ⟨fun b o e=>?_,A.hok.fresh (by show(w.heap.objs.size:Nat)<=h1.objs.size;lk),qb,n,fun j t e=>?_⟩⟩
   .have B:∀ m:Nat,w.heap.objs.size<=m->b<m:=fun m F=>yj (yI e) F;show L.kp b u (B _ (by lk)) (yL (B _ (by lk))) (yL (B _ (by lk))) (yL (B _ (by lk))) (yL (B _ (by lk))) (yL (B _ (by lk))) (hk b u e)
   .by_cases hl:b=h1.objs.size
    .subst hl;rw[qb] at e;cases e;show⟨by rw[ya,n,YA];lk,acc.toList,c,qaf (by rw[ya,n];show O.symm) fun j y u M N=>?_,by rw[Array.toArray_toList];show L.ls⟩;rw[yd] at M;obtain⟨t,et,E⟩:=yn.mp M;subst E;rw[xl,(J j t et).1] at N;cases N;rfl
    .rw [qf hl] at e;by_cases F:b∈g
     .obtain⟨j,ej⟩:=xm.mp F;obtain⟨_,_,x,y,ex,E,u1,u2,r1,r2,ep⟩:=J j b ej;rw[g1 j b x y ej ex E] at e;cases e;show⟨by show 2<=sizeLine;decide,[u1,u2],.cons r1 (.cons r2 .nil),⟨_,ep,rfl,_,rfl⟩⟩
     .rw [g2 b F,A.hok.fresh hb] at e;cases e
   .rw [old b (kU fun z=>by rw[A.hok.fresh z] at e;cases e)];show e
   .obtain⟨_,N,x,y,ex,E,_⟩:=J j t e;show⟨A.hok.fresh (by lk),x,y,ex,E,?_⟩;rw[qf (tl t (ye e))];show g1 j t x y e ex E
section
variable{X:Cx}
end
section
variable{prog:Program}{w:World}{A:Around}{E:Value->Shared->Prop}{s:Shared}{a:Addr}
def TxS(w:World)(h:Heap)(a:Addr)(ss:LS):Prop:=
 ∃(es:Array (Int×Value)) (ep:Nat) (t:SetTable),h.get? a=some { cls:=.type "set",dict:=none,data:=.set es ep t } /\
  (∀ e∈es.toList,∃ k u,e=(hashStr w k,Value.str k u))/\(es.toList.map fun e=>strOf e.2).Perm ss/\t.fits es.size=true/\(es.size=0\/t.plain=false)/\es.size<scanBound
theorem TxS.keep{h h':Heap}{ss:LS}(x:TxS w h a ss)(e:∀ o,h.get? a=some o->h'.get? a=some o):TxS w h' a ss:=by
 obtain⟨es,ep,t,b,r⟩:=x;show⟨es,ep,t,e _ b,r⟩
theorem TxS.len{h:Heap}{ss:LS}{es:Array (Int×Value)}(p:(es.toList.map fun e=>strOf e.2).Perm ss):es.size=ss.length:=by
 rw[<- p.length_eq,ya,Yk]
theorem or_plain{t:SetTable}{n:Nat}(a:t.plain=false):(t.orStandIn n).plain=false:=by
 unfold SetTable.orStandIn;split
 .show a
 .rfl
theorem lay_plain{t:SetTable}{es:Array (Int×Value)}{h:Int}{x:Value}(a:t.plain=false):(layNew t es h x).2.1.plain=false:=by
 unfold layNew;split
 .show or_plain a
 .rfl
theorem laid_plain{m f v:Nat}{l p:Bool}{a:Array Int}{r:SetTable×Array Nat}(h:SetTable.laid m f v l p a=some r):r.1.plain=p:=by
 unfold SetTable.laid at h
 cases hc:SetTable.layClean m a with
 | none=>rw[hc] at h;cases h
 | some o=>rw[hc] at h;cases h;rfl
theorem relay_plain{t:SetTable}{es:Array (Int×Value)}{n:Nat}(a:t.plain=false):(relayAll t es n).2.1.plain=false:=by
 unfold relayAll;split
 .rename_i t' order h
  dsimp only;split
  .rw [laid_plain (r:=(t',order)) h];show a
  .rfl
 .rfl
theorem elems_of{es:List (Int×Value)}(h:∀ e∈es,∃ k u,e=(hashStr w k,Value.str k u)):ElemsOf (PySem.strKind prog w) es:=by
 intro e a;obtain⟨k,u,rfl⟩:=h e a;show⟨⟨k,strKind_is _ _ _ _,rfl⟩,rfl⟩
theorem qev{h:Heap}{es es':Array (Int×Value)}{ep:Nat}{t t':SetTable}(b:h.get? a=some { cls:=.type "set",dict:=none,data:=.set es ep t }):(h.update a (Obj.putSet es' t')).get? a=some { cls:=.type "set",dict:=none,data:=.set es' (ep+1) t' }:=by
 have:=Yh (Obj.putSet es' t') b rfl;show this
theorem add_txt{ss:LS}{k:Str}{u:Tok}{Q:Bool->Shared->Prop}(hS:TxS w s.heap a ss)(hk:k∉ss)(hb:ss.length+1<scanBound)
  (h:∀ h',Heap.SameBut a s.heap h'->TxS w h' a (ss++[k])->Q true { s with heap:=h' }) :
  wpAny (model prog w) A (setAddHashed a (.str k u) (hashStr w k)) Q E s:=by
 obtain⟨es,ep,t,S,v,hp,hf,ab,hsz⟩:=hS;have l:=elems_of (prog:=prog) v;unfold setAddHashed setAddHashedIn;show Yc (yr (YY S rfl hf ?_));dsimp only;rw[byScan_of (knd:=PySem.strKind prog w) rfl hsz l];simp only[↓reduceIte];unfold setAddByScan;show yr ?_;show yr (kF ?_);show yr (wpAny_setScan_of (knd:=PySem.strKind prog w) (k:=k) (strKind_is _ _ _ _) S rfl hf l ?_)
 have Z:es.toList.findIdx? (fun e=>(PySem.strKind prog w).is k e.2)=none:=by
  rw[List.findIdx?_eq_none_iff];intro e F;obtain⟨k',u',rfl⟩:=v e F;have Y:k≠k':=fun U=>hk (hp.mem_iff.mp (Yq.mpr ⟨_,F,U.symm⟩))
  cases hc:(PySem.strKind prog w).is k (Value.str k' u') with
  | false=>rfl
  | true=>show absurd ((PySem.strKind prog w).inj _ _ _ hc (strKind_is _ _ _ _)) Y
 rw[Z];dsimp only;have d:=layNew_perm t es (hashStr w k) (.str k u);have f:=layNew_fits t es (hashStr w k) (.str k u);have K:=@lay_plain t es (hashStr w k) (.str k u);generalize layNew t es (hashStr w k) (.str k u)=L at d f K ⊢;obtain⟨c,t1,P,aa⟩:=L;dsimp only at d f K ⊢;rw[Array.toList_push] at d
 have J:∀(b:Bool) {j:Shared} {T:Unit->Shared->Prop},T () j->wpAny (model prog w) A (match b with | true=>rule "set.scan.the-table-gave-way" | false=>pure ()) T E j:=
  fun b j T hq=>by cases b<;>first | show yt hq | show kF hq
 have m:∀ e∈c.toList,∃ k u,e=(hashStr w k,Value.str k u):=fun e F=>by
  rcases yw.mp (d.mem_iff.mp F) with h1 | h1
  .show v e h1
  .show⟨k,u,yD.mp h1⟩
 have B:(c.toList.map fun e=>strOf e.2).Perm (ss++[k]):=by
  show(d.map _).trans ?_;rw[yy];show hp.append_right _
 have D:c.size<scanBound:=by rw[TxS.len (h:=s.heap) B,yu];show hb
 have O:=fits_of_scanBound D;show yr (J _ ?_)
 have p:∀ g:SetTable,g.fits c.size=true->g.plain=false->wpAny (model prog w) A (do
    storeSet a c g
    if (!P&&g.tooFull)=true then do
      (match (relayAll g c (SetTable.grown c.size)).2.2 with | true=>rule "set.scan.the-table-gave-way" | false=>pure ())
      storeSet a (relayAll g c (SetTable.grown c.size)).1 (relayAll g c (SetTable.grown c.size)).2.1
      pure (some true)
     else pure (some true)) (fun r G=>∃ h',r=some true/\G={ s with heap:=h' }/\Heap.SameBut a s.heap h'/\TxS w h' a (ss++[k])) E s:=by
  intro g X M;show yr (wpAny_storeSet_of S rfl ?_ O);have z:=qev (es':=c) (t':=g) S;have o:=Yw s.heap a (Obj.putSet c g);split
  .have i:=relayAll_perm g c (SetTable.grown c.size);have y:=relayAll_fits g c (SetTable.grown c.size);have C:=relay_plain (es:=c) (n:=SetTable.grown c.size) M;generalize relayAll g c (SetTable.grown c.size)=R at i y C ⊢;obtain⟨H,t3,g2⟩:=R;dsimp only at i y C ⊢;have N:H.size=c.size:=by rw[<- Yk,i.length_eq,Yk]
   show yr (J _ ?_);show yr (wpAny_storeSet_of z rfl ?_ (by rw[N];show O));show yt ⟨_,rfl,rfl,o.trans (Yw _ a _),H,_,t3,qev z,fun e F=>m e (i.mem_iff.mp F),(i.map _).trans B,y,.inr C,by rw[N];show D⟩
  .show yt ⟨_,rfl,rfl,o,c,_,g,z,m,B,X,.inr M,D⟩
 have I:∀{r:Option Bool} {G:Shared},(∃ h',r=some true/\G={ s with heap:=h' }/\Heap.SameBut a s.heap h'/\TxS w h' a (ss++[k]))->Q true G/\r=some true:=fun⟨h',e,U,W,hT⟩=>by
  subst U;show⟨h h' W hT,e⟩
 split
 .show yr ?_;rw[hashByValue_scannable 8 rfl];show yt ?_;show YV (p _ ?_ ?_) (fun r G x=>?_) fun _ _ e=>e
  .show SetTable.fits_plain_off f
  .rfl
  .obtain⟨q,rfl⟩:=I x;show yt q
 .rename_i hpf
  show yr (yt ?_);simp only[↓reduceIte];show YV (p _ f (by simpa using hpf)) (fun r G x=>?_) fun _ _ e=>e;obtain⟨q,rfl⟩:=I x;show yt q
theorem loop_txt{I:Addr}{fp C:LQ}{G:Array GenState->Array GenState->Prop}{P:Nat->Value->Prop}{St:Nat->Shared->Prop}{R:Result->Shared->Prop}{ks:LS}(W:WalksS prog w A.in1 I fp C G ks.length P St)(p:a∉fp)
  (B:∀ i v,P i v->∃(k:Str) (t:Tok),ks[i]?=some k/\v=.str k t) (hn:ks.Nodup) (l:ks.length+1<scanBound) :
  ∀(n i:Nat) (s:Shared),ks.length-i=n->i<=ks.length->St i s->TxS w s.heap a (ks.take i) ->
   (∀ c,Moved (a::C) G s c->TxS w c.heap a ks->R (.ok (.ret .none)) c) ->
   codeAny (model prog w) A (.builtin "set.update.loop" ⟨[.ref a,.ref I],[]⟩) R s:=by
 have q:a∉C:=fun h=>p (W.sub _ h);have g:∀ b∈C,b∈a::C:=fun b l=>yB _ l;intro n
 induction n with
 | zero =>
  intro i s Z X f D E;have e:ks.take i=ks:=YR (by lk);rw[e] at D;have L:i=ks.length:=by lk
  rw[L] at f;show xO PyProof.Rows.F.entry_set_update_loop ?_;rw[xu xD _];show wpAny _ A.in1 (pyNext (.ref I)>>=_) _ _ s;show yr (W.done s _ _ f fun c u=>?_);show wpAny _ A.in1 (ret Value.none) _ _ c;show yt (E c (u.mono g) (D.keep fun o e=>u.heap a _ q e))
 | succ n ih =>
  intro i s Z X f D E;have d:i<ks.length:=by lk
  show xO PyProof.Rows.F.entry_set_update_loop ?_;rw[xu xD _];show wpAny _ A.in1 (pyNext (.ref I)>>=_) _ _ s;show yr (W.item i s _ _ d f fun v c U z u=>?_);obtain⟨k,t,S,rfl⟩:=B i v U;have r:ks[i]=k:=by rw[yb d] at S;show ym S
  have H:TxS w c.heap a (ks.take i):=D.keep fun o e=>u.heap a _ q e;show wpAny _ A.in1 (holding [Value.str k t] (setAdd a (.str k t))>>=_) _ _ c;show yr (Yc ?_);unfold setAdd;show Yc ?_;show yr ((PySem.strKind prog w).pyHash (k:=k) (strKind_is _ _ _ _) ?_);show add_txt (s:={ c with toks:=c.toks+1 }) H (fun N=>?_) (by rw[yH];lk) fun h' y J=>?_
  .obtain⟨j,Y,T⟩:=List.mem_take_iff_getElem.mp N;have M:j<i:=yj Y (Nat.min_le_left _ _);show(Yd.mp hn) j i (by lk) d M (T.trans r.symm)
  .have K:TxS w h' a (ks.take (i+1)):=by rw[List.take_succ_eq_append_getElem d,r];show J
   show yt ⟨XC xD _,ih (i+1) _ (by lk) d (W.frame _ c _ _ z (xT _) fun b l o e=>?_) K fun O x m=>?_⟩
   .rw [y.2 b (fun h:b=a=>p (by rw[<- h];show l))];show e
   .show E O (Moved.trans W.gtrans ((u.mono g).then_heap (xT _) fun b o l e=>?_) x) m;rw[y.2 b (fun h:b=a=>l (by rw[h];show yR))];show e
theorem fresh_txt{h:Heap}{b:Bool}(e:h.get? a=some { cls:=.type "set",dict:=none,data:=.set #[] 0 (.fresh 0 0 b) }):TxS w h a []:=
 ⟨#[],0,_,e,fun e c=>by simp at c,.refl _,rfl,.inl rfl,by decide⟩
theorem set_txt{l:Addr}{f:Array Value}{ks:LS}{Q:Value->Shared->Prop}(hh:A.handled=none)(hl:s.heap.IsList l f)(z:f.size=ks.length)
  (G:∀(i:Nat) (v:Value),f[i]?=some v->∃(k:Str) (t:Tok),ks[i]?=some k/\v=.str k t) (hn:ks.Nodup) (hb:ks.length+1<scanBound)
  (h:∀(h':Heap) (tk:Nat),TxS w h' s.heap.objs.size ks->(∀ b o,s.heap.get? b=some o->h'.get? b=some o)->Q (.ref s.heap.objs.size) { s with heap:=h',toks:=tk }) :
  wpAny (model prog w) A (call (.type "set") [.ref l]) Q E s:=by
 obtain⟨c,tl,Y⟩:=F.called_set.mro;have O:=F.called_set.made;have ac:=F.called_set.sub;show X5 (codeAny_of_tree ?_);show wpAny _ _ (callAny (.type "set") _) _ _ _;show yt ⟨Code.quiet_builtin _ (by room),xO F.entry_type_call ?_⟩;rw[Around.under_plain (weight_type_call_type "set" [.ref l] []) rfl];have h1:=F.called_set.notType;have h2:=F.called_set.canCreate;have af:=F.typeCall_set_1 (.ref l)
 repeat (any_goals (first | assumption | wp_step))
 show Xv (code_set_new_1 (.ref l) (E:=E) (Q₁:=fun H g=>∃ d:Bool,H=.ref s.heap.objs.size/\g={ s with heap:=s.heap.push { cls:=.type "set",dict:=none,data:=.set #[] 0 (.fresh 0 0 d) } }) fun d=>⟨d,rfl,rfl⟩) fun r g D=>?_
 cases r with
 | error e=>show D
 | ok fl =>
  cases fl with
  | next=>show D.elim
  | brk=>show D.elim
  | cont=>show D.elim
  | ret H =>
   obtain⟨d,rfl,rfl⟩:=D;generalize p:({ cls:=.type "set",dict:=none,data:=.set #[] 0 (.fresh 0 0 d) }:Obj)=o0;have X:(s.heap.push o0).get? s.heap.objs.size=some o0:=yK _ (by rw[<- p];rfl);have hT:Shared.TypeIs { s with heap:=s.heap.push o0 } (.ref s.heap.objs.size) "set":=⟨_,X,by rw[<- p]⟩;have ag:=F.called_set.init.lookup;have ae:=F.called_set.init.bind (.ref s.heap.objs.size)
   repeat (any_goals (first | assumption | wp_step))
   show Xv (xV (R:=wants (fun r j=>r=.none/\∃ h' tk,j={ s with heap:=h',toks:=tk }/\TxS w h' s.heap.objs.size ks/\(∀ b o,s.heap.get? b=some o->h'.get? b=some o)) E) F.called_set.init.plain F.entry_set_init (check_set_init_1 hT ?_)) fun I j a=>?_
   .obtain⟨ol,C,q,nl,u⟩:=id hl;obtain⟨ad,S,P,K⟩:=ol;simp only at q u;subst q;subst u;have Z:=yv o0 C;have ab:=F.sub_list_set;have aa:=F.sub_list_frozenset;have ah:(Value.type "list"==Value.type "dict")=false:=by decide
    have x:(s.heap.push o0).IsList l f:=hl.push _;subst p;unfold Builtin.«set.__init__» noKeywords Builtin.Frozenset.updateFrom;generalize L:pyIter=PI
    wp_walk
    subst L;show XV x ?_;show yr (wpAny_runValue ?_);have y:l<s.heap.objs.size:=yI C;have M:A.in1.in1.in1.handled=none:=by simp[hh]
    have W:=(Walks.list (prog:=prog) (w:=w) M (s.heap.push { cls:=.type "set",dict:=none,data:=.set #[] 0 (.fresh 0 0 d) }).objs.size l (by rw[YJ];show yL (XU y)) f).toS;rw[z] at W;show loop_txt W (by rw[YJ];simp only[yz,yW,YE,not_or];show⟨yL (xG _),Yg y⟩) G hn hb (ks.length-0) 0 _ rfl (YX _) ⟨⟨_,yK _ rfl,rfl,rfl⟩,(x.push _)⟩ (fresh_txt (yv _ X)) ?_;intro s' J m;obtain⟨h',g',d',U,T⟩:=s';have eg:g'=s.gens:=J.gens;have ed:d'=s.drawn:=J.drawn;have eo:T=s.os:=J.os;subst eg;subst ed;subst eo;show wpAny _ _ _ _ _ _;show yt ?_;show wpAny _ _ (ret Value.none) _ _ _;show yt ⟨rfl,h',U,rfl,m,fun b o e=>J.heap b o (fun n=>?_) (yv _ (yv _ e))⟩;have B:=yI e;rw[YJ] at n;simp only[yz,yW,YE] at n;rcases n with rfl | rfl
    .show absurd B (Yv _)
    .show absurd (Nat.lt_of_succ_lt B) (Yv _)
   .cases I with
    | error e=>show a
    | ok fl₂ =>
     cases fl₂ with
     | next=>show a.elim
     | brk=>show a.elim
     | cont=>show a.elim
     | ret r =>
      obtain⟨rfl,h',tk,rfl,m,N⟩:=a
      repeat (any_goals (first | assumption | wp_step))
      show h _ _ m N
end
theorem si_next:Slot "set_iterator" "__next__" "set_iterator.__next__":=
 .of (owner:="set_iterator") (n:="__next__") (by rw[kq,Xm];kernel_rfl) (by room) (by room) (by room)
  (by first | show .inl (by room) | show .inr (by room)) (by rw[isSubtype_type];kernel_rfl)
theorem zE:entryFor table "set_iterator.__next__"=some Builtin.«set_iterator.__next__»:=entryFor_of_tree (by kernel_rfl)
theorem qc6:Manifest.owners.lookup (String.ofList ['r','o','t','a','r','e','t','i','_','t','e','s'].reverse)=some Manifest.sig_set_iterator:=by kernel_rfl
theorem zW(a:Value):argsOk "set_iterator.__next__" ⟨[a],[]⟩:=by
 unfold argsOk;rw[signature?_of (id:="set_iterator.__next__") (n:=['_','_','t','x','e','n','_','_']) (o:=['r','o','t','a','r','e','t','i','_','t','e','s']) (by kernel_rfl) qc6];kernel_rfl
theorem qdJ:Slot "set_iterator" "__iter__" "set_iterator.__iter__":=
 .of (owner:="set_iterator") (n:="__iter__") (by rw[kq,Xm];kernel_rfl) (by room) (by room) (by room)
  (by first | show .inl (by room) | show .inr (by room)) (by rw[isSubtype_type];kernel_rfl)
theorem si_iter_entry:entryFor table "set_iterator.__iter__"=some Builtin.«dict_keyiterator.__iter__»:=
 entryFor_alias (id':="dict_keyiterator.__iter__") (by kernel_rfl) rfl (by room) (by kernel_rfl)
theorem si_iter_args(a:Value):argsOk "set_iterator.__iter__" ⟨[a],[]⟩:=by
 unfold argsOk;rw[signature?_of (id:="set_iterator.__iter__") (n:=['_','_','r','e','t','i','_','_']) (o:=['r','o','t','a','r','e','t','i','_','t','e','s']) (by kernel_rfl) qc6];kernel_rfl
theorem qas:entryFor table "set.__iter__"=some Builtin.«frozenset.__iter__»:=
 entryFor_alias (id':="frozenset.__iter__") (by kernel_rfl) rfl (by room) (by kernel_rfl)
theorem qcF{a:Type}:∀(l:List a) (k:Nat) (h:k<l.length),(l[k]::l.eraseIdx k).Perm l
 | _::_,0,_=>.refl _
 | x::l,k+1,h=>(Ke x _ _).trans ((qcF l k (Nat.lt_of_succ_lt_succ h)).cons x)
theorem qaQ{b:Type}(f:Nat->Nat):∀(n k:Nat) (xs:List b) (out:Array b),xs.length<=n->(pickOrder.go f n k xs out).toList.Perm (out.toList++xs)
 | 0,k,xs,out,h=>by
  cases List.length_eq_zero_iff.mp (Nat.le_zero.mp h);rw[pickOrder.go,Yb]
 | n+1,k,xs,out,h=>by
  rw[pickOrder.go];split
  .rename_i x hx
   have a:f k % xs.length<xs.length:=(yc.mp hx).1;show(qaQ f n (k+1) _ _ (by rw[Xs a];lk)).trans ?_;rw[Array.toList_push,y8];show List.Perm.append_left _ ?_;have c:=(yc.mp hx).2;rw[<- c];show qcF _ _ a
  .rename_i hx
   have:xs=[]:=by
    cases xs with
    | nil=>rfl
    | cons x r=>show absurd (List.getElem?_eq_none_iff.mp hx) (Nat.not_le.mpr (Nat.mod_lt _ (Nat.zero_lt_succ _)))
   rw[this,Yb]
section
variable{prog:Program}{w:World}{A:Around}{E:Value->Shared->Prop}{s:Shared}{a:Addr}
theorem wp_choose'{a:Source}{n:Nat}{Q:Nat->Shared->Prop}(b:n≠0)(h:∀ i d,i<n->Q i { s with drawn:=d }):wpAny (model prog w) A (choose a n) Q E s:=fun _ _ _ =>
 ⟨b,h _ _ (Nat.mod_lt _ (Nat.pos_of_ne_zero b))⟩
theorem qcf{b:Type}:∀(n:Nat) (xs:List b) (s:Shared) (Q:List b->Shared->Prop),xs.length=n->(∀ ys d,ys.Perm xs->Q ys { s with drawn:=d })->wpAny (model prog w) A (drawOrder n xs) Q E s
 | 0,xs,s,Q,h,hq=>by
  cases List.length_eq_zero_iff.mp h;show yt (hq [] s.drawn (.refl _))
 | n+1,x::r,s,Q,h,hq=>by
  rw[drawOrder]
  .show yr (wp_choose' (by simp) fun i d a=>?_);rw[yb a];dsimp only;show yr (qcf n _ _ _ (by rw[Xs a];simpa using h) fun ys d' c=>?_);show yt (hq _ d' ((c.cons _).trans (qcF _ _ a)))
  .intro e;cases e
end
noncomputable def siO(f:Value)(i:Nat)(a:Addr)(n ep:Nat):Obj:={ cls:=.type "set_iterator",data:=.fields #[f,.int i 0,.ref a,.int n 0,.int ep 0] }
section
variable{prog:Program}{w:World}{A:Around}{E:Value->Shared->Prop}{s:Shared}{a I T:Addr}{es:Array (Int×Value)}{ep i:Nat}{t:SetTable}{f:Value}{Q:Option Value->Shared->Prop}
theorem zF(b:s.heap.get? I=some (siO f i a es.size ep)):s.TypeIs (.ref I) "set_iterator":=⟨_,b,rfl⟩
theorem qcg{k:Nat}{Q:Option (Value×Nat)->Shared->Prop}(f:w.params.followText "set-order"=true)(c:s.heap.get? a=some { cls:=.type "set",dict:=none,data:=.set es ep t })(d:t.fits es.size=true)
  (h:Q (((pickOrder (w.params.setOrder a ep) es)[i]?).map fun e=>(e.2,k)) s):wpAny (model prog w) A (setNext a k i ep) Q E s:=by
 have b:∀{Q:Bool->Shared->Prop} {E:Value->Shared->Prop},Q true s->wpAny (model prog w) A setsByText Q E s:=fun{Q E} q=>by
  unfold setsByText;show yr (xo (yt ?_));show Q (w.params.followText "set-order") s;rw[f];show q
 unfold setNext;show yr (YY c rfl d ?_);dsimp only;show yr (b ?_);rw[yO rfl,yE (by simp)];unfold setWalk;show yr ?_;show yr (YY c rfl d ?_);dsimp only;show yr (b ?_);rw[yO rfl];show yr (xo (yt ?_));show yt h
theorem qdK{s₀:Shared}{h:Heap}(n:A.handled=none)(g:s={ s₀ with heap:=h })(j:h.get? I=some { cls:=.type "set_iterator",data:=.fields #[f,.int i 0,.ref a,.int es.size 0,.int ep 0] })
  (l:∀ h',Heap.ExtBut I h h'->Q none { s₀ with heap:=h' }) :
  wpAny (model prog w) A.in1 (do
     setField (Value.ref I) 2 Value.none
     let x <- newExc (Value.type "StopIteration") []
     raiseNew x)
    (fun c d=>∃ v,c=Fin.done (Flow.ret v)/\wpAny (model prog w) A (pure (some v)) Q E d)
    (fun e d =>
     wpAny (model prog w) A
      (do
       let r <- isInstance e (Value.type "StopIteration")
       if r=true then pure none else throw e)
      Q E d) s:=by
 subst g;show yr (XY j rfl (by simp) ?_);show yr ?_;simp only[newExc,newTuple];show yr (Yl ?_ (by size_fits));show yr (m:=firstArgMember _ _) (Y6 (a:=Value.none) (by first | rfl | (simp only[firstArgMember];rfl)) ?_);show Yl ?_ (by size_fits);simp only[raiseNew];show yr (wpAny_handled ?_);rw[show A.in1.handled=none from n];show yr (yt (wpAny_throw ?_));show yr (X7 (T:="StopIteration") (b:=true) ⟨_,yK _ rfl,rfl⟩ isSubtype_stop ?_);show yt (l _ (((Yw ..).extBut.push _).push _))
theorem qch(j:A.handled=none)(h:w.params.followText "set-order"=true)(b:s.heap.get? I=some (siO (.int 0 0) i a es.size ep))(c:s.heap.get? a=some { cls:=.type "set",dict:=none,data:=.set es ep t })(d:t.fits es.size=true)
  (g:∀ x,(pickOrder (w.params.setOrder a ep) es)[i]?=some x->∀ h',h'.get? I=some (siO (.int 0 0) (i+1) a es.size ep)->Heap.SameBut I s.heap h'->Q (some x.2) { s with heap:=h' })
  (f:(pickOrder (w.params.setOrder a ep) es)[i]?=none->∀ h',Heap.ExtBut I s.heap h'->Q none { s with heap:=h' }) :
  wpAny (model prog w) A (pyNext (.ref I)) Q E s:=by
 unfold pyNext;show yr (Xl (YM (name:=Str.ofString "__next__") (zF b) si_next
  (YD si_next (zF b) zE ?_ (zW _))))
 unfold Builtin.«set_iterator.__next__»;show yr (yt ?_);dsimp only;show yr (wpAny_fieldsOf b rfl ?_);dsimp only;show yr (xZ c rfl d ?_);rw[yE (by simp)];simp only[YI];show yr (qcg h c d ?_)
 cases e:(pickOrder (w.params.setOrder a ep) es)[i]? with
 | none =>
  show qdK j rfl b (f e)
 | some x =>
  show wpAny _ _ (setField (Value.ref I) 0 (rawInt 0)>>=fun _=>setField (Value.ref I) 1 (rawInt (↑i+1))>>=fun _=>ret x.2) _ _ _;show yr (XY b rfl (by simp[siO]) ?_);have h1:=Yh (Obj.mapFields (·.setIfInBounds 0 (rawInt 0))) b rfl;show yr (XY h1 rfl (by simp[siO]) (yt ⟨_,rfl,yt (g x e _ ?_ ((Yw ..).trans (Yw ..)))⟩));show Yh _ h1 rfl
end
section
variable{prog:Program}{w:World}{A:Around}{E:Value->Shared->Prop}{s:Shared}{a I T:Addr}{es:Array (Int×Value)}{ep i:Nat}{t:SetTable}{f:Value}{Q:Option Value->Shared->Prop}{js:LN}
theorem qci(v:A.handled=none)(c:s.heap.get? I=some (siO (.ref T) i a es.size ep))(d:s.heap.get? a=some { cls:=.type "set",dict:=none,data:=.set es ep t })(h:t.fits es.size=true)
  (p:s.heap.get? T=some { cls:=.type "tuple",data:=.seq (js.map fun j:Nat=>rawInt j).toArray })
  (n:∀ j,js[i]?=some j->∃ x,es[j]?=some x/\∀ h',h'.get? I=some (siO (.ref T) (i+1) a es.size ep)->Heap.SameBut I s.heap h'->Q (some x.2) { s with heap:=h' })
  (m:js[i]?=none->∀ h',Heap.ExtBut I s.heap h'->Q none { s with heap:=h' }) :
  wpAny (model prog w) A (pyNext (.ref I)) Q E s:=by
 unfold pyNext;show yr (Xl (YM (name:=Str.ofString "__next__") (zF c) si_next
  (YD si_next (zF c) zE ?_ (zW _))))
 unfold Builtin.«set_iterator.__next__»;show yr (yt ?_);dsimp only;show yr (wpAny_fieldsOf c rfl ?_);dsimp only;show yr (xZ d rfl h ?_);rw[yE (by simp)];show yr (kG p rfl ?_);simp only[YI];have u:(js.map fun j:Nat=>rawInt j).toArray[i]?=(js[i]?).map fun j:Nat=>rawInt j:=by simp
 rw[u]
 cases l:js[i]? with
 | none =>
  show wpAny _ _ (setField (Value.ref I) 0 (rawInt 0)>>=fun _=>setField (Value.ref I) 2 .none>>=fun _=>newExc (.type "StopIteration") []>>=fun x=>raiseNew x) _ _ _;show yr (XY c rfl (by simp[siO]) ?_);have h1:=Yh (Obj.mapFields (·.setIfInBounds 0 (rawInt 0))) c rfl;show qdK (s₀:=s) v rfl (f:=rawInt 0) h1 fun h' r=>m l h' ?_;show fun b o g e=>r b o g ((Yw ..).extBut b o g e)
 | some j =>
  obtain⟨x,ex,q⟩:=n j l;show wpAny _ _ (setNextDrawn a ((j:Int)).toNat ep>>=fun x=>setField (Value.ref I) 1 (rawInt (↑i+1))>>=fun _=>ret x) _ _ _;rw[YI];unfold setNextDrawn;show yr (yr (YY d rfl h ?_));dsimp only;rw[yE (by simp),ex];show yt ?_;show yr (XY c rfl (by simp[siO]) (yt ⟨_,rfl,yt (q _ ?_ (Yw ..))⟩));show Yh _ c rfl
theorem qcG{Q:Value->Shared->Prop}(b:s.heap.get? I=some (siO f i a es.size ep))(h:Q (.ref I) s):wpAny (model prog w) A (pyIter (.ref I)) Q E s:=by
 show kL (zF b) qdJ (YD qdJ (zF b) si_iter_entry ?_ (si_iter_args _));show wpAny _ _ (ret (.ref I)) _ _ s;show yt ⟨_,rfl, "set_iterator",_,zF b,si_next.lookup,h⟩
theorem walkA(m:A.handled=none)(c:w.params.followText "set-order"=true)(j:a≠I)(l:t.fits es.size=true)(u:(pickOrder (w.params.setOrder a ep) es).size=es.size) :
  Walks prog w A I [I,a] [I] es.size (fun i v=>∃ x,(pickOrder (w.params.setOrder a ep) es)[i]?=some x/\v=x.2) (fun i h=>h.get? I=some (siO (.int 0 0) i a es.size ep)/\h.get? a=some { cls:=.type "set",dict:=none,data:=.set es ep t }) where
 sub:=fun b c=>by simp at c;simp[c]
 frame:=fun _ _ _ st n=>⟨n I (by simp) _ st.1,n a (by simp) _ st.2⟩
 item:=fun i s Q E r st d=>by
  show qch m c st.1 st.2 l (fun x f h' g p=>?_) fun f=>?_
  .show d _ h' s.toks ⟨x,f,rfl⟩ ⟨g,p.extBut a _ j st.2⟩ fun b o c e=>p.extBut b o (fun h=>c (by simp[h])) e
  .rw [Array.getElem?_eq_none_iff] at f;lk
 done:=fun s Q E st d=>qch m c st.1 st.2 l (fun x f=>by have:=(Array.getElem?_eq_some_iff.mp f).1;lk) fun _ h' q=>d h' s.toks fun b o c e=>q b o (fun h=>c (by simp[h])) e
 self:=fun _ _ _ _ st d=>qcG st.1 d
theorem walkB(r:A.handled=none)(m:a≠I)(y:T≠I)(q:t.fits es.size=true)(n:js.Perm (List.range es.size)) :
  Walks prog w A I [I,a,T] [I] es.size (fun i v=>∃ j x,js[i]?=some j/\es[j]?=some x/\v=x.2) (fun i h=>h.get? I=some (siO (.ref T) i a es.size ep)/\h.get? a=some { cls:=.type "set",dict:=none,data:=.set es ep t }/\h.get? T=some { cls:=.type "tuple",data:=.seq (js.map fun j:Nat=>rawInt j).toArray }) where
 sub:=fun b c=>by simp at c;simp[c]
 frame:=fun _ _ _ st l=>⟨l I (by simp) _ st.1,l a (by simp) _ st.2.1,l T (by simp) _ st.2.2⟩
 item:=fun i s Q E B st f=>by
  show qci r st.1 st.2.1 q st.2.2 (fun j d=>?_) fun d=>?_
  .have u:j<es.size:=YC.mp (n.mem_iff.mp (ye d));show⟨es[j],YT u,fun h' g p=>?_⟩;show f _ h' s.toks ⟨j,_,d,YT u,rfl⟩ ⟨g,p.extBut a _ m st.2.1,p.extBut T _ y st.2.2⟩ fun b o c e=>p.extBut b o (fun h=>c (by simp[h])) e
  .rw [List.getElem?_eq_none_iff,n.length_eq,Xp] at d;lk
 done:=fun s Q E st f=>qci r st.1 st.2.1 q st.2.2 (fun j d=>by have:=(yc.mp d).1;rw[n.length_eq,Xp] at this;lk) fun _ h' z=>f h' s.toks fun b o c e=>z b o (fun h=>c (by simp[h])) e
 self:=fun _ _ _ _ st f=>qcG st.1 f
end
section
variable{prog:Program}{w:World}{A:Around}{E:Value->Shared->Prop}{s:Shared}{a I T:Addr}{es:Array (Int×Value)}{ep i:Nat}{t:SetTable}
theorem iter_txt{Q:Value->Shared->Prop}(o:1<es.size)(l:t.plain=false)(hz:es.size<=sizeLine)(c:s.heap.get? a=some { cls:=.type "set",dict:=none,data:=.set es ep t })(i:t.fits es.size=true)
  (p:w.params.followText "set-order"=true->Q (.ref s.heap.objs.size) { s with heap:=s.heap.push (siO (.int 0 0) 0 a es.size ep) })
  (r:∀(f:LN) d,f.Perm (List.range es.size)->Q (.ref (s.heap.objs.size+1)) { s with heap:=(s.heap.push { cls:=.type "tuple",data:=.seq (f.map fun j:Nat=>rawInt j).toArray }).push (siO (.ref s.heap.objs.size) 0 a es.size ep),drawn:=d }) :
  wpAny (model prog w) A (pyIter (.ref a)) Q E s:=by
 have m:s.TypeIs (.ref a) "set":=⟨_,c,rfl⟩;show kL m Xn (YD Xn m qas ?_ (PySem.F.args_set_iter_1 _));unfold Builtin.«frozenset.__iter__»;show yr (yt ?_);dsimp only;unfold Builtin.Frozenset.sizeOf;show yr (yr (xZ c rfl i (yt ?_)));unfold setDrawn setsByText;show yr (yr (YY c rfl i ?_));dsimp only;show yr (yr (xo (yt ?_)));show yt ?_
 have e:∀{s:Shared} {Q:Nat->Shared->Prop} {E:Value->Shared->Prop},s.heap.get? a=some { cls:=.type "set",dict:=none,data:=.set es ep t }->Q ep s->wpAny (model prog w) A.in1 (setEpoch a) Q E s:=fun h q=>by
  unfold setEpoch;show yr (YY h rfl i (yt q))
 cases g:w.params.followText "set-order" with
 | true =>
  show xP (fun b=>?_) fun _=>?_
  .have b:(!w.params.followText "set-order"&&_)=true:=b;rw[g] at b;show absurd b (by simp)
  .show yr (yt ?_);show yr (e c ?_);show yr (Yl ?_);show yt ⟨_,rfl, "set_iterator",_,⟨_,yK _ rfl,rfl⟩,si_next.lookup,p g⟩
 | false =>
  show xP (fun _=>?_) fun b=>?_
  .show yr (qcf _ _ _ _ Xp fun f d n=>?_);show yr (wpAny_newTuple ?_ (by rw[ya,n.length_eq,Xp];show hz));show yr (e (yv _ c) ?_);show yr (Yl ?_);have:=r f d n;rw[<- YJ s.heap { cls:=.type "tuple",data:=.seq (f.map fun j:Nat=>rawInt j).toArray }] at this;show yt ⟨_,rfl, "set_iterator",_,⟨_,yK _ rfl,rfl⟩,si_next.lookup,this⟩
  .show absurd (show(!w.params.followText "set-order"&&(!t.plain&&decide (es.size>1)))=true from ?_) b;rw[g,l];simpa using o
theorem hint_set{Q:Bool->Shared->Prop}{r:Addr}(d:s.TypeIs (.ref r) "set")(h:Q false s):wpAny (model prog w) A (Builtin.List.listLengthHint (.ref r)) Q E s:=by
 unfold Builtin.List.listLengthHint;show yr (Kb d PySem.F.slot_set_len.lookup ?_);generalize c:("set.__len__":String)=e
 wp_delta
 rw[show splitId e=some ("set","__len__") from by subst c;room];subst c;show yr (X7 (T:="set") (b:=true) d (by rw[isSubtype_type];kernel_rfl) ?_);show xP (fun a=>absurd a (by decide)) (fun _=>?_);show xP (fun _=>?_) (fun a=>absurd (by room) a);show yr (kA d ?_);show yt h
end
section
variable{prog:Program}{w:World}{A:Around}{E:Value->Shared->Prop}{s:Shared}{a:Addr}{ss:LS}{w₁:World}
theorem set_next0{es:Array (Int×Value)}{ep i k:Nat}{t:SetTable}{Q:Option (Value×Nat)->Shared->Prop}(c:es.size=0)(d:s.heap.get? a=some { cls:=.type "set",dict:=none,data:=.set es ep t })(f:t.fits es.size=true)
  (h:Q none s):wpAny (model prog w) A (setNext a k i ep) Q E s:=by
 cases e:w.params.followText "set-order" with
 | true =>
  have b:(pickOrder (w.params.setOrder a ep) es).toList.Perm es.toList:=by
   have:=qaQ (w.params.setOrder a ep) es.size 0 es.toList #[] (by simp);simpa [pickOrder] using this
  have l:(pickOrder (w.params.setOrder a ep) es).size=0:=by rw[<- Yk,b.length_eq,Yk,c]
  show qcg e d f ?_;rw[Array.getElem?_eq_none_iff.mpr (by lk)];show h
 | false =>
  have g:es=#[]:=Array.eq_empty_of_size_eq_zero c;subst g;unfold setNext;show yr (YY d rfl f ?_);dsimp only;unfold setsByText;show yr (yr (xo (yt ?_)));show wpAny _ _ (if w.params.followText "set-order"=true then _ else _) _ _ _;rw[e,yE (by decide)];show xP (fun j=>?_) fun _=>?_
  .show absurd (show(!t.plain&&false)=true from j) (by simp)
  .show yr ?_;show wpAny _ _ (if (!t.led&&false)=true then _ else pure ()) _ _ _;rw[yE (by simp)];show yt (yt h)
theorem next_txt0{es:Array (Int×Value)}{ep i:Nat}{t:SetTable}{I:Addr}{Q:Option Value->Shared->Prop}(e:es.size=0)(g:A.handled=none)(b:s.heap.get? I=some (siO (.int 0 0) i a es.size ep))(c:s.heap.get? a=some { cls:=.type "set",dict:=none,data:=.set es ep t })(d:t.fits es.size=true)
  (f:∀ h',Heap.ExtBut I s.heap h'->Q none { s with heap:=h' }) :
  wpAny (model prog w) A (pyNext (.ref I)) Q E s:=by
 unfold pyNext;show yr (Xl (YM (name:=Str.ofString "__next__") (zF b) si_next
  (YD si_next (zF b) zE ?_ (zW _))))
 unfold Builtin.«set_iterator.__next__»;show yr (yt ?_);dsimp only;show yr (wpAny_fieldsOf b rfl ?_);dsimp only;show yr (xZ c rfl d ?_);rw[yE (by simp)];simp only[YI];show yr (set_next0 e c d ?_);show qdK g rfl b f
theorem walk0{es:Array (Int×Value)}{ep:Nat}{t:SetTable}{I:Addr}(g:es.size=0)(m:A.handled=none)(l:t.fits es.size=true) :
  Walks prog w A I [I,a] [I] 0 (fun _ _=>False) (fun i h=>h.get? I=some (siO (.int 0 0) i a es.size ep)/\h.get? a=some { cls:=.type "set",dict:=none,data:=.set es ep t }) where
 sub:=fun b d=>by simp at d;simp[d]
 frame:=fun _ _ _ st f=>⟨f I (by simp) _ st.1,f a (by simp) _ st.2⟩
 item:=fun i s Q E n st c=>absurd n (Nat.not_lt_zero i)
 done:=fun s Q E st c=>next_txt0 g m st.1 st.2 l fun h' j=>c h' s.toks fun b o d e=>j b o (fun h=>d (by simp[h])) e
 self:=fun _ _ _ _ st c=>qcG st.1 c
theorem iter_txt0{es:Array (Int×Value)}{ep:Nat}{t:SetTable}{Q:Value->Shared->Prop}(f:es.size=0)(b:s.heap.get? a=some { cls:=.type "set",dict:=none,data:=.set es ep t })(d:t.fits es.size=true)
  (g:Q (.ref s.heap.objs.size) { s with heap:=s.heap.push (siO (.int 0 0) 0 a es.size ep) }) :
  wpAny (model prog w) A (pyIter (.ref a)) Q E s:=by
 have e:s.TypeIs (.ref a) "set":=⟨_,b,rfl⟩;show kL e Xn (YD Xn e qas ?_ (PySem.F.args_set_iter_1 _));unfold Builtin.«frozenset.__iter__»;show yr (yt ?_);dsimp only;unfold Builtin.Frozenset.sizeOf;show yr (yr (xZ b rfl d (yt ?_)));unfold setDrawn setsByText;show yr (yr (YY b rfl d ?_));dsimp only;show yr (yr (xo (yt ?_)));show yt ?_;show xP (fun c=>?_) fun _=>?_
 .have c:(!w.params.followText "set-order"&&(!t.plain&&decide (es.size>1)))=true:=c;rw[f] at c;show absurd c (by simp)
 .show yr (yt ?_);unfold setEpoch;show yr (yr (YY b rfl d (yt ?_)));show yr (Yl ?_);show yt ⟨_,rfl, "set_iterator",_,⟨_,yK _ rfl,rfl⟩,si_next.lookup,g⟩
theorem way_txt{Q:Value->Shared->Prop}(x:TxS w₁ s.heap a ss)(z:ss.length≠1)
  (h:∀(I:Addr) (h':Heap) (d:Drawn) (fp:LQ) (P:Nat->Value->Prop) (St:Nat->Heap->Prop),(∀ l:Around,l.handled=none->Walks prog w l I fp [I] ss.length P St)->(∀ i v,P i v->∃ k u,v=Value.str k u)->St 0 h' ->
   (∀ b o,s.heap.get? b=some o->h'.get? b=some o)->s.heap.objs.size<=I->(∀ b∈fp,b=a\/s.heap.objs.size<=b)->Q (.ref I) { s with heap:=h',drawn:=d }) :
  wpAny (model prog w) A (pyIter (.ref a)) Q E s:=by
 obtain⟨es,ep,t,g,m,K,n,D,J⟩:=x;have hl:es.size=ss.length:=TxS.len (h:=s.heap) K;have hz:=fits_of_scanBound J;have p:a<s.heap.objs.size:=yI g;rw[<- hl] at z h;by_cases r:es.size=0
 .show iter_txt0 r g n (h _ _ s.drawn [s.heap.objs.size,a] (fun _ _=>False) (fun i h=>h.get? s.heap.objs.size=some (siO (.int 0 0) i a es.size ep)/\h.get? a=some { cls:=.type "set",dict:=none,data:=.set es ep t }) (fun l f=>?_) (fun i v hv=>hv.elim) ⟨yK _ rfl,yv _ g⟩ (fun b o e=>yv _ e) (yh _) fun b c=>?_)
  .rw [r];have:=walk0 (prog:=prog) (w:=w) (a:=a) (ep:=ep) (I:=s.heap.objs.size) r f n
   rwa[r] at this
  .simp only[yz,yW,YE] at c;rcases c with rfl | rfl
   .show .inr (yh _)
   .show .inl rfl
 replace z:1<es.size:=by lk
 show iter_txt z (D.resolve_left (by lk)) hz g n (fun B=>?_) fun L d C=>?_
 .have q:(pickOrder (w.params.setOrder a ep) es).toList.Perm es.toList:=by
   have:=qaQ (w.params.setOrder a ep) es.size 0 es.toList #[] (by simp);simpa [pickOrder] using this
  have F:(pickOrder (w.params.setOrder a ep) es).size=es.size:=by rw[<- Yk,q.length_eq,Yk]
  show h _ _ s.drawn [s.heap.objs.size,a] _ _ (fun l f=>walkA (ep:=ep) f B (yL p) n F) (fun i v hv=>?_) ⟨yK _ rfl,yv _ g⟩ (fun b o e=>yv _ e) (yh _) fun b c=>?_
  .obtain⟨y,H,rfl⟩:=hv;obtain⟨k,u,rfl⟩:=m y (q.mem_iff.mp (kf.mpr (Array.mem_of_getElem? H)));show⟨k,u,rfl⟩
  .simp only[yz,yW,YE] at c;rcases c with rfl | rfl
   .show .inr (yh _)
   .show .inl rfl
 .have G:(s.heap.push { cls:=.type "tuple",data:=.seq (L.map fun j:Nat=>rawInt j).toArray }).objs.size=s.heap.objs.size+1:=YJ _ _;show h _ _ d [s.heap.objs.size+1,a,s.heap.objs.size] _ _ (fun l f=>walkB (ep:=ep) f (yL (XU p)) (yL (xG _)) n C) (fun i v hv=>?_) ⟨?_,?_,?_⟩ (fun b o e=>yv _ (yv _ e)) (xT _) fun b c=>?_
  .obtain⟨j,y,_,H,rfl⟩:=hv;obtain⟨k,u,rfl⟩:=m y (kf.mpr (Array.mem_of_getElem? H));show⟨k,u,rfl⟩
  .rw [<- G];show yK _ rfl
  .show yv _ (yv _ g)
  .show yv _ (yK _ rfl)
  .simp only[yz,yW,YE] at c;rcases c with rfl | rfl | rfl
   .show .inr (xT _)
   .show .inl rfl
   .show .inr (yh _)
theorem ext_txt{R:Result->Shared->Prop}{S:Addr}{res:Value}{q:Nat}(Z:A.handled=none)(x:TxS w₁ s.heap a ss)(h2:ss.length≠1)(n:ss.length<=sizeLine)(E:S≠a)(Y:s.heap.get? S=some { cls:=.type "list",data:=.seq #[] q })
  (hR:∀ h' d tk c C,(∀ b o,b≠S->s.heap.get? b=some o->h'.get? b=some o)->h'.get? S=some { cls:=.type "list",dict:=none,data:=.seq c C,slots:=#[] }->c.size=ss.length->(∀ v∈c.toList,∃ k u,v=Value.str k u)->R (.ok (.ret res)) { s with heap:=h',toks:=tk,drawn:=d }) :
  wpAny (model prog w) A.in1 (Builtin.List.listExtendWith (.ref S) (.ref a) res)
   (fun M B=>match M with | .done f=>R (.ok f) B | .again C=>C.quiet=true/\codeAny (model prog w) A C R B) (fun e B=>R (.error e) B) s:=by
 have H:∀ h:Heap,TxS w₁ h a ss->∀ d g tk os,Shared.TypeIs ⟨h,g,d,tk,os⟩ (.ref a) "set":=fun h y d g tk os=>by obtain⟨_,_,_,e,_⟩:=y;show⟨_,e,rfl⟩
 have N:=yI Y;unfold Builtin.List.listExtendWith;show yr (kA (T:="set") (H _ x _ _ _ _) ?_);have h1:Builtin.List.listSameRef (.ref S) (.ref a)=false:=by simp[Builtin.List.listSameRef,E]
 have U:(Value.type "set"==Value.type "list")=false:=by decide
 have X:(Value.type "set"==Value.type "tuple")=false:=by decide
 simp only[h1,U,X,kc,xK,XR];show yr (way_txt x h2 fun I h' d fp P St W hP p D hI O=>?_)
 have G:S∉fp:=fun L=>by
  rcases O S L with e | e
  .show E e
  .show absurd N (Nat.not_lt.mpr e)
 have l:=D _ _ Y;have K:∀(h:Heap) (i tk:Nat),St 0 h->(∀ b o,b≠S->s.heap.get? b=some o->h.get? b=some o) ->
   h.get? S=some { cls:=.type "list",data:=.seq #[] i }->codeAny (model prog w) A (.builtin "list.extend.loop" ⟨[.ref S,.ref I,res],[]⟩) R { s with heap:=h,toks:=tk,drawn:=d }:=by
  intro h i tk p D t;show codeAny_extend_loopS (W A.in1 Z).toS n S G res ss.length 0 _ #[] i rfl (YX _) p t (ItemsOf.nil _) fun B c C L l r=>?_;rw[Moved.eq_with L];show hR B.heap d B.toks c C (fun b o n e=>L.heap b o (fun hmem=>?_) (D b o n e)) l r.1 fun v hv=>?_
  .rcases yz.mp hmem with e' | hmem
   .show n e'
   .rw [yD.mp hmem] at e;show absurd (yI e) (Nat.not_lt.mpr hI)
  .obtain⟨j,hj⟩:=xm.mp hv;rw[xl] at hj;show hP j v (r.2 j v hj)
 show yr (Yc (hint_set (H _ (x.keep fun o e=>D _ _ e) _ _ _ _) ?_));show xP (fun _=>?_) (fun _=>yt ⟨XC PySem.F.plain_extend_loop _,K _ q _ p (fun b o _ e=>D b o e) l⟩);show yr (kF ?_);show yr ?_;show wpAny _ _ (updateSeq S (·.push .none)>>=fun _=>updateSeq S (·.pop)) _ _ _;show yr (Xk l rfl ?_);have m:=Yh (Obj.mapSeq (·.push Value.none)) l rfl;show Xk (hz:=by seq_fits) m rfl ?_;have z:=Yh (Obj.mapSeq (·.pop)) m rfl;show yt ⟨XC PySem.F.plain_extend_loop _,K _ _ _ ?_ (fun b o n e=>?_) z⟩
 .show(W A Z).frame 0 _ _ p fun b n o e=>?_;have J:b≠S:=fun h=>G (h ▸ n);show(Y9 _ _ (Ye J)).trans ((Y9 _ _ (Ye J)).trans e)
 .show(Y9 _ _ (Ye n)).trans ((Y9 _ _ (Ye n)).trans (D b o e))
end
section
variable{prog:Program}{w:World}{A:Around}{E:Value->Shared->Prop}{s:Shared}{a:Addr}{ss:LS}{w₁:World}
theorem coll_txt{R:List Value->Shared->Prop}(H:A.handled=none)(x:TxS w₁ s.heap a ss)(i:ss.length≠1)(G:ss.length<=sizeLine)
  (h:∀(h':Heap) (d:Drawn) (tk:Nat) (acc:List Value),(∀ b o,s.heap.get? b=some o->h'.get? b=some o)->s.heap.objs.size<h'.objs.size->acc.length=ss.length->(∀ v∈acc,∃ k u,v=Value.str k u)->R acc { s with heap:=h',toks:=tk,drawn:=d }) :
  wpAny (model prog w) A (collect (.ref a)) R E s:=by
 have r:a<s.heap.objs.size:=by obtain⟨_,_,_,e,_⟩:=x;show yI e
 unfold collect;show yr (wpAny_runValue (xO entry_proto_collect' ?_));rw[xu PySem.F.plain_proto_collect _];show wpAny _ A.in1 (newList []>>=fun l=>again (.builtin "list.__iadd__" ⟨[l,.ref a],[]⟩)) _ _ s;show yr (Yl ?_);show yt ⟨XC PySem.F.plain_list_iadd _,xO entry_list_iadd' ?_⟩;rw[xu PySem.F.plain_list_iadd _];have j:(s.heap.push { cls:=.type "list",data:=.seq ([]:List Value).toArray }).get? s.heap.objs.size=some { cls:=.type "list",data:=.seq #[] }:=yK _ rfl;show wpAny _ A.in1 (Builtin.List.listExtendWith (.ref s.heap.objs.size) (.ref a) (.ref s.heap.objs.size)) _ _ _;have t:=ext_txt (prog:=prog) (w:=w) (A:=A) (s:={ s with heap:=s.heap.push { cls:=.type "list",data:=.seq ([]:List Value).toArray } }) (res:=.ref s.heap.objs.size)
  (R:=fun(q:Result) (B:Shared)=>∃(h':Heap) (d:Drawn) (tk:Nat) (c:Array Value) (m:Nat),q=.ok (.ret (.ref s.heap.objs.size))/\B={ s with heap:=h',toks:=tk,drawn:=d } /\
   (∀ b o,s.heap.get? b=some o->h'.get? b=some o)/\h'.get? s.heap.objs.size=some { cls:=.type "list",dict:=none,data:=.seq c m,slots:=#[] }/\c.size=ss.length/\∀ v∈c.toList,∃ k u,v=Value.str k u)
  H (x.keep fun o e=>yv _ e) i G (Yg r) j
  (fun h' d tk c m n g h1 i=>⟨h',d,tk,c,m,rfl,rfl,fun b o e=>n b o (yL (yI e)) (yv _ e),g,h1,i⟩)
 show YV t (fun p B y=>?_) fun e B y=>?_
 .cases p with
  | done f =>
   obtain⟨h',d,tk,c,m,e,rfl,n,g,h1,i⟩:=y;cases e;show wpAny _ A (load s.heap.objs.size>>=_) _ _ _;show yr (wpAny_load g ?_);show yt (h h' d tk c.toList n (yI g) (by rw[Yk];show h1) i)
  | again c₁ =>
   show⟨y.1,Xv y.2 fun q C z=>?_⟩;obtain⟨h',d,tk,c,m,rfl,rfl,n,g,h1,i⟩:=z;show wpAny _ A (load s.heap.objs.size>>=_) _ _ _;show yr (wpAny_load g ?_);show yt (h h' d tk c.toList n (yI g) (by rw[Yk];show h1) i)
 .obtain⟨_,_,_,_,_,D,_⟩:=y;cases D
theorem sort_txt{Q:Value->Shared->Prop}(v:A.handled=none)(x:TxS w₁ s.heap a ss)(r:ss.length≠1)(g:ss.length<64)
  (h:∀(D:Addr) (h':Heap) (d:Drawn) (tk e:Nat) (out:List Value) (us:LS),(∀ b o,s.heap.get? b=some o->h'.get? b=some o)->s.heap.objs.size<=D->h'.get? D=some (seqObj "list" out.toArray e)->StrsAre out us->us.length=ss.length->Q (.ref D) { s with heap:=h',toks:=tk,drawn:=d }) :
  wpAny (model prog w) A (call (.builtin "sorted") [.ref a]) Q E s:=by
 show Calls.call_function_entry kind_sorted plain_sorted entry_sorted (args_sorted1 _) ?_;unfold Builtin.«sorted»;show yr (m:=checkCount "sorted" 1 1 _) (yt ?_);show yr (coll_txt v x r (by rw[YA];lk) fun h' d tk vs n j hl hv=>?_);show yr (wpAny_newList ?_ (by rw[hl,YA];lk));have c:(h'.push (seqObj "list" vs.toArray 0)).get? h'.objs.size=some (seqObj "list" vs.toArray 0):=yK _ rfl;have i:=strsAre_map vs hv;show yr (Yc (YD slot_list_sort ⟨_,c,rfl⟩ entry_list_sort (list_sort_treeK strKind_oneLt c i.keysOf (fun p q qbR e=>keyKind_strs (by rw[<- e];show i)) (by rw[hl];show g) fun f y z=>⟨_,rfl,?_⟩) (args_list_sort _)));obtain⟨us,h1,t,_⟩:=sorted_out_str i y z;obtain⟨e,u⟩:=sortedHeap_at (out:=(arrOf f).map (·.2)) c;show yt ⟨_,rfl,h h'.objs.size _ d tk e ((arrOf f).map (·.2)).toList us (fun b o l=>?_) (yT j) ?_ h1 (by rw[t.length_eq,ya,hl])⟩
 .have:=yI (n b o l);rw[sortedHeap_old (yL this) (by rw[size_push'];show XU this)];show yv _ (n b o l)
 .rw [Array.toArray_toList];show u
end
section
variable{X:Cx}{K:yg}
theorem Inv.drawn{a:List (Addr×Obj)}{b:List (Option V)}{H:Hp}{s:Shared}(I:Inv X a b H s)(d:Drawn):Inv X a b H { s with drawn:=d }:=⟨I.ok,I.os,I.bare,I.base,I.loc,I.cell,I.free,I.freeC,I.pin,I.hok,I.len⟩
theorem qdL:∀{ys:LS} {us:List Value},StrsAre us ys->Vals (ys.map V.str) us
 | [],_,.nil=>.nil
 | y::ys,_,.cons _ tk r=>.cons ⟨tk,rfl⟩ (qdL r)
theorem qdM:∀{ys:LS} {us:List Value},StrsAre us ys->∀(i:Nat) (v:Value),us[i]?=some v->∃(k:Str) (t:Tok),ys[i]?=some k/\v=.str k t
 | _,_,.cons y tk r,0,v,h=>⟨y,tk,rfl,(ym h).symm⟩
 | _,_,.cons y tk r,i+1,v,h=>qdM r i v h
noncomputable def qfo(a:Addr)(ss:LS):HO:=.ext fun h=>∃ w,TxS w h a ss
def rSetS(K:yg):List V->Hp->VK->Prop:=fun xs H Q=>∃(p:Addr) (ss:LS),xs=[.ref p]/\SqL K H p (ss.map V.str)/\ss.Nodup/\ss.length<=100/\∀ l:Addr,H l=none->Q (.ref l) (upd H l (qfo l ss))
theorem k_setS(f:X.K=K)(hc:X.calm=true):zO X (.type "set") (rSetS K):=by
 subst f;intro c s z H xs us Q I r h;obtain⟨p,ss,rfl,m,l,h1,q⟩:=h;obtain⟨u,rfl,t⟩:=qbc r;cases t;obtain⟨a,d,pl,hz⟩:=I.list m;have n:=qcA d;have hl:a.length=ss.length:=by rw[<- d.length,ya]
 show set_txt (ks:=ss) (I.ok.hd hc) pl.isList (by simpa using hl) (fun i v e=>qdM n i v (by simpa using e)) l (by unfold scanBound;lk) fun h' tk b j=>?_;have g:=I.hok.fresh (yh s.heap.objs.size);show⟨.ref _,_,I.laid (o:=qfo s.heap.objs.size ss) (t':=tk) j (yh _) ⟨⟨_,b⟩,?_,fun h1 y x e=>?_⟩,rfl,q _ g⟩
 .obtain⟨_,_,_,e,_⟩:=b;show⟨_,e⟩
 .obtain⟨w,x⟩:=x;show⟨w,x.keep e⟩
def rSortS:List V->Hp->VK->Prop:=fun xs H Q=>∃(p:Addr) (ss:LS),xs=[.ref p]/\H p=some (qfo p ss)/\ss.length≠1/\ss.length<64/\∀(l:Addr) (us:LS),H l=none->us.length=ss.length->Q (.ref l) (upd H l (.lst (us.map V.str)))
theorem k_sortS(hc:X.calm=true):zO X (.builtin "sorted") rSortS:=by
 intro c s v H xs us Q I r h;obtain⟨p,ss,rfl,n,f,a,q⟩:=h;obtain⟨u,rfl,t⟩:=qbc r;cases t;obtain⟨⟨w,g⟩,_,_⟩:=I.hok p _ n;show sort_txt (I.ok.hd hc) g f a fun D h' d tk e out us l b i m hl=>?_;have j:H D=none:=I.hok.fresh b;show⟨.ref D,_,(I.laid (o:=.lst (us.map V.str)) (t':=tk) l b ⟨?_,out,e,qdL m,i⟩).drawn d,rfl,q D us j hl⟩;rw[ya,hl];show yT (qh (by lk))
end
end L2
namespace K34
open PySem L2 PyProof.Rows
variable{A:Str->Str->Prop}{E:XK}{G H H' H0 H1 H2:Hp}{K:W.Frag}{Pd:Str->Prop}{S S' S1 S2:FS}{a b c s t u v y z:Str}{ab q:Str×Str}{cf cw dx l p r2 x:Addr}{d lo ol:V}{dn l' l1 l2 m m1 m2 ps r rs rv rw rz ss:LS}{g:Str->Option Str}{i j n:Nat}{kps qs tps ups:LP}{kvs:List (Key×V)}{ns:LN}{o:HO}{o':Option (LS)}{pss ro:List (LS)}{ts us:LQ}{xs ys:List V}{α β:Type}
theorem Sr(H:Hp):L2.Same H H:=L2.Same.refl H
theorem jY{k:Nat}{A:Around}(a:Room k A):A.units+100<cLine:=by have:=a.un;lk
theorem hmR{k:Nat}{A:Around}(a:Room k A)(h:j<=k:=by decide):Room j A:=a.mono h
local macro_rules | `(tactic| walk_at "w")=>`(tactic| first
 | with_reducible refine vSeq ?_ | with_reducible refine vAsg ?_ | with_reducible refine vAsgS ?_ | with_reducible refine vIfS ?_ | with_reducible refine vRet ?_ | with_reducible refine vNext ?_ | with_reducible refine vC ?_
 | ((with_reducible refine' vVar ?hv ?_);(case hv=>rfl)) | with_reducible refine vOp ?_ | with_reducible refine vChain ?_ | with_reducible refine vNil ?_ | with_reducible refine vCons ?_ | with_reducible refine vCB ?_ | with_reducible refine vCall ?_
 | with_reducible refine vLst ?_ | with_reducible refine vTup ?_ | with_reducible refine vTest ?_ | with_reducible refine vB ?_ | with_reducible refine vNot ?_ | with_reducible refine vAnd ?_ | with_reducible refine vOr ?_
 | with_reducible refine vAndV ?_ | with_reducible refine vOrV ?_ | with_reducible refine vNotV ?_ | with_reducible refine vYes ?_ | with_reducible refine vLeI ?_ | with_reducible refine vLeS ?_ | with_reducible refine vIsB ?_ | with_reducible refine vAddI ?_ | with_reducible refine vSl ?_ | with_reducible refine vNoPart ?_ | with_reducible refine vPart ?_ | with_reducible refine vExI ?_ | with_reducible refine vBM ?_ | with_reducible refine vBM0 ?_ | with_reducible refine vComp ?_ | with_reducible refine vFor ?_ | with_reducible refine vRng1 ?_ | with_reducible refine vAny ?_ | with_reducible refine vGN ?_ | with_reducible refine vI0 ?_ | with_reducible refine vEqI ?_ | with_reducible refine vEqB ?_ | with_reducible refine vEx ?_ | with_reducible refine vDrop ?_ | with_reducible refine vRetN ?_ | with_reducible refine vFldU ?_ | with_reducible refine vSFldU ?_ | with_reducible refine vXMake ?_ | with_reducible refine vMake ?_ | with_reducible refine vMeth ?_ | with_reducible refine vVinit ?_ | with_reducible refine vCallS ?_ | with_reducible refine vRaise ?_ | with_reducible refine vMethS ?_ | with_reducible refine vMakeS ?_ | with_reducible refine vUn ?_ | with_reducible refine vIf ?_ | with_reducible refine vRev ?_ | with_reducible refine vEnum ?_ | with_reducible refine vDGet2 ?_ | with_reducible refine vStep ?_)
local macro_rules | `(tactic| walk_at "v")=>`(tactic| repeat walk_at "w")
local macro_rules | `(tactic| ext)=>`(tactic| walk_at "v")
local macro_rules | `(tactic| apply $e)=>`(tactic| (ext;refine $e))
noncomputable def fAtt:LS:=["board","partners","rows","parents","bases","rings","waiting","longer"]
structure Txt(K:W.Frag)(mg:Str->Option Value)(cc:Nat->Addr)(cw:Addr):Prop where
 b_len:mg "len"=none
 b_int:mg "int"=none
 b_enumerate:mg "enumerate"=none
 b_all:mg "all"=none
 b_max:mg "max"=none
 b_min:mg "min"=none
 b_isinstance:mg "isinstance"=none
 b_bool:mg "bool"=none
 b_str:mg "str"=none
 b_range:mg "range"=none
 b_list:mg "list"=none
 b_tuple:mg "tuple"=none
 g_LONGEST_NAME:∃ tk,mg "LONGEST_NAME"=some (.int 6 tk)
 g_MOST_PLACES:∃ tk,mg "MOST_PLACES"=some (.int 14 tk)
 g_MOST_TIES:∃ tk,mg "MOST_TIES"=some (.int 30 tk)
 wcl:Cls K cw
 wn:NoAttr K cw "numbers"
 wo:NoAttr K cw "order"
 wr:NoAttr K cw "near"
 m_Web:mg "Web"=some (.ref cw)
 m_Forest:mg "Forest"=some (.ref (cc 9))
 fcl:Cls K (cc 9)
 fa:∀ a∈fAtt,NoAttr K (cc 9) a
 b_zip:mg "zip"=none
 b_sorted:mg "sorted"=none
 b_set:mg "set"=none
theorem u9:FnScope ["thing"] ["thing"] (qg zX):=fS
theorem Ua:FnScope ["bits","number"] ["bits","number"] (qg qaD):=fS
theorem uW:FnScope ["numbers","thing"] ["numbers","thing"] (qg qag):=fS
theorem KZ:FnScope ["numbers","thing","both"] ["numbers","thing"] (qg jy):=fS
theorem qE(a:L2.Same H H1)(hl:H1 l=none):L2.Same H (upd H1 l o):=fun c u e=>by
 have q:=a c u e;rw[qf (qu q hl)];show q
theorem qax(a:L2.Same H H1)(hl:H l=none):L2.Same H (upd H1 l o):=fun c u e=>by
 rw[qf (qu e hl)];show a c u e
noncomputable def sg(c:Nat):Bool:=if (!decide (([c]:LN)<("a":Str).cps.toList))=true then !decide (("z":Str).cps.toList < [c]) else false
noncomputable def zG(x:Str):Bool:=if 1<=x.length/\x.length<=6 then x.cps.toList.all sg else false
theorem nameS_at{x:Str}(h:zG x=true):1<=x.length/\x.length<=6/\x.cps.toList.all sg=true:=by
 unfold zG at h;split at h
 .rename_i z;show⟨z.1,z.2,h⟩
 .cases h
structure All2{α β:Type}(R:α->β->Prop)(l:List α)(m:List β):Prop where
 len:l.length=m.length
 at_:∀(k:Nat) a b,l[k]?=some a->m[k]?=some b->R a b
theorem All2.nil{R:α->β->Prop}:All2 R [] []:=⟨rfl,fun k a b h=>by simp at h⟩
theorem All2.mono{R S:α->β->Prop}{l:List α}{m:List β}(h:All2 R l m)(f:∀ a b,R a b->S a b):All2 S l m:=⟨h.len,fun k a b x y=>f a b (h.at_ k a b x y)⟩
theorem All2.snoc{R:α->β->Prop}{l:List α}{m:List β}{x:α}{y:β}(h:All2 R l m)(r:R x y):All2 R (l++[x]) (m++[y]):=by
 show⟨by rw[yu,yu,h.len];rfl,fun k a b c d=>?_⟩;by_cases e:k<l.length
 .rw [yZ e] at c;rw[yZ (by rw[<- h.len];show e)] at d;show h.at_ k a b c d
 .rw [yC (by lk)] at c;rw[yC (by rw[<- h.len];lk)] at d
  have f:k-l.length=0:=by
   have:=(yc.mp c).1;simp at this;lk
  rw[<- h.len] at d;rw[f] at c d;cases c;cases d;show r
theorem All2.mem{R:α->β->Prop}{l:List α}{m:List β}(h:All2 R l m){x:α}(c:x∈l):∃ y∈m,R x y:=by
 obtain⟨k,b,e⟩:=YW c;have a:k<m.length:=by rw[<- h.len];show b
 show⟨m[k],Xw a,h.at_ k x m[k] (by rw[yb b,e]) (yb a)⟩
def PL(H:Hp)(l:Addr)(ts:LQ)(tps:LP):Prop:=H l=some (.lst (ts.map V.ref))/\All2 (fun t ab=>H t=some (.tup [.str ab.1,.str ab.2])) ts tps
theorem PL.same(h:PL H l ts tps)(s:L2.Same H H'):PL H' l ts tps:=⟨s _ _ h.1,h.2.mono fun _ _ z=>s _ _ z⟩
section
variable{P:Program}{w:World}{K:W.Frag}{mg:Str->Option Value}{base:Heap}{cc:Nat->Addr}{cw:Addr}{f:Addr}{fd:FuncData}
inductive spName(vs:List V)(H:Hp)(Q:VK)(E:XK):Prop|mk (x:Str) (_:vs=[.str x]) (_:zG x=true) (_:∀ H',L2.Same H H'->Q (.bl true) H')
theorem ok_name(F:Fun K "is_name" "is_name" zX f fd)(T:Txt K mg cc cw):FnOk P w K mg base CX0 1 f fd ["thing"] spName:=by
 show F.ok u9 fun _ _ _ _ H vs Q E t h=>?_
 .obtain⟨x,rfl,n,q⟩:=h;obtain⟨u,r,s⟩:=nameS_at n;show⟨_,(qc (qN (PW.pt (zq (qS (qL (qm (zL (K:=K) rfl) rfl T.b_isinstance Yx (qa (pv 0) (qa (jm (v:=.ty "str") rfl T.b_str boot_str rfl) qd))))) (jM (qS (pt_chain qfB qfB qi (qm (jj (K:=K) rfl) rfl T.b_len Yt (qa (pv 0) qd)) (qbJ rfl T.g_LONGEST_NAME)))))) (qe (qo jz)) qt)
 (qe (qo (qm (qeQ (K:=K) rfl rfl) rfl T.b_all boot_all (qa (jd (sc:=qg zX) (XN:=["thing"]) ["sign"] 1 [] rfl rfl rfl (by room) rfl (by room)
  (qM (K:=K) rfl (pv 0)) (fun _ _ _ _=>(qr (i:=0) (show(["sign"]:LS).Nodup by room) rfl (yQ rfl))) qP
  (fun _ _ _ _=>jR)
  (fun _ _ _ _=>(pe_chain qfB qfB qcR (pv 0) qcR))) qd))))),?_⟩
  apply qaW (.inl (.str x)) rfl (j0 K "str" (by simp) "str" (by simp)) ?_;apply yq ?_;apply vLenS (yi r (by decide)) ?_;apply qI (fun h1=>?_) fun h1=>absurd (yM (by lk)) h1;apply qI (fun g=>by simp only[xy,xz] at g;lk) fun g=>?_;apply comp_str (fun i ys H'=>H'=H/\ys=((x.cps.toList.take i).map sg).map V.bl) ⟨rfl,by simp⟩ (fun i c ys H' hc e=>?_) fun ys H' e=>?_
  .obtain⟨rfl,rfl⟩:=e;apply zr ?_;ext
   have hl:(List.map V.bl (List.map sg (List.take i x.cps.toList))).length<sizeLine:=by
    rw[ya,ya,yH];show qh (yi (kQ _ _) (by simpa [Str.length] using(show x.length<=1000 by lk)))
   have a:∀ b,b=sg c->(List.map V.bl (List.map sg (List.take i x.cps.toList)))++[V.bl b]=List.map V.bl (List.map sg (List.take (i+1) x.cps.toList)):=by
    intro b m;have j:x.cps.toList[i]?=some c:=by simpa using hc
    rw[m,yG,j];simp
   show qI (fun d=>?_) fun d=>⟨hl,rfl,a _ (by unfold sg;rw[yE d])⟩;apply⟨hl,rfl,a _ (by unfold sg;rw[yO d])⟩
  .obtain⟨rfl,rfl⟩:=e;have p:x.cps.toList.take x.cps.size=x.cps.toList:=by rw[<- Yk,yP]
   rw[p];show⟨?_,fun l hl=>?_⟩
   .rw [ya,ya];show yT (qh (by simpa [Str.length] using(show x.length<=1000 by lk)))
   .ext;show⟨l,x.cps.toList.map sg,rfl,SqL.of qb,?_⟩;have z:=q _ (qE (Sr H') (o:=.lst ((x.cps.toList.map sg).map V.bl)) hl);rw[kZ];rw[<- s] at z;show z
inductive spBit(vs:List V)(H:Hp)(Q:VK)(E:XK):Prop|mk (b n:Int) (_:vs=[.int b,.int n]) (_:0<=n) (_:Q (.bl (decide (Builtin.bitAnd (b / 2 ^ n.toNat) 1=1))) H)
theorem ok_bit(F:Fun K "has_bit" "has_bit" qaD f fd):FnOk P w K mg base CX0 1 f fd ["bits","number"] spBit:=by
 show F.ok Ua fun _ _ _ _ H vs Q E c h=>?_
 .obtain⟨b,n,rfl,a,q⟩:=h;have d:=jY c;show⟨_,(qe (qo (jo (zV (K:=K) rfl d) (qG op_and (qG op_shr (pv 0) (pv 1)) qi) qi (qw _)))),?_⟩;apply vI a ?_;apply .inl (.inl (.inl ⟨rfl,rfl,?_⟩));show q
noncomputable def qbr:LS->Nat->List (Key×V)
 | [],_=>[]
 | s::r,i=>(.inr s,.int i)::qbr r (i+1)
theorem qcj(y:Str):∀(ss:LS) (i:Nat),qbr (ss++[y]) i=qbr ss i++[(.inr y,.int (i+ss.length:Nat))]
 | [],i=>rfl
 | s::r,i=>by
  show(_::qbr (r++[y]) (i+1))=_::(qbr r (i+1)++_);rw[qcj y r (i+1)];have:i+1+r.length=i+(s::r).length:=by simp;lk
  rw[this]
theorem zH:∀(ss:LS) (i:Nat),(qbr ss i).length=ss.length
 | [],_=>rfl
 | _::r,i=>congrArg (· + 1) (zH r (i+1))
theorem qbm:∀{ss:LS} {i:Nat},y∉ss->ze (qbr ss i) (.inr y:Key)=none
 | [],_,_=>rfl
 | s::r,i,h=>by
  have h1:¬ s=y:=fun e=>h (by rw[e];show yR);show ze ((.inr s,V.int i)::qbr r (i+1)) _=none;rw[qX (p:=((.inr s:Key),V.int i)) (fun e=>h1 (xR e))];show qbm fun m=>h (yB _ m)
theorem za:∀{ss:LS} {i:Nat},y∈ss->∃ j,j<ss.length/\ss[j]?=some y/\ze (qbr ss i) (.inr y:Key)=some (.int (i+j:Nat))
 | [],_,h=>by cases h
 | s::r,i,h=>by
  by_cases e:s=y
  .subst e;show⟨0,by simp,rfl,jh (p:=((.inr s:Key),V.int i)) rfl⟩
  .rcases yz.mp h with z | z
   .show absurd z.symm e
   .obtain⟨j,h1,b,c⟩:=za (i:=i+1) z;show⟨j+1,by simp;lk,by simpa using b,?_⟩;show ze ((.inr s,V.int i)::qbr r (i+1)) _=_;rw[qX (p:=((.inr s:Key),V.int i)) (fun a=>e (xR a)),c];have:i+1+j=i+(j+1):=by lk
    rw[this]
theorem qbn(y:Str)(ss:LS)(i:Nat):(ze (qbr ss i) (.inr y:Key)).isSome=decide (y∈ss):=by
 by_cases h:y∈ss
 .obtain⟨j,_,_,e⟩:=za (i:=i) h;rw[e,yM h];rfl
 .rw [qbm h,yl h];rfl
inductive spPlace(vs:List V)(H:Hp)(Q:VK)(E:XK):Prop|mk (d:Addr) (ss:LS) (x:Str) (_:vs=[.ref d,.str x]) (_:H d=some (.dK (qbr ss 0))) (_:zG x=true) (_:x∈ss) (_:∀ H',L2.Same H H'->Q (.bl true) H')
theorem ok_place(F:Fun K "is_place" "is_place" qag f fd)(j:DefOk P w K mg base CX0 1 "is_name" ["thing"] spName):FnOk P w K mg base CX0 2 f fd ["numbers","thing"] spPlace:=by
 show F.ok uW fun _ _ _ _ H vs Q E a h=>?_
 .obtain⟨d,ss,x,rfl,c,e,i,q⟩:=h;have g:=jY a;show⟨_,(qe (qo (qbT (qp j (hmR a) qz (qa (pv 1) qd)) (qbt (jo (zT (K:=K) rfl g) (pv 1) (pv 0) (by with_unfolding_all rfl)))))),?_⟩;apply⟨x,rfl,e,fun H1 b=>?_⟩;apply zr ?_;apply .inr (.inl ⟨d,_,rfl,DGet.k (k:=Sum.inr x) (b d _ c),?_⟩);rw[qbn,yM i];show q H1 b
inductive spTwo(vs:List V)(H:Hp)(Q:VK)(E:XK):Prop|mk (d t:Addr) (ss:LS) (a b:Str) (_:vs=[.ref d,.ref t]) (_:H d=some (.dK (qbr ss 0))) (_:H t=some (.tup [.str a,.str b])) (_:zG a=true) (_:zG b=true) (_:a∈ss) (_:b∈ss) (_:a≠b) (_:∀ H',L2.Same H H'->Q (.bl true) H')
theorem ok_two(F:Fun K "are_two_places" "are_two_places" jy f fd)(T:Txt K mg cc cw)(o:DefOk P w K mg base CX0 2 "is_place" ["numbers","thing"] spPlace):FnOk P w K mg base CX0 3 f fd ["numbers","thing"] spTwo:=by
 show F.ok KZ fun _ _ _ _ H vs Q E m h=>?_
 .obtain⟨d,t,ss,a,b,rfl,p,c,u,x,r,s,l,q⟩:=h;have g:=jY m;show⟨_,(qc (qN (PW.pt (zq (qS (qL (qm (zL (K:=K) rfl) rfl T.b_isinstance Yx (qa (pv 1) (qa (jm (v:=.ty "tuple") rfl T.b_tuple boot_tuple rfl) qd))))) (jM (qk (zw (K:=K) rfl g) (qm (jj (K:=K) rfl) rfl T.b_len Yt (qa (pv 1) qd)) qi (qw _))))) (qe (qo jz)) qt)
 (qc (qq (i:=2) KZ.nd rfl (yQ rfl) (qbT (qp o (hmR m) qz (qa (pv 0) (qa (qx (qy (K:=K) rfl g) (pv 1) qi (fun _ _=>rfl)) qd))) (qbt (qp o (hmR m) qz (qa (pv 0) (qa (qx (qy (K:=K) rfl g) (pv 1) qi (fun _ _=>rfl)) qd))))))
 (qe (qo (qbT (pv 2) (qbt (jo (zw (K:=K) rfl g) (qx (qy (K:=K) rfl g) (pv 1) qi (fun _ _=>rfl)) (qx (qy (K:=K) rfl g) (pv 1) qi (fun _ _=>rfl)) (qw _)))))))),?_⟩
  apply qaW (.inl (.tup c)) rfl (j0 K "tuple" (by simp) "tuple" (by simp)) ?_;apply yq ?_;apply vLenT c ?_;apply .inl ⟨rfl,rfl,?_⟩;apply yq ?_;apply .inl (qaO c rfl ?_);apply⟨d,ss,a,rfl,p,u,r,fun H1 j=>?_⟩;apply zr ?_;apply .inl (qaO (j _ _ c) rfl ?_);apply⟨d,ss,b,rfl,j _ _ p,x,s,fun H2 n=>?_⟩;apply zr ?_;apply .inl (qaO (n _ _ (j _ _ c)) rfl ?_);apply .inl (qaO (n _ _ (j _ _ c)) rfl ?_);show .inl ⟨rfl,rfl,?_⟩;have z:=q H2 (j.trans n);have e:(if true=true then !eqV (V.str a) (V.str b) else eqV (V.str a) (V.str b))=true:=by simp[eqV,l]
  rw[e];show z
theorem KS:FnScope ["names","numbers","name"] ["names"] (qg zk):=fS
theorem qcH(m j:Nat):decide (Builtin.bitAnd ((m:Int) / 2 ^ (j:Int).toNat) 1=1)=m.testBit j:=by
 rw[PyProof.Rows.bitAnd_m1,Nat.testBit_eq_decide_div_mod_eq];rw[YI];have e:(m:Int) / 2 ^ j=((m / 2 ^ j:Nat):Int):=by rw[Int.natCast_ediv,Int.natCast_pow];rfl
 rw[e]
 congr 1
 apply propext;lk
theorem qew(m j:Nat):Builtin.bitOr (m:Int) (1*2 ^ (j:Int).toNat)=((m ||| 2 ^ j:Nat):Int):=by
 have e:(1*2 ^ (j:Int).toNat:Int)=((2 ^ j:Nat):Int):=by rw[YI,Int.one_mul,Int.natCast_pow];rfl
 rw[e];generalize 2 ^ j=k;have c:Builtin.bitNot (m:Int)=-(m:Int)-1:=rfl;have d:Builtin.bitNot (k:Int)=-(k:Int)-1:=rfl;unfold Builtin.bitOr Builtin.bitAnd;rw[c,d,yl (by lk),yl (by lk)];dsimp only;unfold Builtin.bitNot;have a:(-(-(m:Int)-1)-1).toNat=m:=by lk
 have b:(-(-(k:Int)-1)-1).toNat=k:=by lk
 rw[a,b];lk
def But(x:Addr)(H H':Hp):Prop:=∀ b o,b≠x->H b=some o->H' b=some o
theorem But.refl(x:Addr)(H:Hp):But x H H:=fun _ _ _ e=>e
theorem But.same(a:But x H H1)(b:L2.Same H1 H2):But x H H2:=fun c o n e=>b c o (a c o n e)
theorem But.put(a:But x H H1):But x H (upd H1 x o):=fun c u n e=>by rw[qf n];show a c u n e
theorem But.new(a:But x H H1)(hl:H1 l=none):But x H (upd H1 l o):=a.same (qE (Sr H1) hl)
theorem qdN{a q:Addr}{Q:VK}(h:H a=some (.lst xs))(b:H q=some (.tup [.ty "list",.ty "tuple"]))(k:Q (.bl true) H):qeq K [.ref a,.ref q] H Q:=
 ⟨_,q,_,_,[.type "list",.type "tuple"],true,rfl,.inl (.lst h),b,rfl,rfl,k⟩
inductive spNums(vs:List V)(H:Hp)(Q:VK)(E:XK):Prop|mk (a:Addr) (ss:LS) (_:vs=[.ref a]) (_:H a=some (.lst (ss.map V.str))) (_:ss.length<=14) (_:ss.Nodup) (_:(∀ s∈ss,zG s=true)) (_:∀ d H',L2.Same H H'->H d=none->H' d=some (.dK (qbr ss 0))->Q (.ref d) H')
theorem ok_nums(F:Fun K "numbers_of" "numbers_of" zk f fd)(T:Txt K mg cc cw)(S:DefOk P w K mg base CX0 1 "is_name" ["thing"] spName) :
  FnOk P w K mg base CX0 4 f fd ["names"] spNums:=by
 show F.ok KS fun _ _ _ _ H vs Q E G h=>?_
 .obtain⟨a,ss,rfl,l,M,r,s,q⟩:=h;have I:=jY G;show⟨_,(qc (qN (qS (qL (qm (qdI (K:=K) rfl) rfl T.b_isinstance Yx (qa (pv 0) (qa (zv (qa (jm (v:=.ty "list") rfl T.b_list xp rfl) (qa (jm (v:=.ty "tuple") rfl T.b_tuple boot_tuple rfl) qd))) qd))))) (qe jE) qt)
 (qc (qN (qk qcw (qm (jj (K:=K) rfl) rfl T.b_len Yt (qa (pv 0) qd)) (qbJ rfl T.g_MOST_PLACES) (qw _)) (qe jE) qt)
 (qc (qq (i:=1) KS.nd rfl (yQ rfl) zB)
 (qc (jq y0 rfl (qM (K:=K) rfl (pv 0)) (qr (i:=2) KS.nd rfl (yQ rfl))
 (qc (qN (qS (qL (qp S (hmR G) qz (qa (pv 2) qd)))) (qe jE) qt)
 (qc (qN (qk (zT (K:=K) rfl I) (pv 2) (pv 1) (by with_unfolding_all rfl)) (qe jE) qt)
 (qe (j4 (qm (jj (K:=K) rfl) rfl T.b_len Yt (qa (pv 1) qd)) (zg (pv 1) (pv 2) (zi I)))))))
 (qe (qo (pv 1))))))),?_⟩
  apply⟨by show 2<=sizeLine;decide,fun g N=>?_⟩;have m:=qE (Sr H) (o:=.tup [.ty "list",.ty "tuple"]) N;apply qdN (m _ _ l) qb ?_;apply yq ?_;apply jO (m _ _ l) ?_;rw[ya];apply qI (fun h=>by have:=yk h;lk) fun _=>?_;ext;intro d C;have L:=qE m (o:=.dK []) C;have c:H d=none:=m.free C;apply .inl ⟨⟨_,SqL.of (L _ _ l)⟩,jc (K:=K) (fun i p H'=>∃ A,p=[some (.ref a),some (.ref d),A]/\L2.Same H H'/\H' d=some (.dK (qbr (ss.take i) 0))) ⟨none,rfl,L,qb⟩ (fun i p H' _ e=>by obtain⟨_,_,z,_⟩:=e;show SqL.of (z _ _ l)) (fun i y p H' J e=>?_) fun p H' e=>?_⟩
  .obtain⟨A,rfl,u,b⟩:=e;rw[yd] at J;obtain⟨x,t,rfl⟩:=yn.mp J;have O:i<ss.length:=(yc.mp t).1;have j:ss.take (i+1)=ss.take i++[x]:=by rw[yG,t];rfl
   have D:x∉ss.take i:=fun z=>by
    have B:(ss.take (i+1)).Nodup:=r.sublist (XM _ _);rw[j] at B;show(y9.mp B).2.2 _ z x (by simp) rfl
   apply⟨x,rfl,s x (ye t),fun H1 n=>?_⟩;have R:=u.trans n;apply yq ?_;apply .inr (.inl ⟨d,_,rfl,DGet.k (k:=Sum.inr x) (n _ _ b),?_⟩);rw[qbn,yl D];apply yq ?_;apply .inr ⟨_,n _ _ b,?_⟩;apply .inr ⟨d,_,rfl,DPut.k (k:=Sum.inr x) (n _ _ b) (qh (by rw[zH,yH];lk)),?_⟩;show⟨_,rfl,qax R c,?_⟩;rw[qb,qaY _ (qbm D),j,qcj,zH];simp only[Xi]
  .obtain⟨A,rfl,u,b⟩:=e;ext;rw[ya,yP] at b;show q d H' u c b
theorem uX:FnScope ["self","names","ties"] ["self","names","ties"] (qg qah):=fS
theorem KG:FnScope ["numbers","ties","near","tie","one","other"] ["numbers","ties"] (qg qaE):=fS
def qbo(ss:LS)(ns:LN)(c:LP):Prop:=ns.length=ss.length/\(∀ a,ns.getD a 0<2 ^ ss.length)/\∀ a b s t,ss[a]?=some s->ss[b]?=some t->(ns.getD a 0).testBit b=decide ((s,t)∈c\/(t,s)∈c)
theorem qv(h:ss.Nodup){a b:Nat}(i:ss[a]?=some s)(j:ss[b]?=some s):a=b:=by
 have e:=Yd.mp h;obtain⟨f,c⟩:=yc.mp i;obtain⟨g,d⟩:=yc.mp j;rcases kM a b with q | q | q
 .show absurd (c.trans d.symm) (e a b f g q)
 .show q
 .show absurd (d.trans c.symm) (e b a g f q)
theorem bits_zero:qbo ss (List.replicate ss.length 0) []:=by
 have z:∀ a,(List.replicate ss.length 0).getD a 0=0:=fun a=>by
  simp only[List.getD,XI];split<;>rfl
 show⟨by simp,fun a=>by rw[z a];show Nat.two_pow_pos _,fun a b s t c d=>?_⟩;rw[z a];simp
theorem qaF{v:Nat}(h:i<ns.length):(ns.set i v).getD j 0=if i=j then v else ns.getD j 0:=by
 simp only[List.getD,List.getElem?_set];by_cases e:i=j
 .subst e;simp[h]
 .simp [e]
theorem bits_step{f:LP}(D:qbo ss ns f)(o:ss.Nodup)(d:ss[i]?=some s)(l:ss[j]?=some t)(n:s≠t) :
  qbo ss ((ns.set i (ns.getD i 0 ||| 2 ^ j)).set j (ns.getD j 0 ||| 2 ^ i)) (f++[(s,t)]):=by
 obtain⟨hl,m,h⟩:=D;have B:i<ns.length:=by rw[hl];show(yc.mp d).1
 have C:j<ns.length:=by rw[hl];show(yc.mp l).1
 have F:i≠j:=fun e=>by rw[e,l] at d;cases d;show n rfl
 have y:i<ss.length:=(yc.mp d).1;have A:j<ss.length:=(yc.mp l).1;show⟨by simp[hl],fun a=>?_,fun a b u v g c=>?_⟩
 .rw [qaF (by simpa using C),qaF B];split
  .show Nat.or_lt_two_pow (m _) (Nat.pow_lt_pow_right (by decide) y)
  .split
   .show Nat.or_lt_two_pow (m _) (Nat.pow_lt_pow_right (by decide) A)
   .show m _
 rw[qaF (by simpa using C),qaF B];have p:=h a b u v g c;have E:∀ P Q:Prop,(P↔Q)->∀ [Decidable P] [Decidable Q],decide P=decide Q:=fun P Q e=>by intro _ _;show YF.mpr e
 by_cases w:j=a
 .subst w;rw[l] at g;cases g;rw[yO rfl,Nat.testBit_or,p,Nat.testBit_two_pow];by_cases r:i=b
  .subst r;rw[d] at c;cases c;simp
  .have vs:v≠s:=fun e=>by subst e;show r (qv o d c)
   simp only[r,Kg,kc];apply YF.mpr;simp only[yw,yD,XD];constructor
   .rintro (z | z)
    .show .inl (.inl z)
    .show .inr (.inl z)
   .rintro ((z | ⟨z,_⟩) | (z | ⟨z,_⟩))
    .show .inl z
    .show absurd z.symm n
    .show .inr z
    .show absurd z vs
 .rw [yE w];by_cases q:i=a
  .subst q;rw[d] at g;cases g;rw[yO rfl,Nat.testBit_or,p,Nat.testBit_two_pow];by_cases x:j=b
   .subst x;rw[l] at c;cases c;simp
   .have H:v≠t:=fun e=>by subst e;show x (qv o l c)
    simp only[x,Kg,kc];apply YF.mpr;simp only[yw,yD,XD];constructor
    .rintro (z | z)
     .show .inl (.inl z)
     .show .inr (.inl z)
    .rintro ((z | ⟨_,z⟩) | (z | ⟨_,z⟩))
     .show .inl z
     .show absurd z H
     .show .inr z
     .show absurd z n
  .rw [yE q,p];have us:u≠s:=fun e=>by subst e;show q (qv o d g)
   have G:u≠t:=fun e=>by subst e;show w (qv o l g)
   apply YF.mpr;simp only[yw,yD,XD];constructor
   .rintro (z | z)
    .show .inl (.inl z)
    .show .inr (.inl z)
   .rintro ((z | ⟨z,_⟩) | (z | ⟨_,z⟩))
    .show .inl z
    .show absurd z us
    .show .inr z
    .show absurd z G
noncomputable def qc7(ns:LN):List V:=ns.map fun(n:Nat)=>.int (n:Int)
theorem qa0(h:i<ns.length):(qc7 ns)[i]?=some (.int (ns.getD i 0:Nat)):=by
 unfold qc7;rw[yd,yb h];simp[List.getD,h]
theorem qc8(ns:LN)(i m:Nat):(qc7 ns).set i (.int m)=qc7 (ns.set i m):=by
 unfold qc7;rw[List.map_set]
theorem natV_zero(k:Nat):(List.replicate k [V.int 0]).flatten=qc7 (List.replicate k 0):=by
 induction k with
 | zero=>rfl
 | succ k ih=>rw[xC,xU,ih];rfl
theorem qcI(h:j<n):ixN n (j:Int)=some j:=by
 unfold ixN;rw[yO (by lk),yO (by lk)];rfl
def UN(x y:Str×Str):Prop:=x≠y/\x≠(y.2,y.1)
theorem UN.symm{x y:Str×Str}(h:UN x y):UN y x:=⟨fun e=>h.1 e.symm,fun e=>h.2 (by rw[e])⟩
structure TGo(ss:LS)(tps:LP):Prop where
 few:tps.length<=30
 inn:∀ ab∈tps,ab.1∈ss/\ab.2∈ss/\ab.1≠ab.2
 un:tps.Pairwise UN
structure WOk(ss:LS)(ns:LN):Prop where
 len:ns.length=ss.length
 few:ss.length<=14
 nd:ss.Nodup
 lt:∀ a,ns.getD a 0<2 ^ ss.length
 nm:∀ s∈ss,zG s=true
inductive WebAt(cw:Addr)(H:Hp)(x:Addr)(ss:LS)(ns:LN):Prop|mk (dx d ol n:_) (_:H x=some (.ins cw dx (qH "near" (.ref n) (qH "order" (.ref ol) (qH "numbers" (.ref d) []))))) (_:H d=some (.dK (qbr ss 0))) (_:H ol=some (.lst (ss.map V.str))) (_:H n=some (.lst (qc7 ns))) (_:WOk ss ns)
theorem WebAt.same(h:WebAt cw H x ss ns)(s:L2.Same H H'):WebAt cw H' x ss ns:=by
 obtain⟨dx,d,ol,n,h1,a,b,c,e⟩:=h;show⟨dx,d,ol,n,s _ _ h1,s _ _ a,s _ _ b,s _ _ c,e⟩
inductive WebN(H0:Hp)(cw:Addr)(H:Hp)(x:Addr)(ss:LS)(ns:LN):Prop|mk (dx d ol n:_) (_:H x=some (.ins cw dx (qH "near" (.ref n) (qH "order" (.ref ol) (qH "numbers" (.ref d) []))))) (_:H d=some (.dK (qbr ss 0))) (_:H ol=some (.lst (ss.map V.str))) (_:H n=some (.lst (qc7 ns))) (_:WOk ss ns) (_:H0 d=none) (_:H0 ol=none) (_:H0 n=none)
theorem WebN.web(h:WebN H0 cw H x ss ns):WebAt cw H x ss ns:=by
 obtain⟨dx,d,ol,n,h1,a,b,c,e,_⟩:=h;show⟨dx,d,ol,n,h1,a,b,c,e⟩
inductive WebP(A:Addr->Prop)(cw:Addr)(H:Hp)(x:Addr)(ss:LS)(ns:LN):Prop|mk (dx d ol n:_) (_:H x=some (.ins cw dx (qH "near" (.ref n) (qH "order" (.ref ol) (qH "numbers" (.ref d) []))))) (_:H d=some (.dK (qbr ss 0))) (_:H ol=some (.lst (ss.map V.str))) (_:H n=some (.lst (qc7 ns))) (_:WOk ss ns) (_:¬ A x) (_:¬ A d) (_:¬ A ol) (_:¬ A n)
theorem WebP.web{A:Addr->Prop}(h:WebP A cw H x ss ns):WebAt cw H x ss ns:=by
 obtain⟨dx,d,ol,n,h1,a,b,c,e,_⟩:=h;show⟨dx,d,ol,n,h1,a,b,c,e⟩
theorem WebP.keep{A:Addr->Prop}(h:WebP A cw H x ss ns)(k:∀ b o,¬ A b->H b=some o->H' b=some o):WebP A cw H' x ss ns:=by
 obtain⟨dx,d,ol,n,h1,g,i,j,l,a,c,e,f⟩:=h;show⟨dx,d,ol,n,k _ _ a h1,k _ _ c g,k _ _ e i,k _ _ f j,l,a,c,e,f⟩
theorem WebN.apart{A:Addr->Prop}(h:WebN H0 cw H x ss ns)(m:¬ A x)(b:∀ a,A a->H0 a≠none):WebP A cw H x ss ns:=by
 obtain⟨dx,d,ol,n,h1,g,i,j,l,c,e,f⟩:=h;show⟨dx,d,ol,n,h1,g,i,j,l,m,fun z=>b _ z c,fun z=>b _ z e,fun z=>b _ z f⟩
theorem qck:∀(ss:LS) (i:Nat),(qbr ss i).map (fun a=>kV a.1)=ss.map V.str
 | [],_=>rfl
 | s::r,i=>congrArg (V.str s::·) (qck r (i+1))
inductive spNear(vs:List V)(H:Hp)(Q:VK)(E:XK):Prop|mk (d l:Addr) (ss:LS) (ts:LQ) (tps:LP) (_:vs=[.ref d,.ref l]) (_:H d=some (.dK (qbr ss 0))) (_:ss.length<=14) (_:ss.Nodup) (_:(∀ s∈ss,zG s=true)) (_:PL H l ts tps) (_:TGo ss tps) (_:∀ n ns H',L2.Same H H'->H n=none->H' n=some (.lst (qc7 ns))->qbo ss ns tps->Q (.ref n) H')
theorem ok_near(F:Fun K "near_of" "near_of" qaE f fd)(T:Txt K mg cc cw)(KE:DefOk P w K mg base CX0 3 "are_two_places" ["numbers","thing"] spTwo)(KQ:DefOk P w K mg base CX0 1 "has_bit" ["bits","number"] spBit) :
  FnOk P w K mg base CX0 4 f fd ["numbers","ties"] spNear:=by
 show F.ok KG fun _ _ _ _ H vs Q E hr h=>?_
 .obtain⟨d,l,ss,ts,tps,rfl,W,ai,ae,G,⟨hl,D⟩,Y,q⟩:=h;have j:=jY hr;have L:=D.len;have few:=Y.few;show⟨_,(qc (qN (qS (qL (qm (qdI (K:=K) rfl) rfl T.b_isinstance Yx (qa (pv 1) (qa (zv (qa (jm (v:=.ty "list") rfl T.b_list xp rfl) (qa (jm (v:=.ty "tuple") rfl T.b_tuple boot_tuple rfl) qd))) qd))))) (qe jE) qt)
 (qc (qN (qk qcw (qm (jj (K:=K) rfl) rfl T.b_len Yt (qa (pv 1) qd)) (qbJ rfl T.g_MOST_TIES) (qw _)) (qe jE) qt)
 (qc (qq (i:=2) KG.nd rfl (yQ rfl) (qG qel (qR (qa qi qd)) (qm (jj (K:=K) rfl) rfl T.b_len Yt (qa (pv 0) qd))))
 (qc (jq y0 rfl (qM (K:=K) rfl (pv 1)) (qr (i:=3) KG.nd rfl (yQ rfl))
 (qc (qN (qS (qL (qp KE (hmR hr) qz (qa (pv 0) (qa (pv 3) qd))))) (qe jE) qt)
 (qc (qq (i:=4) KG.nd rfl (yQ rfl) (qx (qy (K:=K) rfl j) (pv 0) (qx (qy (K:=K) rfl j) (pv 3) qi (fun _ _=>rfl)) (fun _ _=>rfl)))
 (qc (qq (i:=5) KG.nd rfl (yQ rfl) (qx (qy (K:=K) rfl j) (pv 0) (qx (qy (K:=K) rfl j) (pv 3) qi (fun _ _=>rfl)) (fun _ _=>rfl)))
 (qc (qN (qL (qp KQ (hmR hr) qz (qa (qx (qy (K:=K) rfl j) (pv 2) (pv 4) (fun _ _=>rfl)) (qa (pv 5) qd)))) (qe jE) qt)
 (qc (j4 (qG qe8 (qx (qy (K:=K) rfl j) (pv 2) (pv 4) (fun _ _=>rfl)) (qG qej qi (pv 5))) (zg (pv 2) (pv 4) (zi j)))
 (qe (j4 (qG qe8 (qx (qy (K:=K) rfl j) (pv 2) (pv 5) (fun _ _=>rfl)) (qG qej qi (pv 4))) (zg (pv 2) (pv 5) (zi j))))))))))
 (qe (qo (pv 2))))))),?_⟩
  apply⟨by show 2<=sizeLine;decide,fun g Z=>?_⟩;have s0:=qE (Sr H) (o:=.tup [.ty "list",.ty "tuple"]) Z;apply qdN (s0 _ _ hl) qb ?_;apply yq ?_;apply jO (s0 _ _ hl) ?_;rw[ya];apply qI (fun h=>by have:=yk h;lk) fun _=>?_;apply⟨by show 1<=sizeLine;decide,fun z ag=>?_⟩;have s1:=qE s0 (o:=.lst [.int 0]) ag;apply .inr ⟨_,s1 _ _ W,?_⟩;ext;rw[zH];show⟨z,_,_,rfl,rfl,qb,by lk,by lk,by show 1*_<=sizeLine;rw[YI];show yT (qh (by lk)),fun n hn=>?_⟩;rw[YI,natV_zero];have s2:=qE s1 (o:=.lst (qc7 (List.replicate ss.length 0))) hn;have n0:H n=none:=s1.free hn;apply .inl ⟨⟨_,SqL.of (s2 _ _ hl)⟩,jc (K:=K) (fun i X H'=>∃ v3 v4 v5 ns,X=[some (.ref d),some (.ref l),some (.ref n),v3,v4,v5]/\L2.Same H H'/\H' n=some (.lst (qc7 ns))/\qbo ss ns (tps.take i))
   ⟨none,none,none,_,rfl,s2,qb,bits_zero⟩ (fun i X H' _ I=>by obtain⟨_,_,_,_,_,z,_⟩:=I;show SqL.of (z _ _ hl)) (fun i y X H' hy I=>?_) fun X H' I=>?_⟩
  .obtain⟨v3,v4,v5,ns,rfl,N,A,a⟩:=I;rw[yd] at hy;obtain⟨t,ht,rfl⟩:=yn.mp hy;have aa:i<ts.length:=(yc.mp ht).1;obtain⟨⟨p,r⟩,u⟩:∃ ab,tps[i]?=some ab:=⟨_,yb (by rw[<- L];show aa)⟩;have U:=D.at_ i t _ ht u;obtain⟨m1,m2,c⟩:=Y.inn _ (ye u);dsimp only at U m1 m2 c;have J:tps.take (i+1)=tps.take i++[(p,r)]:=by rw[yG,u];rfl
   have af:¬ ((p,r)∈tps.take i\/(r,p)∈tps.take i):=fun z=>by
    have h3:(tps.take (i+1)).Pairwise UN:=Y.un.sublist (XM _ _);rw[J] at h3;have h4:=(List.pairwise_append.mp h3).2.2;rcases z with z | z
    .show(h4 _ z (p,r) (by simp)).1 rfl
    .show(h4 _ z (p,r) (by simp)).2 rfl
   obtain⟨C,ac,b,R⟩:=za (i:=0) m1;obtain⟨B,ad,s,S⟩:=za (i:=0) m2;rw[Xi] at R S;have ah:C≠B:=fun e=>by rw[e,s] at b;cases b;show c rfl
   have m:C<ns.length:=by rw[a.1];show ac
   have M:B<ns.length:=by rw[a.1];show ad
   apply⟨d,t,ss,p,r,rfl,N _ _ W,N _ _ U,G _ m1,G _ m2,m1,m2,c,fun H1 t1=>?_⟩;have O:=N.trans t1;have x:=t1 _ _ A;apply yq ?_;apply .inl (qaO (O _ _ U) rfl ?_);show .inr ⟨d,.int C,rfl,?_,?_⟩
   .have:=DGet.k (k:=Sum.inr p) (O _ _ W);rw[R] at this;show this
   apply .inl (qaO (O _ _ U) rfl ?_);show .inr ⟨d,.int B,rfl,?_,?_⟩
   .have:=DGet.k (k:=Sum.inr r) (O _ _ W);rw[S] at this;show this
   apply .inl (qau x (qF (qa0 m)) ?_);apply⟨_,_,rfl,by lk,?_⟩;rw[qcH,a.2.2 C B p r b s,yl af];apply yq ?_;apply .inl (qau x (qF (qa0 m)) ?_);apply vI ⟨by lk,by lk,by decide⟩ ?_;ext;rw[qew];show .inl (qee x (qcI (by unfold qc7;rw[ya];show m)) ?_);rw[qc8];ext;have e2:(ns.set C (ns.getD C 0 ||| 2 ^ B)).getD B 0=ns.getD B 0:=by rw[qaF m,yE ah]
   show .inl (qau qb (qF (qa0 (by simpa using M))) ?_);apply vI ⟨by lk,by lk,by decide⟩ ?_;ext;rw[qew,e2];show .inl (qee qb (qcI (by unfold qc7;rw[ya];simpa using M)) ?_);rw[qc8];show⟨_,_,_,_,rfl,qax (qax O n0) n0,qb,?_⟩;rw[J];show bits_step a ae b s c
  .obtain⟨v3,v4,v5,ns,rfl,N,A,a⟩:=I;ext;rw[ya,L,yP] at a;show q n _ H' N n0 A a
inductive spWeb(cw:Addr)(vs:List V)(H:Hp)(Q:VK)(E:XK):Prop|mk (x dx a l:Addr) (ss:LS) (ts:LQ) (tps:LP) (_:vs=[.ref x,.ref a,.ref l]) (_:H x=some (.ins cw dx [])) (_:H a=some (.lst (ss.map V.str))) (_:ss.length<=14) (_:ss.Nodup) (_:(∀ s∈ss,zG s=true)) (_:PL H l ts tps) (_:TGo ss tps) (_:∀ ns H',But x H H'->WebN H cw H' x ss ns->qbo ss ns tps->Q .non H')
theorem PL.but{C:Addr}{fs:List (Str×V)}(h:PL H l ts tps)(a:H x=some (.ins C dx fs))(b:But x H H'):PL H' l ts tps:=
 ⟨b _ _ (qaq h.1 a (by intro z;cases z)) h.1,h.2.mono fun t ab e=>b _ _ (qaq e a (by intro z;cases z)) e⟩
theorem ok_web(F:Fun K "__init__" "Web.__init__" qah f fd)(T:Txt K mg cc cw)(uT:DefOk P w K mg base CX0 4 "numbers_of" ["names"] spNums)(Y:DefOk P w K mg base CX0 4 "near_of" ["numbers","ties"] spNear) :
  FnOk P w K mg base CX0 5 f fd ["self","names","ties"] (spWeb cw):=by
 show F.ok uX fun _ _ _ _ H vs Q E N h=>?_
 .obtain⟨x,dx,a,l,ss,ts,tps,rfl,W,ha,j,nd,p,M,hg,q⟩:=h;have hu:=jY N;show⟨_,(qc (j3 (K:=K) rfl (pv 0) (qp uT (hmR N) qz (qa (pv 1) qd)) rfl)
 (qc (j3 (K:=K) rfl (pv 0) (jr (zU (K:=K) rfl rfl) rfl T.b_list xp (qa (qC (K:=K) rfl (pv 0) rfl) qd)) rfl)
 (qe (j3 (K:=K) rfl (pv 0) (qp Y (hmR N) qz (qa (qC (K:=K) rfl (pv 0) rfl) (qa (pv 2) qd))) rfl)))),?_⟩
  apply⟨a,ss,rfl,ha,j,nd,p,fun d H1 X L S=>?_⟩;have Z:=(But.refl x H).same X;have A:=X _ _ W;have r:d≠x:=qaq S A (by intro z;cases z);apply .inl ⟨x,cw,dx,[],rfl,A,T.wcl,T.wn,by decide,?_⟩;have J:=Z.put (o:=.ins cw dx (qH "numbers" (.ref d) []));have g:upd H1 x (.ins cw dx (qH "numbers" (.ref d) [])) d=some (.dK (qbr ss 0)):=by rw[qf r];show S
  have c:upd H1 x (.ins cw dx (qH "numbers" (.ref d) [])) x=_:=qb;generalize upd H1 x (.ins cw dx (qH "numbers" (.ref d) []))=H2 at J g c;apply .inl ⟨x,cw,dx,_,.ref d,rfl,c,T.wcl,T.wn,by rw[qA,yO rfl],?_⟩;apply .inr (.inl ⟨d,_,rfl,g,fun ol s=>?_⟩);rw[qck];have G:ol≠x:=fun e=>by subst e;rw[c] at s;cases s
  have b3:=J.new (o:=.lst (ss.map V.str)) s
  have y:H ol=none:=by
   cases R:H ol with
   | none=>rfl
   | some o'=>rw[J ol o' G R] at s;cases s
  have O:d≠ol:=qu g s;apply .inl ⟨x,cw,dx,_,rfl,(by rw[qf G.symm];show c),T.wcl,T.wo,Yy (jA _ _ _) (by decide),?_⟩;have D:=b3.put (o:=.ins cw dx (qH "order" (.ref ol) (qH "numbers" (.ref d) [])));have m:upd (upd H2 ol (.lst (ss.map V.str))) x (.ins cw dx (qH "order" (.ref ol) (qH "numbers" (.ref d) []))) d=some (.dK (qbr ss 0)):=by rw[qf r,qf O];show g
  have v:upd (upd H2 ol (.lst (ss.map V.str))) x (.ins cw dx (qH "order" (.ref ol) (qH "numbers" (.ref d) []))) ol=some (.lst (ss.map V.str)):=by rw[qf G];show qb
  have i:upd (upd H2 ol (.lst (ss.map V.str))) x (.ins cw dx (qH "order" (.ref ol) (qH "numbers" (.ref d) []))) x=_:=qb;generalize upd (upd H2 ol (.lst (ss.map V.str))) x (.ins cw dx (qH "order" (.ref ol) (qH "numbers" (.ref d) [])))=H3 at D m v i;apply .inl ⟨x,cw,dx,_,.ref d,rfl,i,T.wcl,T.wn,by rw[qA,yE (by room),qA,yO rfl],?_⟩;apply⟨d,l,ss,ts,tps,rfl,m,j,nd,p,M.but W D,hg,fun n ns H4 I t U b=>?_⟩;have B:=I _ _ i;have C:n≠x:=qaq U B (by intro z;cases z);apply .inl ⟨x,cw,dx,_,rfl,B,T.wcl,T.wr,Yy (jA _ _ _) (Yy (Nat.succ_le_succ (jA _ _ _)) (by decide)),?_⟩
  have u:H n=none:=by
   cases R:H n with
   | none=>rfl
   | some o'=>rw[D n o' C R] at t;cases t
  show q ns _ (D.same I).put ⟨dx,d,ol,n,qb,by rw[qf r];show I _ _ m,by rw[qf G];show I _ _ v,by rw[qf C];show U,⟨b.1,j,nd,b.2.1,p⟩,L,y,u⟩ b
theorem uO:FnScope ["self"] ["self"] (qg zl):=fS
theorem uB:FnScope ["self","thing"] ["self","thing"] (qg jH):=fS
theorem uC:FnScope ["self","place"] ["self","place"] (qg jI):=fS
theorem uP:FnScope ["self","place"] ["self","place"] (qg zm):=fS
theorem uq:FnScope ["self","place"] ["self","place"] (qg jk):=fS
theorem uz:FnScope ["self","one","other","bits"] ["self","one","other"] (qg qai):=fS
theorem uE:FnScope ["self","bits"] ["self","bits"] (qg jv):=fS
theorem j9{n:V}:(qH "near" n (qH "order" ol (qH "numbers" d []))).lookup ("numbers":Str)=some d:=by
 rw[qA,yE (by room),qA,yE (by room),qA,yO rfl]
theorem qbK{n:V}:(qH "near" n (qH "order" ol (qH "numbers" d []))).lookup ("order":Str)=some ol:=by
 rw[qA,yE (by room),qA,yO rfl]
theorem lk_near{n:V}:(qH "near" n (qH "order" ol (qH "numbers" d []))).lookup ("near":Str)=some n:=by
 rw[qA,yO rfl]
theorem zY{f:Str}{n:V}(h:(f=="near"||f=="order"||f=="numbers")=false):(qH "near" n (qH "order" ol (qH "numbers" d []))).lookup f=none:=by
 simp only[Bool.or_eq_false_iff,YU] at h;rw[qA,yE h.1.1,qA,yE h.1.2,qA,yE h.2];rfl
noncomputable def inB:LS->Nat->Nat->LS
 | [],_,_=>[]
 | s::r,i,b=>if b.testBit i=true then s::inB r (i+1) b else inB r (i+1) b
theorem qa1(y:Str)(b:Nat):∀(l:LS) (k:Nat),inB (l++[y]) k b=inB l k b++(if b.testBit (k+l.length)=true then [y] else [])
 | [],k=>by simp[inB]
 | s::r,k=>by
  have a:=qa1 y b r (k+1);have e:k+1+r.length=k+(s::r).length:=by simp;lk
  rw[e] at a;simp only[kR,inB,a];split<;>simp
theorem qbp(b:Nat):∀(l:LS) (k:Nat),(inB l k b).length<=l.length
 | [],_=>yh _
 | s::r,k=>by
  have a:=qbp b r (k+1);simp only[inB];split
  .simp;lk
  .simp;lk
inductive spHas(cw:Addr)(vs:List V)(H:Hp)(Q:VK)(E:XK):Prop|mk (x:Addr) (ss:LS) (ns:LN) (y:Str) (_:vs=[.ref x,.str y]) (_:WebAt cw H x ss ns) (_:y∈ss) (_:∀ H',L2.Same H H'->Q (.bl true) H')
inductive spNum(cw:Addr)(vs:List V)(H:Hp)(Q:VK)(E:XK):Prop|mk (x:Addr) (ss:LS) (ns:LN) (y:Str) (j:Nat) (_:vs=[.ref x,.str y]) (_:WebAt cw H x ss ns) (_:ss[j]?=some y) (_:∀ H',L2.Same H H'->Q (.int (j:Nat)) H')
inductive spBB(cw:Addr)(vs:List V)(H:Hp)(Q:VK)(E:XK):Prop|mk (x:Addr) (ss:LS) (ns:LN) (y:Str) (j:Nat) (_:vs=[.ref x,.str y]) (_:WebAt cw H x ss ns) (_:ss[j]?=some y) (_:∀ H',L2.Same H H'->Q (.int (ns.getD j 0:Nat)) H')
inductive spNIn(cw:Addr)(vs:List V)(H:Hp)(Q:VK)(E:XK):Prop|mk (x:Addr) (ss:LS) (ns:LN) (b:Nat) (_:vs=[.ref x,.int b]) (_:WebAt cw H x ss ns) (_:∀ l,H l=none->Q (.ref l) (upd H l (.lst ((inB ss 0 b).map V.str))))
inductive spBs(cw:Addr)(vs:List V)(H:Hp)(Q:VK)(E:XK):Prop|mk (x:Addr) (ss:LS) (ns:LN) (y:Str) (j:Nat) (_:vs=[.ref x,.str y]) (_:WebAt cw H x ss ns) (_:ss[j]?=some y) (_:∀ H',L2.Same H H'->∀ l,H' l=none->Q (.ref l) (upd H' l (.lst ((inB ss 0 (ns.getD j 0)).map V.str))))
inductive spTied(cw:Addr)(vs:List V)(H:Hp)(Q:VK)(E:XK):Prop|mk (x:Addr) (ss:LS) (ns:LN) (y z:Str) (j i:Nat) (_:vs=[.ref x,.str y,.str z]) (_:WebAt cw H x ss ns) (_:ss[j]?=some y) (_:ss[i]?=some z) (_:∀ H',L2.Same H H'->Q (.bl ((ns.getD j 0).testBit i)) H')
inductive spPls(cw:Addr)(vs:List V)(H:Hp)(Q:VK)(E:XK):Prop|mk (x:Addr) (ss:LS) (ns:LN) (_:vs=[.ref x]) (_:WebAt cw H x ss ns) (_:∀ l,H l=none->Q (.ref l) (upd H l (.lst (ss.map V.str))))
theorem ok_has(F:Fun K "has_place" "Web.has_place" jH f fd)(T:Txt K mg cc cw)(b:DefOk P w K mg base CX0 2 "is_place" ["numbers","thing"] spPlace):FnOk P w K mg base CX0 3 f fd ["self","thing"] (spHas cw):=by
 show F.ok uB fun _ _ _ _ H vs Q E e h=>?_
 .obtain⟨x,ss,ns,y,rfl,⟨dx,d,ol,n,g,c,j,i,hw⟩,a,q⟩:=h;show⟨_,(qe (qo (qp b (hmR e) qz (qa (qC (K:=K) rfl (pv 0) rfl) (qa (pv 1) qd))))),?_⟩;apply .inl ⟨x,cw,dx,_,.ref d,rfl,g,T.wcl,T.wn,j9,?_⟩;apply⟨d,ss,y,rfl,c,hw.nm _ a,a,q⟩
theorem ok_num(F:Fun K "number_of" "Web.number_of" jI f fd)(T:Txt K mg cc cw)(o:MethOk P w K mg base CX0 3 cw "has_place" ["self","thing"] (spHas cw)):FnOk P w K mg base CX0 4 f fd ["self","place"] (spNum cw):=by
 show F.ok uC fun _ _ _ _ H vs Q E e h=>?_
 .obtain⟨x,ss,ns,y,j,rfl,c,b,q⟩:=h;obtain⟨dx,d,ol,n,g,r,v,u,hw⟩:=id c;have l:=ye b;have s:=jY e;show⟨_,(qc (qN (qS (qL (qK o (hmR e) (pv 0) (qa (pv 1) qd)))) (qe jE) qt)
 (qe (qo (qx (qy (K:=K) rfl s) (qC (K:=K) rfl (pv 0) rfl) (pv 1) (fun _ _=>rfl))))),?_⟩
  apply⟨x,dx,_,rfl,g,zY (by room),?_⟩;apply⟨x,ss,ns,y,rfl,c,l,fun H1 a=>?_⟩;apply yq ?_;obtain⟨i,t,p,m⟩:=za (i:=0) l;rw[Xi,qv hw.nd p b] at m;apply .inl ⟨x,cw,dx,_,.ref d,rfl,a _ _ g,T.wcl,T.wn,j9,?_⟩;apply .inr ⟨d,.int j,rfl,?_,q H1 a⟩;have:=DGet.k (k:=Sum.inr y) (a _ _ r);rw[m] at this;show this
theorem ok_bb(F:Fun K "bits_beside" "Web.bits_beside" jk f fd)(T:Txt K mg cc cw)(i:MethOk P w K mg base CX0 4 cw "number_of" ["self","place"] (spNum cw)):FnOk P w K mg base CX0 5 f fd ["self","place"] (spBB cw):=by
 show F.ok uq fun _ _ _ _ H vs Q E c h=>?_
 .obtain⟨x,ss,ns,y,j,rfl,b,a,q⟩:=h;obtain⟨dx,d,ol,n,e,o,p,l,hw⟩:=id b;have m:=jY c;show⟨_,(qe (qo (qx (qy (K:=K) rfl m) (qC (K:=K) rfl (pv 0) rfl) (qK i (hmR c) (pv 0) (qa (pv 1) qd)) (fun _ _=>rfl)))),?_⟩;apply .inl ⟨x,cw,dx,_,.ref n,rfl,e,T.wcl,T.wr,lk_near,?_⟩;apply⟨x,dx,_,rfl,e,zY (by room),?_⟩;apply⟨x,ss,ns,y,j,rfl,b,a,fun H1 g=>?_⟩;show .inl (qau (g _ _ l) (qF (qa0 (by rw[hw.len];show(yc.mp a).1))) (q H1 g))
theorem ok_nin(F:Fun K "names_in" "Web.names_in" jv f fd)(T:Txt K mg cc cw)(A:DefOk P w K mg base CX0 1 "has_bit" ["bits","number"] spBit):FnOk P w K mg base CX0 2 f fd ["self","bits"] (spNIn cw):=by
 show F.ok uE fun _ _ _ _ H vs Q E u h=>?_
 .obtain⟨x,ss,ns,b,rfl,⟨dx,d,ol,n,v,D,t,L,hw⟩,q⟩:=h;have I:=jY u;show⟨_,(qe (qo (jd (sc:=qg jv) (XN:=["self","bits"]) ["name","bits","self"] 1 [1,0] rfl rfl rfl (by room) rfl (by room)
  (qM (K:=K) rfl (qC (K:=K) rfl (pv 0) rfl)) (fun _ _ _ _=>(qr (i:=0) (show(["name","bits","self"]:LS).Nodup by room) rfl (yQ rfl))) qP
  (fun _ _ _ _=>(qU (qL (qp A (hmR u) qz (qa (pv 1) (qa (qx (qy (K:=K) rfl I) (qC (K:=K) rfl (pv 2) rfl) (pv 0) (fun _ _=>rfl)) qd))))))
  (fun _ _ _ _=>(pv 0))))),?_⟩
  apply .inl ⟨x,cw,dx,_,.ref ol,rfl,v,T.wcl,T.wo,qbK,?_⟩;show .inl ⟨⟨_,SqL.of t⟩,qD (K:=K) (fun i ys H'=>H'=H/\ys=(inB (ss.take i) 0 b).map V.str) ⟨rfl,by simp[inB]⟩ (fun i ys H' _ e=>by rw[e.1];show SqL.of t) (fun i y ys H' r e=>?_) fun ys H' e=>?_⟩
  .obtain⟨rfl,rfl⟩:=e;have G:i<ss.length:=by simpa using(yc.mp r).1
   have c:ss[i]?=some ss[i]:=yb G;generalize ss[i]=s at c;have B:y=.str s:=by rw[yd,c] at r;cases r;rfl
   subst B;obtain⟨j,J,C,z⟩:=za (i:=0) (ye c);rw[Xi] at z;have p:j=i:=qv hw.nd C c;subst p;have g:ss.take (j+1)=ss.take j++[s]:=by rw[yG,c];rfl
   have a:(ss.take j).length=j:=by rw[yH];lk
   apply .inl ⟨x,cw,dx,_,.ref d,rfl,v,T.wcl,T.wn,j9,?_⟩;apply .inr ⟨d,.int j,rfl,?_,?_⟩
   .have:=DGet.k (k:=Sum.inr s) D;rw[z] at this;show this
   apply⟨_,_,rfl,by lk,?_⟩;rw[qcH];ext
   have few:((inB (ss.take j) 0 b).map V.str).length<sizeLine:=by
    rw[ya];show qh (yi (qbp _ _ _) (by rw[a];have:=hw.few;lk))
   show qI (fun o=>?_) fun o=>?_
   .ext;show⟨few,rfl,?_⟩;rw[g,qa1,a,Xi,yO o];simp
   .show⟨rfl,?_⟩;rw[g,qa1,a,Xi,yE o];simp
  .obtain⟨rfl,rfl⟩:=e;have m:ss.take (ss.map V.str).length=ss:=by rw[ya,yP]
   rw[m];show⟨?_,fun l hl=>q l hl⟩;rw[ya];show yT (qh (yi (qbp _ _ _) (by have:=hw.few;lk)))
theorem ok_bs(F:Fun K "beside" "Web.beside" zm f fd)(T:Txt K mg cc cw)(g:MethOk P w K mg base CX0 5 cw "bits_beside" ["self","place"] (spBB cw))(l:MethOk P w K mg base CX0 2 cw "names_in" ["self","bits"] (spNIn cw)):FnOk P w K mg base CX0 6 f fd ["self","place"] (spBs cw):=by
 show F.ok uP fun _ _ _ _ H vs Q E b h=>?_
 .obtain⟨x,ss,ns,y,j,rfl,a,i,q⟩:=h;obtain⟨dx,d,ol,n,c,_⟩:=id a;show⟨_,(qe (qo (qK l (hmR b) (pv 0) (qa (qK g (hmR b) (pv 0) (qa (pv 1) qd)) qd)))),?_⟩;apply⟨x,dx,_,rfl,c,zY (by room),?_⟩;apply⟨x,dx,_,rfl,c,zY (by room),?_⟩;apply⟨x,ss,ns,y,j,rfl,a,i,fun H1 e=>?_⟩;apply⟨x,ss,ns,_,rfl,a.same e,q H1 e⟩
theorem ok_tied(F:Fun K "tied" "Web.tied" qai f fd)(T:Txt K mg cc cw)(g:MethOk P w K mg base CX0 5 cw "bits_beside" ["self","place"] (spBB cw))(l:MethOk P w K mg base CX0 4 cw "number_of" ["self","place"] (spNum cw))
  (m:DefOk P w K mg base CX0 1 "has_bit" ["bits","number"] spBit):FnOk P w K mg base CX0 6 f fd ["self","one","other"] (spTied cw):=by
 show F.ok uz fun _ _ _ _ H vs Q E b h=>?_
 .obtain⟨x,ss,ns,y,z,j,i,rfl,a,p,o,q⟩:=h;obtain⟨dx,d,ol,n,e,_⟩:=id a;show⟨_,(qc (qq (i:=3) uz.nd rfl (yQ rfl) (qK g (hmR b) (pv 0) (qa (pv 1) qd)))
 (qe (qo (qp m (hmR b) qz (qa (pv 3) (qa (qK l (hmR b) (pv 0) (qa (pv 2) qd)) qd)))))),?_⟩
  apply⟨x,dx,_,rfl,e,zY (by room),?_⟩;apply⟨x,ss,ns,y,j,rfl,a,p,fun H1 c=>?_⟩;apply⟨x,dx,_,rfl,c _ _ e,zY (by room),?_⟩;apply⟨x,ss,ns,z,i,rfl,a.same c,o,fun H2 r=>?_⟩;apply⟨_,_,rfl,by lk,?_⟩;rw[qcH];show q H2 (c.trans r)
theorem ok_pls(F:Fun K "places" "Web.places" zl f fd)(T:Txt K mg cc cw):FnOk P w K mg base CX0 1 f fd ["self"] (spPls cw):=by
 show F.ok uO fun _ _ _ _ H vs Q E g h=>?_
 .obtain⟨x,ss,ns,rfl,⟨dx,d,ol,n,b,c,a,e,hw⟩,q⟩:=h;show⟨_,(qe (qo (jr (zU (K:=K) rfl rfl) rfl T.b_list xp (qa (qC (K:=K) rfl (pv 0) rfl) qd)))),?_⟩;apply .inl ⟨x,cw,dx,_,.ref ol,rfl,b,T.wcl,T.wo,qbK,?_⟩;apply .inl ⟨ol,_,rfl,.inl (SqL.of a),q⟩
theorem qdO(b:ss.Nodup)(h:ss[i]?=some s):ss.idxOf s=i:=by
 have a:s∈ss:=ye h;have hl:ss.idxOf s<ss.length:=Yu a;show qv b (by rw[yb hl,YN]) h
theorem zx(f:ss.Nodup)(b:Nat):inB ss 0 b=ss.filter fun s=>b.testBit (ss.idxOf s):=by
 have e:∀ k,k<=ss.length->inB (ss.take k) 0 b=(ss.take k).filter fun s=>b.testBit (ss.idxOf s):=fun k=>by
  induction k with
  | zero=>intro _;simp[inB]
  | succ k ih =>
   intro h;have a:ss[k]?=some ss[k]:=yb (by lk);generalize ss[k]=g at a;have d:ss.take (k+1)=ss.take k++[g]:=by rw[yG,a];rfl
   have c:(ss.take k).length=k:=by rw[yH];lk
   rw[d,qa1,yX,ih (by lk),c,Xi]
   congr 1
   rw[yS,Yn,qdO f a]
 have:=e ss.length (yh _)
 rwa[yP] at this
theorem KO:FnScope ["self","ties","one","other"] ["self"] (qg qaj):=fS
theorem qdP(a:ss.Nodup){b:Nat}(h:s∈inB ss 0 b):s∈ss/\b.testBit (ss.idxOf s)=true:=by
 rw[zx a] at h;show yp.mp h
noncomputable def qex(ss:LS)(ns:LN)(i:Nat):LP:=((inB ss 0 (ns.getD i 0)).filter fun o=>decide (i<ss.idxOf o)).map fun o=>(ss.getD i "",o)
noncomputable def qB(ss:LS)(ns:LN)(i:Nat):LP:=(List.range i).flatMap (qex ss ns)
def PrAt(H H':Hp)(l:Addr)(t:Addr)(ab:Str×Str):Prop:=H t=none/\t≠l/\H' t=some (.tup [.str ab.1,.str ab.2])
theorem PrAt.same{t:Addr}(h:PrAt H H1 l t ab)(s:L2.Same H1 H2):PrAt H H2 l t ab:=⟨h.1,h.2.1,s _ _ h.2.2⟩
inductive spTs(cw:Addr)(vs:List V)(H:Hp)(Q:VK)(E:XK):Prop|mk (x:Addr) (ss:LS) (ns:LN) (_:vs=[.ref x]) (_:WebAt cw H x ss ns) (_:∀(l:Addr) (ts:LQ) (H':Hp),L2.Same H H'->H l=none->H' l=some (.lst (ts.map V.ref))->ts.length<=196->All2 (PrAt H H' l) ts (qB ss ns ss.length)->Q (.ref l) H')
theorem ok_ts(F:Fun K "ties" "Web.ties" qaj f fd)(T:Txt K mg cc cw)(K3:MethOk P w K mg base CX0 6 cw "beside" ["self","place"] (spBs cw)):FnOk P w K mg base CX0 7 f fd ["self"] (spTs cw):=by
 show F.ok KO fun _ _ _ _ H vs Q E hr h=>?_
 .obtain⟨x,ss,ns,rfl,hW,q⟩:=h;have hu:=jY hr;obtain⟨dx,d,ol,n,hx,hd,ho,hn,hw⟩:=id hW;have few:=hw.few
  have Z:∀(H1:Hp) (y:Str) (i:Nat),L2.Same H H1->ss[i]?=some y->DGet H1 d (.str y) (some (.int (i:Nat))):=fun H1 y i R D=>by
   obtain⟨j,hj,gj,vj⟩:=za (i:=0) (ye D);rw[Xi] at vj;have af:j=i:=qv hw.nd gj D;subst af;have:=DGet.k (k:=Sum.inr y) (R _ _ hd);rw[vj] at this;show this
  show⟨_,(qc (qq (i:=1) KO.nd rfl (yQ rfl) (qR qd))
 (qc (jq y0 rfl (qM (K:=K) rfl (qC (K:=K) rfl (pv 0) rfl)) (qr (i:=2) KO.nd rfl (yQ rfl))
 (qe (jq y0 rfl (qM (K:=K) rfl (qK K3 (hmR hr) (pv 0) (qa (pv 2) qd))) (qr (i:=3) KO.nd rfl (yQ rfl))
 (qe (qN (qk qdu (qx (qy (K:=K) rfl hu) (qC (K:=K) rfl (pv 0) rfl) (pv 2) (fun _ _=>rfl)) (qx (qy (K:=K) rfl hu) (qC (K:=K) rfl (pv 0) rfl) (pv 3) (fun _ _=>rfl)) (qw _)) (qe (qW (qbI (K:=K) rfl yU Yo Yp jg (pv 1) (qa (zv (qa (pv 2) (qa (pv 3) qd))) qd)))) qt)))))
 (qe (qo (pv 1))))),?_⟩
  apply⟨by decide,fun l hl=>?_⟩;have s0:=qE (Sr H) (o:=.lst []) hl;apply .inl ⟨x,cw,dx,_,.ref ol,rfl,s0 _ _ hx,T.wcl,T.wo,qbK,?_⟩;show .inl ⟨⟨_,SqL.of (s0 _ _ ho)⟩,jc (K:=K) (fun i J H'=>∃(ts:LQ) (x2 U:Option V),J=[some (.ref x),some (.ref l),x2,U]/\L2.Same H H'/\H' l=some (.lst (ts.map V.ref))/\ts.length<=i*14/\All2 (PrAt H H' l) ts (qB ss ns i))
   ⟨[],none,none,rfl,s0,qb,by simp,All2.nil⟩ (fun i J H' _ B=>by obtain⟨_,_,_,_,z,_⟩:=B;show SqL.of (z _ _ ho)) (fun i y J H1 hy B=>?_) fun J H1 B=>?_⟩
  .obtain⟨ts,x2,U,rfl,R,G,s,c⟩:=B;have hi:i<ss.length:=by simpa using(yc.mp hy).1
   have D:ss[i]?=some ss[i]:=yb hi;generalize ss[i]=p at D;have ey:y=.str p:=by rw[yd,D] at hy;cases hy;rfl
   subst ey;have al:=hw.nm p (ye D);apply⟨x,dx,_,rfl,R _ _ hx,zY (by room),?_⟩;apply⟨x,ss,ns,p,i,rfl,hW.same R,D,fun H2 s2 b X=>?_⟩;have s3:=R.trans s2;have s4:=qE s3 (o:=.lst ((inB ss 0 (ns.getD i 0)).map V.str)) X;have S:=qE s2 (o:=.lst ((inB ss 0 (ns.getD i 0)).map V.str)) X;have eb:upd H2 b (.lst ((inB ss 0 (ns.getD i 0)).map V.str)) b=some (.lst ((inB ss 0 (ns.getD i 0)).map V.str)):=qb;have ah:b≠l:=fun e=>by rw[e,s2 _ _ G] at X;cases X
   have aj:H b=none:=s3.free X;show .inl ⟨⟨_,SqL.of qb⟩,?_⟩;generalize upd H2 b (.lst ((inB ss 0 (ns.getD i 0)).map V.str))=H3 at s4 S eb ⊢;have L:∀ o,o∈inB ss 0 (ns.getD i 0)->o∈ss:=fun o h=>(qdP hw.nd h).1;have ad:=qbp (ns.getD i 0) ss 0;have r:qex ss ns i=((inB ss 0 (ns.getD i 0)).filter fun o=>decide (i<ss.idxOf o)).map fun o=>(ss.getD i "",o):=rfl;have aa:ss.getD i ""=p:=by simp[List.getD,D]
   rw[aa] at r;generalize ak:inB ss 0 (ns.getD i 0)=bs at eb L ad r ⊢;show jc (K:=K) (fun k J H'=>∃(us:LQ) (U:Option V),J=[some (.ref x),some (.ref l),some (.str p),U]/\L2.Same H H'/\H' b=some (.lst (bs.map V.str))/\H' l=some (.lst (us.map V.ref))/\us.length<=i*14+k/\All2 (PrAt H H' l) us (qB ss ns i++((bs.take k).filter fun o=>decide (i<ss.idxOf o)).map fun o=>(p,o)))
    ⟨ts,_,rfl,s4,eb,S _ _ G,s,by simpa using c.mono fun _ _ h=>h.same S⟩ (fun k J H' _ B=>by obtain⟨_,_,_,_,z,_⟩:=B;show SqL.of z) (fun k u J H5 N B=>?_) fun J H5 B=>?_
   .obtain⟨us,U,rfl,I,C,g,v,a⟩:=B;have hk:k<bs.length:=by simpa using(yc.mp N).1
    have gk:bs[k]?=some bs[k]:=yb hk;generalize bs[k]=m at gk;have eu:u=.str m:=by rw[yd,gk] at N;cases N;rfl
    subst eu;have ag:=L m (ye gk);have ae:=Yu ag;have ac:ss[ss.idxOf m]?=some m:=by rw[yb ae,YN]
    have Y:bs.take (k+1)=bs.take k++[m]:=by rw[yG,gk];rfl
    apply .inl ⟨x,cw,dx,_,.ref d,rfl,I _ _ hx,T.wcl,T.wn,j9,?_⟩;apply .inr ⟨d,.int i,rfl,Z H5 p i I D,?_⟩;apply .inl ⟨x,cw,dx,_,.ref d,rfl,I _ _ hx,T.wcl,T.wn,j9,?_⟩;apply .inr ⟨d,.int (ss.idxOf m:Nat),rfl,Z H5 m _ I ac,?_⟩;apply qI (fun M=>?_) fun M=>?_
    .have A:i<ss.idxOf m:=by have:=yk M;lk
     apply⟨.inl ⟨rfl,_,SqL.of g⟩,?_⟩;apply⟨by show 2<=sizeLine;decide,fun t ht=>?_⟩;have O:l≠t:=qu g ht;have ai:b≠t:=qu C ht;have s6:=qE (Sr H5) (o:=.tup [.str p,.str m]) ht;apply⟨l,_,_,rfl,rfl,by rw[qf O];show g,by rw[ya];show qh (by have:i*14<=14*14:=kg 14 (by lk);lk),?_⟩;show⟨us++[t],_,rfl,qax (I.trans s6) hl,by rw[qf ah,qf ai];show C,by rw[qb,yy];rfl,by rw[yu];show us.length+1<=_;lk,?_⟩;rw[Y,yX,yy,<- y8];have W:([m].filter fun o=>decide (i<ss.idxOf o)).map (fun o=>(p,o))=[(p,m)]:=by simp[A]
     rw[W];show All2.snoc (a.mono fun t' ab h=>⟨h.1,h.2.1,?_⟩) ⟨I.free ht,O.symm,?_⟩
     .rw [qf h.2.1];show s6 _ _ h.2.2
     .rw [qf O.symm,qb]
    .have A:¬ i<ss.idxOf m:=fun h=>M (yM (by lk));show⟨us,_,rfl,I,C,g,by lk,?_⟩;have W:([m].filter fun o=>decide (i<ss.idxOf o)).map (fun o=>(p,o))=[]:=by simp[A]
     rw[Y,yX,yy,W,Yb];show a
   .obtain⟨us,U,rfl,I,C,g,v,a⟩:=B;rw[ya,yP] at a;rw[ya] at v;show⟨us,_,_,rfl,I,g,by lk,?_⟩;unfold qB at a ⊢;rw[Kc,xE];have W:[i].flatMap (qex ss ns)=(bs.filter fun o=>decide (i<ss.idxOf o)).map fun o=>(p,o):=by rw[<- r];simp
    rw[W];show a
  .obtain⟨ts,x2,U,rfl,R,G,s,c⟩:=B;rw[ya] at s c;apply q l ts H1 R hl G (by have:ss.length*14<=14*14:=kg 14 few;lk) c
theorem Ui:FnScope ["_law_script","_law_k"] ["_law_script","_law_k"] (qg qa2):=fS
theorem Um:FnScope ["_law_cell_here"] ["_law_cell_here"] (qg qbL):=fS
theorem K9:FnScope ["_law_box_here","_law_many","_law_number"] ["_law_box_here","_law_many"] (qg qa3):=fS
def Box(H:Hp)(p:Addr):Prop:=∃ a b c:Int,H p=some (.lst [.int a,.int b,.int c])
def BB(p:Addr)(H H':Hp):Prop:=(∀ b o,b≠p->H b=some o->H' b=some o)/\Box H' p
theorem BB.refl(h:Box H p):BB p H H:=⟨fun _ _ _ e=>e,h⟩
theorem BB.trans(a:BB p H H1)(b:BB p H1 H2):BB p H H2:=⟨fun c o n e=>b.1 c o n (a.1 c o n e),b.2⟩
theorem BB.new(a:BB p H H1)(hl:H1 l=none):BB p H (upd H1 l o):=by
 obtain⟨x,y,z,b⟩:=a.2;show⟨fun c u n e=>?_,x,y,z,?_⟩
 .have q:=a.1 c u n e;rw[qf (qu q hl)];show q
 .rw [qf (qu b hl)];show b
inductive spTake(vs:List V)(H:Hp)(Q:VK)(E:XK):Prop|mk (p:Addr) (m:Int) (_:vs=[.ref p,.int m]) (_:Box H p) (_:0<m) (_:m<1073741824) (_:∀(r:Int) (H':Hp),0<=r->r<m->BB p H H'->Q (.int r) H')
theorem ok_take(F:Fun K "_law_take" "_law_take" qa3 f fd):FnOk P w K mg base CX0 1 f fd ["_law_box_here","_law_many"] spTake:=by
 show F.ok K9 fun _ _ _ _ H vs Q E l h=>?_
 .obtain⟨p,m,rfl,⟨a,b,c,g⟩,j,h1,k⟩:=h;have d:=jY l;show⟨_,(qc (qN (qk qcw (qx (qy (K:=K) rfl d) (pv 0) qi (fun _ _=>rfl)) qi (qw _)) (qc (qq (i:=2) K9.nd rfl (yQ rfl) (qG zu (qx (qy (K:=K) rfl d) (pv 0) qi (fun _ _=>rfl)) (pv 1)))
 (qc (j4 (qG qdt (qx (qy (K:=K) rfl d) (pv 0) qi (fun _ _=>rfl)) (pv 1)) (zg (pv 0) qi (zi d)))
 (qe (qo (pv 2))))) qt)
 (qc (j4 (qG (jU (K:=K) rfl) (qx (qy (K:=K) rfl d) (pv 0) qi (fun _ _=>rfl)) qi) (zg (pv 0) qi (zi d)))
 (qc (qq (i:=2) K9.nd rfl (yQ rfl) (qG zu (qG (jU (K:=K) rfl) (qG (jU (K:=K) rfl) (qG qbG (qx (qy (K:=K) rfl d) (pv 0) qi (fun _ _=>rfl)) qi) (qG qbG qi (qx (qy (K:=K) rfl d) (pv 0) qi (fun _ _=>rfl)))) qi) qi))
 (qc (qq (i:=2) K9.nd rfl (yQ rfl) (qG zu (qG (jU (K:=K) rfl) (qG (jU (K:=K) rfl) (qG qbG (pv 2) (pv 2)) (qG qbG qi (qx (qy (K:=K) rfl d) (pv 0) qi (fun _ _=>rfl)))) qi) qi))
 (qe (qo (qG zu (qG zu (qG qbG (pv 2) (qG (jU (K:=K) rfl) (pv 2) qi)) qi) (pv 1)))))))),?_⟩
  apply .inl (qau g rfl ?_);apply qI (fun hc=>?_) (fun hc=>?_)
  .ext;show .inl (qau g rfl ?_);apply vI j ?_;apply .inl (qau g rfl ?_);apply vI ⟨j,h1⟩ ?_;apply .inl (qee g rfl ?_);apply k _ _ (Y3 _ (by lk)) (Y5 _ j) ⟨fun x o n e=>by rw[qf n];show e,_,_,_,qb⟩
  .ext;show .inl (qau g rfl ?_);apply .inl (qee g rfl ?_);apply .inl (qau qb rfl ?_);apply qbH (.inr (by decide)) ?_;apply .inl (qau qb rfl ?_);apply qbH (.inl (by decide)) ?_;apply vI (by decide) ?_;ext;have q:=Y3 (b*48271+7919*(c+1)+101) (show(2147483647:Int)≠0 by decide);have r:=Y5 (b*48271+7919*(c+1)+101) (show(0:Int)<2147483647 by decide);show qbH (.inl ⟨by lk,by lk⟩) ?_;apply .inl (qau qb rfl ?_);apply qbH (.inl (by decide)) ?_;apply vI (by decide) ?_;ext;generalize ((b*48271+7919*(c+1)+101) % 2147483647*((b*48271+7919*(c+1)+101) % 2147483647)+104729*(c+1)+7)=z;have s:=Y3 z (show(2147483629:Int)≠0 by decide);have t:=Y5 z (show(0:Int)<2147483629 by decide);show qbH (.inl ⟨by lk,by lk⟩) ?_;apply vI (by decide) ?_;apply vI j ?_;show k _ _ (Y3 _ (by lk)) (Y5 _ j) ⟨fun x o n e=>by rw[qf n];show e,_,_,_,qb⟩
inductive spCell(K:W.Frag)(vs:List V)(H:Hp)(Q:VK)(E:XK):Prop|mk (a:Addr) (ns:LX) (k:Int) (_:vs=[.ref a,.int k]) (_:SqL K H a (ns.map V.int)) (_:0<=k) (_:k<1000) (_:∀ i:Int,Q (.int i) H)
theorem ok_cell(F:Fun K "_law_cell" "_law_cell" qa2 f fd)(T:Txt K mg cc cw):FnOk P w K mg base CX0 1 f fd ["_law_script","_law_k"] (spCell K):=by
 show F.ok Ui fun _ _ _ _ H vs Q E l h=>?_
 .obtain⟨a,ns,k,rfl,e,j,h1,q⟩:=h;have m:=jY l;show⟨_,(qc (qN (qk qdu (pv 1) (qm (jj (K:=K) rfl) rfl T.b_len Yt (qa (pv 0) qd)) (qw _)) (qe (qo (qx (qy (K:=K) rfl m) (pv 0) (pv 1) (fun _ _=>rfl)))) qt)
 (qe (qo (qG (jU (K:=K) rfl) (qG qbG qi (pv 1)) qi)))),?_⟩
  apply qen e ?_;apply qI (fun hc=>?_) (fun hc=>?_)
  .ext;have c:k<(ns.map V.int).length:=yk hc;obtain⟨v,g,b⟩:=qdG j c;rw[yd] at b
   cases d:ns[k.toNat]? with
   | none=>rw[d] at b;cases b
   | some i =>
    rw[d] at b;cases b;show .inl (vIxLs e g (q i))
  .ext;show qbH (.inl (by decide)) ?_;apply q _
inductive spBox(vs:List V)(H:Hp)(Q:VK)(E:XK):Prop|mk (i:Int) (_:vs=[.int i]) (_:∀(p:Addr) (a b c:Int),H p=none->Q (.ref p) (upd H p (.lst [.int a,.int b,.int c])))
theorem ok_box(F:Fun K "_law_box" "_law_box" qbL f fd):FnOk P w K mg base CX0 1 f fd ["_law_cell_here"] spBox:=by
 show F.ok Um fun _ _ _ _ H vs Q E b h=>?_
 .obtain⟨i,rfl,q⟩:=h;have c:=jY b;show⟨_,(qc (qN (qk op_ge (pv 0) (qG op_pow qi qi) (qw _)) (qe (qo (qR (qa (pv 0) (qa (qG zu (pv 0) qi) (qa qi qd)))))) qt)
 (qe (qo (qR (qa qi (qa (qG zu (pv 0) qi) (qa qi qd))))))),?_⟩
  apply vI ⟨by decide,by decide,by decide⟩ ?_;apply qI (fun hc=>?_) (fun hc=>?_)
  .ext;show vI (by decide) ?_;apply⟨by show 3<=sizeLine;decide,fun p a=>q p _ _ _ a⟩
  .ext;show vI (by decide) ?_;apply⟨by show 3<=sizeLine;decide,fun p a=>q p _ _ _ a⟩
theorem BB.apart(a:BB p H H1)(hl:H1 l=none):l≠p:=fun e=>by subst e;obtain⟨_,_,_,z⟩:=a.2;rw[z] at hl;cases hl
theorem BB.free(a:BB p H H1)(hl:H1 l=none):H l=none:=by
 cases q:H l with
 | none=>rfl
 | some o=>rw[a.1 l o (a.apart hl) q] at hl;cases hl
theorem BB.put(a:BB p H H1)(hl:H l=none)(d:l≠p):BB p H (upd H1 l o):=by
 obtain⟨x,y,z,b⟩:=a.2;show⟨fun c u n e=>by rw[qf (qu e hl)];show a.1 c u n e,x,y,z,by rw[qf d.symm];show b⟩
theorem BB.same(a:BB p H H1)(s:L2.Same H1 H2):BB p H H2:=by
 obtain⟨x,y,z,b⟩:=a.2;show⟨fun c u n e=>s c u (a.1 c u n e),x,y,z,s _ _ b⟩
theorem Box.apart(h:Box H p)(hl:H l=none):l≠p:=(BB.refl h).apart hl
noncomputable def NewH(H H':Hp):Hp:=fun a=>match H a with | none=>H' a | some _=>none
theorem jw:∀{l m:LS},l.Nodup->(∀ x∈l,x∈m)->l.length<=m.length
 | [],_,_,_=>YX _
 | x::r,m,hn,h=>by
  obtain⟨h1,c⟩:=yo.mp hn;have a:=h x yR;have d:=jw (l:=r) (m:=m.erase x) c fun y b=>(List.mem_erase_of_ne (fun e=>h1 (by rw[<- e];show b))).mpr (h y (yB _ b));rw[xW a] at d;have:0<m.length:=Xj a;simp only[yA];lk
theorem qaR(c:Str)(ss:LS):inV (.str c) (ss.map V.str)=decide (c∈ss):=by
 unfold inV;rw[List.any_map,Y2,Xb,Yj];constructor
 .rintro ⟨y,a,e⟩;have:y=c:=eq_of_beq e;rw[<- this];show a
 .intro h;show⟨c,h,Xa c⟩
theorem zZ(ss:LS):(ss.map V.str).all qar=true:=by rw[kZ];show YK.mpr fun _ _=>rfl
inductive spFresh(vs:List V)(H:Hp)(Q:VK)(E:XK):Prop|mk (l:Addr) (ss:LS) (_:vs=[.ref l]) (_:H l=some (.lst (ss.map V.str))) (_:ss.length<=14) (_:∀(x:Str) (H':Hp),L2.Same H H'->zG x=true->x∉ss->Q (.str x) H')
noncomputable def signs:LS:=("abcdefghijklmno":Str).cps.toList.map fun c=>⟨#[c]⟩
theorem Ko:FnScope ["_law_box_here","_law_many","_law_letters","_law_way","_law_shift","_law_step","_law_stem","_law_ahead","_law_names_here","_law_k","_law_name"] ["_law_box_here","_law_many"] (qg zy):=fS
theorem slice_ix(k n:Nat):Builtin.Str.strSliceIndices none (some (k:Int)) 1 n=List.range (min k n):=by
 unfold Builtin.Str.strSliceIndices sliceRange;simp only[show(1:Int)>0 by decide,X9];rw[yE (show ¬ ((k:Int)<0) by lk)];have a:max 0 (min (k:Int) n)=((min k n:Nat):Int):=by lk
 rw[a];have b:(fun(j:Nat)=>((0:Int)+1*(j:Int)).toNat)=id:=by funext j;show _=j;lk
 rw[b,List.map_id]
 congr 1
 split
 .rw [Int.ediv_one];lk
 .omega
theorem qdQ(a:Array Nat):∀ m,m<=a.size->(List.range m).filterMap (a[·]?)=a.toList.take m
 | 0,_=>rfl
 | m+1,h=>by
  rw[Kc,List.filterMap_append,qdQ a m (by lk),yG]
  congr 1
  have e:a[m]?=some a[m]:=YT (by lk);have b:a.toList[m]?=some a[m]:=by rw[xl];show e
  rw[b,Xz,e];rfl
theorem qak(z:Str)(k:Nat):(Txt.slice z none (some (k:Int))).cps.toList=z.cps.toList.take k:=by
 unfold Txt.slice;rw[slice_ix];have hz:z.length=z.cps.toList.length:=by simp[Str.length]
 split
 .rename_i h
  rw[Xp] at h;have:min k z.length=z.length:=by simpa using h
  rw[YR (by lk)]
 .show(List.filterMap _ _).toArray.toList=_;rw[qdQ z.cps (min k z.length) (kQ _ _)];show z.cps.toList.take (min k z.length)=_;by_cases a:k<=z.length
  .rw [Ka a]
  .rw [kS (by lk),YR (by lk),YR (by lk)]
theorem qaG(a b:Str):(a++b).cps.toList=a.cps.toList++b.cps.toList:=by
 show(a.cps++b.cps).toList=_;show Array.toList_append
theorem qc9:∀{xs:LS},(∀ x∈xs,x.cps.toList.all sg=true)->(Str.join "" xs).cps.toList.all sg=true
 | [],_=>rfl
 | [x],h=>h x (by simp)
 | x::y::r,h=>by
  have e:Str.join "" (x::y::r)=x++""++Str.join "" (y::r):=rfl;rw[e,qaG,qaG,kt,kt,h x (by simp),qc9 fun z hz=>h z (yB _ hz)]
  room
theorem qeR{c:Nat}(h:97<=c)(b:c<=122):sg c=true:=by
 have a:∀ i,i<26->sg (97+i)=true:=by room
 have:=a (c-97) (by lk)
 rwa[show 97+(c-97)=c by lk] at this
theorem join_len{xs:LS}(h:∀ x∈xs,x.length=1):(Txt.join "" xs).length=xs.length:=by
 have e:Txt.join "" xs=Str.join "" xs:=Yr.mp (join_plain_closes "" xs);rw[e]
 cases xs with
 | nil=>rfl
 | cons a l =>
  rw[len_join_cons]
  have b:∀ l:LS,(∀ x∈l,x.length=1)->(l.map (·.length)).sum=l.length:=by
   intro l
   induction l with
   | nil=>intro _;rfl
   | cons a l ih =>
    intro h;rw[YH,List.sum_cons,h a yR,ih fun x c=>h x (yB _ c),yA];lk
  have z:("":Str).length=0:=by room
  rw[b _ h,z];lk
theorem sum_ones{xs:LS}(h:∀ x∈xs,x.length=1):(xs.map (·.length)).sum=xs.length:=by
 induction xs with
 | nil=>rfl
 | cons a l ih =>
  rw[YH,List.sum_cons,h a yR,ih fun x b=>h x (yB _ b),yA];lk
def Signs(p:Addr)(H:Hp)(i:Nat)(ys:List V)(H':Hp):Prop:=BB p H H'/\∃ xs:LS,ys=xs.map V.str/\xs.length=i/\∀ x∈xs,x.length=1/\x.cps.toList.all sg=true
theorem Signs.start(h:Box H p):Signs p H 0 [] H:=⟨BB.refl h,[],rfl,rfl,fun _ h=>by cases h⟩
theorem Signs.more{c:Nat}(h:Signs p H i ys H1)(b:BB p H1 H2)(hc:sg c=true):Signs p H (i+1) (ys++[.str ⟨#[c]⟩]) H2:=by
 obtain⟨a,xs,rfl,hl,h1⟩:=h;show⟨a.trans b,xs++[⟨#[c]⟩],by rw[yy];rfl,by rw[yu,hl];rfl,fun x d=>?_⟩;rcases yw.mp d with z | z
 .show h1 x z
 .rw [yD.mp z];show⟨rfl,by simp[hc]⟩
theorem Signs.len(h:Signs p H i ys H1):ys.length=i:=by
 obtain⟨_,xs,rfl,hl,_⟩:=h;rw[ya,hl]
noncomputable def L26:Str:="abcdefghijklmnopqrstuvwxyz"
theorem qey{i:Int}(b:0<=i)(h1:i<26):atI L26.cps.toList i=some (97+i.toNat):=by
 obtain⟨n,rfl⟩:=Xd b;have a:∀ n,n<26->L26.cps.toList[n]?=some (97+n):=by room
 rw[YI];show qF (a n (by lk))
theorem qda{x:Str}{l:LN}(e:x.cps.toList=l)(h1:1<=l.length)(a:l.length<=6)(h:l.all sg=true):zG x=true:=by
 have hl:x.length=l.length:=by rw[<- e];simp[Str.length]
 unfold zG;rw[yO ⟨by lk,by lk⟩,e];show h
theorem qcl(h:∀(i j:Nat) (s:Str),ss[i]?=some s->ss[j]?=some s->i=j):ss.Nodup:=by
 show Yd.mpr fun i j a c b e=>?_;have:=h i j ss[j] (by rw[yb a,e]) (yb c);lk
theorem qdb{step sh a b:Int}(c:step∈[(1:Int),3,5,7,9,11,15,25])(g:0<=a)(h:0<=b)(d:a<26)(f:b<26)(e:(sh+step*a) % 26=(sh+step*b) % 26):a=b:=by
 simp only[yz,yW,YE] at c;rcases c with rfl | rfl | rfl | rfl | rfl | rfl | rfl | rfl<;>lk
def NL(p:Addr)(H':Hp)(l:Addr)(ss:LS):Prop:=H' l=some (.lst (ss.map V.str))/\l≠p
structure NOk(ss:LS):Prop where
 few:ss.length<=14
 nd:ss.Nodup
 nm:∀ s∈ss,zG s=true
inductive spNames(vs:List V)(H:Hp)(Q:VK)(E:XK):Prop|mk (p:Addr) (m:Int) (_:vs=[.ref p,.int m]) (_:Box H p) (_:0<=m) (_:m<=14) (_:∀(l:Addr) (ss:LS) (H':Hp),BB p H H'->H l=none->NL p H' l ss->NOk ss->(ss.length:Int)<=m->Q (.ref l) H')
theorem ok_names(F:Fun K "_law_names" "_law_names" zy f fd)(T:Txt K mg cc cw)(X:DefOk P w K mg base CX0 1 "_law_take" ["_law_box_here","_law_many"] spTake):FnOk P w K mg base CX0 2 f fd ["_law_box_here","_law_many"] spNames:=by
 show F.ok Ko fun _ _ _ s H vs Q E O h=>?_
 .obtain⟨p,m,rfl,hB,m0,am,q⟩:=h;have hu:=jY O;show⟨_,(qc (qq (i:=2) Ko.nd rfl (Xr rfl) qcR)
 (qc (qq (i:=3) Ko.nd rfl (yQ rfl) (qp X (hmR O) qz (qa (pv 0) (qa qi qd))))
 (qc (qq (i:=4) Ko.nd rfl (Xr rfl) (qp X (hmR O) qz (qa (pv 0) (qa qi qd))))
 (qc (qq (i:=5) Ko.nd rfl (Xr rfl) (qx (qy (K:=K) rfl hu) (qR (qa qi (qa qi (qa qi (qa qi (qa qi (qa qi (qa qi (qa qi qd))))))))) (qp X (hmR O) qz (qa (pv 0) (qa qi qd))) (fun _ _=>rfl)))
 (qc (qq (i:=6) Ko.nd rfl (Xr rfl) (qbI (K:=K) rfl PySem.F.plainAttrs_str PySem.F.slot_str_join PySem.F.type_str_join (k_join (K:=K) rfl) qcR (qa (jd (sc:=qg zy) (XN:=["_law_box_here","_law_many","_law_letters","_law_way","_law_shift","_law_step","_law_stem","_law_ahead","_law_names_here","_law_k","_law_name"]) ["_law_k","_law_letters","_law_box_here"] 1 [2,0] rfl rfl rfl (by room) rfl (by room)
  (jF rfl T.b_range (qa qi qd)) (fun _ _ _ _=>(qr (i:=0) (show(["_law_k","_law_letters","_law_box_here"]:LS).Nodup by room) rfl (yQ rfl))) qP
  (fun _ _ _ _=>jR)
  (fun _ _ _ _=>(qx (qy (K:=K) rfl hu) (pv 1) (qp X (hmR O) qz (qa (pv 2) (qa qi qd))) (fun _ _=>rfl)))) qd)))
 (qc (qN (qk (zV (K:=K) rfl hu) (pv 3) qi (qw _)) (qe (qo (jd (sc:=qg zy) (XN:=["_law_box_here","_law_many","_law_letters","_law_way","_law_shift","_law_step","_law_stem","_law_ahead","_law_names_here","_law_k","_law_name"]) ["_law_k","_law_letters","_law_stem","_law_shift","_law_step"] 1 [2,6,4,5] rfl rfl rfl (by room) rfl (by room)
  (jF rfl T.b_range (qa (pv 1) qd)) (fun _ _ _ _=>(qr (i:=0) (show(["_law_k","_law_letters","_law_stem","_law_shift","_law_step"]:LS).Nodup by room) rfl (yQ rfl))) qP
  (fun _ _ _ _=>jR)
  (fun _ _ _ _=>(qG (jU (K:=K) rfl) (qx (qy (K:=K) rfl hu) (pv 1) (qG zu (qG (jU (K:=K) rfl) (pv 3) (qG qbG (pv 4) (qG qdt (pv 0) qi))) qi) (fun _ _=>rfl)) (jx (qdr (K:=K) rfl) (pv 2) jZ (jp (qG zu (pv 0) qi)))))))) qt)
 (qc (qq (i:=7) Ko.nd rfl (yQ rfl) (qp X (hmR O) qz (qa (pv 0) (qa qi qd))))
 (qc (qq (i:=8) Ko.nd rfl (yQ rfl) (qR qd))
 (qc (jq y0 rfl (jF rfl T.b_range (qa (pv 1) qd)) (qr (i:=9) Ko.nd rfl (yQ rfl))
 (qc (qq (i:=10) Ko.nd rfl (yQ rfl) (qG (jU (K:=K) rfl) (jx (qdr (K:=K) rfl) (pv 6) jZ (jp (pv 7))) (qx (qy (K:=K) rfl hu) (pv 2) (qG zu (qG (jU (K:=K) rfl) (pv 4) (qG qbG (pv 5) (pv 9))) qi) (fun _ _=>rfl))))
 (qe (qW (qbI (K:=K) rfl yU Yo Yp jg (pv 8) (qa (qG (jU (K:=K) rfl) (pv 10) (jx (qdr (K:=K) rfl) (pv 6) jZ (jp (qG qbG (qp X (hmR O) qz (qa (pv 0) (qa (qG qbu qi (pv 7)) qd))) (qG qbu (pv 3) qi))))) qd))))))
 (qe (qo (pv 8)))))))))))),?_⟩
  apply⟨p,3,rfl,hB,by decide,by decide,fun D H1 w0 w1 b1=>?_⟩;apply⟨p,26,rfl,b1.2,by decide,by decide,fun a H2 an ao b2=>?_⟩;replace b2:=b1.trans b2;apply⟨by show 8<=sizeLine;decide,fun l8 h8=>?_⟩;generalize S:[V.int 1,V.int 3,V.int 5,V.int 7,V.int 9,V.int 11,V.int 15,V.int 25]=xs;have b3:=b2.new (o:=.lst xs) h8;have n8:=b2.apart h8;have e8:upd H2 l8 (.lst xs) l8=some (.lst xs):=qb;generalize upd H2 l8 (.lst xs)=H3 at b3 e8 ⊢;apply⟨p,8,rfl,b3.2,by decide,by decide,fun r H4 r0 r1 B=>?_⟩;replace e8:=B.1 _ _ n8 e8;replace B:=b3.trans B;have al:xs.length=8:=by rw[<- S];rfl
  obtain⟨v,ix,hv⟩:=qdG (xs:=xs) r0 (by lk)
  obtain⟨step,rfl,ac,ap,aq⟩:∃ i:Int,v=.int i/\i∈[(1:Int),3,5,7,9,11,15,25]/\0<=i/\i<=25:=by
   have hm:=ye hv;rw[<- S] at hm;simp only[yz,yW,YE] at hm;rcases hm with rfl | rfl | rfl | rfl | rfl | rfl | rfl | rfl<;>show⟨_,rfl,by decide,by decide,by decide⟩
  show .inl (qau e8 ix ?_);clear hv ix S e8;apply⟨rfl,?_⟩;apply⟨5,rfl,by decide,by decide,qaN (lo:=0) (n:=5) (Signs p H4) (Signs.start B.2) (fun i ys H' J y=>?_) fun ys H5 y=>?_⟩
  .ext;show zr ?_;apply⟨p,26,rfl,y.1.2,by decide,by decide,fun r aj r0 r1 hb=>?_⟩;show .inl (qf1 (by room) (qey r0 r1) ?_);show⟨by rw[y.len];show qh (by lk),y.more hb (qeR (by lk) (by lk))⟩
  .show⟨by rw[y.len];decide,fun l5 h5=>?_⟩;obtain⟨af,I,rfl,hn,h1⟩:=y;replace B:=(B.trans af).new (o:=.lst (I.map V.str)) h5;apply⟨_,l5,I,rfl,rfl,SqL.of qb,by rw[sum_ones fun x hx=>(h1 x hx).1,show("":Str).length=0 by room];lk,?_⟩;have u:(Txt.join "" I).length=5:=by rw[join_len fun x hx=>(h1 x hx).1];lk
   have C:(Txt.join "" I).cps.toList.all sg=true:=by
    have e:Txt.join "" I=Str.join "" I:=Yr.mp (join_plain_closes "" I);rw[e];show qc9 fun x hx=>(h1 x hx).2
   generalize Txt.join "" I=b at u C ⊢;have Y:b.cps.toList.length=5:=by rw[<- u];simp[Str.length]
   have U:∀ k,(b.cps.toList.take k).all sg=true:=fun k=>YK.mpr fun c hc=>YK.mp C c (List.mem_of_mem_take hc)
   have R:∀ k:Nat,(Txt.slice b none (some (k:Int))).length=min k 5:=fun k=>by
    have:(Txt.slice b none (some (k:Int))).length=(Txt.slice b none (some (k:Int))).cps.toList.length:=by simp[Str.length]
    rw[this,qak,yH,Y]
   generalize upd H5 l5 (.lst (I.map V.str))=H6 at B ⊢;have z:∀{i:Int} {H:Hp} {Q:VK},0<=i->i<26->Q (.str ⟨#[97+i.toNat]⟩) H->qfj K (.str L26) (.int i) H Q:=fun h0 h1 k=>.inl (qf1 (by room) (qey h0 h1) k);apply .inl (.inl (.inl ⟨rfl,rfl,?_⟩));apply qI (fun hw=>?_) fun hw=>?_
   .ext;show⟨m,rfl,by lk,by lk,qaN (lo:=0) (fun i ys H'=>H'=H6/\∃ ss:LS,ys=ss.map V.str/\ss.length=i/\∀(j:Nat) s,ss[j]?=some s->s.cps.toList=(97+((a+step*((j:Int) / 6)) % 26).toNat)::b.cps.toList.take (j % 6)) ⟨rfl,[],rfl,rfl,by simp⟩ (fun i ys H' J y=>?_) fun ys H' y=>?_⟩
    .obtain⟨rfl,ss,rfl,d,g⟩:=y;apply zr ?_;apply vI ⟨by decide,by decide⟩ ?_;apply qbH (.inl ⟨by lk,by lk⟩) ?_;apply vI (by decide) ?_;apply z (Y3 _ (by decide)) (Y5 _ (by decide)) ?_;apply vI (by decide) ?_;apply qfM (yi (kz u) (by decide)) ?_;rw[XZ,show((i:Int) % 6)=((i % 6:Nat):Int) by lk];show qeP (by rw[R];show 1+_<=_;show yT (qh (by lk))) ?_;show⟨by rw[ya,d];show qh (by lk),rfl,ss++[_],by rw[yy];rfl,by rw[yu,d];rfl,fun j s t=>?_⟩;by_cases N:j<ss.length
     .rw [yZ N] at t;show g j s t
     .rw [yC (by lk)] at t;have h0:j-ss.length=0:=by have:=(yc.mp t).1;simp at this;lk
      rw[h0] at t;cases t;have M:j=i:=by lk
      subst M;rw[qaG,qak];rfl
    .obtain⟨rfl,ss,rfl,d,g⟩:=y;show⟨by rw[ya,d];show yT (qh (by lk)),fun l hl=>?_⟩;show q l ss _ (B.new hl) (B.free hl) ⟨qb,B.apart hl⟩ ⟨by lk,qcl fun i j s J t=>?_,fun s y=>?_⟩ (by lk)
     .have ei:=g i s J;have ej:=g j s t;have li:=(yc.mp J).1;have lj:=(yc.mp t).1;rw[ei,List.cons.injEq] at ej;obtain⟨e1,e2⟩:=ej;have e3:=congrArg List.length e2;rw[yH,yH,Y] at e3
      have e4:(i:Int) / 6=(j:Int) / 6:=qdb (sh:=a) ac (by lk) (by lk) (by lk) (by lk) (by
       have p1:=Y3 (a+step*((i:Int) / 6)) (show(26:Int)≠0 by decide);have p2:=Y3 (a+step*((j:Int) / 6)) (show(26:Int)≠0 by decide);lk)
      lk
     .obtain⟨j,t,e⟩:=YW y;show qda (g j s (by rw[yb t,e])) (by simp) (by simp[Y];lk) ?_;rw[XB,U,qeR (by lk) (by have:=Y5 (a+step*((j:Int) / 6)) (show(0:Int)<26 by decide);lk)];rfl
   .ext;show⟨p,4,rfl,B.2,by decide,by decide,fun ae H7 a0 a1 Z=>?_⟩;obtain⟨A,rfl⟩:=Xd a0;replace Z:=B.trans Z;apply⟨by decide,fun l hl=>?_⟩;have b8:=Z.new (o:=.lst []) hl;have nl:=Z.apart hl;have aa:=Z.free hl;apply⟨m,rfl,by lk,by lk,zt (fun i σ H'=>BB p H H'/\∃(ss:LS) (x9 W:Option V),σ=[some (.ref p),some (.int m),some (.str L26),some (.int D),some (.int a),some (.int step),some (.str b),some (.int (A:Int)),some (.ref l),x9,W]/\H' l=some (.lst (ss.map V.str))/\ss.length=i/\∀(j:Nat) s,ss[j]?=some s->zG s=true/\s.cps.toList[A]?=some (97+((a+step*(j:Int)) % 26).toNat))
     ⟨b8,[],none,none,rfl,qb,rfl,by simp⟩ (fun i σ H8 J hp=>?_) fun σ H8 hp=>?_⟩
    .obtain⟨b9,ss,x9,W,rfl,g,d,hk⟩:=hp;apply qfM (yi (kz u) (by decide)) ?_;apply qbH (.inl ⟨by lk,by lk⟩) ?_;apply vI (by decide) ?_;ext;rw[XZ];show z (Y3 _ (by decide)) (Y5 _ (by decide)) ?_;show qeP (by rw[R];show _+1<=_;show yT (qh (by lk))) ?_;have L:(Txt.slice b none (some (A:Int))++(⟨#[97+((a+step*(i:Int)) % 26).toNat]⟩:Str)).cps.toList=b.cps.toList.take A++[97+((a+step*(i:Int)) % 26).toNat]:=by rw[qaG,qak]
     have ag:(Txt.slice b none (some (A:Int))++(⟨#[97+((a+step*(i:Int)) % 26).toNat]⟩:Str)).length<=6:=by
      have:(Txt.slice b none (some (A:Int))++(⟨#[97+((a+step*(i:Int)) % 26).toNat]⟩:Str)).length=(Txt.slice b none (some (A:Int))++(⟨#[97+((a+step*(i:Int)) % 26).toNat]⟩:Str)).cps.toList.length:=by simp[Str.length]
      rw[this,L];simp[Y];lk
     generalize Txt.slice b none (some (A:Int))++(⟨#[97+((a+step*(i:Int)) % 26).toNat]⟩:Str)=nm at L ag ⊢;apply⟨.inl ⟨rfl,_,SqL.of g⟩,?_⟩;apply⟨p,_,rfl,b9.2,by lk,by lk,fun r H9 r0 r1 G=>?_⟩;replace g:=G.1 _ _ nl g;replace G:=b9.trans G;apply qbH (.inl ⟨by lk,by lk⟩) ?_;apply qfM (yi (kz u) (by decide)) ?_
     have ad:D=1\/D=2:=by
      have:¬ D=0:=fun e=>hw (by subst e;rfl);lk
     obtain⟨k,ak,ek⟩:∃ k:Nat,k<=5-A/\r*(D-1)=(k:Int):=by
      rcases ad with rfl | rfl
      .show⟨0,by lk,by lk⟩
      .show⟨r.toNat,by lk,by lk⟩
     rw[ek];show qeP (by rw[R];show yT (qh (by lk))) ?_;show⟨l,_,_,rfl,rfl,g,by rw[ya,d];show qh (by lk),?_⟩;show⟨G.put aa nl,ss++[_],_,_,rfl,by rw[qb,yy];rfl,by rw[yu,d];rfl,fun j s t=>?_⟩;by_cases N:j<ss.length
     .rw [yZ N] at t;show hk j s t
     .rw [yC (by lk)] at t;have h0:j-ss.length=0:=by have:=(yc.mp t).1;simp at this;lk
      rw[h0] at t;cases t;have M:j=i:=by lk
      subst M;have eF:(nm++Txt.slice b none (some (k:Int))).cps.toList=b.cps.toList.take A++[97+((a+step*(j:Int)) % 26).toNat]++b.cps.toList.take k:=by rw[qaG,L,qak]
      have ai:=Y5 (a+step*(j:Int)) (show(0:Int)<26 by decide);show⟨qda eF (by simp;lk) (by simp[Y];lk) ?_,?_⟩
      .rw [kt,kt,U,U,XB,qeR (by lk) (by lk)];rfl
      .rw [eF,y8,yC (by rw[yH];lk)];have:A-(b.cps.toList.take A).length=0:=by rw[yH,Y];lk
       rw[this];rfl
    .obtain⟨b9,ss,x9,W,rfl,g,d,hk⟩:=hp;apply q l ss _ b9 aa ⟨g,nl⟩ ⟨by lk,qcl fun i j s J t=>?_,fun s y=>?_⟩ (by lk)
     .have ei:=(hk i s J).2;have ej:=(hk j s t).2;have li:=(yc.mp J).1;have lj:=(yc.mp t).1;rw[ei,Option.some.injEq] at ej
      have e4:(i:Int)=(j:Int):=qdb (sh:=a) ac (by lk) (by lk) (by lk) (by lk) (by
       have p1:=Y3 (a+step*(i:Int)) (show(26:Int)≠0 by decide);have p2:=Y3 (a+step*(j:Int)) (show(26:Int)≠0 by decide);lk)
      lk
     .obtain⟨j,t,e⟩:=YW y;show(hk j s (by rw[yb t,e])).1
theorem KR:FnScope ["_law_box_here","_law_names_here","_law_found","_law_base","_law_k","_law_j"] ["_law_box_here","_law_names_here"] (qg qa4):=fS
theorem K1:FnScope ["_law_box_here","_law_most","_law_many","_law_names_here"] ["_law_box_here","_law_most"] (qg qaH):=fS
theorem KU:FnScope ["_law_box_here","_law_ties_here","_law_left","_law_found"] ["_law_box_here","_law_ties_here"] (qg jV):=fS
theorem NL.bb(h:NL p H l ss)(b:BB p H H'):NL p H' l ss:=⟨b.1 _ _ h.2 h.1,h.2⟩
theorem NL.same(h:NL p H l ss)(s:L2.Same H H'):NL p H' l ss:=⟨s _ _ h.1,h.2⟩
def PrT(p:Addr)(H:Hp)(t:Addr)(ab:Str×Str):Prop:=t≠p/\H t=some (.tup [.str ab.1,.str ab.2])
def TL(p:Addr)(H:Hp)(l:Addr)(ts:LQ)(tps:LP):Prop:=H l=some (.lst (ts.map V.ref))/\l≠p/\All2 (PrT p H) ts tps
theorem TL.bb(h:TL p H l ts tps)(b:BB p H H'):TL p H' l ts tps:=⟨b.1 _ _ h.2.1 h.1,h.2.1,h.2.2.mono fun t ab z=>⟨z.1,b.1 _ _ z.1 z.2⟩⟩
theorem TL.same(h:TL p H l ts tps)(s:L2.Same H H'):TL p H' l ts tps:=⟨s _ _ h.1,h.2.1,h.2.2.mono fun t ab z=>⟨z.1,s _ _ z.2⟩⟩
theorem PrT.put{t:Addr}(h:PrT p H t ab)(hl:H l=some (.lst xs)):PrT p (upd H l (.lst ys)) t ab:=⟨h.1,by rw[qf (qaq h.2 hl (by intro z;cases z))];show h.2⟩
theorem TL.more{t:Addr}(h:TL p H l ts tps)(a:PrT p H t ab):TL p (upd H l (.lst (ts.map V.ref++[.ref t]))) l (ts++[t]) (tps++[ab]):=
 ⟨by rw[qb,yy];rfl,h.2.1,(h.2.2.mono fun _ _ z=>z.put h.1).snoc (a.put h.1)⟩
theorem TL.other{l':Addr}(h:TL p H l ts tps)(ne:l≠l')(hl:H l'=some (.lst xs)):TL p (upd H l' (.lst ys)) l ts tps:=⟨by rw[qf ne];show h.1,h.2.1,h.2.2.mono fun _ _ z=>z.put hl⟩
theorem qcm(f:α->β):∀(l:List α) (k:Nat),(l.map f).eraseIdx k=(l.eraseIdx k).map f
 | [],_=>rfl
 | _::_,0=>rfl
 | a::r,k+1=>congrArg (f a::·) (qcm f r k)
theorem All2.erase{R:α->β->Prop}{l:List α}{m:List β}(h:All2 R l m)(k:Nat):All2 R (l.eraseIdx k) (m.eraseIdx k):=by
 show⟨by rw[List.length_eraseIdx,List.length_eraseIdx,h.len],fun j a b d c=>?_⟩;rw[List.getElem?_eraseIdx] at d c;split at d
 .rename_i hlt
  rw[yO hlt] at c;show h.at_ j a b d c
 .rename_i hlt
  rw[yE hlt] at c;show h.at_ (j+1) a b d c
theorem qbB:∀(l:List α) (k:Nat) (h:k<l.length),(l[k]::l.eraseIdx k).Perm l
 | [],_,h=>absurd h (Nat.not_lt_zero _)
 | a::r,0,_=>.refl _
 | a::r,k+1,h=>(Ke a _ _).trans (.cons a (qbB r k (Nat.lt_of_succ_lt_succ h)))
theorem TL.less(h:TL p H l ts tps)(k:Nat):TL p (upd H l (.lst ((ts.map V.ref).eraseIdx k))) l (ts.eraseIdx k) (tps.eraseIdx k):=
 ⟨by rw[qb,qcm],h.2.1,(h.2.2.erase k).mono fun _ _ z=>z.put h.1⟩
structure TOk(ss:LS)(tps:LP):Prop where
 few:tps.length<=30
 ok:∀ ab∈tps,∃ j k:Nat,j<k/\ss[j]?=some ab.1/\ss[k]?=some ab.2
 nd:tps.Nodup
inductive spTies(vs:List V)(H:Hp)(Q:VK)(E:XK):Prop|mk (p n:Addr) (ss:LS) (_:vs=[.ref p,.ref n]) (_:Box H p) (_:NL p H n ss) (_:NOk ss) (_:∀(l:Addr) (ts:LQ) (tps:LP) (H':Hp),BB p H H'->H l=none->TL p H' l ts tps->TOk ss tps->Q (.ref l) H')
inductive spDrawn(vs:List V)(H:Hp)(Q:VK)(E:XK):Prop|mk (p:Addr) (m:Int) (_:vs=[.ref p,.int m]) (_:0<=m) (_:m<=14) (_:Box H p) (_:∀(t n l:Addr) (ss:LS) (ts:LQ) (tps:LP) (H':Hp),BB p H H'->H' t=some (.tup [.ref n,.ref l])->H n=none->NL p H' n ss->NOk ss->H l=none->TL p H' l ts tps->TOk ss tps->Q (.ref t) H')
def Shuf(tps ups:LP):Prop:=∃ c,ups.Perm c/\All2 (fun a b=>b=a\/b=(a.2,a.1)) tps c
inductive spShuf(vs:List V)(H:Hp)(Q:VK)(E:XK):Prop|mk (p l:Addr) (ts:LQ) (tps:LP) (_:vs=[.ref p,.ref l]) (_:Box H p) (_:TL p H l ts tps) (_:tps.length<=30) (_:∀(l':Addr) (us:LQ) (ups:LP) (H':Hp),BB p H H'->H l'=none->TL p H' l' us ups->Shuf tps ups->Q (.ref l') H')
theorem qdR{z:Addr}{Q:VK}(hl:H l=some (.lst xs))(hz:H z=some (.lst []))(q:Q (.bl (!xs.isEmpty)) H):qeZ K true (.ref l) (.ref z) H Q:=by
 cases xs with
 | nil=>show .inr (.inl ⟨l,z,true,1,rfl,rfl,by decide,EqT.lst (n:=0) (e:=fun _=>true) (SqL.of hl) (SqL.of hz) rfl fun j x y h=>by(simp at h),q⟩)
 | cons x r=>show .inr (.inl ⟨l,z,false,1,rfl,rfl,by decide,EqT.lstL (SqL.of hl) (SqL.of hz) (by simp),q⟩)
theorem ok_ties(F:Fun K "_law_ties" "_law_ties" qa4 f fd)(T:Txt K mg cc cw)(Ki:DefOk P w K mg base CX0 1 "_law_take" ["_law_box_here","_law_many"] spTake):FnOk P w K mg base CX0 2 f fd ["_law_box_here","_law_names_here"] spTies:=by
 show F.ok KR fun _ _ _ _ H vs Q E hr h=>?_
 .obtain⟨p,n,ss,rfl,hB,L,X,q⟩:=h;have few:=X.few;have M:=jY hr;show⟨_,(qc (qq (i:=2) KR.nd rfl (yQ rfl) (qR qd))
 (qc (qq (i:=3) KR.nd rfl (yQ rfl) (qx (qy (K:=K) rfl M) (qR (qa qi (qa qi (qa qi (qa qi qd))))) (qp Ki (hmR hr) qz (qa (pv 0) (qa qi qd))) (fun _ _=>rfl)))
 (qc (jq y0 rfl (jF rfl T.b_range (qa (qm (jj (K:=K) rfl) rfl T.b_len Yt (qa (pv 1) qd)) qd)) (qr (i:=4) KR.nd rfl (yQ rfl))
 (qe (jq y0 rfl (jF rfl T.b_range (qa (pv 4) qd)) (qr (i:=5) KR.nd rfl (yQ rfl))
 (qe (qN (PW.pt (qaU (qk (zV (K:=K) rfl M) (qp Ki (hmR hr) qz (qa (pv 0) (qa (pv 3) qd))) qi (qw _)) (zP (qk qdu (qm (jj (K:=K) rfl) rfl T.b_len Yt (qa (pv 2) qd)) qi (qw _))))) (qe (qW (qbI (K:=K) rfl yU Yo Yp jg (pv 2) (qa (zv (qa (qx (qy (K:=K) rfl M) (pv 1) (pv 5) (fun _ _=>rfl)) (qa (qx (qy (K:=K) rfl M) (pv 1) (pv 4) (fun _ _=>rfl)) qd))) qd)))) qt)))))
 (qe (qo (pv 2)))))),?_⟩
  apply⟨by decide,fun l hl=>?_⟩;have O:=(BB.refl hB).new (o:=.lst []) hl;have nl:=hB.apart hl;have A:TL p (upd H l (.lst [])) l [] []:=⟨qb,nl,All2.nil⟩;generalize upd H l (.lst [])=H1 at O A ⊢;apply⟨by show 4<=sizeLine;decide,fun l4 s=>?_⟩;generalize z:[V.int 2,V.int 2,V.int 3,V.int 5]=xs;have R:=O.new (o:=.lst xs) s;have n4:=O.apart s;have G:upd H1 l4 (.lst xs) l4=some (.lst xs):=qb;replace A:=A.same (qE (Sr H1) (o:=.lst xs) s);generalize upd H1 l4 (.lst xs)=H2 at R G A ⊢;apply⟨p,4,rfl,R.2,by decide,by decide,fun r H3 r0 r1 D=>?_⟩;replace G:=D.1 _ _ n4 G;replace A:=A.bb D;replace D:=R.trans D;have ae:xs.length=4:=by rw[<- z];rfl
  obtain⟨v,N,hv⟩:=qdG (xs:=xs) r0 (by lk)
  obtain⟨bs,rfl,ac,af⟩:∃ i:Int,v=.int i/\0<i/\i<=25:=by
   have hm:=ye hv;rw[<- z] at hm;simp only[yz,yW,YE] at hm;rcases hm with rfl | rfl | rfl | rfl<;>show⟨_,rfl,by decide,by decide⟩
  show .inl (qau G N ?_);clear hv N z G;ext;have W:H3 n=some (.lst (ss.map V.str)):=D.1 _ _ L.2 L.1;show jO W ?_;rw[ya];show⟨_,rfl,by lk,by lk,zt (fun i C H'=>BB p H H'/\∃(ts:LQ) (tps:LP) (x4 B:Option V),C=[some (.ref p),some (.ref n),some (.ref l),some (.int bs),x4,B]/\TL p H' l ts tps/\tps.length<=30/\tps.Nodup/\∀ ab∈tps,∃ j k,j<k/\ss[j]?=some ab.1/\ss[k]?=some ab.2/\k<i)
   ⟨D,[],[],none,none,rfl,A,by simp,by simp,by simp⟩ (fun i C H4 hi u=>?_) fun C H4 u=>?_⟩
  .obtain⟨S,ts,tps,x4,B,rfl,t4,b,nd,ok⟩:=u;have Y:i<ss.length:=by lk
   apply⟨_,rfl,by lk,by lk,zt (fun j C H'=>BB p H H'/\∃(ts:LQ) (tps:LP) (B:Option V),C=[some (.ref p),some (.ref n),some (.ref l),some (.int bs),some (.int (0+(i:Int))),B]/\TL p H' l ts tps/\tps.length<=30/\tps.Nodup/\∀ ab∈tps,∃ a k,a<k/\ss[a]?=some ab.1/\ss[k]?=some ab.2/\(k<i\/(k=i/\a<j)))
    ⟨S,ts,tps,_,rfl,t4,b,nd,fun ab h=>by obtain⟨a,k,h1,c,g,s⟩:=ok ab h;show⟨a,k,h1,c,g,.inl s⟩⟩ (fun j C H5 hj u=>?_) fun C H5 u=>?_⟩
   .obtain⟨J,ts,tps,B,rfl,d,b,nd,ok⟩:=u;have Z:j<ss.length:=by lk
    have aa:j<i:=by lk
    have keep:∀ ab∈tps,∃ a k,a<k/\ss[a]?=some ab.1/\ss[k]?=some ab.2/\(k<i\/(k=i/\a<j+1)):=fun ab h=>by
     obtain⟨a,k,h1,c,g,s⟩:=ok ab h;show⟨a,k,h1,c,g,by lk⟩
    apply⟨p,_,rfl,J.2,ac,by lk,fun r H6 r0 r1 m=>?_⟩;replace d:=d.bb m;replace m:=J.trans m;apply .inl (.inl (.inl ⟨rfl,rfl,?_⟩));apply qI (fun _=>?_) fun _=>?_
    .ext;show jO d.1 ?_;apply qI (fun U=>?_) fun _=>?_
     .have ad:ts.length<30:=by
       have:=yk U;rw[ya] at this;lk
      have I:H6 n=some (.lst (ss.map V.str)):=m.1 _ _ L.2 L.1
      have at_:∀(k:Nat),k<ss.length->∃ x,atI (ss.map V.str) (0+(k:Int))=some (.str x)/\ss[k]?=some x:=fun k hk=>by
       rw[XZ];show⟨ss[k],qF (by rw[yd,yb hk];rfl),yb hk⟩
      obtain⟨x,N,gx⟩:=at_ j Z;obtain⟨y,iy,gy⟩:=at_ i Y;apply⟨.inl ⟨rfl,_,SqL.of d.1⟩,?_⟩;apply .inl (qau I N ?_);apply .inl (qau I iy ?_);apply⟨by show 2<=sizeLine;decide,fun t ht=>?_⟩;have nt:=m.apart ht;have b7:=m.new (o:=.tup [.str x,.str y]) ht;have t7:=d.same (qE (Sr H6) (o:=.tup [.str x,.str y]) ht);show⟨l,_,_,rfl,rfl,t7.1,by rw[ya];show qh (by lk),?_⟩;show⟨b7.put hl nl,_,tps++[(x,y)],_,rfl,t7.more (ab:=(x,y)) ⟨nt,qb⟩,by rw[yu,<- d.2.2.len];show ts.length+1<=30;lk,?_,fun ab h=>?_⟩
      .show y9.mpr ⟨nd,by simp,fun ab h cd c e=>?_⟩;rw[yD.mp c] at e;subst e;obtain⟨a,k,h1,c,g,s⟩:=ok _ h;have e1:a=j:=qv X.nd c gx;have e2:k=i:=qv X.nd g gy;lk
      .rcases yw.mp h with h | h
       .show keep ab h
       .rw [yD.mp h];show⟨j,i,aa,gx,gy,.inr ⟨rfl,by lk⟩⟩
     .show⟨m,ts,tps,_,rfl,d,b,nd,keep⟩
    .ext;show yq ?_;show⟨m,ts,tps,_,rfl,d,b,nd,keep⟩
   .obtain⟨J,ts,tps,B,rfl,d,b,nd,ok⟩:=u;show⟨J,ts,tps,_,_,rfl,d,b,nd,fun ab h=>by obtain⟨a,k,h1,c,g,s⟩:=ok ab h;show⟨a,k,h1,c,g,by lk⟩⟩
  .obtain⟨S,ts,tps,x4,B,rfl,t4,b,nd,ok⟩:=u;apply q l ts tps _ S hl t4 ⟨b,fun ab h=>by obtain⟨a,k,h1,c,g,_⟩:=ok ab h;show⟨a,k,h1,c,g⟩,nd⟩
theorem ok_drawn(F:Fun K "_law_drawn" "_law_drawn" qaH f fd)(u:DefOk P w K mg base CX0 1 "_law_take" ["_law_box_here","_law_many"] spTake)(I:DefOk P w K mg base CX0 2 "_law_names" ["_law_box_here","_law_many"] spNames)(J:DefOk P w K mg base CX0 2 "_law_ties" ["_law_box_here","_law_names_here"] spTies) :
  FnOk P w K mg base CX0 3 f fd ["_law_box_here","_law_most"] spDrawn:=by
 show F.ok K1 fun _ _ _ _ H vs Q E e h=>?_
 .obtain⟨p,mm,rfl,U,W,M,q⟩:=h;have O:=jY e;show⟨_,(qc (qq (i:=2) K1.nd rfl (yQ rfl) (qp u (hmR e) qz (qa (pv 0) (qa qi qd))))
 (qc (qN (qk (zV (K:=K) rfl O) (qp u (hmR e) qz (qa (pv 0) (qa qi qd))) qi (qw _)) (qe (qq (i:=2) K1.nd rfl (yQ rfl) (qp u (hmR e) qz (qa (pv 0) (qa (qG (jU (K:=K) rfl) (pv 1) qi) qd))))) qt)
 (qc (qq (i:=3) K1.nd rfl (yQ rfl) (qp I (hmR e) qz (qa (pv 0) (qa (pv 2) qd))))
 (qe (qo (zv (qa (pv 3) (qa (qp J (hmR e) qz (qa (pv 0) (qa (pv 3) qd))) qd)))))))),?_⟩
  apply⟨p,8,rfl,M,by decide,by decide,fun m H1 Z m1 z=>?_⟩;apply⟨p,8,rfl,z.2,by decide,by decide,fun r H2 r0 r1 c=>?_⟩;replace c:=z.trans c;apply .inl (.inl (.inl ⟨rfl,rfl,?_⟩));ext
  have j:∀(n:Addr) (ss:LS) (b:Hp),BB p H b->H n=none->NL p b n ss->NOk ss->spTies [.ref p,.ref n] b (fun v s=>NewT [.ref n,v] s Q) E0:=fun n ss b d a B C =>
   ⟨p,n,ss,rfl,d.2,B,C,fun l ts tps s A x tl N=>⟨(by decide:2<=sizeLine),fun t D=>by
    have L:=d.trans A;have G:=qE (Sr s) (o:=.tup [.ref n,.ref l]) D;have X:=tl.2.1;show q t n l ss ts tps _ (L.new D) qb a ((B.bb A).same G) C (d.free x) (tl.same G) N⟩⟩
  show qI (fun _=>?_) fun _=>?_
  .ext;show⟨p,_,rfl,c.2,by lk,by lk,fun R Y S T g=>?_⟩;replace g:=c.trans g;apply⟨p,R,rfl,g.2,by lk,by lk,fun n ss b d a y few _=>?_⟩;apply j n ss b (g.trans d) (g.free a) y few
  .ext;show⟨p,m,rfl,c.2,by lk,by lk,fun n ss b d a y few _=>?_⟩;apply j n ss b (c.trans d) (c.free a) y few
theorem ok_shuf(F:Fun K "_law_shuffled" "_law_shuffled" jV f fd)(T:Txt K mg cc cw)(Ki:DefOk P w K mg base CX0 1 "_law_take" ["_law_box_here","_law_many"] spTake):FnOk P w K mg base CX0 2 f fd ["_law_box_here","_law_ties_here"] spShuf:=by
 show F.ok KU fun _ _ _ _ H vs Q E hr h=>?_
 .obtain⟨p,l,ts,tps,rfl,hB,O,few,q⟩:=h;have hu:=jY hr;have au:ts.length<=30:=by rw[O.2.2.len];show few
  show⟨_,(qc (zS (sc:=qg jV) (XN:=["_law_box_here","_law_ties_here","_law_left","_law_found"]) ["_law_tie","_law_box_here"] 1 [0] rfl rfl rfl (by room) rfl (by room) (i:=2) KU.nd rfl rfl
  (qM (K:=K) rfl (pv 1)) (fun _ _ _ _=>(qr (i:=0) (show(["_law_tie","_law_box_here"]:LS).Nodup by room) rfl (yQ rfl))) qP
  (fun _ _ _ _=>jR)
  (fun _ _ _ _=>(qx (qy (K:=K) rfl hu) (qR (qa (pv 0) (qa (qet (K:=K) rfl (pv 0) (jp (qba zQ qi))) qd))) (qp Ki (hmR hr) qz (qa (pv 1) (qa qi qd))) (fun _ _=>rfl))))
 (qc (qq (i:=3) KU.nd rfl (yQ rfl) (qR qd))
 (qc (qay y0 (qk (zw (K:=K) rfl hu) (pv 2) (qR qd) (qw _))
 (qe (qW (qbI (K:=K) rfl yU Yo Yp jg (pv 3) (qa (qbI (K:=K) rfl yU X3 X4 qcc (pv 2) (qa (qp Ki (hmR hr) qz (qa (pv 0) (qa (qm (jj (K:=K) rfl) rfl T.b_len Yt (qa (pv 2) qd)) qd))) qd)) qd)))))
 (qe (qo (pv 3)))))),?_⟩
  apply .inl ⟨⟨_,SqL.of O.1⟩,qD (K:=K) (a:=l) (xs:=ts.map V.ref) (fun i ys H'=>BB p H H'/\∃(us:LQ) (ups:LP),ys=us.map V.ref/\us.length=i/\All2 (PrT p H') us ups/\All2 (fun a b=>b=a\/b=(a.2,a.1)) (tps.take i) ups) ⟨BB.refl hB,[],[],rfl,rfl,All2.nil,by simpa using All2.nil⟩
   (fun i ys H' _ h=>SqL.of (h.1.1 _ _ O.2.1 O.1)) (fun i x ys H1 hx hp=>?_) fun ys H1 hp=>?_⟩
  .obtain⟨M,us,ups,rfl,C,s,hA⟩:=hp;rw[yd] at hx
   cases ht:ts[i]? with
   | none=>rw[ht] at hx;cases hx
   | some t =>
    rw[ht] at hx;cases hx;have an:i<ts.length:=(yc.mp ht).1;have ac:i<tps.length:=by rw[<- O.2.2.len];show an
    have gi:tps[i]?=some tps[i]:=yb ac;generalize tps[i]=ab at gi;obtain⟨nt,n⟩:=(O.bb M).2.2.at_ i t ab ht gi;have ap:tps.take (i+1)=tps.take i++[ab]:=by rw[yG,gi];rfl
    obtain⟨a,b⟩:=ab;dsimp only at n;apply zr ?_;apply vU ?_;apply⟨rfl,t,_,_,rfl,SqT.of n,fun g B=>?_⟩;have I:=M.new (o:=.tup [.str b,.str a]) B;have n2:=M.apart B;have s2:=qE (Sr H1) (o:=.tup [.str b,.str a]) B;have N:upd H1 g (.tup [.str b,.str a]) g=some (.tup [.str b,.str a]):=qb;replace n:=s2 _ _ n;replace s:=s.mono (S:=PrT p (upd H1 g (.tup [.str b,.str a]))) fun t ab z=>⟨z.1,s2 _ _ z.2⟩;generalize upd H1 g (.tup [.str b,.str a])=H2 at I N n s ⊢;clear s2;apply⟨by show 2<=sizeLine;decide,fun L h3=>?_⟩;have U:=I.new (o:=.lst [.ref t,.ref g]) h3;have n3:=I.apart h3;have s3:=qE (Sr H2) (o:=.lst [.ref t,.ref g]) h3;have Z:upd H2 L (.lst [.ref t,.ref g]) L=some (.lst [.ref t,.ref g]):=qb;replace n:=s3 _ _ n;replace N:=s3 _ _ N;replace s:=s.mono (S:=PrT p (upd H2 L (.lst [.ref t,.ref g]))) fun t ab z=>⟨z.1,s3 _ _ z.2⟩;generalize upd H2 L (.lst [.ref t,.ref g])=H3 at U N Z n s ⊢;clear s3;apply⟨p,2,rfl,U.2,by decide,by decide,fun r G r0 r1 A=>?_⟩;replace n:=A.1 _ _ nt n;replace N:=A.1 _ _ n2 N;replace Z:=A.1 _ _ n3 Z;replace s:=s.mono (S:=PrT p G) fun t ab z=>⟨z.1,A.1 _ _ z.1 z.2⟩;replace A:=U.trans A
    have aa:∀ u Y,PrT p G u Y->(Y=(a,b)\/Y=(b,a))->(us.map V.ref).length<sizeLine/\(BB p H G/\∃(vs:LQ) (c:LP),us.map V.ref++[V.ref u]=vs.map V.ref/\vs.length=i+1/\All2 (PrT p G) vs c/\All2 (fun a b=>b=a\/b=(a.2,a.1)) (tps.take (i+1)) c):=fun u Y hu am =>
     ⟨by rw[ya,C];show qh (by lk),A,us++[u],ups++[Y],by rw[yy];rfl,by rw[yu,C];rfl,s.snoc hu,by rw[ap];show hA.snoc am⟩
    have ao:r=0\/r=1:=by lk
    rcases ao with rfl | rfl
    .show .inl (qau (v:=.ref t) Z (qF (j:=0) rfl) (aa t (a,b) ⟨nt,n⟩ (.inl rfl)))
    .show .inl (qau (v:=.ref g) Z (qF (j:=1) rfl) (aa g (b,a) ⟨n2,N⟩ (.inr rfl)))
  .obtain⟨M,us,y,rfl,C,s,hA⟩:=hp;rw[ya] at C hA;have al:tps.take ts.length=tps:=by rw[O.2.2.len,yP]
   rw[al] at hA;show⟨by rw[ya];show yT (qh (by lk)),fun l1 h1=>?_⟩;have I:=M.new (o:=.lst (us.map V.ref)) h1;have n1:=M.apart h1;have z1:=M.free h1;have ah:=qE (Sr H1) (o:=.lst (us.map V.ref)) h1;have t1:TL p (upd H1 l1 (.lst (us.map V.ref))) l1 us y:=⟨qb,n1,s.mono fun t ab z=>⟨z.1,ah _ _ z.2⟩⟩;generalize upd H1 l1 (.lst (us.map V.ref))=H2 at I t1 ⊢;clear ah;apply⟨by decide,fun l2 B=>?_⟩;have U:=I.new (o:=.lst []) B;have n2:=I.apart B;have z2:=I.free B;have af:l1≠l2:=qu t1.1 B;have t3:=t1.same (qE (Sr H2) (o:=.lst []) B);have g:TL p (upd H2 l2 (.lst [])) l2 [] []:=⟨qb,n2,All2.nil⟩;generalize upd H2 l2 (.lst [])=H3 at U g t3 ⊢;apply⟨fun m σ H'=>∃(us vs:LQ) (ups c:LP),m=us.length/\σ=[some (.ref p),some (.ref l),some (.ref l1),some (.ref l2)]/\BB p H H'/\TL p H' l1 us ups/\TL p H' l2 vs c/\us.length+vs.length<=30/\(c++ups).Perm y,⟨_,us,[],y,[],rfl,rfl,U,t3,g,by simp;lk,by simp⟩,fun m σ G hW=>?_⟩;obtain⟨us,vs,ups,c,rfl,rfl,A,u4,v4,ae,d⟩:=hW;apply⟨by decide,fun z hz=>?_⟩;have sz:=qE (Sr G) (o:=.lst []) hz;have b5:=A.new (o:=.lst []) hz;have R:=u4.same sz;have v5:=v4.same sz;have e5:upd G z (.lst []) z=some (.lst []):=qb;generalize upd G z (.lst [])=H5 at b5 R v5 e5 ⊢;show qdR R.1 e5 ?_;ext
   cases us with
   | nil =>
    show yq ?_;ext;have eu:ups=[]:=xv (by rw[<- R.2.2.len];rfl);rw[eu,Yb] at d;show q l2 vs c H5 b5 z2 v5 ⟨y,d,hA⟩
   | cons D ur =>
    show qI (fun _=>?_) (fun h=>absurd rfl h);show⟨fun ak H'=>∃(us vs:LQ) (ups c:LP),us.length=ur.length/\ak=[some (.ref p),some (.ref l),some (.ref l1),some (.ref l2)]/\BB p H H'/\TL p H' l1 us ups/\TL p H' l2 vs c/\us.length+vs.length<=30/\(c++ups).Perm y,fun ak H' ⟨aq,ar,ai,aj,e,qbR⟩=>⟨_,by rw[yA,<- e];show xG _,aq,ar,ai,aj,rfl,qbR⟩,?_⟩;apply⟨.inl ⟨rfl,_,SqL.of v5.1⟩,?_⟩;apply⟨.inl ⟨rfl,_,SqL.of R.1⟩,?_⟩;apply jO R.1 ?_;ext;rw[ya];rw[yA] at ae;show⟨p,_,rfl,b5.2,by(rw[yA];lk),by(rw[yA];lk),fun r H6 r0 r1 X=>?_⟩;have u6:=R.bb X;have v6:=v5.bb X;replace X:=b5.trans X;obtain⟨k,rfl⟩:=Xd r0;have W:k<(D::ur).length:=by rw[yA];rw[yA] at r1;lk
    have ad:k<ups.length:=by rw[<- R.2.2.len];show W
    have gk:((D::ur).map V.ref)[k]?=some (.ref ((D::ur)[k])):=by rw[yd,yb W];rfl
    have as:(k:Int)<2 ^ 62:=by rw[yA] at W;lk
    show⟨l1,_,_,k,_,rfl,rfl,u6.1,by lk,by lk,(qcx (qcI (by rw[ya];show W))).1,gk,?_⟩;have pk:=u6.2.2.at_ k ((D::ur)[k]) ups[k] (yb W) (yb ad);have u7:=u6.less k;have v7:=v6.other (ys:=((D::ur).map V.ref).eraseIdx k) af.symm u6.1;have b7:=X.put (o:=.lst (((D::ur).map V.ref).eraseIdx k)) z1 n1;have ag:=pk.put (ys:=((D::ur).map V.ref).eraseIdx k) u6.1;generalize upd H6 l1 (.lst (((D::ur).map V.ref).eraseIdx k))=H7 at u7 v7 b7 ag ⊢;have J:((D::ur).eraseIdx k).length=ur.length:=by rw[Xs W,yA];lk
    show⟨l2,_,_,rfl,rfl,v7.1,by rw[ya];show qh (by lk),?_⟩;show⟨_,_,_,_,J,rfl,b7.put z2 n2,u7.other af v7.1,v7.more ag,?_,?_⟩
    .rw [J,yu,xk];lk
    .rw [y8];show(List.Perm.append_left c (qbB ups k ad)).trans d
theorem all_true(n:Nat):(List.range n).all (fun _=>true)=true:=by simp
theorem qdc{a b:Addr}{c t':Str}(h:H b=some (.tup [.str c,.str t']))(g:H a=some (.tup [.str s,.str t])):EqD K H 1 (.ref b) (.ref a) (decide ((c,t')=(s,t))):=by
 by_cases e:b=a
 .subst e;rw[h] at g;cases g;rw[yM rfl];show .self
 .have z:=EqT.tup (K:=K) (H:=H) (n:=0) (e:=fun j=>if j=0 then eqV (.str c) (.str s) else eqV (.str t') (.str t)) (SqT.of h) (SqT.of g) fun j x y d f=>by
   match j,d,f with
   | 0,d,f=>cases d;cases f;show .flat rfl rfl
   | 1,d,f=>cases d;cases f;show .flat rfl rfl
  have i:((List.range (min [V.str c,V.str t'].length [V.str s,V.str t].length)).all (fun j=>if j=0 then eqV (.str c) (.str s) else eqV (.str t') (.str t))&&[V.str c,V.str t'].length==[V.str s,V.str t].length)=decide ((c,t')=(s,t)):=by
   show((c==s)&&((t'==t)&&true)&&true)=_;rw[Y2];simp
  rw[i] at z;show .deep z e
theorem TL.pl(h:TL p H l ts tps):PL H l ts tps:=⟨h.1,h.2.2.mono fun _ _ z=>z.2⟩
noncomputable def qdo(H:Hp)(z:V):Option (Str×Str):=match z with
 | .ref t=>(match H t with
  | some (.tup [.str a,.str b])=>some (a,b)
  | _=>none)
 | _=>none
theorem qbM{t:Addr}(h:H t=some (.tup [.str a,.str b])):qdo H (.ref t)=some (a,b):=by
 unfold qdo;dsimp only;rw[h]
theorem any_in(h:All2 (fun t ab=>H t=some (.tup [.str ab.1,.str ab.2])) ts tps)(st:Str×Str):((ts.map V.ref).any fun z=>decide (qdo H z=some st))=decide (st∈tps):=by
 rw[Y2,Xb,Yj];constructor
 .rintro ⟨z,hz,e⟩;obtain⟨t,f,rfl⟩:=Yq.mp hz;obtain⟨ab,b,r⟩:=h.mem f;have e:=yk e;rw[qbM r] at e;cases e;show b
 .intro d;obtain⟨k,c,e⟩:=YW d;have a:k<ts.length:=by rw[h.len];show c
  have r:=h.at_ k ts[k] tps[k] (yb a) (yb c);show⟨.ref ts[k],Yq.mpr ⟨_,Xw a,rfl⟩,yM ?_⟩;rw[qbM r,e]
theorem qdS{a:Addr}{Q:VK}(h:PL H l ts tps)(d:H a=some (.tup [.str s,.str t]))(q:Q (.bl (decide ((s,t)∈tps))) H):qef K false (.ref a) (.ref l) H Q:=by
 show .inr (.inr ⟨l,ts.map V.ref,fun z=>decide (qdo H z=some (s,t)),1,rfl,SqL.of h.1,by decide,fun z hz=>?_,?_⟩)
 .obtain⟨b,f,rfl⟩:=Yq.mp hz;obtain⟨ab,_,r⟩:=h.2.mem f;have e:=qdc (K:=K) r d
  have c:decide (qdo H (.ref b)=some (s,t))=decide ((ab.1,ab.2)=(s,t)):=by
   rw[qbM r];apply YF.mpr;rw[Option.some.injEq]
  show EqD K H 1 (.ref b) (.ref a) (decide (qdo H (.ref b)=some (s,t)));rw[c];show e
 .rw [any_in h.2];show q
theorem jB{y:V}(a:(ss.map V.str)[i]?=some y):∃ s,ss[i]?=some s/\y=.str s:=by
 rw[yd] at a
 cases h:ss[i]? with
 | none=>rw[h] at a;cases a
 | some s=>rw[h] at a;cases a;show⟨s,rfl,rfl⟩
def Adj(ss:LS)(ns:LN)(tps:LP):Prop:=∀ a b s t,ss[a]?=some s->ss[b]?=some t->((ns.getD a 0).testBit b=true↔((s,t)∈tps\/(t,s)∈tps))
theorem qdT{a b:Addr}(c:H a=some (.lst xs))(d:H b=some (.lst ys))(hl:xs.length=ys.length)(h:∀(j:Nat) x y,xs[j]?=some x->ys[j]?=some y->EqD K H n x y true):EqT K H (n+1) a b true:=by
 have z:=EqT.lst (K:=K) (H:=H) (n:=n) (e:=fun _=>true) (SqL.of c) (SqL.of d) hl h;rw[all_true] at z;show z
theorem qcn{r:Addr}(h:PL H l ts tps)(g:PL H r us tps):EqT K H 2 l r true:=by
 show qdT h.1 g.1 (by rw[ya,ya,h.2.len,g.2.len]) fun j x y c d=>?_;rw[yd] at c d
 cases a:ts[j]? with
 | none=>rw[a] at c;cases c
 | some t =>
  cases b:us[j]? with
  | none=>rw[b] at d;cases d
  | some u =>
   rw[a] at c;rw[b] at d;cases c;cases d;have f:j<tps.length:=by rw[<- h.2.len];show(yc.mp a).1
   have e:=qdc (K:=K) (h.2.at_ j t tps[j] a (yb f)) (g.2.at_ j u tps[j] b (yb f));rw[yM rfl] at e;show e
theorem K4:FnScope ["web","thing","paired","tie"] ["web","thing"] (qg zI):=fS
theorem uI:FnScope ["self","thing"] ["self","thing"] (qg j5):=fS
noncomputable def qbN(a:LS):List (Key×V):=a.map fun s=>(.inr s,.bl true)
theorem qaa(y:Str):∀ a:LS,(ze (qbN a) (.inr y:Key)).isSome=decide (y∈a)
 | []=>rfl
 | s::r=>by
  by_cases e:s=y
  .subst e;show(ze (((.inr s:Key),V.bl true)::qbN r) _).isSome=_;rw[yM (by simp)];simp[ze]
  .show(ze (((.inr s:Key),V.bl true)::qbN r) _).isSome=_;rw[qX (p:=((.inr s:Key),V.bl true)) (fun z=>e (xR z)),qaa y r];apply YF.mpr;simp[Ye e]
theorem qbO{a:LS}(h:y∉a):zA (qbN a) (.inr y:Key) (.bl true)=qbN (a++[y]):=by
 have:ze (qbN a) (.inr y:Key)=none:=by
  have:=qaa y a;rw[yl h] at this;show Xx.mp (by rw[<- Option.not_isSome,this];rfl)
 rw[qaY _ this];unfold qbN;rw[yy];rfl
noncomputable def qj(qs:LP):LS:=qs.flatMap fun q=>[q.1,q.2]
noncomputable def prK(qs:LP):List (Key×V):=qs.flatMap fun q=>[(.inr q.1,.str q.2),(.inr q.2,.str q.1)]
noncomputable def pt:LP->Str->Option Str
 | [],_=>none
 | q::r,s=>if q.1=s then some q.2 else if q.2=s then some q.1 else pt r s
theorem jP(s:Str):∀ qs,ze (prK qs) (.inr s:Key)=(pt qs s).map V.str
 | []=>rfl
 | q::r=>by
  show ze (((.inr q.1:Key),V.str q.2)::((.inr q.2:Key),V.str q.1)::prK r) _=(pt (q::r) s).map V.str;unfold pt;by_cases h1:q.1=s
  .rw [jh (p:=((.inr q.1:Key),V.str q.2)) (congrArg Sum.inr h1),yO h1];rfl
  .rw [qX (p:=((.inr q.1:Key),V.str q.2)) (fun z=>h1 (xR z)),yE h1];by_cases a:q.2=s
   .rw [jh (p:=((.inr q.2:Key),V.str q.1)) (congrArg Sum.inr a),yO a];rfl
   .rw [qX (p:=((.inr q.2:Key),V.str q.1)) (fun z=>a (xR z)),yE a,jP s r]
theorem pt_none:∀{qs:LP},pt qs s=none↔s∉qj qs
 | []=>by simp[pt,qj]
 | q::r=>by
  have e:qj (q::r)=q.1::q.2::qj r:=rfl;rw[e];unfold pt;by_cases h1:q.1=s
  .rw [yO h1];simp[h1]
  .rw [yE h1];by_cases a:q.2=s
   .rw [yO a];simp[a]
   .rw [yE a,pt_none];simp only[yz,not_or];show⟨fun z=>⟨Ye h1,Ye a,z⟩,fun z=>z.2.2⟩
structure PGo(ss:LS)(tps qs:LP):Prop where
 inn:∀ q∈qs,(q∈tps\/(q.2,q.1)∈tps)/\q.1∈ss/\q.2∈ss/\q.1≠q.2
 nd:(qj qs).Nodup
 few:qs.length<=30
theorem jC(qs:LP):(qj qs).length=2*qs.length:=by
 induction qs with
 | nil=>rfl
 | cons q r ih=>show(q.1::q.2::qj r).length=_;simp only[yA];lk
theorem zn(qs:LP)(q:Str×Str):qj (qs++[q])=qj qs++[q.1,q.2]:=by
 unfold qj;rw[xE];rfl
theorem PGo.new(g:PGo ss tps qs)(h:qs[i]?=some ab):qs.take (i+1)=qs.take i++[ab]/\(qj (qs.take i++[ab])).Nodup/\ab.1∉qj (qs.take i)/\ab.2∉qj (qs.take i):=by
 have b:qs.take (i+1)=qs.take i++[ab]:=by rw[yG,h];rfl
 have a:(qj (qs.take i++[ab])).Nodup:=by
  rw[<- b];have:qj qs=qj (qs.take (i+1))++qj (qs.drop (i+1)):=by unfold qj;rw[<- xE,List.take_append_drop]
  have e:=g.nd;rw[this] at e;show(y9.mp e).1
 have c:=a;rw[zn] at c;have d:=(y9.mp c).2.2;show⟨b,a,fun z=>d _ z ab.1 (by simp) rfl,fun z=>d _ z ab.2 (by simp) rfl⟩
inductive spHt(cw:Addr)(vs:List V)(H:Hp)(Q:VK)(E:XK):Prop|mk (x t:Addr) (ss:LS) (ns:LN) (tps:LP) (ab:Str×Str) (_:vs=[.ref x,.ref t]) (_:WebAt cw H x ss ns) (_:Adj ss ns tps) (_:H t=some (.tup [.str ab.1,.str ab.2])) (_:(ab∈tps\/(ab.2,ab.1)∈tps)) (_:ab.1∈ss) (_:ab.2∈ss) (_:ab.1≠ab.2) (_:∀ H',L2.Same H H'->Q (.bl true) H')
inductive spAp(cw:Addr)(vs:List V)(H:Hp)(Q:VK)(E:XK):Prop|mk (x l:Addr) (ss:LS) (ns:LN) (us:LQ) (tps qs:LP) (_:vs=[.ref x,.ref l]) (_:WebAt cw H x ss ns) (_:Adj ss ns tps) (_:PL H l us qs) (_:PGo ss tps qs) (_:∀ H',L2.Same H H'->Q (.bl true) H')
theorem ok_ht(F:Fun K "has_tie" "Web.has_tie" j5 f fd)(T:Txt K mg cc cw)(y:DefOk P w K mg base CX0 3 "are_two_places" ["numbers","thing"] spTwo)(z:MethOk P w K mg base CX0 6 cw "tied" ["self","one","other"] (spTied cw)):FnOk P w K mg base CX0 7 f fd ["self","thing"] (spHt cw):=by
 show F.ok uI fun _ _ _ _ H vs Q E g h=>?_
 .obtain⟨x,t,ss,ns,tps,ab,rfl,p,A,m,c,m1,m2,e,q⟩:=h;have s:=jY g;obtain⟨u,l,ol,G,r,d,C,B,hw⟩:=id p;show⟨_,(qe (qo (qbT (qp y (hmR g) qz (qa (qC (K:=K) rfl (pv 0) rfl) (qa (pv 1) qd))) (qbt (qK z (hmR g) (pv 0) (qa (qx (qy (K:=K) rfl s) (pv 1) qi (fun _ _=>rfl)) (qa (qx (qy (K:=K) rfl s) (pv 1) qi (fun _ _=>rfl)) qd))))))),?_⟩;apply .inl ⟨x,cw,u,_,.ref l,rfl,r,T.wcl,T.wn,j9,?_⟩;apply⟨l,t,ss,ab.1,ab.2,rfl,d,m,hw.nm _ m1,hw.nm _ m2,m1,m2,e,fun H1 b=>?_⟩;show⟨true,rfl,zr ?_⟩;have a:=b _ _ m;apply⟨x,u,_,rfl,b _ _ r,zY (by room),?_⟩;apply .inl (qaO a (v:=.str ab.1) (qF (j:=0) rfl) ?_);apply .inl (qaO a (v:=.str ab.2) (qF (j:=1) rfl) ?_);ext;obtain⟨j,o⟩:=yf m1;obtain⟨i,n⟩:=yf m2;show⟨x,ss,ns,ab.1,ab.2,j,i,rfl,p.same b,o,n,fun H2 D=>?_⟩;rw[(A j i ab.1 ab.2 o n).mpr c];show q H2 (b.trans D)
theorem ok_ap(F:Fun K "are_pairs" "are_pairs" zI f fd)(T:Txt K mg cc cw)(KW:MethOk P w K mg base CX0 7 cw "has_tie" ["self","thing"] (spHt cw)):FnOk P w K mg base CX0 8 f fd ["web","thing"] (spAp cw):=by
 show F.ok K4 fun _ _ _ _ H vs Q E X h=>?_
 .obtain⟨x,l,ss,ns,us,tps,qs,rfl,W,hA,⟨hl,r⟩,g,q⟩:=h;have e:=jY X;obtain⟨wx,dd,ol,nn,hb,_⟩:=id W;have few:=g.few;have N:=r.len;show⟨_,(qc (qN (qS (qL (qm (zL (K:=K) rfl) rfl T.b_isinstance Yx (qa (pv 1) (qa (jm (v:=.ty "list") rfl T.b_list xp rfl) qd))))) (qe (qo jz)) qt)
 (qc (qq (i:=2) K4.nd rfl (yQ rfl) zB)
 (qc (jq y0 rfl (qM (K:=K) rfl (pv 1)) (qr (i:=3) K4.nd rfl (yQ rfl))
 (qc (qN (PW.pt (zq (qS (qL (qK KW (hmR X) (pv 0) (qa (pv 3) qd)))) (zq (qk (zT (K:=K) rfl e) (qx (qy (K:=K) rfl e) (pv 3) qi (fun _ _=>rfl)) (pv 2) (by with_unfolding_all rfl)) (jM (qk (zT (K:=K) rfl e) (qx (qy (K:=K) rfl e) (pv 3) qi (fun _ _=>rfl)) (pv 2) (by with_unfolding_all rfl)))))) (qe (qo jz)) qt)
 (qc (j4 jz (zg (pv 2) (qx (qy (K:=K) rfl e) (pv 3) qi (fun _ _=>rfl)) (zi e)))
 (qe (j4 jz (zg (pv 2) (qx (qy (K:=K) rfl e) (pv 3) qi (fun _ _=>rfl)) (zi e)))))))
 (qe (qo jz))))),?_⟩
  apply qaW (.inl (.lst hl)) rfl (j0 K "list" (by simp) "list" (by simp)) ?_;apply yq ?_;ext;intro d C;have O:=qE (Sr H) (o:=.dK []) C;have U:upd H d (.dK []) d=some (.dK (qbN [])):=qb;generalize upd H d (.dK [])=H1 at O U;apply .inl ⟨⟨_,.of (O _ _ hl)⟩,jc (xs:=us.map V.ref) (fun i G J=>L2.Same H J/\∃ R,G=[some (.ref x),some (.ref l),some (.ref d),R]/\J d=some (.dK (qbN (qj (qs.take i))))) ⟨O,_,rfl,U⟩ (fun i G J _ u=>.of (u.1 _ _ hl)) (fun i y G J Y u=>?_) fun G J u=>?_⟩
  .obtain⟨n,R,rfl,c⟩:=u;rw[yd] at Y;obtain⟨b,s,rfl⟩:=yn.mp Y;have hi:i<us.length:=(yc.mp s).1;obtain⟨ab,m⟩:∃ ab,qs[i]?=some ab:=⟨_,yb (by rw[<- N];show hi)⟩;have B:=r.at_ i b ab s m;obtain⟨ht,m1,m2,t⟩:=g.inn ab (ye m);obtain⟨M,aa,Z,n2⟩:=g.new m;have ac:(qj (qs.take i)).length<=60:=by rw[jC,yH];lk
   have L:b≠d:=fun z=>by rw[z,C] at B;cases B
   apply⟨x,wx,_,rfl,n _ _ hb,zY (by room),?_⟩;apply⟨x,b,ss,ns,tps,ab,rfl,W.same n,hA,n _ _ B,ht,m1,m2,t,fun I D=>?_⟩;have A:=n.trans D;have a:=A _ _ B;apply yq ?_;apply .inl (qaO a (v:=.str ab.1) (qF (j:=0) rfl) ?_);apply .inr (.inl ⟨d,_,rfl,DGet.k (k:=Sum.inr ab.1) (D _ _ c),?_⟩);rw[yE (by decide),qaa,yl Z];apply yq ?_;apply .inl (qaO a (v:=.str ab.2) (qF (j:=1) rfl) ?_);apply .inr (.inl ⟨d,_,rfl,DGet.k (k:=Sum.inr ab.2) (D _ _ c),?_⟩);rw[yE (by decide),qaa,yl n2];apply yq ?_;apply .inl (qaO a (v:=.str ab.1) (qF (j:=0) rfl) ?_);apply .inr ⟨d,_,rfl,DPut.k (k:=Sum.inr ab.1) (D _ _ c) (by unfold qbN;rw[ya,YA];lk),?_⟩;rw[qbO Z];have s3:=qax A (o:=.dK (qbN (qj (qs.take i)++[ab.1]))) C;have S:upd I d (.dK (qbN (qj (qs.take i)++[ab.1]))) d=some (.dK (qbN (qj (qs.take i)++[ab.1]))):=qb;have p:upd I d (.dK (qbN (qj (qs.take i)++[ab.1]))) b=some (.tup [.str ab.1,.str ab.2]):=by rw[qf L];show a
   generalize upd I d (.dK (qbN (qj (qs.take i)++[ab.1])))=J3 at s3 S p;apply .inl (qaO p (v:=.str ab.2) (qF (j:=1) rfl) ?_);apply .inr ⟨d,_,rfl,DPut.k (k:=Sum.inr ab.2) S (by unfold qbN;rw[ya,yu,YA];simp only[yA,xB];lk),?_⟩;rw[qbO (fun z=>by rcases yw.mp z with z | z;show n2 z;show t (yD.mp z).symm)];show⟨qax s3 C,_,rfl,by rw[qb,M,zn,y8];rfl⟩
  .obtain⟨n,R,rfl,c⟩:=u;apply q J n
theorem KM:FnScope ["web","pairs","partners","pair"] ["web","pairs"] (qg j6):=fS
theorem prK_len(qs:LP):(prK qs).length=2*qs.length:=by
 induction qs with
 | nil=>rfl
 | cons q r ih=>show(_::_::prK r).length=_;simp only[yA];rw[ih];lk
theorem prK_snoc(qs:LP)(q:Str×Str):prK (qs++[q])=prK qs++[(.inr q.1,.str q.2),(.inr q.2,.str q.1)]:=by
 unfold prK;rw[xE];rfl
theorem prK_put(h:(qj (qs++[q])).Nodup):zA (zA (prK qs) (.inr q.1:Key) (.str q.2)) (.inr q.2:Key) (.str q.1)=prK (qs++[q]):=by
 rw[zn] at h;obtain⟨h1,b,c⟩:=y9.mp h;have e:q.1∉qj qs:=fun z=>c _ z _ (by simp) rfl;have f:q.2∉qj qs:=fun z=>c _ z q.2 (by simp) rfl;have g:q.1≠q.2:=by simp at b;show b
 have i:ze (prK qs) (.inr q.1:Key)=none:=by rw[jP,pt_none.mpr e];rfl
 rw[qaY _ i]
 have a:ze (prK qs++[((.inr q.1:Key),V.str q.2)]) (.inr q.2:Key)=none:=by
  have a:ze (prK qs) (.inr q.2:Key)=none:=by rw[jP,pt_none.mpr f];rfl
  unfold ze at a ⊢;rw[List.find?_append];have:(prK qs).find? (fun d=>decide (d.1=(.inr q.2:Key)))=none:=by simpa using a
  rw[this];simp[g]
 rw[qaY _ a,prK_snoc];simp
inductive spPn(cw:Addr)(vs:List V)(H:Hp)(Q:VK)(E:XK):Prop|mk (x l:Addr) (ss:LS) (ns:LN) (us:LQ) (tps qs:LP) (_:vs=[.ref x,.ref l]) (_:WebAt cw H x ss ns) (_:Adj ss ns tps) (_:PL H l us qs) (_:PGo ss tps qs) (_:∀(d:Addr) (H':Hp),L2.Same H H'->H d=none->H' d=some (.dK (prK qs))->Q (.ref d) H')
theorem ok_pn(F:Fun K "partners_in" "partners_in" j6 f fd)(T:Txt K mg cc cw)(uY:DefOk P w K mg base CX0 8 "are_pairs" ["web","thing"] (spAp cw)):FnOk P w K mg base CX0 9 f fd ["web","pairs"] (spPn cw):=by
 show F.ok KM fun _ _ _ _ H vs Q E S h=>?_
 .obtain⟨x,l,ss,ns,us,tps,qs,rfl,Z,Y,⟨hl,n⟩,g,q⟩:=h;have p:=jY S;have few:=g.few;have u:=n.len;show⟨_,(qc (qN (qS (qL (qp uY (hmR S) qz (qa (pv 0) (qa (pv 1) qd))))) (qe jE) qt)
 (qc (qq (i:=2) KM.nd rfl (yQ rfl) zB)
 (qc (jq y0 rfl (qM (K:=K) rfl (pv 1)) (qr (i:=3) KM.nd rfl (yQ rfl))
 (qc (j4 (qx (qy (K:=K) rfl p) (pv 3) qi (fun _ _=>rfl)) (zg (pv 2) (qx (qy (K:=K) rfl p) (pv 3) qi (fun _ _=>rfl)) (zi p)))
 (qe (j4 (qx (qy (K:=K) rfl p) (pv 3) qi (fun _ _=>rfl)) (zg (pv 2) (qx (qy (K:=K) rfl p) (pv 3) qi (fun _ _=>rfl)) (zi p))))))
 (qe (qo (pv 2)))))),?_⟩
  apply⟨x,l,ss,ns,us,tps,qs,rfl,Z,Y,⟨hl,n⟩,g,fun H1 W=>?_⟩;apply yq ?_;ext;intro d R;have c:=W.free R;have L:=qE W (o:=.dK []) R;have O:upd H1 d (.dK []) d=some (.dK (prK [])):=qb;generalize upd H1 d (.dK [])=H2 at L O;apply .inl ⟨⟨_,.of (L _ _ hl)⟩,jc (xs:=us.map V.ref) (fun i B J=>L2.Same H J/\∃ M,B=[some (.ref x),some (.ref l),some (.ref d),M]/\J d=some (.dK (prK (qs.take i)))) ⟨L,_,rfl,O⟩ (fun i B J _ t=>.of (t.1 _ _ hl)) (fun i y B J U t=>?_) fun B J t=>?_⟩
  .obtain⟨A,M,rfl,a⟩:=t;rw[yd] at U;obtain⟨b,s,rfl⟩:=yn.mp U;have hi:i<us.length:=(yc.mp s).1;obtain⟨ab,r⟩:∃ ab,qs[i]?=some ab:=⟨_,yb (by rw[<- u];show hi)⟩;have C:=n.at_ i b ab s r;obtain⟨I,G,n1,n2⟩:=g.new r;have D:b≠d:=fun z=>by rw[z,c] at C;cases C
   have m:=A _ _ C;have aa:(prK (qs.take i)).length<=2000:=by rw[prK_len,yH];lk
   apply .inl (qaO m (v:=.str ab.2) (qF (j:=1) rfl) ?_);apply .inl (qaO m (v:=.str ab.1) (qF (j:=0) rfl) ?_);apply .inr ⟨d,_,rfl,DPut.k (k:=Sum.inr ab.1) a (by rw[YA];lk),?_⟩;have X:=qax A (o:=.dK (zA (prK (qs.take i)) (Sum.inr ab.1) (.str ab.2))) c;have N:upd J d (.dK (zA (prK (qs.take i)) (Sum.inr ab.1) (.str ab.2))) d=some (.dK (zA (prK (qs.take i)) (Sum.inr ab.1) (.str ab.2))):=qb;have e:upd J d (.dK (zA (prK (qs.take i)) (Sum.inr ab.1) (.str ab.2))) b=some (.tup [.str ab.1,.str ab.2]):=by rw[qf D];show m
   generalize upd J d (.dK (zA (prK (qs.take i)) (Sum.inr ab.1) (.str ab.2)))=J3 at X N e;apply .inl (qaO e (v:=.str ab.1) (qF (j:=0) rfl) ?_);apply .inl (qaO e (v:=.str ab.2) (qF (j:=1) rfl) ?_);apply .inr ⟨d,_,rfl,DPut.k (k:=Sum.inr ab.2) N ?_,?_⟩
   .have:=jN (prK (qs.take i)) (Sum.inr ab.1:Key) (.str ab.2);rw[YA];lk
   .show⟨qax X c,_,rfl,by rw[qb,prK_put G,I]⟩
  .obtain⟨A,M,rfl,a⟩:=t;rw[ya,u,yP] at a;apply q d J A c a
structure Gr(A:Str->Str->Prop)(f:Str->Option Str):Prop where
 as:∀{a b},A a b->A b a
 ir:∀{a b},A a b->a≠b
 fs:∀{a b},f a=some b->f b=some a
 fa:∀{a b},f a=some b->A a b
structure FS where
 rows:Str->Option (LS)
 par:Str->Option Str
 bas:Str->Str
def Turns(A:Str->Str->Prop)(f:Str->Option Str)(r:LS):Prop:=∀(j:Nat) a b,r[j]?=some a->r[j+1]?=some b->A a b/\(f a=some b↔j % 2=1)
structure Alt(A:Str->Str->Prop)(f:Str->Option Str)(r:LS)(v:Str):Prop where
 nd:r.Nodup
 odd:r.length % 2=1
 hd:∀ s,r[0]?=some s->f s=none
 tl:∃ r0,r=r0++[v]
 st:Turns A f r
structure FI(A:Str->Str->Prop)(f:Str->Option Str)(S:FS):Prop where
 alt:∀ v r,S.rows v=some r->Alt A f r v
 bse:∀ v r,S.rows v=some r->∃ rb t,S.rows (S.bas v)=some rb/\r=rb++t/\∀ u∈t,S.bas u=S.bas v
 idm:∀ v r,S.rows v=some r->S.bas (S.bas v)=S.bas v
 dwn:∀ b r q,S.rows b=some r->S.bas b=b->f b=some q->S.rows q=none/\∃ z rz,S.par q=some z/\S.rows z=some rz/\r=rz++[q,b]
 mat:∀ v,S.bas v≠v->(∃ r,S.rows v=some r)/\∃ u,f v=some u/\S.bas u=S.bas v
 odd:∀ x z,S.par x=some z->A z x/\(∃ r,S.rows z=some r)/\∃ y r,f x=some y/\S.rows y=some r
section
variable{A:Str->Str->Prop}{f:Str->Option Str}{S:FS}
theorem FI.own(I:FI A f S)(h:S.rows v=none):S.bas v=v:=Ys fun z=>by
 obtain⟨⟨r,e⟩,_⟩:=I.mat v z;rw[h] at e;cases e
theorem FI.evb(I:FI A f S)(h:S.rows v=some r):∃ a,S.rows (S.bas v)=some a:=(I.bse v r h).elim fun a z=>⟨a,z.elim fun _ y=>y.1⟩
theorem FI.pair(I:FI A f S){w:Str}{s:LS}(hv:S.rows v=some r)(hw:S.rows w=some s)(h:f v=some w):S.bas v=S.bas w:=by
 by_cases z:S.bas v=v
 .have:=(I.dwn v r w hv z h).1;rw[hw] at this;cases this
 .obtain⟨_,u,a,e⟩:=I.mat v z;rw[h] at a;cases a;show e.symm
inductive Ch(f:Str->Option Str)(S:FS):Str->LS->Prop
 | root {b:Str}:f b=none->Ch f S b [b]
 | step {b q z:Str} {l:LS}:f b=some q->S.par q=some z->Ch f S (S.bas z) l->Ch f S b (b::l)
theorem Ch.one{l:LS}(h:Ch f S b l):∀{m},Ch f S b m->m=l:=by
 induction h with
 | root e=>intro m g;cases g with
  | root _=>rfl
  | step e' _ _=>rw[e] at e';cases e'
 | step e p _ ih=>intro m g;cases g with
  | root e'=>rw[e] at e';cases e'
  | step e' p' g'=>rw[e] at e';cases e';rw[p] at p';cases p';rw[ih g']
theorem Ch.ne{l:LS}(h:Ch f S b l):∃ t,l=b::t:=by cases h<;>show⟨_,rfl⟩
theorem FI.chain(I:FI A f S):∀(n:Nat) {b:Str} {r:LS},r.length<=n->S.rows b=some r->S.bas b=b->∃ l,Ch f S b l
 | n,b,r,hn,hb,hbb=>by
  cases e:f b with
  | none=>show⟨_,.root e⟩
  | some q =>
   obtain⟨_,z,rz,p,hz,c⟩:=I.dwn b r q hb hbb e;obtain⟨a,t,h1,d,_⟩:=I.bse z rz hz;have hl:a.length<n:=by rw[c,d] at hn;simp at hn;lk
   match n,hl with
   | n+1,hl =>
    obtain⟨l,g⟩:=I.chain n (b:=S.bas z) (r:=a) (by lk) h1 (I.idm z rz hz);show⟨_,.step e p g⟩
theorem FI.chainOf(I:FI A f S)(h:S.rows v=some r):∃ l,Ch f S (S.bas v) l:=by
 obtain⟨a,e⟩:=I.evb h;show I.chain _ (yh _) e (I.idm v r h)
def Cov(f:Str->Option Str)(S:FS)(l:LS)(u:Str):Prop:=∃ d∈l,S.bas u=d\/f d=some u
theorem Cov.mono{l:LS}(h:Cov f S l u)(a:∀ d∈l,d∈m):Cov f S m u:=h.elim fun d z=>⟨d,a d z.1,z.2⟩
theorem Ch.up(I:FI A f S){l:LS}(h:Ch f S b l):∀{v:Str} {r:LS},S.rows v=some r->S.bas v=b->∀{l1 l2:LS} {c:Str},l=l1++c::l2->∃ s t,S.rows c=some s/\S.bas c=c/\Ch f S c (c::l2)/\r=s++t/\∀ u∈t,S.bas u=c\/Cov f S l1 u:=by
 induction h with
 | root e =>
  intro v r hv m l1 l2 c j
  cases l1 with
  | cons x y=>show absurd (congrArg List.length j) (by simp)
  | nil =>
   cases j;obtain⟨o,t,h1,n,i⟩:=I.bse v r hv;rw[m] at h1 i;show⟨o,t,h1,by rw[<- m];show I.idm v r hv,.root e,n,fun u hu=>.inl (i u hu)⟩
 | @step b q z l e p g ih =>
  intro v r hv m l1 l2 c j;obtain⟨o,t,h1,n,i⟩:=I.bse v r hv;rw[m] at h1 i;have a:S.bas b=b:=by rw[<- m];show I.idm v r hv
  cases l1 with
  | nil =>
   cases j;show⟨o,t,h1,a,.step e p g,n,fun u hu=>.inl (i u hu)⟩
  | cons x y =>
   cases j;obtain⟨J,K,rz,w,hz,B⟩:=I.dwn b o q h1 a e;rw[p] at w;cases w;obtain⟨s,t',D,E,F,G,H⟩:=ih hz rfl rfl;show⟨s,t'++[q,b]++t,D,E,F,by rw[n,B,G];simp,fun u hu=>?_⟩;rcases yw.mp hu with hu | hu
   .rcases yw.mp hu with hu | hu
    .show(H u hu).imp id fun z=>z.mono fun d C=>yB _ C
    .simp only[yz,yW,YE] at hu;rcases hu with rfl | rfl
     .show .inr ⟨b,yR,.inr e⟩
     .show .inr ⟨_,yR,.inl a⟩
   .show .inr ⟨b,yR,.inl (i u hu)⟩
theorem Ch.bs0(I:FI A f S){l:LS}(hv:S.rows v=some r)(h:Ch f S (S.bas v) l)(hc:c∈l):∃ a,S.rows c=some a/\S.bas c=c:=by
 obtain⟨l1,l2,e⟩:=Ym hc;obtain⟨a,_,h1,b,_⟩:=h.up I hv rfl e;show⟨a,h1,b⟩
theorem Ch.cov(G:Gr A f)(I:FI A f S){l:LS}(hv:S.rows v=some r)(h:Ch f S (S.bas v) l)(hu:u∈r):Cov f S l u:=by
 have hl:l≠[]:=by obtain⟨t,e⟩:=h.ne;rw[e];show kW _ _
 obtain⟨o,t,h1,s,w,x,y⟩:=h.up I hv rfl (Y4 hl).symm;have b:l.getLast hl∈l:=List.getLast_mem hl;rw[x] at hu;rcases yw.mp hu with hu | hu
 .have D:f (l.getLast hl)=none:=by
   cases w with
   | root e=>show e
   | step _ _ g=>obtain⟨_,e⟩:=g.ne;cases e
  have c:=I.alt _ _ h1;obtain⟨q,i⟩:=c.tl
  have m:q=[]:=by
   cases j:q.length with
   | zero=>show xv j
   | succ n =>
    exfalso;have p:o.length=n+2:=by rw[i];simp[j]
    obtain⟨a,B⟩:∃ a,o[n]?=some a:=⟨_,yb (by lk)⟩;have C:o[n+1]?=some (l.getLast hl):=by rw[i,yC (by lk),j];simp
    have:=G.fs ((c.st n a _ B C).2.mpr (by have:=c.odd;lk));rw[D] at this;cases this
  rw[i,m] at hu;have e:u=l.getLast hl:=by simpa using hu
  show⟨_,b,.inl (by rw[e];show s)⟩
 .rcases y u hu with z | ⟨d,hd,z⟩
  .show⟨_,b,.inl z⟩
  .show⟨d,List.dropLast_subset l hd,z⟩
theorem Cov.apart(G:Gr A f)(I:FI A f S){l:LS}(hl:∀ d∈l,∃ r,S.rows d=some r/\S.bas d=d)(n:∀ d∈m,∃ r,S.rows d=some r/\S.bas d=d)(t:∀ d∈l,d∉m)(h1:Cov f S l u)(p:Cov f S m u):False:=by
 have i:∀{d e:Str},(∃ r,S.rows d=some r/\S.bas d=d)->(∃ r,S.rows e=some r/\S.bas e=e)->S.bas u=d->f e=some u->False:=fun⟨r,b,q⟩ ⟨s,g,j⟩ h h'=>by
  have o:=(I.dwn _ _ _ g j h').1;have:=I.own o;rw[h] at this;rw[this,o] at b;cases b
 obtain⟨d,b,z⟩:=h1;obtain⟨e,g,y⟩:=p;have c:d≠e:=fun w=>t d b (by rw[w];show g);rcases z with z | z<;>rcases y with y | y
 .show c (z.symm.trans y)
 .show i (hl d b) (n e g) z y
 .show i (n e g) (hl d b) y z
 .have a:=G.fs z;rw[G.fs y] at a;show c (ym a).symm
theorem Turns.app{s:LS}(h:Turns A f r)(g:∀(j:Nat) a b,s[j]?=some a->s[j+1]?=some b->A a b/\(f a=some b↔(r.length+j) % 2=1))(w:∀ a b,r[r.length-1]?=some a->s[0]?=some b->0<r.length->A a b/\(f a=some b↔(r.length-1) % 2=1)):Turns A f (r++s):=fun j a b c d=>by
 by_cases h1:j+1<r.length
 .rw [yZ (by lk)] at c;rw[yZ h1] at d;show h j a b c d
 .by_cases e:j+1=r.length
  .rw [yZ (by lk),show j=r.length-1 by lk] at c;rw[yC (by lk),show j+1-r.length=0 by lk] at d;rw[show j=r.length-1 by lk];show w a b c d (by lk)
  .rw [yC (by lk)] at c;rw[yC (by lk),show j+1-r.length=j-r.length+1 by lk] at d;have:=g _ a b c d
   rwa[show r.length+(j-r.length)=j by lk] at this
theorem Alt.back(G:Gr A f){s t:LS}{w q:Str}(hw:Alt A f s w)(hv:Alt A f r v)(i:r=rz++q::c::t)(hz:rz.length % 2=1)(E:A w v)(F:f w≠some v)(p:∀ u∈s,u∉q::c::t):Alt A f (s++(q::c::t).reverse) q:=by
 obtain⟨K,es⟩:=hw.tl;obtain⟨J,l⟩:=hv.tl;have o:0<s.length:=by rw[es];simp
 have H:=hv.odd;have n:r.length=rz.length+(t.length+2):=by rw[i];simp
 have at_:∀{j:Nat} {a:Str},(q::c::t).reverse[j]?=some a->j<t.length+2/\r[r.length-1-j]?=some a:=fun{j a} h=>by
  have hl:=(yc.mp h).1;rw[YB] at hl;simp only[yA] at hl;rw[List.getElem?_reverse (by simp only[yA];lk)] at h;simp only[yA] at h;show⟨by lk,?_⟩;rw[n]
  conv=>lhs;rw[i]
  rw[yC (by lk),show rz.length+(t.length+2)-1-j-rz.length=t.length+1+1-1-j by lk];show h
 show⟨y9.mpr ⟨hw.nd,?_,fun x I y g e=>p x I (by rw[e];show kX.mp g)⟩,?_,fun y g=>?_,⟨s++(c::t).reverse,by simp⟩,hw.st.app (fun j a b h1 m=>?_) fun a b h1 m _=>?_⟩
 .show(List.reverse_perm _).nodup_iff.mpr ((y9.mp (i ▸ hv.nd)).2.1)
 .rw [yu,YB];simp only[yA];have:=hw.odd;lk
 .rw [yZ o] at g;show hw.hd y g
 .obtain⟨l1,B⟩:=at_ h1;obtain⟨l2,d⟩:=at_ m;have:=hv.st (r.length-1-(j+1)) b a d (by rw[show r.length-1-(j+1)+1=r.length-1-j by lk];show B);show⟨G.as this.1,⟨fun z=>?_,fun z=>?_⟩⟩
  .have:=this.2.mp (G.fs z);have:=hw.odd;lk
  .show G.fs (this.2.mpr (by have:=hw.odd;lk))
 .have C:a=w:=by
   rw[es,yu,yC (by simp)] at h1;simpa using h1.symm
  have D:b=v:=by
   obtain⟨_,d⟩:=at_ m;rw[Kh,l,yu,yC (by simp)] at d;simpa using d.symm
  subst C;subst D;show⟨E,⟨fun z=>absurd z F,fun z=>by have:=hw.odd;lk⟩⟩
end
section
variable{A:Str->Str->Prop}{f:Str->Option Str}{S S':FS}
theorem Ch.nd(I:FI A f S){l:LS}(h:Ch f S b l):∀{v:Str} {r:LS},S.rows v=some r->S.bas v=b->l.Nodup:=by
 induction h with
 | root e=>intro _ _ _ _;simp
 | @step b q z l e p g ih =>
  intro v r hv d;have a:S.bas b=b:=by rw[<- d];show I.idm v r hv
  obtain⟨n,h1⟩:=I.evb hv;rw[d] at h1;obtain⟨_,o,rz,i,hz,_⟩:=I.dwn b n q h1 a e;rw[p] at i;cases i;show yo.mpr ⟨fun j=>?_,ih hz rfl⟩;obtain⟨x,y,c⟩:=Ym j;obtain⟨_,_,_,_,m,_⟩:=g.up I hz rfl c;have:=m.one (.step e p g);rw[c] at this;have:=congrArg List.length this;simp at this;lk
theorem Ch.suf(I:FI A f S){l:LS}(hv:S.rows v=some r)(h:Ch f S (S.bas v) l){q:Str}(e:l=l1++c::l2)(b:f c=some q):∃ rz t,r=rz++q::c::t/\rz.length % 2=1/\S.rows q=none/\∀ u∈q::c::t,Cov f S (l1++[c]) u:=by
 obtain⟨p,t,h1,a,_,g,i⟩:=h.up I hv rfl e;obtain⟨m,z,rz,_,n,o⟩:=I.dwn c p q h1 a b;show⟨rz,t,by rw[g,o];simp,(I.alt z rz n).odd,m,fun u hu=>?_⟩;rcases yz.mp hu with rfl | hu
 .show⟨c,by simp,.inr b⟩
 .rcases yz.mp hu with rfl | hu
  .show⟨u,by simp,.inl a⟩
  .rcases i u hu with z | z
   .show⟨c,by simp,.inl z⟩
   .show z.mono fun d j=>yF _ j
theorem Ch.meet(I:FI A f S){w:Str}{s l:LS}(hv:S.rows v=some r)(hw:S.rows w=some s)(h:Ch f S (S.bas v) l)(h':Ch f S (S.bas w) l'){m:Str}(j:l=l1++m::l2)(i:l'=m1++m::m2)(H:∀ d∈l1,d∉l'):m2=l2/\∀ d∈m1,d∉l:=by
 obtain⟨_,_,_,_,k,_⟩:=h.up I hv rfl j;obtain⟨_,_,_,_,k',_⟩:=h'.up I hw rfl i;have D:m2=l2:=(xF (k.one k')).2;show⟨D,fun d J hl=>?_⟩;obtain⟨a,b,B⟩:=Ym J;obtain⟨x,y,ex⟩:=Ym hl;obtain⟨_,_,_,_,g,_⟩:=h.up I hv rfl ex;obtain⟨_,_,_,_,g',_⟩:=h'.up I hw rfl (l1:=a) (c:=d) (l2:=b++m::m2) (by rw[i,B];simp);have t:y=b++m::m2:=(xF (g'.one g)).2;have e:=h.nd I hv rfl;have n:d∈l':=by rw[i,B];simp
 have p:d∉l1:=fun z=>H d z n;have o:d∈m::l2:=by rw[j] at hl;show(yw.mp hl).resolve_left p
 rcases yz.mp o with z | z
 .rw [z] at ex;rw[ex,t] at e;have:=(y9.mp e).2.1;show(yo.mp this).1 (by simp)
 .have q:m∈x:=by
   obtain⟨K,C,E⟩:=Ym z;have u:l=(l1++m::K)++d::C:=by rw[j,E];simp
   obtain⟨_,_,_,_,G,_⟩:=h.up I hv rfl u;have F:C=y:=(xF (g.one G)).2;rw[u,F] at ex;rw[<- List.append_cancel_right ex];simp
  rw[ex,t] at e;show(y9.mp e).2.2 m q m (by simp) rfl
def NewRow(S:FS)(v w u:Str)(r:LS):Prop:=∃ rv rw rz t,S.rows v=some rv/\S.rows w=some rw/\rv=rz++u::t/\r=rw++(u::t).reverse
def InR(f:Str->Option Str)(m:Str)(a:LS)(u:Str):Prop:=u=m\/∃ c∈a,u=c\/f c=some u
structure Mg(f:Str->Option Str)(S S':FS)(v w m:Str)(l1 m1:LS):Prop where
 par:S'.par=S.par
 old:∀ u r,S.rows u=some r->S'.rows u=some r
 new:∀ u r,S'.rows u=some r->S.rows u=some r\/(∃ c∈l1,f c=some u/\NewRow S v w u r)\/(∃ c∈m1,f c=some u/\NewRow S w v u r)
 all:∀ c∈l1++m1,∀ q,f c=some q->∃ r,S'.rows q=some r
 inn:∀ u,InR f m (l1++m1) (S.bas u)->S'.bas u=m
 out:∀ u,¬ InR f m (l1++m1) (S.bas u)->S'.bas u=S.bas u
theorem qdU{a b c d:LS}{x:Str}(h:(a++x::b).Nodup)(e:a++x::b=c++x::d):a=c/\b=d:=by
 induction a generalizing c with
 | nil =>
  cases c with
  | nil=>show⟨rfl,(xF e).2⟩
  | cons y c =>
   obtain⟨f,g⟩:=xF e;show absurd (show x∈b by rw[g];simp) (yo.mp h).1
 | cons y a ih =>
  cases c with
  | nil =>
   obtain⟨f,g⟩:=xF e;show absurd (show y∈a++x::b by rw[f];simp) (yo.mp h).1
  | cons z c =>
   obtain⟨f,g⟩:=xF e;obtain⟨h1,i⟩:=ih (yo.mp h).2 g;show⟨by rw[f,h1],i⟩
theorem NewRow.ok(G:Gr A f)(I:FI A f S){w:Str}{l:LS}(hv:S.rows v=some rv)(hw:S.rows w=some rw)(h:Ch f S (S.bas v) l)(h':Ch f S (S.bas w) l')(o:l=l1++l2)(J:∀ d∈l1,d∉l')(F:A w v)(H:S.bas w≠S.bas v)(hc:c∈l1)(L:f c=some u)(K:NewRow S v w u r) :
  Alt A f r u/\S.rows u=none/\∃ t,r=rw++t/\∀ x∈t,Cov f S l1 x:=by
 obtain⟨M,N,rz,t,p,q,s,y⟩:=K;rw[hv] at p;cases p;rw[hw] at q;cases q;obtain⟨a,b,n⟩:=Ym hc;obtain⟨O,t',j,B,C,m⟩:=h.suf I hv (l1:=a) (c:=c) (l2:=b++l2) (by rw[o,n];simp) L;have e:=(I.alt v rv hv).nd;obtain⟨D,E⟩:=qdU (by rw[<- s];show e) (s.symm.trans j);subst D;subst E;have sub:∀ d∈a++[c],d∈l1:=fun d z=>by rw[n];rcases yw.mp z with z | z;show yF _ z;rw[yD.mp z];simp
 have inl:∀ d∈l1,d∈l:=fun d z=>by rw[o];show yF _ z
 show⟨?_,C,_,y,fun x g=>(m x (kX.mp g)).mono sub⟩;rw[y];show Alt.back G (I.alt w rw hw) (I.alt v rv hv) j B F (fun z=>H (I.pair hw hv z)) fun x g i=>?_;show Cov.apart G I (fun d z=>h.bs0 I hv (inl d (sub d z))) (fun d z=>h'.bs0 I hw z) (fun d z=>J d (sub d z)) (m x i) (h'.cov G I hw g)
theorem FI.merge(G:Gr A f)(I:FI A f S){w m:Str}(hv:S.rows v=some rv)(hw:S.rows w=some rw)(h:Ch f S (S.bas v) (l1++m::l2))(h':Ch f S (S.bas w) (m1++m::l2))(hd:∀ d∈l1,d∉m1++m::l2)(U:∀ d∈m1,d∉l1++m::l2)(ha:A v w)(hb:S.bas v≠S.bas w)(M:Mg f S S' v w m l1 m1):FI A f S':=by
 have hm:∃ r,S.rows m=some r/\S.bas m=m:=h.bs0 I hv (by simp);obtain⟨P,H,W⟩:=hm
 have B:∀ c∈l1++m1,(∃ r,S.rows c=some r/\S.bas c=c)/\c≠m/\∃ q,f c=some q/\S.rows q=none:=fun c hc=>by
  rcases yw.mp hc with z | z
  .show⟨h.bs0 I hv (yF _ z),fun e=>hd c z (by rw[e];simp),?_⟩;obtain⟨a,b,E⟩:=Ym z;obtain⟨rc,_,D,o,p,_⟩:=h.up I hv rfl (l1:=a) (c:=c) (l2:=b++m::l2) (by rw[E];simp);generalize l:b++m::l2=x at p
   cases p with
   | root _=>show absurd (congrArg List.length l) (by simp)
   | step e _ _=>show⟨_,e,(I.dwn _ _ _ D o e).1⟩
  .show⟨h'.bs0 I hw (yF _ z),fun e=>U c z (by rw[e];simp),?_⟩;obtain⟨a,b,E⟩:=Ym z;obtain⟨rc,_,D,o,p,_⟩:=h'.up I hw rfl (l1:=a) (c:=c) (l2:=b++m::l2) (by rw[E];simp);generalize l:b++m::l2=x at p
   cases p with
   | root _=>show absurd (congrArg List.length l) (by simp)
   | step e _ _=>show⟨_,e,(I.dwn _ _ _ D o e).1⟩
 have cov:∀ u,Cov f S (l1++m1) u->S'.bas u=m:=fun u ⟨d,hd,z⟩=>by
  show M.inn u ?_;rcases z with z | z
  .show .inr ⟨d,hd,.inl z⟩
  .have hn:=(B d hd).2.2;obtain⟨q,e,F⟩:=hn;rw[z] at e;cases e;rw[I.own F];show .inr ⟨d,hd,.inr z⟩
 have K:∀ u,Cov f S l1 u->S'.bas u=m:=fun u z=>cov u (z.mono fun d y=>yF _ y);have L:∀ u,Cov f S m1 u->S'.bas u=m:=fun u z=>cov u (z.mono fun d y=>yN _ y);have bm:∀ u,S.bas u=m->S'.bas u=m:=fun u z=>M.inn u (.inl z);have m0:S'.bas m=m:=bm m W;have Z:=M.old m P H
 have J:∀{x:Str} {rx a b:LS},S.rows x=some rx->Ch f S (S.bas x) (a++m::b)->(∀ d∈a,d∈l1++m1)->∃ t,rx=P++t/\∀ u∈t,S'.bas u=m:=fun{x rx a b} l hc hs=>by
  obtain⟨rc,t,D,_,_,R,g5⟩:=hc.up I l rfl rfl;rw[H] at D;cases D;show⟨t,R,fun u j=>(g5 u j).elim (bm u) fun z=>cov u (z.mono hs)⟩
 have nw:∀ u r,(∃ c∈l1,f c=some u/\NewRow S v w u r)\/(∃ c∈m1,f c=some u/\NewRow S w v u r)->Alt A f r u/\S.rows u=none/\S'.bas u=m/\∃ t,r=P++t/\∀ x∈t,S'.bas x=m:=fun u r z=>by
  rcases z with⟨c,hc,j,C⟩ | ⟨c,hc,j,C⟩
  .obtain⟨D,o,t,p,R⟩:=NewRow.ok G I hv hw h h' rfl hd (G.as ha) (Ye hb) hc j C;obtain⟨t0,p1,p2⟩:=J hw h' fun d y=>yN _ y;show⟨D,o,K u ⟨c,hc,.inr j⟩,t0++t,by rw[p,p1];simp,fun x l=>(yw.mp l).elim (p2 x) fun y=>K x (R x y)⟩
  .obtain⟨D,o,t,p,R⟩:=NewRow.ok G I hw hv h' h rfl U ha hb hc j C;obtain⟨t0,p1,p2⟩:=J hv h fun d y=>yF _ y;show⟨D,o,L u ⟨c,hc,.inr j⟩,t0++t,by rw[p,p1];simp,fun x l=>(yw.mp l).elim (p2 x) fun y=>L x (R x y)⟩
 have af:∀ u r,S.rows u=some r->InR f m (l1++m1) (S.bas u)->S.bas u=m\/S.bas u∈l1++m1:=fun u r j z=>by
  rcases z with z | ⟨c,hc,z | z⟩
  .show .inl z
  .show .inr (by rw[z];show hc)
  .obtain⟨q,e,F⟩:=(B c hc).2.2;rw[z] at e;cases e;obtain⟨rb,n⟩:=I.evb j;rw[F] at n;cases n
 show⟨fun u r j=>?_,fun u r j=>?_,fun u r j=>?_,fun b r q aa O F=>?_,fun u j=>?_,fun x z l=>?_⟩
 .rcases M.new u r j with z | z
  .show I.alt u r z
  .show(nw u r z).1
 .rcases M.new u r j with z | z
  .by_cases i:InR f m (l1++m1) (S.bas u)
   .rw [M.inn u i];show⟨P,?_⟩
    have:∃ t,r=P++t/\∀ x∈t,S'.bas x=m:=by
     rcases af u r z i with y | y
     .obtain⟨rb,t,N,n,e3⟩:=I.bse u r z;rw[y,H] at N;cases N;show⟨t,n,fun x l=>bm x ((e3 x l).trans y)⟩
     .rcases yw.mp y with y | y
      .obtain⟨a,b,E⟩:=Ym y;obtain⟨_,_,_,_,g,_⟩:=h.up I hv rfl (l1:=a) (c:=S.bas u) (l2:=b++m::l2) (by rw[E];simp);show J z (a:=S.bas u::b) (by simpa using g) fun d hd=>by rw[E];rcases yz.mp hd with rfl | hd<;>simp[*]
      .obtain⟨a,b,E⟩:=Ym y;obtain⟨_,_,_,_,g,_⟩:=h'.up I hw rfl (l1:=a) (c:=S.bas u) (l2:=b++m::l2) (by rw[E];simp);show J z (a:=S.bas u::b) (by simpa using g) fun d hd=>by rw[E];rcases yz.mp hd with rfl | hd<;>simp[*]
    obtain⟨t,N,n⟩:=this;show⟨t,Z,N,n⟩
   .rw [M.out u i];obtain⟨rb,t,N,n,e3⟩:=I.bse u r z;show⟨rb,t,M.old _ _ N,n,fun x l=>by rw[M.out x (by rw[e3 x l];show i)];show e3 x l⟩
  .obtain⟨_,_,e,t,N,n⟩:=nw u r z;rw[e];show⟨P,t,Z,N,n⟩
 .by_cases i:InR f m (l1++m1) (S.bas u)
  .rw [M.inn u i];show m0
  .rw [M.out u i];rcases M.new u r j with z | z
   .have e:=I.idm u r z;rw[M.out _ (by rw[e];show i)];show e
   .obtain⟨_,o,_⟩:=nw u r z;have e:=I.own o;rw[e,M.out u (by rw[e] at i ⊢;show i)];show e
 .have ac:S.bas b=b/\(b=m\/¬ InR f m (l1++m1) (S.bas b)):=by
   by_cases i:InR f m (l1++m1) (S.bas b)
   .have:=M.inn b i;rw[O] at this;rw[this];show⟨W,.inl rfl⟩
   .have:=M.out b i;rw[O] at this;show⟨this.symm,.inr i⟩
  obtain⟨T,ad⟩:=ac
  have C:S.rows b=some r:=by
   rcases M.new b r aa with z | z
   .show z
   .exfalso;obtain⟨_,o,p,_⟩:=nw b r z;rw[O] at p;rw[p,H] at o;cases o
  obtain⟨k1,z,rz,k2,k3,k4⟩:=I.dwn b r q C T F;show⟨?_,z,rz,by rw[M.par];show k2,M.old _ _ k3,k4⟩
  cases e:S'.rows q with
  | none=>rfl
  | some s =>
   exfalso
   have Y:∀ c∈l1++m1,f c=some q->False:=fun c hc ae=>by
    have:=G.fs ae;rw[G.fs F] at this;have n:=ym this;subst n;rcases ad with y | y
    .show(B b hc).2.1 y
    .show y (.inr ⟨b,hc,.inl T⟩)
   rcases M.new q s e with y | ⟨c,hc,y,_⟩ | ⟨c,hc,y,_⟩
   .rw [k1] at y;cases y
   .show Y c (yF _ hc) y
   .show Y c (yN _ hc) y
 .by_cases i:InR f m (l1++m1) (S.bas u)
  .rw [M.inn u i] at j ⊢;by_cases X:S.bas u=u
   .rw [X] at i;rcases i with z | ⟨c,hc,z | z⟩
    .show absurd z.symm j
    .subst z;obtain⟨⟨r,C,_⟩,_,q,F,_⟩:=B u hc;show⟨⟨r,M.old _ _ C⟩,q,F,cov q ⟨u,hc,.inr F⟩⟩
    .show⟨M.all c hc u z,c,G.fs z,cov c ⟨c,hc,.inl (B c hc).1.choose_spec.2⟩⟩
   .obtain⟨⟨r,C⟩,y,hy,e⟩:=I.mat u X;show⟨⟨r,M.old _ _ C⟩,y,hy,M.inn y (by rw[e];show i)⟩
  .rw [M.out u i] at j ⊢;obtain⟨⟨r,C⟩,y,hy,e⟩:=I.mat u j;show⟨⟨r,M.old _ _ C⟩,y,hy,by rw[M.out y (by rw[e];show i)];show e⟩
 .rw [M.par] at l;obtain⟨k1,⟨r,k2⟩,y,s,k3,k4⟩:=I.odd x z l;show⟨k1,⟨r,M.old _ _ k2⟩,y,s,k3,M.old _ _ k4⟩
end
structure Aug(A:Str->Str->Prop)(f:Str->Option Str)(r:LS):Prop where
 nd:r.Nodup
 two:2<=r.length
 ev:r.length % 2=0
 st:Turns A f r
 hd:∀ s,r[0]?=some s->f s=none
 tl:∀ s,r[r.length-1]?=some s->f s=none
section
variable{A:Str->Str->Prop}{f:Str->Option Str}{S S':FS}
theorem FI.aug(G:Gr A f)(I:FI A f S){w:Str}{l:LS}(hv:S.rows v=some rv)(hw:S.rows w=some rw)(h:Ch f S (S.bas v) l)(h':Ch f S (S.bas w) l')(hl:l.getLast?≠l'.getLast?)(E:A v w):Aug A f (rv++rw.reverse):=by
 have n:∀ d∈l,d∉l':=fun d F p=>by
  obtain⟨a,b,e⟩:=Ym F;obtain⟨x,y,q⟩:=Ym p;obtain⟨_,_,_,_,k,_⟩:=h.up I hv rfl e;obtain⟨_,_,_,_,k',_⟩:=h'.up I hw rfl q;have:=k.one k';show hl (by rw[e,q,this,List.getLast?_append,List.getLast?_append];rfl)
 have c:=I.alt v rv hv;have g:=I.alt w rw hw;obtain⟨O,r⟩:=c.tl;obtain⟨P,t⟩:=g.tl;have K:0<rv.length:=by rw[r];simp
 have L:0<rw.length:=by rw[t];simp
 have M:=c.odd;have N:=g.odd
 have H:f v≠some w:=fun z=>by
  have e:=I.pair hv hw z;have:=h.one (e ▸ h');rw[this] at hl;show hl rfl
 have at_:∀{j:Nat} {a:Str},rw.reverse[j]?=some a->j<rw.length/\rw[rw.length-1-j]?=some a:=fun{j a} e=>by
  have hl:=(yc.mp e).1;rw[YB] at hl;rw[List.getElem?_reverse hl] at e;show⟨hl,e⟩
 show⟨y9.mpr ⟨c.nd,(List.reverse_perm _).nodup_iff.mpr g.nd,fun x J y u e=>?_⟩,by rw[yu,YB];lk,by rw[yu,YB];lk,c.st.app (fun j a b h1 o=>?_) fun a b h1 o _=>?_,fun s i=>?_,fun s i=>?_⟩
 .rw [<- e] at u;show Cov.apart G I (fun d z=>h.bs0 I hv z) (fun d z=>h'.bs0 I hw z) n (h.cov G I hv J) (h'.cov G I hw (kX.mp u))
 .obtain⟨l1,B⟩:=at_ h1;obtain⟨l2,m⟩:=at_ o;have:=g.st (rw.length-1-(j+1)) b a m (by rw[show rw.length-1-(j+1)+1=rw.length-1-j by lk];show B);show⟨G.as this.1,⟨fun z=>?_,fun z=>?_⟩⟩
  .have:=this.2.mp (G.fs z);lk
  .show G.fs (this.2.mpr (by lk))
 .have C:a=v:=by
   rw[r,yu,yC (by simp)] at h1;simpa using h1.symm
  have D:b=w:=by
   obtain⟨_,m⟩:=at_ o;rw[Kh,t,yu,yC (by simp)] at m;simpa using m.symm
  subst C;subst D;show⟨E,⟨fun z=>absurd z H,fun z=>by lk⟩⟩
 .rw [yZ K] at i;show c.hd s i
 .rw [yu,YB,yC (by lk),show rv.length+rw.length-1-rv.length=rw.length-1 by lk] at i;obtain⟨_,e⟩:=at_ i;rw[X0] at e;show g.hd s e
structure Gw(S S':FS)(p u y:Str)(r:LS):Prop where
 ry:S'.rows y=some (r++[u,y])
 ro:∀ s,s≠y->S'.rows s=S.rows s
 pu:S'.par u=some p
 po:∀ s,s≠u->S'.par s=S.par s
 ba:S'.bas=S.bas
theorem FI.fresh(G:Gr A f)(I:FI A f S)(a:S.rows u=none)(g:S.par u=none)(c:f u=some y):S.rows y=none:=by
 cases e:S.rows y with
 | none=>rfl
 | some s =>
  exfalso;by_cases z:S.bas y=y
  .obtain⟨_,_,_,k,_⟩:=I.dwn y s u e z (G.fs c);rw[g] at k;cases k
  .obtain⟨_,x,b,k⟩:=I.mat y z;rw[G.fs c] at b;cases b;rw[I.own a] at k;obtain⟨h,d⟩:=I.evb e;rw[<- k,a] at d;cases d
theorem FI.grow(G:Gr A f)(I:FI A f S){p:Str}(n:S.rows p=some r)(N:A p u)(o:S.rows u=none)(J:S.par u=none)(m:f u=some y)(W:Gw S S' p u y r):FI A f S':=by
 have c:=I.fresh G o J m;have R:u≠y:=G.ir (G.fa m);have py:p≠y:=fun z=>by rw[z,c] at n;cases n
 have old:∀ s t,S.rows s=some t->S'.rows s=some t:=fun s t e=>by rw[W.ro s (fun z=>by rw[z,c] at e;cases e)];show e
 have new:∀ s t,S'.rows s=some t->(s=y/\t=r++[u,y])\/(s≠y/\S.rows s=some t):=fun s t e=>by
  by_cases z:s=y
  .subst z;rw[W.ry] at e;show .inl ⟨rfl,(ym e).symm⟩
  .rw [W.ro s z] at e;show .inr ⟨z,e⟩
 obtain⟨l,hl⟩:=I.chainOf n
 have B:∀ x∈r,x≠u/\x≠y:=fun x C=>by
  obtain⟨d,U,z⟩:=hl.cov G I n C;obtain⟨rd,g,i⟩:=hl.bs0 I n U;show⟨fun e=>?_,fun e=>?_⟩
  .rw [e] at z;rcases z with z | z
   .rw [I.own o] at z;rw[z,g] at o;cases o
   .obtain⟨_,_,_,k,_⟩:=I.dwn d rd u g i z;rw[J] at k;cases k
  .rw [e] at z;rcases z with z | z
   .rw [I.own c] at z;rw[z,g] at c;cases c
   .have:=G.fs z;rw[G.fs m] at this;rw[ym this,g] at o;cases o
 have w:=I.alt p r n;obtain⟨r0,M⟩:=w.tl;have K:0<r.length:=by rw[M];simp
 show⟨fun v t e=>?_,fun v t e=>?_,fun v t e=>?_,fun b t q e O E=>?_,fun v e=>?_,fun x z e=>?_⟩
 .rcases new v t e with⟨rfl,rfl⟩ | ⟨_,e⟩
  .show⟨y9.mpr ⟨w.nd,by simp[R],fun x C z hz D=>?_⟩,by rw[yu];have:=w.odd;simp only[yA,xB];lk,fun s P=>?_,⟨r++[u],by simp⟩,w.st.app (fun j a b h1 H=>?_) fun a b h1 H _=>?_⟩
   .obtain⟨Y,Z⟩:=B x C;simp only[yz,yW,YE] at hz;rcases hz with rfl | rfl
    .show Y D
    .show Z D
   .rw [yZ K] at P;show w.hd s P
   .have X:j=0:=by have:=(yc.mp H).1;simp at this;lk
    subst X;cases h1;cases H;show⟨G.fa m,⟨fun _=>by have:=w.odd;lk,fun _=>m⟩⟩
   .cases H
    have T:a=p:=by
     rw[M,yu,yC (by simp)] at h1;simpa using h1.symm
    subst T;show⟨N,⟨fun z=>?_,fun z=>by have:=w.odd;lk⟩⟩;have:=G.fs z;rw[m] at this;show absurd (ym this).symm py
  .show I.alt v t e
 .rw [W.ba];rcases new v t e with⟨rfl,rfl⟩ | ⟨_,e⟩
  .rw [I.own c];show⟨_,[],W.ry,by simp,(fun x h=>by cases h)⟩
  .obtain⟨rb,s,g,i,F⟩:=I.bse v t e;show⟨rb,s,old _ _ g,i,F⟩
 .rw [W.ba];rcases new v t e with⟨rfl,rfl⟩ | ⟨_,e⟩
  .rw [I.own c,I.own c]
  .show I.idm v t e
 .rw [W.ba] at O;rcases new b t e with⟨rfl,rfl⟩ | ⟨_,e⟩
  .rw [G.fs m] at E;cases E;show⟨by rw[W.ro u R];show o,p,r,W.pu,old _ _ n,rfl⟩
  .obtain⟨g,z,rz,i,F,L⟩:=I.dwn b t q e O E;show⟨?_,z,rz,?_,old _ _ F,L⟩
   .rw [W.ro q fun z=>?_]
    .show g
    .rw [z] at E;have:=G.fs E;rw[G.fs m] at this;rw[<- ym this,o] at e;cases e
   .rw [W.po q fun z=>?_]
    .show i
    .rw [z,J] at i;cases i
 .rw [W.ba] at e ⊢;obtain⟨⟨t,g⟩,i⟩:=I.mat v e;show⟨⟨t,old _ _ g⟩,i⟩
 .by_cases C:x=u
  .subst C;rw[W.pu] at e;cases e;show⟨N,⟨r,old _ _ n⟩,y,_,m,W.ry⟩
  .rw [W.po x C] at e;obtain⟨g,⟨t,i⟩,y',s,F,L⟩:=I.odd x z e;show⟨g,⟨t,old _ _ i⟩,y',s,F,old _ _ L⟩
theorem FI.start(h1:∀ v r,S.rows v=some r->f v=none/\r=[v])(d:∀ x,S.par x=none)(c:∀ v,S.bas v=v):FI A f S:=by
 show⟨fun v r e=>?_,fun v r e=>?_,fun v r e=>by rw[c,c],fun b r q e _ g=>?_,fun v e=>absurd (c v) e,fun x z e=>by rw[d] at e;cases e⟩
 .obtain⟨k,rfl⟩:=h1 v r e;show⟨by simp,rfl,fun s i=>by cases i;show k,⟨[],rfl⟩,fun j a b h1 d=>?_⟩;simp at d
 .show⟨r,[],by rw[c];show e,by simp,(fun x h=>by cases h)⟩
 .rw [(h1 b r e).1] at g;cases g
end
structure CI(A:Str->Str->Prop)(S:FS)(Pd:Str->Prop):Prop where
 cl:∀ v u,Pd v->A v u->S.bas u=S.bas v\/(S.par u≠none/\¬ Pd u)
 pe:∀ v,Pd v->S.rows v≠none
theorem CI.mono(h:CI A S Pd)(b:∀ u v,S.bas u=S.bas v->S'.bas u=S'.bas v)(c:∀ u,S.par u≠none->S'.par u≠none)(d:∀ u,S.rows u≠none->S'.rows u≠none):CI A S' Pd:=
 ⟨fun v u k a=>(h.cl v u k a).imp (b u v) fun z=>⟨c u z.1,z.2⟩,fun v k=>d v (h.pe v k)⟩
theorem qbP:∀{l m:LS},l.Nodup->(∀ x∈l,x∈m)->l.length<=m.length
 | [],_,_,_=>YX _
 | x::r,m,hn,hs=>by
  obtain⟨h1,c⟩:=yo.mp hn;have a:=hs x yR;have:=qbP (l:=r) (m:=m.erase x) c fun y b=>(List.mem_erase_of_ne (fun e=>h1 (by rw[<- e];show b))).mpr (hs y (yB _ b));rw[xW a] at this;have:0<m.length:=Xj a;simp only[yA];lk
theorem qeg:∀(n:Nat) {X:LS},X.length<=n->X.Nodup->(∀ x∈X,∃ y∈X,g x=some y/\y≠x/\g y=some x)->X.length % 2=0
 | _,[],_,_,_=>rfl
 | 0,x::r,h,_,_=>by simp at h
 | n+1,x::r,h,hn,hp=>by
  obtain⟨h1,d⟩:=yo.mp hn;obtain⟨y,p,j,i,l⟩:=hp x yR;have c:y∈r:=(yz.mp p).resolve_left i;have hl:=xW c;have t:0<r.length:=Xj c
  have:=qeg n (X:=r.erase y) (by simp at h;lk) (d.erase y) fun z hz=>by
   have a:=(d.mem_erase_iff.mp hz);obtain⟨u,o,m,f,b⟩:=hp z (yB _ a.2);have q:u≠x:=fun e=>by rw[e,j] at b;show a.1 (ym b).symm
   have s:u≠y:=fun e=>by rw[e,l] at b;show h1 (by rw[ym b];show a.2)
   show⟨u,d.mem_erase_iff.mpr ⟨s,(yz.mp o).resolve_left q⟩,m,f,b⟩
  simp only[yA];lk
structure Fn(A:Str->Str->Prop)(f:Str->Option Str)(S:FS)(ss:LS):Prop where
 fi:FI A f S
 gr:Gr A f
 inn:∀ a b,A a b->a∈ss
 nd:ss.Nodup
 cl:∀ v u,S.rows v≠none->A v u->S.bas u=S.bas v\/(S.par u≠none/\S.rows u=none)
 sng:∀ z∈ss,f z=none->S.rows z≠none
 es:∀ v,S.rows v≠none->v∈ss
noncomputable def qcJ(S:FS)(ss:LS)(b:Str):LS:=ss.filter fun u=>(S.rows u).isSome&&decide (S.bas u=b)
noncomputable def qbs(S:FS)(ss:LS):LS:=ss.filter fun u=>(S.rows u).isSome&&decide (S.bas u=u)
noncomputable def qds(S:FS)(ss:LS):LS:=ss.filter fun u=>(S.par u).isSome&&!(S.rows u).isSome
noncomputable def snL(g:Str->Option Str)(ss:LS):LS:=ss.filter fun u=>!(g u).isSome
section
variable{A:Str->Str->Prop}{f g:Str->Option Str}{S:FS}{ss:LS}
theorem isS{o:Option α}:o.isSome=true↔o≠none:=by cases o<;>simp
theorem mem_cls:u∈qcJ S ss b↔u∈ss/\S.rows u≠none/\S.bas u=b:=by
 unfold qcJ;rw[yp,yY,isS,Yj]
theorem mem_bas:u∈qbs S ss↔u∈ss/\S.rows u≠none/\S.bas u=u:=by
 unfold qbs;rw[yp,yY,isS,Yj]
theorem mem_bar:u∈qds S ss↔u∈ss/\S.par u≠none/\S.rows u=none:=by
 unfold qds;rw[yp,yY,isS];cases S.rows u<;>simp
theorem mem_sn:u∈snL g ss↔u∈ss/\g u=none:=by
 unfold snL;rw[yp];cases g u<;>simp
theorem some_of{o:Option α}(h:o≠none):∃ r,o=some r:=by cases o with | none=>show absurd rfl h | some r=>show⟨r,rfl⟩
theorem FI.evE(I:FI A f S)(hv:S.rows v≠none)(e:S.bas u=S.bas v):S.rows u≠none:=fun b=>by
 obtain⟨r,c⟩:=some_of hv;obtain⟨d,a⟩:=I.evb c;rw[I.own b] at e;rw[<- e,b] at a;cases a
theorem Fn.cls_odd(F:Fn A f S ss)(p:b∈qbs S ss):(qcJ S ss b).length % 2=1:=by
 obtain⟨o,j,l⟩:=mem_bas.mp p;have c:b∈qcJ S ss b:=mem_cls.mpr ⟨o,j,l⟩;have a:(qcJ S ss b).Nodup:=F.nd.filter _
 have:=qeg (g:=f) _ (X:=(qcJ S ss b).erase b) (yh _) (a.erase b) fun z hz=>by
  obtain⟨s,hz⟩:=a.mem_erase_iff.mp hz;obtain⟨t,m,n⟩:=mem_cls.mp hz;obtain⟨_,u,d,h⟩:=F.fi.mat z (fun e=>s (e.symm.trans n));have i:=F.fi.evE m h;show⟨u,a.mem_erase_iff.mpr ⟨fun e=>?_,mem_cls.mpr ⟨F.es u i,i,h.trans n⟩⟩,d,Ye (F.gr.ir (F.gr.fa d)),F.gr.fs d⟩;obtain⟨r,q⟩:=some_of j;rw[e] at d;show m (F.fi.dwn b r z q l (F.gr.fs d)).1
 rw[xW c] at this;have:=Xj c;lk
theorem Fn.count(F:Fn A f S ss):(qbs S ss).length=(snL f ss).length+(qds S ss).length:=by
 have v:(qbs S ss).Nodup:=F.nd.filter _
 have e:(qbs S ss).length=((qbs S ss).filter fun b=>!(f b).isSome).length+((qbs S ss).filter fun b=>(f b).isSome).length:=by
  generalize qbs S ss=l
  induction l with
  | nil=>rfl
  | cons x r ih =>
   rw[yS,yS,yA,ih];cases (f x).isSome
   .rw [yO (show(!false)=true from rfl),yE Yi,yA];lk
   .rw [yE (show ¬ (!true)=true by decide),yO (show true=true from rfl),yA];lk
 rw[e];have D:((qbs S ss).filter fun b=>!(f b).isSome).length=(snL f ss).length:=xQ
  (qbP (v.filter _) fun x c=>by
   obtain⟨h1,d⟩:=yp.mp c;show mem_sn.mpr ⟨(mem_bas.mp h1).1,?_⟩
   cases e:f x with
   | none=>rfl
   | some y=>rw[e] at d;cases d)
  (qbP (F.nd.filter _) fun x c=>by
   obtain⟨h1,d⟩:=mem_sn.mp c;show yp.mpr ⟨mem_bas.mpr ⟨h1,F.sng x h1 d,Ys fun z=>?_⟩,by rw[d];rfl⟩;obtain⟨_,u,i,_⟩:=F.fi.mat x z;rw[d] at i;cases i)
 have E:((qbs S ss).filter fun b=>(f b).isSome).length=(qds S ss).length:=by
  have inj:(((qbs S ss).filter fun b=>(f b).isSome).map fun b=>(f b).getD "").Nodup:=by
   show Xq.mpr (Y1 (fun{a b} G g o e=>?_) (v.filter _));obtain⟨x,c⟩:=xq.mp (yp.mp G).2;obtain⟨y,w⟩:=xq.mp (yp.mp g).2;rw[c,w] at e;have n:x=y:=e;have k:=F.gr.fs c;rw[n,F.gr.fs w] at k;show o (ym k).symm
  show xQ ?_ ?_
  .have:=qbP inj (m:=qds S ss) fun q p=>?_
   rwa[ya] at this
   obtain⟨b,g,rfl⟩:=Yq.mp p;obtain⟨h1,d⟩:=yp.mp g;obtain⟨x,c⟩:=xq.mp d;obtain⟨L,B,C⟩:=mem_bas.mp h1;obtain⟨r,H⟩:=some_of B;obtain⟨j,z,rz,t,_⟩:=F.fi.dwn b r x H C c;rw[c];have I:S.par x≠none:=by rw[t];show fun e=>by cases e
   show x∈qds S ss;show mem_bar.mpr ⟨F.inn _ _ (F.gr.as (F.gr.fa c)),I,j⟩
  .have:(qds S ss).length<=(((qbs S ss).filter fun b=>(f b).isSome).map fun b=>(f b).getD "").length:=qbP (F.nd.filter _) fun q p=>?_
   rwa[ya] at this
   obtain⟨M,J,K⟩:=mem_bar.mp p;obtain⟨z,hz⟩:=some_of J;obtain⟨_,_,y,r,j,t⟩:=F.fi.odd q z hz;have h:S.rows y≠none:=by rw[t];show fun e=>by cases e
   show Yq.mpr ⟨y,yp.mpr ⟨mem_bas.mpr ⟨F.es y h,h,Ys fun e=>?_⟩,by rw[F.gr.fs j];rfl⟩,by rw[F.gr.fs j];rfl⟩;obtain⟨_,u,i,s⟩:=F.fi.mat y e;rw[F.gr.fs j] at i;cases i;show F.fi.evE h s K
 rw[D,E]
theorem Fn.most(F:Fn A f S ss)(m:Gr A g):(snL f ss).length<=(ss.filter fun u=>!(g u).isSome&&(S.rows u).isSome).length:=by
 have n:∀ b∈qbs S ss,∃ v∈qcJ S ss b,g v=none\/∃ w,g v=some w/\w∈qds S ss:=fun b l=>Ys fun r=>by
  have D:=F.cls_odd l
  have:=qeg (g:=g) _ (X:=qcJ S ss b) (yh _) (F.nd.filter _) fun v hv=>by
   obtain⟨E,t,G⟩:=mem_cls.mp hv
   cases e:g v with
   | none=>show absurd ⟨v,hv,.inl e⟩ r
   | some w =>
    have hw:=m.as (m.fa e);rcases F.cl v w t (m.fa e) with z | ⟨z1,z2⟩
    .have s:=F.fi.evE t z;show⟨w,mem_cls.mpr ⟨F.es w s,s,z.trans G⟩,rfl,Ye (m.ir (m.fa e)),m.fs e⟩
    .show absurd ⟨v,hv,.inr ⟨w,e,mem_bar.mpr ⟨F.inn _ _ hw,z1,z2⟩⟩⟩ r
  lk
 obtain⟨j,i⟩:∃ j:Str->Str,∀ b∈qbs S ss,j b∈qcJ S ss b/\(g (j b)=none\/∃ w,g (j b)=some w/\w∈qds S ss):=
  ⟨fun b=>@dite _ (b∈qbs S ss) (Classical.propDecidable _) (fun h=>(n b h).choose) fun _=>b,fun b l=>by
   dsimp only;rw[dif_pos l];show⟨(n b l).choose_spec.1,(n b l).choose_spec.2⟩⟩
 have inj:∀ a∈qbs S ss,∀ b∈qbs S ss,j a=j b->a=b:=fun a o b l e=>by
  have h1:=(mem_cls.mp (i a o).1).2.2;have H:=(mem_cls.mp (i b l).1).2.2;rw[<- h1,<- H,e]
 have l:(qbs S ss).Nodup:=F.nd.filter _
 have B:(qbs S ss).length<=((ss.filter fun u=>!(g u).isSome&&(S.rows u).isSome)++qds S ss).length:=by
  rw[<- ya (f:=fun b=>(g (j b)).getD (j b))];show qbP (Xq.mpr (Y1 (fun{a b} o d q e=>?_) l)) fun x I=>?_
  .have C:∀ c∈qbs S ss,S.rows (j c)≠none:=fun c hc=>(mem_cls.mp (i c hc).1).2.1;rcases(i a o).2 with z | ⟨w,z,hw⟩<;>rcases(i b d).2 with y | ⟨u,y,hu⟩
   .rw [z,y] at e;show q (inj a o b d e)
   .rw [z,y] at e;have p:j a=u:=e;show C a o (by rw[p];show(mem_bar.mp hu).2.2)
   .rw [z,y] at e;have p:w=j b:=e;show C b d (by rw[<- p];show(mem_bar.mp hw).2.2)
   .rw [z,y] at e;have p:w=u:=e;have k:=m.fs z;rw[p,m.fs y] at k;show q (inj a o b d (ym k).symm)
  .obtain⟨b,d,rfl⟩:=Yq.mp I;obtain⟨E,t,G⟩:=mem_cls.mp (i b d).1;rcases(i b d).2 with z | ⟨w,z,hw⟩
   .rw [z];show yF _ (yp.mpr ⟨E,by show(!(g (j b)).isSome&&(S.rows (j b)).isSome)=true;rw[z,isS.mpr t];rfl⟩)
   .rw [z];show yN _ hw
 rw[F.count,yu] at B;lk
end
theorem qco:∀{qs:LP},pt qs s=some t->(s,t)∈qs\/(t,s)∈qs
 | [],h=>by cases h
 | q::r,h=>by
  unfold pt at h;split at h
  .rename_i e;cases h;show .inl (by rw[<- e];simp)
  .split at h
   .rename_i e;cases h;show .inr (by rw[<- e];simp)
   .rcases qco h with z | z
    .show .inl (yB _ z)
    .show .inr (yB _ z)
theorem qdp:∀{qs:LP},(qj qs).Nodup->∀{a b:Str},(a,b)∈qs\/(b,a)∈qs->pt qs a=some b
 | [],_,a,b,m=>by rcases m with z | z<;>cases z
 | q::r,h,a,b,m=>by
  have f:(q.1::q.2::qj r).Nodup:=h;obtain⟨i,n⟩:=yo.mp f;obtain⟨o,p⟩:=yo.mp n;have inr:∀{x y:Str},(x,y)∈r->x∈qj r/\y∈qj r:=fun d=>⟨YS.mpr ⟨_,d,by simp⟩,YS.mpr ⟨_,d,by simp⟩⟩;unfold pt
  have c:(a,b)∈r\/(b,a)∈r->(if q.1=a then some q.2 else if q.2=a then some q.1 else pt r a)=some b:=fun l=>by
   have j:a∈qj r:=l.elim (fun z=>(inr z).1) fun z=>(inr z).2;rw[yE (fun z=>i (by rw[z];show yB _ j)),yE (fun z=>o (by rw[z];show j))];show qdp p l
  rcases m with z | z
  .rcases yz.mp z with z | z
   .subst z;rw[yO rfl]
   .show c (.inl z)
  .rcases yz.mp z with z | z
   .subst z;have g:b≠a:=fun e=>i (by show b∈a::_;rw[e];show yR);rw[yE g,yO rfl]
   .show c (.inr z)
theorem qcp(h:(qj qs).Nodup):pt qs a=some b↔(a,b)∈qs\/(b,a)∈qs:=⟨qco,qdp h⟩
theorem zM(h:(qj qs).Nodup):pt qs a=some b↔pt qs b=some a:=by
 rw[qcp h,qcp h,Or.comm]
theorem qcK{x y:Option Str}(h:∀ b,x=some b↔y=some b):x=y:=by
 cases x with
 | none=>cases y with
  | none=>rfl
  | some b=>show absurd ((h b).mpr rfl) (fun z=>by cases z)
 | some a=>show((h a).mp rfl).symm
theorem uF:FnScope ["self","place","row"] ["self","place","row"] (qg jS):=fS
structure Fo where
 x:Addr
 b:Addr
 dp:Addr
 dr:Addr
 da:Addr
 ds:Addr
 dg:Addr
 dw:Addr
 ex:LQ
noncomputable def Fo.six(a:Fo):LQ:=[a.x,a.dr,a.da,a.ds,a.dg,a.dw]
noncomputable def Fo.all(a:Fo):LQ:=a.six++a.ex
noncomputable def Fo.tab(a:Fo)(lo:V):List (Str×V):=[("board",.ref a.b),("partners",.ref a.dp),("rows",.ref a.dr),("parents",.ref a.da),("bases",.ref a.ds),("rings",.ref a.dg),("waiting",.ref a.dw),("longer",lo)]
def Bx(l:LQ)(H H':Hp):Prop:=∀ c o,c∉l->H c=some o->H' c=some o
def RowV(H:Hp)(l:LQ)(o:Option V):Option (LS)->Prop
 | none=>o=none
 | some r=>∃ t,o=some (.ref t)/\H t=some (.lst (r.map V.str))/\t∉l
def FoO(cf:Addr)(H:Hp)(a:Fo)(lo:V):Prop:=∃ dx fs,H a.x=some (.ins cf dx fs)/\fs.length<=9/\(lo=.non->fs.length<=8)/\(∀ f v,(f,v)∈a.tab lo->fs.lookup f=some v)/\∀ f,f∉fAtt->fs.lookup f=none
structure FoA(cf cw:Addr)(H0 H:Hp)(a:Fo)(ss:LS)(ns:LN)(qs:LP)(S:FS)(bs dn wt:LS)(lo:V):Prop where
 sm:L2.Same H0 H
 web:WebAt cw H0 a.b ss ns
 prt:H0 a.dp=some (.dK (prK qs))
 fr:∀ c∈a.six,H0 c=none
 nd:[a.dr,a.da,a.ds,a.dg,a.dw].Nodup
 exf:∀ c∈a.ex,H0 c=none/\c∉a.six/\∃ o,H c=some o
 obj:FoO cf H a lo
 row:∃ kvs,H a.dr=some (.dK kvs)/\kvs.length<=(dn++wt).length/\∀ s,RowV H a.all (ze kvs (.inr s:Key)) (S.rows s)
 par:∃ kvs,H a.da=some (.dK kvs)/\(∃ po:LS,kvs.length<=po.length/\po.Nodup/\∀ u∈po,u∈ss/\S.par u≠none)/\∀ s,ze kvs (.inr s:Key)=(S.par s).map V.str
 bas:∃ kvs,H a.ds=some (.dK kvs)/\kvs.length<=bs.length/\∀ s∈bs,ze kvs (.inr s:Key)=some (.str (S.bas s))
 rng:∃ xs,H a.dg=some (.lst xs)/\xs.length<=(dn++wt).length
 wai:H a.dw=some (.lst (wt.map V.str))
 evn:(dn++wt).Nodup
 evi:∀ v,v∈dn++wt↔S.rows v≠none
 evs:∀ v∈dn++wt,v∈ss
theorem RowV.mono{l:LQ}{o:Option V}{r:Option (LS)}(h:RowV H l o r){m:LQ}(k:Bx m H H')(d:∀ c∈m,c∈l):RowV H' l o r:=by
 cases r with
 | none=>show h
 | some r=>obtain⟨t,h1,b,a⟩:=h;show⟨t,h1,k _ _ (fun z=>a (d _ z)) b,a⟩
theorem Fo.sub{a:Fo}:∀ c∈a.six,c∈a.all:=fun c h=>yF _ h
theorem Bx.of{l:LQ}(s:L2.Same H H'):Bx l H H':=fun c o _ e=>s c o e
theorem Bx.trans{l:LQ}{d:Hp}(a:Bx l H H')(b:Bx l H' d):Bx l H d:=fun c o n e=>b c o n (a c o n e)
section
variable{cf cw:Addr}{H0 H H':Hp}{a:Fo}{ss:LS}{ns:LN}{qs:LP}{S S':FS}{bs dn wt:LS}{lo:V}
theorem FoA.same(h:FoA cf cw H0 H a ss ns qs S bs dn wt lo)(s:L2.Same H H'):FoA cf cw H0 H' a ss ns qs S bs dn wt lo:=by
 obtain⟨dx,fs,h1,i⟩:=h.obj;obtain⟨j,r,r2,t⟩:=h.row;obtain⟨m,p,q⟩:=h.par;obtain⟨n,b,d⟩:=h.bas;obtain⟨xs,f,g⟩:=h.rng;show⟨h.sm.trans s,h.web,h.prt,h.fr,h.nd,fun c hc=>⟨(h.exf c hc).1,(h.exf c hc).2.1,(h.exf c hc).2.2.elim fun o e=>⟨o,s _ _ e⟩⟩,⟨dx,fs,s _ _ h1,i⟩,⟨j,s _ _ r,r2,fun z=>(t z).mono (Bx.of (l:=[]) s) (fun c h=>by cases h)⟩,⟨m,s _ _ p,q⟩,⟨n,s _ _ b,d⟩,⟨xs,s _ _ f,g⟩,s _ _ h.wai,h.evn,h.evi,h.evs⟩
theorem FoA.six(h:FoA cf cw H0 H a ss ns qs S bs dn wt lo):∀ c∈a.six,∃ o,H c=some o:=fun c hc=>by
 obtain⟨dx,fs,h1,_⟩:=h.obj;obtain⟨g,f,_⟩:=h.row;obtain⟨i,e,_⟩:=h.par;obtain⟨j,b,_⟩:=h.bas;obtain⟨xs,d,_⟩:=h.rng;simp only[Fo.six,yz,yW,YE] at hc;rcases hc with rfl | rfl | rfl | rfl | rfl | rfl
 .show⟨_,h1⟩
 .show⟨_,f⟩
 .show⟨_,e⟩
 .show⟨_,b⟩
 .show⟨_,d⟩
 .show⟨_,h.wai⟩
theorem FoA.new(h:FoA cf cw H0 H a ss ns qs S bs dn wt lo){c:Addr}(e:H c=none):c∉a.six:=fun z=>by
 obtain⟨o,k⟩:=h.six c z;rw[e] at k;cases k
theorem FoA.sep(h:FoA cf cw H0 H a ss ns qs S bs dn wt lo):a.six.Nodup:=by
 obtain⟨dx,fs,h1,_⟩:=h.obj;obtain⟨f,e,_⟩:=h.row;obtain⟨g,d,_⟩:=h.par;obtain⟨i,b,_⟩:=h.bas;obtain⟨xs,c,_⟩:=h.rng;show yo.mpr ⟨fun z=>?_,h.nd⟩;simp only[yz,yW,YE] at z;rcases z with z | z | z | z | z
 .rw [z,e] at h1;cases h1
 .rw [z,d] at h1;cases h1
 .rw [z,b] at h1;cases h1
 .rw [z,c] at h1;cases h1
 .rw [z,h.wai] at h1;cases h1
theorem FoO.eq(h:FoO cf H a lo)(e:H' a.x=H a.x):FoO cf H' a lo:=by
 obtain⟨dx,fs,h1,b⟩:=h;show⟨dx,fs,e.trans h1,b⟩
theorem Bx.upd{l:LQ}{c:Addr}(k:Bx l H H')(hc:c∈l):Bx l H (upd H' c o):=fun d u n e=>by
 rw[qf (fun z=>n (by rw[z];show hc))];show k d u n e
noncomputable def Fo.add(a:Fo)(c:Addr):Fo:={ a with ex:=c::a.ex }
theorem FoA.add(h:FoA cf cw H0 H a ss ns qs S bs dn wt lo){c:Addr}(e:H c=none):FoA cf cw H0 (upd H c o) (a.add c) ss ns qs S bs dn wt lo:=by
 have g:=h.same (qE (Sr H) (o:=o) e);obtain⟨f,q,r2,w⟩:=g.row;obtain⟨n,v,_,x⟩:=h.row
 have s:n=f:=by
  have:=qE (Sr H) (o:=o) e _ _ v;rw[q] at this;show(HO.dK.inj (ym this)).symm
 subst s;show⟨g.sm,g.web,g.prt,g.fr,g.nd,fun d hd=>?_,g.obj,⟨n,q,r2,fun z=>?_⟩,g.par,g.bas,g.rng,g.wai,g.evn,g.evi,g.evs⟩
 .rcases yz.mp hd with rfl | hd
  .show⟨h.sm.free e,h.new e,_,qb⟩
  .show g.exf d hd
 .have b:=w z;have j:=x z
  cases i:S.rows z with
  | none=>rw[i] at b;show b
  | some r =>
   rw[i] at b j;obtain⟨t,f,u,p⟩:=b;obtain⟨t',l,m,_⟩:=j;rw[f] at l;cases l;show⟨t,f,u,fun y=>?_⟩;rcases yw.mp y with y | y
   .show p (yF _ y)
   .rcases yz.mp y with y | y
    .rw [y,e] at m;cases m
    .show p (yN _ y)
theorem FoA.updE(h:FoA cf cw H0 H a ss ns qs S bs dn wt lo){c:Addr}(hc:c∈a.ex):FoA cf cw H0 (upd H c o) a ss ns qs S bs dn wt lo:=by
 obtain⟨l,p,_⟩:=h.exf c hc;have ne:∀{d:Addr},d∈a.six->upd H c o d=H d:=fun b=>qf fun z=>p (by rw[<- z];show b);obtain⟨q,w,r2,x⟩:=h.row;obtain⟨r,t,v⟩:=h.par;obtain⟨s,f,g⟩:=h.bas;obtain⟨xs,i,j⟩:=h.rng;show⟨qax h.sm l,h.web,h.prt,h.fr,h.nd,fun d b=>⟨(h.exf d b).1,(h.exf d b).2.1,by by_cases z:d=c;show⟨_,by rw[z,qb]⟩;rw[qf z];show(h.exf d b).2.2⟩,h.obj.eq (ne (by simp[Fo.six])),⟨q,(ne (by simp[Fo.six])).trans w,r2,fun z=>(x z).mono (m:=[c]) (fun d u n e=>by rw[qf (fun y=>n (by rw[y];simp))];show e) fun d b=>by rw[yD.mp b];show yN _ hc⟩,⟨r,(ne (by simp[Fo.six])).trans t,v⟩,⟨s,(ne (by simp[Fo.six])).trans f,g⟩,⟨xs,(ne (by simp[Fo.six])).trans i,j⟩,(ne (by simp[Fo.six])).trans h.wai,h.evn,h.evi,h.evs⟩
theorem FoA.drop(h:FoA cf cw H0 H a ss ns qs S bs dn wt lo){l:LQ}(f:∀ c∈l,c∈a.ex):FoA cf cw H0 H { a with ex:=l } ss ns qs S bs dn wt lo:=by
 obtain⟨d,j,r2,m⟩:=h.row;show⟨h.sm,h.web,h.prt,h.fr,h.nd,fun c hc=>h.exf c (f c hc),h.obj,⟨d,j,r2,fun z=>?_⟩,h.par,h.bas,h.rng,h.wai,h.evn,h.evi,h.evs⟩;have b:=m z
 cases e:S.rows z with
 | none=>rw[e] at b;show b
 | some r =>
  rw[e] at b;obtain⟨t,d,g,i⟩:=b;show⟨t,d,g,fun y=>i ((yw.mp y).elim (fun z=>yF _ z) fun z=>yN _ (f _ z))⟩
theorem FoA.newA(h:FoA cf cw H0 H a ss ns qs S bs dn wt lo){c:Addr}(e:H c=none):c∉a.all:=fun z=>by
 rcases yw.mp z with z | z
 .show h.new e z
 .obtain⟨o,k⟩:=(h.exf c z).2.2;rw[e] at k;cases k
theorem FoA.few(h:FoA cf cw H0 H a ss ns qs S bs dn wt lo):(dn++wt).length<=ss.length:=jw h.evn h.evs
end
noncomputable def FS.setRow(S:FS)(p:Str)(r:LS):FS:=⟨fun s=>if s=p then some r else S.rows s,S.par,S.bas⟩
inductive spRe(cc:Nat->Addr)(cw:Addr)(vs:List V)(H:Hp)(Q:VK)(E:XK):Prop|mk (H0:Hp) (a:Fo) (ss:LS) (ns:LN) (qs:LP) (S:FS) (bs dn wt:LS) (lo:V) (p:Str) (t:Addr) (r:LS) (_:vs=[.ref a.x,.str p,.ref t]) (_:FoA (cc 9) cw H0 H a ss ns qs S bs dn wt lo) (_:ss.length<=14) (_:H t=some (.lst (r.map V.str))) (_:t∉a.all) (_:p∈ss) (_:S.rows p=none) (_:∀ H',FoA (cc 9) cw H0 H' a ss ns qs (S.setRow p r) bs dn (wt++[p]) lo->Bx a.six H H'->(∀ o,H a.dg=some o->H' a.dg=some o)->Q .non H')
inductive spBd(cc:Nat->Addr)(cw:Addr)(vs:List V)(H:Hp)(Q:VK)(E:XK):Prop|mk (H0:Hp) (a:Fo) (ss:LS) (ns:LN) (qs:LP) (S:FS) (dn wt:LS) (lo:V) (p:Str) (r l:LS) (A:Str->Str->Prop) (_:vs=[.ref a.x,.str p]) (_:FoA (cc 9) cw H0 H a ss ns qs S ss dn wt lo) (_:ss.length<=14) (_:FI A (pt qs) S) (_:S.rows p=some r) (_:Ch (pt qs) S (S.bas p) l) (_:l.length<=14) (_:∀(t:Addr) (H':Hp),L2.Same H H'->H t=none->H' t=some (.lst (l.map V.str))->Q (.ref t) H')
section
variable{P:Program}{w:World}{K:W.Frag}{mg:Str->Option Value}{base:Heap}{cc:Nat->Addr}{cw:Addr}{H0 H:Hp}{a:Fo}{ss:LS}{ns:LN}{qs:LP}{S:FS}{bs dn wt:LS}{lo:V}
theorem FoO.rd{Q:VK}{f:Str}{v:V}(h:FoO (cc 9) H a lo)(T:Txt K mg cc cw)(i:Nat)(e:(a.tab lo)[i]?=some (f,v))(q:Q v H):FldR K f (.ref a.x) H Q:=by
 obtain⟨dx,fs,h1,_,_,b,_⟩:=h;show⟨a.x,cc 9,dx,fs,v,rfl,h1,T.fcl,T.fa f ?_,b f v (ye e),q⟩;have:((a.tab lo).map Prod.fst)[i]?=some f:=by rw[yd,e];rfl
 show ye (l:=fAtt) (i:=i) this
theorem FoO.me{m:Str}{k:Prop}(h:FoO (cc 9) H a lo)(c:m∉fAtt)(q:k):MeR (cc 9) m (.ref a.x) H k:=by
 obtain⟨dx,fs,h1,_,_,_,b⟩:=h;show⟨a.x,dx,fs,rfl,h1,b m c,q⟩
theorem ok_re(F:Fun K "reach" "Forest.reach" jS f fd)(T:Txt K mg cc cw):FnOk P w K mg base CX0 1 f fd ["self","place","row"] (spRe cc cw):=by
 show F.ok uF fun _ _ _ _ H vs Q E U h=>?_
 .obtain⟨H0,a,ss,ns,qs,S,bs,dn,wt,lo,p,t,r,rfl,h,R,W,d,s,m,q⟩:=h;have X:=jY U;have b:=h.few;have l:p∉dn++wt:=fun z=>(h.evi p).mp z m;show⟨_,(qc (j4 (pv 2) (zg (qC (K:=K) rfl (pv 0) rfl) (pv 1) (zi X)))
 (qe (qW (qbI (K:=K) rfl yU Yo Yp jg (qC (K:=K) rfl (pv 0) rfl) (qa (pv 1) qd))))),?_⟩
  ext;obtain⟨⟨n1,n2,n3,n4,n5⟩,⟨n6,n7,C,D⟩,⟨aa,ac,A⟩,⟨ad,B⟩,g⟩:=(by simpa [Fo.six] using h.sep:(¬a.x=a.dr/\¬a.x=a.da/\¬a.x=a.ds/\¬a.x=a.dg/\¬a.x=a.dw)/\(¬a.dr=a.da/\¬a.dr=a.ds/\¬a.dr=a.dg/\¬a.dr=a.dw)/\(¬a.da=a.ds/\¬a.da=a.dg/\¬a.da=a.dw)/\(¬a.ds=a.dg/\¬a.ds=a.dw)/\¬a.dg=a.dw);obtain⟨j,r1,r2,r3⟩:=h.row;obtain⟨Z,p1,p2,p3⟩:=h.par;obtain⟨ks,J,L,M⟩:=h.bas;obtain⟨xs,N,O⟩:=h.rng;show .inl (h.obj.rd T 2 rfl ?_);apply .inr ⟨a.dr,_,rfl,DPut.k (k:=Sum.inr p) r1 (by rw[YA];lk),?_⟩;have G:FoO (cc 9) (upd H a.dr (.dK (zA j (Sum.inr p) (.ref t)))) a lo:=h.obj.eq (qf n1);have I:upd H a.dr (.dK (zA j (Sum.inr p) (.ref t))) a.dw=some (.lst (wt.map V.str)):=by rw[qf (Ye D)];show h.wai
  apply .inl (G.rd T 6 rfl ?_);show⟨.inl ⟨rfl,_,.of I⟩,?_⟩;apply⟨a.dw,_,_,rfl,rfl,I,by rw[ya];show qh (by rw[yu] at b;lk),?_⟩;have u:∀{c:Addr} {o o':HO},c∉a.six->upd (upd H a.dr o) a.dw o' c=H c:=fun hc=>by rw[qf (fun z=>hc (by rw[z];simp[Fo.six])),qf (fun z=>hc (by rw[z];simp[Fo.six]))]
  have i:Bx a.six H (upd (upd H a.dr (.dK (zA j (Sum.inr p) (.ref t)))) a.dw (.lst (wt.map V.str++[.str p]))):=fun c o n e=>by rw[u n];show e
  show q _ ⟨qax (qax h.sm (h.fr _ (by simp[Fo.six]))) (h.fr _ (by simp[Fo.six])),h.web,h.prt,h.fr,h.nd,fun c hc=>⟨(h.exf c hc).1,(h.exf c hc).2.1,(h.exf c hc).2.2.elim fun o e=>⟨o,i _ _ (h.exf c hc).2.1 e⟩⟩,G.eq (qf n5),⟨_,by rw[qf D,qb],?_,fun z=>?_⟩,⟨Z,by rw[qf A,qf (Ye n6)];show p1,p2,p3⟩,⟨ks,by rw[qf B,qf (Ye n7)];show J,L,M⟩,⟨xs,by rw[qf g,qf (Ye C)];show N,?_⟩,by rw[qb,yy];rfl,?_,fun v=>?_,fun v hv=>?_⟩ i fun o e=>by(rw[qf g,qf (Ye C)];show e)
  .have:=jN j (Sum.inr p:Key) (.ref t);rw[<- y8,yu (bs:=[p])];show _<=_+1;lk
  .unfold FS.setRow;dsimp only;rw[qaX];by_cases e:z=p
   .subst e;rw[yO rfl,yO rfl];show⟨t,rfl,i _ _ (fun y=>d (Fo.sub _ y)) W,d⟩
   .rw [yE (fun y=>e (xR y)),yE e];show(r3 z).mono i Fo.sub
  .rw [<- y8,yu (bs:=[p])];show XW O
  .rw [<- y8];show y9.mpr ⟨h.evn,List.pairwise_singleton _ _,fun x u y Y e=>l (by rw[<- yD.mp Y,<- e];show u)⟩
  .rw [<- y8,yw,yD,h.evi];unfold FS.setRow;dsimp only;by_cases e:v=p
   .subst e;rw[yO rfl];show⟨(fun _ z=>by cases z),fun _=>.inr rfl⟩
   .rw [yE e];show⟨fun z=>z.resolve_right e,.inl⟩
  .rw [<- y8] at hv;rcases yw.mp hv with z | z
   .show h.evs v z
   .rw [yD.mp z];show s
end
theorem Kp:FnScope ["self","place","bases","below"] ["self","place"] (qg qQ):=fS
theorem atI_last{xs:LS}:atI ((xs++[c]).map V.str) (-1)=some (.str c):=by
 have e:ixN ((xs++[c]).map V.str).length (-1)=some xs.length:=by
  unfold ixN;rw[yE (by lk),yO (by rw[ya,yu];simp;lk)]
  congr 1
  rw[ya,yu];simp only[yA,xB];lk
 unfold atI;rw[e];show((xs++[c]).map V.str)[xs.length]?=_;rw[yd,yC (yh _),X0];rfl
theorem Ch.cases'{f:Str->Option Str}{t:LS}(h:Ch f S b (b::t)):(f b=none/\t=[])\/∃ q z,f b=some q/\S.par q=some z/\Ch f S (S.bas z) t:=by
 generalize e:b::t=l at h
 cases h with
 | root h=>cases e;show .inl ⟨h,rfl⟩
 | step h1 h2 h3=>cases e;show .inr ⟨_,_,h1,h2,h3⟩
theorem in_prK{d:Addr}{Q:VK}(a:H d=some (.dK (prK qs)))(q:Q (.bl (pt qs s).isSome) H):qef K false (.str s) (.ref d) H Q:=by
 show .inr (.inl ⟨d,_,rfl,DGet.k (k:=Sum.inr s) a,?_⟩);rw[jP,yE (by decide),Xo];show q
theorem qea{d:Addr}{v:V}{Q:VK}(a:H d=some (.dK kvs))(e:ze kvs (.inr s:Key)=some v)(q:Q v H):qfj K (.ref d) (.str s) H Q:=.inr ⟨d,v,rfl,by rw[<- e];show DGet.k (k:=Sum.inr s) a,q⟩
theorem ok_bd(F:Fun K "bases_down_from" "Forest.bases_down_from" qQ f fd)(T:Txt K mg cc cw):FnOk P w K mg base CX0 1 f fd ["self","place"] (spBd cc cw):=by
 show F.ok Kp fun _ _ _ _ H vs Q E hr h=>?_
 .obtain⟨H0,a,ss,ns,qs,S,dn,wt,lo,p,r,l,B,rfl,h,ad,I,hp,y,aa,q⟩:=h;have n:=jY hr;show⟨_,(qc (qq (i:=2) Kp.nd rfl (yQ rfl) (qR (qa (qx (qy (K:=K) rfl n) (qC (K:=K) rfl (pv 0) rfl) (pv 1) (fun _ _=>rfl)) qd)))
 (qc (qay y0 (qk (zT (K:=K) rfl n) (qx (qy (K:=K) rfl n) (pv 2) (qba zQ qi) (fun _ _=>rfl)) (qC (K:=K) rfl (pv 0) rfl) (by with_unfolding_all rfl))
 (qc (qq (i:=3) Kp.nd rfl (yQ rfl) (qx (qy (K:=K) rfl n) (qC (K:=K) rfl (pv 0) rfl) (qx (qy (K:=K) rfl n) (qC (K:=K) rfl (pv 0) rfl) (qx (qy (K:=K) rfl n) (pv 2) (qba zQ qi) (fun _ _=>rfl)) (fun _ _=>rfl)) (fun _ _=>rfl)))
 (qe (qW (qbI (K:=K) rfl yU Yo Yp jg (pv 2) (qa (qx (qy (K:=K) rfl n) (qC (K:=K) rfl (pv 0) rfl) (pv 3) (fun _ _=>rfl)) qd))))))
 (qe (qo (pv 2))))),?_⟩
  have u:∀{v:Str} {r:LS},S.rows v=some r->v∈ss:=fun e=>h.evs _ ((h.evi _).mpr (by rw[e];show fun z=>by cases z));obtain⟨ks,b1,b2,b3⟩:=h.bas;apply .inl (h.obj.rd T 4 rfl ?_);apply qea b1 (b3 p (u hp)) ?_;apply⟨by show 1<=sizeLine;decide,fun bl j=>?_⟩;have s1:=qE (Sr H) (o:=.lst [.str (S.bas p)]) j;have e1:upd H bl (.lst [.str (S.bas p)]) bl=some (.lst (([]++[S.bas p]).map V.str)):=qb;generalize upd H bl (.lst [.str (S.bas p)])=H1 at s1 e1;ext;obtain⟨W,g⟩:∃ W:Nat->L2.St->Hp->Prop,W=fun m σ J=>∃(l1 l2:LS) (c:Str) (y3:Option V),l=l1++c::l2/\σ=[some (.ref a.x),some (.str p),some (.ref bl),y3]/\L2.Same H J/\J bl=some (.lst ((l1++[c]).map V.str))/\m=l2.length:=⟨_,rfl⟩;obtain⟨t0,R⟩:=y.ne;show⟨W,⟨t0.length,by rw[g];show⟨[],t0,_,_,R,rfl,s1,e1,rfl⟩⟩,fun m σ J hW=>?_⟩;rw[g] at hW;obtain⟨l1,l2,c,y3,M,rfl,sJ,s,hm⟩:=hW;obtain⟨rc,_,Y,U,A,_⟩:=y.up I hp rfl M;have d:=h.same sJ;have D:=d.sm _ _ h.prt;apply⟨1,rfl,?_⟩;show .inl (qau s (v:=.str c) atI_last ?_);apply .inl (d.obj.rd T 1 rfl ?_);show in_prK D ?_;rcases A.cases' with⟨C,rfl⟩ | ⟨q',z,C,G,X⟩
  .rw [C];show⟨_,rfl,qI (fun h=>by cases h) fun _=>?_⟩;apply q bl J sJ j (by rw[M];show s)
  .rw [C];show⟨_,rfl,zr ⟨fun L H'=>∃ m',m'<m/\W m' L H',fun L H' z=>z,?_⟩⟩;obtain⟨_,z',rz,b,Z,_⟩:=I.dwn c rc q' Y U C;rw[G] at b;cases b;obtain⟨ka,p1,p2,p3⟩:=d.par;obtain⟨ae,N,ac,O⟩:=d.bas;apply .inl (d.obj.rd T 3 rfl ?_);apply .inl (d.obj.rd T 1 rfl ?_);apply⟨1,rfl,?_⟩;show .inl (qau s (v:=.str c) atI_last ?_);show qea D (by rw[jP,C];rfl) ?_;show qea p1 (by rw[p3,G];rfl) ?_;apply⟨.inl ⟨rfl,_,.of s⟩,?_⟩;apply .inl (d.obj.rd T 4 rfl ?_);apply qea N (O z (u Z)) ?_;apply⟨bl,_,_,rfl,rfl,s,by rw[ya];show qh (by have:=congrArg List.length M;rw[yu,yA] at this;rw[yu];simp only[yA,xB];lk),?_⟩;obtain⟨t1,t⟩:=X.ne;rw[g];show⟨t1.length,by rw[hm,t];simp,l1++[c],t1,S.bas z,_,by rw[M,t];simp,rfl,qax sJ j,by rw[qb,yy (l₁:=l1++[c])];rfl,rfl⟩
theorem Km:FnScope ["self","one","other","bases","side","base","place","row"] ["self","one","other","bases"] (qg qY):=fS
structure RR(f:Str->Option Str)(S S':FS)(v w:Str)(cs:LS):Prop where
 par:S'.par=S.par
 bas:S'.bas=S.bas
 old:∀ u r,S.rows u=some r->S'.rows u=some r
 new:∀ u r,S'.rows u=some r->S.rows u=some r\/∃ c∈cs,f c=some u/\NewRow S v w u r
 all:∀ c∈cs,∀ q,f c=some q->∃ r,S'.rows q=some r
noncomputable def pq(qs:LP)(c:Str):Str:=(pt qs c).getD ""
inductive spRr(cc:Nat->Addr)(cw:Addr)(vs:List V)(H:Hp)(Q:VK)(E:XK):Prop|mk (H0:Hp) (a:Fo) (ss:LS) (ns:LN) (qs:LP) (S:FS) (dn wt:LS) (lo:V) (v w:Str) (lb:Addr) (cs rv rw:LS) (_:vs=[.ref a.x,.str v,.str w,.ref lb]) (_:FoA (cc 9) cw H0 H a ss ns qs S ss dn wt lo) (_:ss.length<=14) (_:H lb=some (.lst (cs.map V.str))) (_:lb∉a.six) (_:S.rows v=some rv) (_:S.rows w=some rw) (_:rv.length<=14) (_:rw.length<=14) (_:rv.Nodup) (_:cs.Nodup) (_:cs.length<=14) (_:(qj qs).Nodup) (_:(∀ c∈cs,∃ q rz t,pt qs c=some q/\S.rows q=none/\q∈ss/\rv=rz++q::t)) (_:∀(t:Addr) (sd more:LS) (H':Hp) (S':FS),FoA (cc 9) cw H0 H' (a.add t) ss ns qs S' ss dn (wt++more) lo->Bx a.six H H'->H t=none->H' t=some (.lst (sd.map V.str))->(∀ u,u∈sd↔∃ c∈cs,u=c\/pt qs c=some u)->sd.length=2*cs.length->more=cs.map (pq qs)->RR (pt qs) S S' v w cs->(∀ o,H a.dg=some o->H' a.dg=some o)->Q (.ref t) H')
theorem qcL{t:LS}{q:Str}(a:(rz++q::t).Nodup):(rz++q::t).idxOf q=rz.length:=by
 show qdO a (by rw[yC (yh _),X0];rfl)
theorem qeh{a b:Addr}{Q:VK}(c:G a=some (.lst xs))(d:G b=some (.lst ys))(hl:xs.length+ys.length<=1000)(q:∀ p,G p=none->Q (.ref p) (upd G p (.lst (xs++ys)))):qdm K (.ref a) (.ref b) G Q:=.inl ⟨a,b,_,_,rfl,rfl,c,d,yi hl (by decide),q⟩
theorem ok_rr(F:Fun K "reach_round" "Forest.reach_round" qY f fd)(T:Txt K mg cc cw)(Kr:MethOk P w K mg base CX0 1 (cc 9) "reach" ["self","place","row"] (spRe cc cw)):FnOk P w K mg base CX0 2 f fd ["self","one","other","bases"] (spRr cc cw):=by
 show F.ok Km fun _ _ _ _ H vs Q E hr h=>?_
 .obtain⟨H0,a,ss,ns,qs,S,dn,wt,lo,v,w,lb,O,rv,b,rfl,h,ap,I,az,hv,hw,bc,bj,ak,aw,bg,aj,ax,q⟩:=h;have hu:=jY hr;show⟨_,(qc (qq (i:=4) Km.nd rfl (yQ rfl) (qR qd))
 (qc (jq y0 rfl (qM (K:=K) rfl (pv 3)) (qr (i:=5) Km.nd rfl (yQ rfl))
 (qc (qq (i:=6) Km.nd rfl (yQ rfl) (qx (qy (K:=K) rfl hu) (qC (K:=K) rfl (pv 0) rfl) (pv 5) (fun _ _=>rfl)))
 (qc (qq (i:=7) Km.nd rfl (yQ rfl) (qx (qy (K:=K) rfl hu) (qC (K:=K) rfl (pv 0) rfl) (pv 1) (fun _ _=>rfl)))
 (qc (qW (qK Kr (hmR hr) (pv 0) (qa (pv 6) (qa (qG (jU (K:=K) rfl) (qx (qy (K:=K) rfl hu) (qC (K:=K) rfl (pv 0) rfl) (pv 2) (fun _ _=>rfl)) (qeu (K:=K) rfl (jx (qdr (K:=K) rfl) (pv 7) (jp (qbI (K:=K) rfl yU Xe XJ (qcD (K:=K) rfl) (pv 7) (qa (pv 6) qd))) jZ) (jp (qba zQ qi)))) qd))))
 (qe (qW (qbI (K:=K) rfl yU XE XF qaP (pv 4) (qa (qR (qa (pv 5) (qa (pv 6) qd))) qd))))))))
 (qe (qo (pv 4))))),?_⟩
  apply⟨by show 0<=sizeLine;decide,fun g p=>?_⟩;have s1:=qE (Sr H) (o:=.lst []) p;have h1:=h.add (o:=.lst []) p;have Y:upd H g (.lst []) g=some (.lst (([]:LS).map V.str)):=qb;have bm:lb≠g:=fun z=>by rw[z,p] at I;cases I
  generalize upd H g (.lst [])=H1 at s1 h1 Y;ext;obtain⟨LI,A⟩:∃ LI:Nat->L2.St->Hp->Prop,LI=fun i σ J=>∃(S':FS) (more G:LS) (y5 y6 y7:Option V),σ=[some (.ref a.x),some (.str v),some (.str w),some (.ref lb),some (.ref g),y5,y6,y7]/\FoA (cc 9) cw H0 J (a.add g) ss ns qs S' ss dn (wt++more) lo/\Bx a.six H J/\J g=some (.lst (G.map V.str))/\(∀ u,u∈G↔∃ c∈O.take i,u=c\/pt qs c=some u)/\G.length=2*i/\more=(O.take i).map (pq qs)/\RR (pt qs) S S' v w (O.take i)/\∀ o,H a.dg=some o->J a.dg=some o:=⟨_,rfl⟩;show .inl ⟨⟨_,.of (s1 _ _ I)⟩,jc (xs:=O.map V.str) LI (by rw[A];show⟨S,[],[],_,_,_,rfl,by rw[Yb];show h1,Bx.of s1,Y,fun u=>by simp,rfl,rfl,⟨rfl,rfl,fun _ _ e=>e,fun _ _ e=>.inl e,fun c hc=>by simp at hc⟩,fun o e=>s1 _ _ e⟩) (fun i σ J _ R=>?_) (fun i y σ J hy R=>?_) fun σ J R=>?_⟩
  .rw [A] at R;obtain⟨S',more,G,y5,y6,y7,rfl,s,W,_⟩:=R;show .of (W _ _ az I)
  .rw [A] at R;obtain⟨S',more,G,y5,y6,y7,rfl,s,W,eJ,M,l,L,D,U⟩:=R;rw[yd] at hy;obtain⟨c,hc,rfl⟩:=yn.mp hy;have av:=ye hc;obtain⟨z,rz,t,hz,al,bf,m⟩:=ax c av;have bh:i<O.length:=(yc.mp hc).1;have C:O.take (i+1)=O.take i++[c]:=by rw[yG,hc];rfl
   have ba:=s.sm _ _ h.prt;obtain⟨kr,r1,r2,r3⟩:=s.row
   have rowOf:∀{u:Str} {r:LS},S.rows u=some r->∃ t,ze kr (.inr u:Key)=some (.ref t)/\J t=some (.lst (r.map V.str)):=fun{u r} e=>by
    have:=r3 u;rw[D.old u r e] at this;obtain⟨t,k1,k2,_⟩:=this;show⟨t,k1,k2⟩
   obtain⟨tv,kv,ev⟩:=rowOf hv;obtain⟨tw,kw,ew⟩:=rowOf hw;apply .inl (s.obj.rd T 1 rfl ?_);apply qea ba (by rw[jP,hz];rfl) ?_;apply .inl (s.obj.rd T 2 rfl ?_);apply qea r1 kv ?_;ext;obtain⟨dx,fs,bd,_,_,_,be⟩:=id s.obj;show⟨a.x,dx,fs,rfl,bd,be _ (by room),?_⟩;apply .inl (s.obj.rd T 2 rfl ?_);apply qea r1 kw ?_;apply qf7 ?_;apply⟨.inl ⟨rfl,_,.of ev⟩,?_⟩;apply⟨tv,rv,z,rfl,rfl,.of ev,by rw[m];simp,_,rfl,?_⟩;rw[m] at ak;have ao:rv.idxOf z=rz.length:=by rw[m];show qcL ak
   rw[ao];apply .inl ⟨tv,_,rfl,.of ev,fun c1 ar=>?_⟩;have af:qcV (rv.map V.str) (some ((rz.length:Nat):Int)) none=(z::t).map V.str:=by rw[qbl,m,yy,List.drop_left' (by simp)]
   rw[af];have t1:=qE (Sr J) (o:=.lst ((z::t).map V.str)) ar;have aa:upd J c1 (.lst ((z::t).map V.str)) c1=some (.lst ((z::t).map V.str)):=qb;generalize upd J c1 (.lst ((z::t).map V.str))=J1 at t1 aa;apply⟨1,rfl,?_⟩;show⟨_,rfl,rfl,c1,_,rfl,.of aa,fun c2 as=>?_⟩;have t2:=qE t1 (o:=.lst ((z::t).map V.str).reverse) as;have ac:upd J1 c2 (.lst ((z::t).map V.str).reverse) c2=some (.lst ((z::t).reverse.map V.str)):=by rw[qb,List.map_reverse]
   generalize upd J1 c2 (.lst ((z::t).map V.str).reverse)=J2 at t2 ac;have bi:(z::t).length<=14:=by rw[m,yu] at bc;lk
   show qeh (t2 _ _ ew) ac (by rw[ya,ya,YB];lk) fun c3 ag=>?_;have aq:=s.same t2;have n3:=aq.newA ag;have t3:=qE t2 (o:=.lst (b.map V.str++(z::t).reverse.map V.str)) ag;have ad:upd J2 c3 (.lst (b.map V.str++(z::t).reverse.map V.str)) c3=some (.lst ((b++(z::t).reverse).map V.str)):=by rw[qb,yy]
   generalize upd J2 c3 (.lst (b.map V.str++(z::t).reverse.map V.str))=J3 at t3 ad
   have ah:c∉O.take i:=fun y=>by
    obtain⟨j,hj⟩:=yf y;have ay:=(yc.mp hj).1;rw[yH] at ay;rw[List.getElem?_take,yO (by lk)] at hj;have:=qv aw hj hc;lk
   have am:S'.rows z=none:=by
    cases e:S'.rows z with
    | none=>rfl
    | some r =>
     exfalso;rcases D.new z r e with y | ⟨N,B,y,_⟩
     .rw [al] at y;cases y
     .have Y:=(zM aj).mp y;rw[(zM aj).mp hz] at Y;rw[<- ym Y] at B;show ah B
   apply⟨H0,a.add g,ss,ns,qs,S',ss,dn,wt++more,lo,z,c3,b++(z::t).reverse,rfl,s.same t3,ap,ad,n3,bf,am,fun J4 h4 X ai=>?_⟩;have an:g∉a.six:=h.new p;have Z:J4 g=some (.lst (G.map V.str)):=X _ _ an (t3 _ _ eJ);apply⟨.inl ⟨rfl,_,.of Z⟩,?_⟩;apply⟨by show 2<=sizeLine;decide,fun c5 au=>?_⟩;have t5:=qE (Sr J4) (o:=.lst [.str c,.str z]) au;have ae:upd J4 c5 (.lst [.str c,.str z]) c5=some (.lst [.str c,.str z]):=qb;generalize upd J4 c5 (.lst [.str c,.str z])=J5 at t5 ae;have h5:=h4.same t5;apply⟨g,c5,_,_,rfl,rfl,t5 _ _ Z,ae,by rw[ya,YA];show _+2<=_;lk,?_⟩;have h6:=h5.updE (c:=g) (o:=.lst (G.map V.str++[.str c,.str z])) yR;rw[A];show⟨S'.setRow z (b++(z::t).reverse),more++[z],G++[c,z],_,_,_,rfl,by rw[<- y8 wt];show h6,?_,by rw[qb,yy];rfl,fun u=>?_,by rw[yu,l];show _+2=_;lk,by rw[L,C,yy];unfold pq;simp[hz],⟨D.par,D.bas,fun u r e=>?_,fun u r e=>?_,fun N B q' e=>?_⟩,fun o e=>?_⟩
   .show fun d o n e=>by
     have ne:d≠g:=fun y=>by rw[y,p] at e;cases e
     rw[qf ne];show t5 _ _ (X _ _ n (t3 _ _ (W _ _ n e)))
   .rw [C,yw,M];simp only[yw,yz,yW,YE];constructor
    .rintro (⟨N,h1,h2⟩ | rfl | rfl)
     .show⟨N,.inl h1,h2⟩
     .show⟨u,.inr rfl,.inl rfl⟩
     .show⟨c,.inr rfl,.inr hz⟩
    .rintro ⟨N,h1 | rfl,h2⟩
     .show .inl ⟨N,h1,h2⟩
     .rcases h2 with h2 | h2
      .show .inr (.inl h2)
      .rw [hz] at h2;show .inr (.inr (ym h2).symm)
   .show(if u=z then _ else S'.rows u)=_;rw[yE (fun y=>by rw[y,al] at e;cases e)];show D.old u r e
   .have e':(if u=z then some (b++(z::t).reverse) else S'.rows u)=some r:=e;by_cases y:u=z
    .subst y;rw[yO rfl] at e';show .inr ⟨c,by rw[C];simp,hz,rv,b,rz,t,hv,hw,m,(ym e').symm⟩
    .rw [yE y] at e';rcases D.new u r e' with x | ⟨N,h1,h2⟩
     .show .inl x
     .show .inr ⟨N,by rw[C];show yF _ h1,h2⟩
   .show ∃ r,(if q'=z then some (b++(z::t).reverse) else S'.rows q')=some r;by_cases y:q'=z
    .rw [yO y];show⟨_,rfl⟩
    .rw [yE y];rw[C] at B;rcases yw.mp B with x | x
     .show D.all N x q' e
     .rw [yD.mp x,hz] at e;show absurd (ym e).symm y
   .have ne:a.dg≠g:=fun y=>an (by rw[<- y];simp[Fo.six]);rw[qf ne];show t5 _ _ (ai o (t3 _ _ (U o e)))
  .rw [A] at R;obtain⟨S',more,G,y5,y6,y7,rfl,s,W,eJ,M,l,L,D,U⟩:=R;rw[ya] at l;rw[ya,yP] at M D L;apply q g G more J S' s W p eJ M l L D U
theorem KN:FnScope ["self","ring","meeting","within","place"] ["self","ring","meeting"] (qg jJ):=fS
noncomputable def FS.setBas(S:FS)(l:LS)(m:Str):FS:=⟨S.rows,S.par,fun u=>if u∈l then m else S.bas u⟩
noncomputable def wnL(S:FS)(ss a:LS)(m:Str):LS:=ss.filter fun u=>decide (S.bas u∈a++[m])
inductive spFd(cc:Nat->Addr)(cw:Addr)(vs:List V)(H:Hp)(Q:VK)(E:XK):Prop|mk (H0:Hp) (a:Fo) (ss:LS) (ns:LN) (qs:LP) (S:FS) (dn wt:LS) (lo:V) (lr:Addr) (rg:LS) (m:Str) (xs:List V) (_:vs=[.ref a.x,.ref lr,.str m]) (_:FoA (cc 9) cw H0 H a ss ns qs S ss dn wt lo) (_:ss.length<=14) (_:H lr=some (.lst (rg.map V.str))) (_:lr∉a.six) (_:rg.length<=100) (_:H a.dg=some (.lst xs)) (_:xs.length<(dn++wt).length) (_:∀ H',FoA (cc 9) cw H0 H' a ss ns qs (S.setBas (wnL S ss rg m) m) ss dn wt lo->Bx a.six H H'->Q .non H')
theorem put_len{k:Key}{v u:V}(h:ze kvs k=some u):(zA kvs k v).length=kvs.length:=by
 unfold zA;rw[qae,h];show ya _
theorem qdV{n:Addr}{Q:VK}(a:H n=some (.lst (ss.map V.str)))(q:Q (.bl (decide (z∈ss))) H):qef K false (.str z) (.ref n) H Q:=
 .inl ⟨n,_,rfl,.inl (.of a),rfl,YK.mpr fun x b=>by(obtain⟨s,_,rfl⟩:=Yq.mp b;rfl),by rw[yE (by decide),qaR];show q⟩
theorem FoA.setB{a:Fo}{wt:LS}{ks:List (Key×V)}{l:LS}{m:Str}(h:FoA (cc 9) cw H0 H a ss ns qs (S.setBas l m) ss dn wt lo)(t:H a.ds=some (.dK ks))(hz:z∈ss):FoA (cc 9) cw H0 (upd H a.ds (.dK (zA ks (Sum.inr z) (.str m)))) a ss ns qs (S.setBas (l++[z]) m) ss dn wt lo/\ks.length<=ss.length:=by
 obtain⟨A,K,r2,L⟩:=h.row;obtain⟨w,G,I,J⟩:=h.par;obtain⟨k,g,i,j⟩:=h.bas;obtain⟨xs,r,s⟩:=h.rng;rw[t] at g;cases g;obtain⟨⟨M,N,E,O,P⟩,⟨R,F,T,U⟩,⟨b,B,C⟩,⟨d,f⟩,D⟩:=(by simpa [Fo.six] using h.sep:(¬a.x=a.dr/\¬a.x=a.da/\¬a.x=a.ds/\¬a.x=a.dg/\¬a.x=a.dw)/\(¬a.dr=a.da/\¬a.dr=a.ds/\¬a.dr=a.dg/\¬a.dr=a.dw)/\(¬a.da=a.ds/\¬a.da=a.dg/\¬a.da=a.dw)/\(¬a.ds=a.dg/\¬a.ds=a.dw)/\¬a.dg=a.dw);have p:Bx a.six H (upd H a.ds (.dK (zA ks (Sum.inr z) (.str m)))):=fun c o n e=>by rw[qf (fun y=>n (by rw[y];simp[Fo.six]))];show e
 show⟨⟨qax h.sm (h.fr _ (by simp[Fo.six])),h.web,h.prt,h.fr,h.nd,fun c hc=>⟨(h.exf c hc).1,(h.exf c hc).2.1,(h.exf c hc).2.2.elim fun o e=>⟨o,p _ _ (h.exf c hc).2.1 e⟩⟩,h.obj.eq (qf E),⟨A,by rw[qf F];show K,r2,fun y=>(L y).mono p Fo.sub⟩,⟨w,by rw[qf b];show G,I,J⟩,⟨_,qb,by rw[put_len (j z hz)];show i,fun u v=>?_⟩,⟨xs,by rw[qf (Ye d)];show r,s⟩,by rw[qf (Ye f)];show h.wai,h.evn,h.evi,h.evs⟩,i⟩;rw[qaX,j u v];show(if _ then _ else _)=some (V.str (if u∈l++[z] then m else S.bas u));have q:(S.setBas l m).bas u=if u∈l then m else S.bas u:=rfl;rw[q];by_cases e:u=z
 .subst e;rw[yO rfl,yO (by simp)]
 .rw [yE (fun x=>e (xR x))];by_cases y:u∈l
  .rw [yO y,yO (yF _ y)]
  .rw [yE y,yE (fun x=>(yw.mp x).elim y fun x=>e (yD.mp x))]
theorem FoA.updG{a:Fo}{bs wt:LS}(h:FoA (cc 9) cw H0 H a ss ns qs S bs dn wt lo)(m:xs.length<=(dn++wt).length):FoA (cc 9) cw H0 (upd H a.dg (.lst xs)) a ss ns qs S bs dn wt lo:=by
 obtain⟨p,A,r2,B⟩:=h.row;obtain⟨n,v,w,z⟩:=h.par;obtain⟨k,i,j,l⟩:=h.bas;obtain⟨⟨C,D,E,t,F⟩,⟨G,I,u,J⟩,⟨q,b,r⟩,⟨d,s⟩,f⟩:=(by simpa [Fo.six] using h.sep:(¬a.x=a.dr/\¬a.x=a.da/\¬a.x=a.ds/\¬a.x=a.dg/\¬a.x=a.dw)/\(¬a.dr=a.da/\¬a.dr=a.ds/\¬a.dr=a.dg/\¬a.dr=a.dw)/\(¬a.da=a.ds/\¬a.da=a.dg/\¬a.da=a.dw)/\(¬a.ds=a.dg/\¬a.ds=a.dw)/\¬a.dg=a.dw);have g:Bx a.six H (upd H a.dg (.lst xs)):=(Bx.of (Sr H)).upd (by simp[Fo.six]);show⟨qax h.sm (h.fr _ (by simp[Fo.six])),h.web,h.prt,h.fr,h.nd,fun c hc=>⟨(h.exf c hc).1,(h.exf c hc).2.1,(h.exf c hc).2.2.elim fun o e=>⟨o,g _ _ (h.exf c hc).2.1 e⟩⟩,h.obj.eq (qf t),⟨p,by rw[qf u];show A,r2,fun y=>(B y).mono g Fo.sub⟩,⟨n,by rw[qf b];show v,w,z⟩,⟨k,by rw[qf d];show i,j,l⟩,⟨xs,qb,m⟩,by rw[qf (Ye f)];show h.wai,h.evn,h.evi,h.evs⟩
theorem ok_fdF(F:Fun K "fold" "Forest.fold" jJ f fd)(T:Txt K mg cc cw)(Kx:MethOk P w K mg base CX0 1 cw "places" ["self"] (spPls cw)):FnOk P w K mg base CX0 2 f fd ["self","ring","meeting"] (spFd cc cw):=by
 show F.ok KN fun _ _ _ _ H vs Q E hr h=>?_
 .obtain⟨H0,a,ss,ns,qs,S,dn,wt,lo,lr,d,m,xs,rfl,h,an,af,aq,ar,ad,as,q⟩:=h;have B:=jY hr;show⟨_,(qc (zS (sc:=qg jJ) (XN:=["self","ring","meeting","within","place"]) ["place","ring","self","meeting"] 1 [1,0,2] rfl rfl rfl (by room) rfl (by room) (i:=3) KN.nd rfl rfl
  (qM (K:=K) rfl (jG Kx (hmR hr) (qC (K:=K) rfl (pv 0) rfl))) (fun _ _ _ _=>(qr (i:=0) (show(["place","ring","self","meeting"]:LS).Nodup by room) rfl (yQ rfl))) qP
  (fun _ _ _ _=>(qU (qk (zT (K:=K) rfl B) (qx (qy (K:=K) rfl B) (qC (K:=K) rfl (pv 2) rfl) (pv 0) (fun _ _=>rfl)) (qG (jU (K:=K) rfl) (pv 1) (qR (qa (pv 3) qd))) (by with_unfolding_all rfl))))
  (fun _ _ _ _=>(pv 0)))
 (qc (jq y0 rfl (qM (K:=K) rfl (pv 3)) (qr (i:=4) KN.nd rfl (yQ rfl))
 (qe (j4 (pv 2) (zg (qC (K:=K) rfl (pv 0) rfl) (pv 4) (zi B)))))
 (qe (qW (qbI (K:=K) rfl yU Yo Yp jg (qC (K:=K) rfl (pv 0) rfl) (qa (pv 3) qd)))))),?_⟩
  have al:=h.few;have A:=h.web.same h.sm;obtain⟨wx,dd,ol,nn,hb,_⟩:=id A;apply .inl (h.obj.rd T 0 rfl ?_);show⟨a.b,wx,_,rfl,hb,zY (by room),?_⟩;apply⟨a.b,ss,ns,rfl,A,fun pl ag=>?_⟩;have s1:=qE (Sr H) (o:=.lst (ss.map V.str)) ag;have Y:upd H pl (.lst (ss.map V.str)) pl=some (.lst (ss.map V.str)):=qb;generalize upd H pl (.lst (ss.map V.str))=H1 at s1 Y;show .inl ⟨⟨_,.of Y⟩,qD (xs:=ss.map V.str) (fun i ys J=>L2.Same H1 J/\ys=((ss.take i).filter fun u=>decide (S.bas u∈d++[m])).map V.str) ⟨L2.Same.refl H1,rfl⟩ (fun i ys J _ g=>.of (g.1 _ _ Y)) (fun i y ys J G g=>?_) fun ys J g=>?_⟩
  .obtain⟨I,rfl⟩:=g;rw[yd] at G;obtain⟨z,hz,rfl⟩:=yn.mp G;have j:=s1.trans I;have l:=h.same j;obtain⟨ks,N,b2,b3⟩:=l.bas;have ao:=(yc.mp hz).1
   have r:(ss.take (i+1)).filter (fun u=>decide (S.bas u∈d++[m]))=(ss.take i).filter (fun u=>decide (S.bas u∈d++[m]))++(if S.bas z∈d++[m] then [z] else []):=by
    rw[yG,hz,yX];show _++[z].filter _=_;rw[yS];simp only[kN,Yn]
   apply .inl (l.obj.rd T 4 rfl ?_);apply qea N (b3 z (ye hz)) ?_;apply⟨by show 1<=sizeLine;decide,fun W aa=>?_⟩;have t1:=qE (Sr J) (o:=.lst [.str m]) aa;have s:upd J W (.lst [.str m]) W=some (.lst [.str m]):=qb;generalize upd J W (.lst [.str m])=J1 at t1 s;show qeh ((j.trans t1) _ _ af) s (by rw[ya];show _+1<=_;lk) fun X ac=>?_;have t2:=qE t1 (o:=.lst (d.map V.str++[.str m])) ac;have t:upd J1 X (.lst (d.map V.str++[.str m])) X=some (.lst ((d++[m]).map V.str)):=by rw[qb,yy];rfl
   generalize upd J1 X (.lst (d.map V.str++[.str m]))=J2 at t2 t;show qdV t ⟨_,rfl,?_⟩;rw[r];by_cases p:S.bas z∈d++[m]
   .rw [yM p,yO p];show zr ?_;ext;have ae:=yJ (fun u=>decide (S.bas u∈d++[m])) (ss.take i);rw[yH] at ae;show⟨by rw[ya];show qh (by lk),I.trans t2,by rw[yy];rfl⟩
   .rw [yl p,yE p,Yb];show yq ?_;show⟨I.trans t2,rfl⟩
  .obtain⟨I,rfl⟩:=g;rw[show(ss.map V.str).length=ss.length from ya _,yP];have j:=s1.trans I;have ai:(ss.filter fun u=>decide (S.bas u∈d++[m])).length<=ss.length:=yJ _ _;show⟨by rw[ya];show yT (qh (by lk)),fun M C=>?_⟩;have O:=qE j (o:=.lst ((wnL S ss d m).map V.str)) C;have Z:upd J M (.lst ((wnL S ss d m).map V.str)) M=some (.lst ((wnL S ss d m).map V.str)):=qb;have am:(wnL S ss d m).length<=ss.length:=ai;have aj:∀ u∈wnL S ss d m,u∈ss:=fun u B=>(yp.mp B).1;show qfE _ _ _ _ (upd J M (.lst ((wnL S ss d m).map V.str)));generalize wnL S ss d m=L at *;have D:=(h.same j).new C;generalize upd J M (.lst (L.map V.str))=H2 at O Z;have h2:=h.same O;apply .inl ⟨⟨_,.of Z⟩,jc (xs:=L.map V.str) (fun i R J=>Bx a.six H2 J/\(∀ o,H2 a.dg=some o->J a.dg=some o)/\FoA (cc 9) cw H0 J a ss ns qs (S.setBas (L.take i) m) ss dn wt lo/\∃ y4,R=[some (.ref a.x),some (.ref lr),some (.str m),some (.ref M),y4]) ⟨fun c o _ e=>e,fun _ e=>e,?_,_,rfl⟩ (fun i R J _ g=>.of (g.1 _ _ D Z)) (fun i y R J G g=>?_) fun R J g=>?_⟩
   .have:S.setBas ([]:LS) m=S:=by unfold FS.setBas;simp
    rw[YO,this];show h2
   .obtain⟨U,hg,l,y4,rfl⟩:=g;rw[yd] at G;obtain⟨z,hz,rfl⟩:=yn.mp G;obtain⟨ks,N,b2,b3⟩:=l.bas;have ah:L.take (i+1)=L.take i++[z]:=by rw[yG,hz];rfl
    obtain⟨h3,ap⟩:=l.setB N (aj z (ye hz));apply .inl (l.obj.rd T 4 rfl ?_);apply .inr ⟨a.ds,_,rfl,DPut.k (k:=Sum.inr z) N (by rw[YA];lk),?_⟩;have ak:a.dg≠a.ds:=fun e=>by have:=h.nd;rw[e] at this;simp at this
    show⟨fun c o n e=>by rw[qf (fun y=>n (by rw[y];simp[Fo.six]))];show U c o n e,fun o e=>by rw[qf ak];show hg o e,by rw[ah];show h3,_,rfl⟩
   .obtain⟨U,hg,l,y4,rfl⟩:=g;rw[ya,yP] at l;have v:=hg _ (O _ _ ad);apply .inl (l.obj.rd T 5 rfl ?_);show⟨.inl ⟨rfl,_,.of v⟩,?_⟩;apply⟨a.dg,_,_,rfl,rfl,v,qh (by lk),?_⟩;show q _ (l.updG (by rw[yu];simp only[yA,xB];lk)) ((Bx.of O).trans U |>.upd (by simp[Fo.six]))
theorem Kj:FnScope ["self","one","other","ones","others","meeting","ring"] ["self","one","other"] (qg qJ):=fS
structure Mono(S S':FS):Prop where
 ba:∀ u v,S.bas u=S.bas v->S'.bas u=S'.bas v
 pa:∀ u,S.par u≠none->S'.par u≠none
 ro:∀ u r,S.rows u=some r->S'.rows u=some r
theorem Mono.refl(S:FS):Mono S S:=⟨fun _ _ e=>e,fun _ e=>e,fun _ _ e=>e⟩
theorem Mono.trans{c:FS}(a:Mono S S')(b:Mono S' c):Mono S c:=⟨fun u v e=>b.ba u v (a.ba u v e),fun u e=>b.pa u (a.pa u e),fun u r e=>b.ro u r (a.ro u r e)⟩
structure Wb(A:Str->Str->Prop)(ss:LS)(qs:LP):Prop where
 gr:Gr A (pt qs)
 inn:∀ a b,A a b->a∈ss
 qn:(qj qs).Nodup
 few:ss.length<=14
 nd:ss.Nodup
theorem Alt.inn(W:Wb A ss qs)(h:Alt A (pt qs) r v)(hv:v∈ss):r.length<=14/\∀ u∈r,u∈ss:=by
 have a:∀ u∈r,u∈ss:=fun u g=>by
  obtain⟨j,d⟩:=yf g;obtain⟨i,e⟩:=h.tl;by_cases hl:j+1<r.length
  .obtain⟨b,f⟩:∃ b,r[j+1]?=some b:=⟨_,yb hl⟩;show W.inn _ _ (h.st j u b d f).1
  .have c:=(yc.mp d).1;have:j=i.length:=by rw[e,yu] at c hl;simp at c hl;lk
   rw[e,this,yC (yh _),X0] at d;rw[<- ym d];show hv
 show⟨yi (jw h.nd a) W.few,a⟩
theorem qdd(l':LS):∀{l:LS},(∃ d∈l,d∈l')->∃ l1 m l2,l=l1++m::l2/\m∈l'/\(∀ d∈l1,d∉l')/\∃ t,l.filter (fun d=>decide (d∈l'))=m::t
 | [],⟨_,h,_⟩=>by cases h
 | x::r,h=>by
  by_cases b:x∈l'
  .show⟨[],x,r,rfl,b,(fun _ h=>by cases h),_,by rw[yS,yO (yM b)]⟩
  .obtain⟨d,i,a⟩:=h;obtain⟨l1,m,l2,c,e,f,t,g⟩:=qdd l' (l:=r) ⟨d,(yz.mp i).resolve_left (fun z=>b (by rw[<- z];show a)),a⟩;show⟨x::l1,m,l2,by rw[c];rfl,e,fun y hy=>?_,t,by rw[yS,yE (by simpa using b)];show g⟩;rcases yz.mp hy with rfl | hy
   .show b
   .show f y hy
def BtR(qs:LP)(ss:LS)(S:FS)(v w:Str)(S':FS)(more:LS):Prop:=∃ l l' rv rw,Ch (pt qs) S (S.bas v) l/\Ch (pt qs) S (S.bas w) l'/\S.rows v=some rv/\rv.Nodup/\S.rows w=some rw/\rw.Nodup/\l.getLast?=l'.getLast? /\
 ((S.bas v=S.bas w/\S'=S/\more=[])\/(S.bas v≠S.bas w/\∃ l1 m l2 m1 S1 S2 a,l=l1++m::l2/\(∀ d∈l1,d∉l')/\m∈l'/\l'=m1++m::l2/\m∉m1/\RR (pt qs) S S1 v w l1/\RR (pt qs) S1 S2 w v m1/\(∀ u,u∈a↔∃ c∈l1++m1,u=c\/pt qs c=some u)/\S'=S2.setBas (wnL S2 ss a m) m/\more=(l1++m1).map (pq qs)))
def BtL(qs:LP)(S:FS)(v w:Str)(r:LS):Prop:=∃ l l' rv rw,Ch (pt qs) S (S.bas v) l/\Ch (pt qs) S (S.bas w) l'/\l.getLast?≠l'.getLast?/\S.rows v=some rv/\S.rows w=some rw/\r=rv++rw.reverse
theorem RR.det{f:Str->Option Str}{w:Str}{b:LS}(hv:S.rows v=some rv)(j:rv.Nodup)(h:RR f S S1 v w b)(g:RR f S S2 v w b):S1=S2:=by
 have a:∀{S1 S2:FS},RR f S S1 v w b->RR f S S2 v w b->∀ u r,S1.rows u=some r->S2.rows u=some r:=fun{S1 S2} h g u r e=>by
  cases d:S.rows u with
  | some r0 =>
   have:=h.old u r0 d;rw[e] at this;rw[g.old u r0 d,this]
  | none =>
   rcases h.new u r e with z | ⟨c,hc,hu,rv1,rw1,rz,t,k1,k2,k3,k4⟩
   .rw [d] at z;cases z
   .obtain⟨q,i⟩:=g.all c hc u hu;rcases g.new u q i with z | ⟨c',_,_,rv2,rw2,rz',t',k1',k2',k3',k4'⟩
    .rw [d] at z;cases z
    .rw [hv] at k1 k1';cases k1;cases k1';rw[k2] at k2';cases k2';rw[k3] at j k3';obtain⟨_,p⟩:=qdU j k3';rw[i,k4',k4,p]
 have l:S1.rows=S2.rows:=by
  funext u
  cases e:S1.rows u with
  | some r=>show(a h g u r e).symm
  | none =>
   cases o:S2.rows u with
   | none=>rfl
   | some r=>rw[a g h u r o] at e;cases e
 obtain⟨s,y,B⟩:=S1;obtain⟨x,A,C⟩:=S2;have m:=h.par.trans g.par.symm;have n:=h.bas.trans g.bas.symm;dsimp only at l m n;rw[l,m,n]
theorem BtR.det{w:Str}(h:BtR qs ss S v w S1 m1)(g:BtR qs ss S v w S2 m2):S1=S2/\m1=m2:=by
 obtain⟨l,l',rv,af,T,U,r1,n1,r2,n2,_,h⟩:=h;obtain⟨k,k',ad,ae,W,X,aa,_,ac,_,_,g⟩:=g;have c:=T.one W;subst c;have t:=U.one X;subst t;have hl:k.Nodup->k'.Nodup->True:=fun _ _=>trivial;rcases h with⟨I,rfl,rfl⟩ | ⟨I,j,m,p,b1,T1,M,rg,Y,ed,em,Z,en,L,R2,J,rfl,rfl⟩
 .rcases g with⟨_,rfl,rfl⟩ | ⟨f,_⟩
  .show⟨rfl,rfl⟩
  .show absurd I f
 .rcases g with⟨f,_⟩ | ⟨_,a,n,b,R,N,O,K,A,C,D,B,E,q,s,o,rfl,rfl⟩
  .show absurd f I
  .have first:∀{j a p b:LS} {m n:Str} {P:Str->Prop},j++m::p=a++n::b->(∀ d∈j,¬ P d)->P m->(∀ d∈a,¬ P d)->P n->j=a/\m=n:=fun{j}=>by
    induction j with
    | nil=>intro a p b m n P e h1 F G H;cases a with
     | nil=>injection e with c _;show⟨rfl,c⟩
     | cons x r=>injection e with c _;show absurd (c ▸ F) (G x yR)
    | cons y r ih=>intro a p b m n P e h1 F G H;cases a with
     | nil=>injection e with c _;show absurd (c ▸ H) (h1 y yR)
     | cons x r' =>
      injection e with c t
      obtain⟨z1,z2⟩:=ih t (fun d i=>h1 d (yB _ i)) F (fun d i=>G d (yB _ i)) H;show⟨by rw[c,z1],z2⟩
   obtain⟨q1,q2⟩:=first (P:=fun d=>d∈k') (Y.symm.trans A) ed em C D;subst q1;subst q2;obtain⟨q3,_⟩:=first (P:=fun d=>d=m) (Z.symm.trans B) (fun d i z=>en (z ▸ i)) rfl (fun d i z=>E (z ▸ i)) rfl;subst q3;have t1:=L.det r1 n1 q;subst t1;have t2:=R2.det (L.old _ _ r2) n2 s;subst t2
   have ew:wnL M ss rg m=wnL M ss K m:=by
    unfold wnL;show xA fun u _=>YF.mpr ?_;rw[yw,yw,J,o]
   rw[ew];show⟨rfl,rfl⟩
theorem BtL.det{w:Str}{e:LS}(h:BtL qs S v w r)(g:BtL qs S v w e):r=e:=by
 obtain⟨_,_,_,_,_,_,_,a,b,rfl⟩:=h;obtain⟨_,_,_,_,_,_,_,c,d,rfl⟩:=g;rw[a] at c;rw[b] at d;cases c;cases d;rfl
theorem BtL.not{w:Str}(h:BtL qs S v w r)(g:BtR qs ss S v w S' m):False:=by
 obtain⟨l,l',_,_,a,b,c,_⟩:=h;obtain⟨k,k',_,_,e,f,_,_,_,_,d,_⟩:=g;rw[a.one e,b.one f] at d;show c d
inductive spBt(cc:Nat->Addr)(cw:Addr)(vs:List V)(H:Hp)(Q:VK)(E:XK):Prop|mk (H0:Hp) (a:Fo) (ss:LS) (ns:LN) (qs:LP) (S:FS) (dn wt:LS) (v w:Str) (rv rw:LS) (A:Str->Str->Prop) (_:vs=[.ref a.x,.str v,.str w]) (_:FoA (cc 9) cw H0 H a ss ns qs S ss dn wt .non) (_:Wb A ss qs) (_:FI A (pt qs) S) (_:S.rows v=some rv) (_:S.rows w=some rw) (_:A v w) (_:(∀(H':Hp) (S':FS) (more:LS),FoA (cc 9) cw H0 H' a ss ns qs S' ss dn (wt++more) .non->Bx a.six H H'->FI A (pt qs) S'->S'.bas v=S'.bas w->Mono S S'->BtR qs ss S v w S' more->Q .non H')) (_:∀(H':Hp) (t:Addr) (r:LS),FoA (cc 9) cw H0 H' a ss ns qs S ss dn wt (.ref t)->Bx a.six H H'->H' t=some (.lst (r.map V.str))->t∉a.all->Aug A (pt qs) r->r.length<=28->BtL qs S v w r->Q .non H')
theorem qez{d:Str}{Q:VK}(q:Q (.bl (!decide (c=d))) H):qeZ K true (.str c) (.str d) H Q:=by
 show .inl ⟨rfl,rfl,?_⟩;rw[yO rfl]
 have e:eqV (.str c) (.str d)=decide (c=d):=by
  by_cases h:c=d
  .subst h;simp[eqV]
  .simp [eqV,h]
 rw[e];show q
theorem FoA.setL{a:Fo}{bs wt:LS}{fs:List (Str×V)}{v:V}(h:FoA (cc 9) cw H0 H a ss ns qs S bs dn wt .non)(s:H a.x=some (.ins (cc 9) dx fs))(hv:v≠.non):fs.length<1000/\FoA (cc 9) cw H0 (upd H a.x (.ins (cc 9) dx (qH "longer" v fs))) a ss ns qs S bs dn wt v:=by
 obtain⟨m,n,g,J,F,G,I⟩:=h.obj;rw[s] at g;cases g;have hl:=F rfl;obtain⟨w,D,r2,E⟩:=h.row;obtain⟨t,A,B,C⟩:=h.par;obtain⟨k,i,j,l⟩:=h.bas;obtain⟨xs,p,q⟩:=h.rng;have r:=h.sep;have nx:∀{c:Addr},c∈[a.dr,a.da,a.ds,a.dg,a.dw]->c≠a.x:=fun hc e=>(yo.mp r).1 (by rw[<- e];show hc);have d:Bx a.six H (upd H a.x (.ins (cc 9) dx (qH "longer" v fs))):=(Bx.of (Sr H)).upd (by simp[Fo.six]);show⟨by lk,qax h.sm (h.fr _ (by simp[Fo.six])),h.web,h.prt,h.fr,h.nd,fun c hc=>⟨(h.exf c hc).1,(h.exf c hc).2.1,(h.exf c hc).2.2.elim fun o e=>⟨o,d _ _ (h.exf c hc).2.1 e⟩⟩,⟨dx,_,qb,yi (jA _ _ _) (by lk),fun e=>absurd e hv,fun f u b=>?_,fun f b=>?_⟩,⟨w,by rw[qf (nx (by simp))];show D,r2,fun y=>(E y).mono d Fo.sub⟩,⟨t,by rw[qf (nx (by simp))];show A,B,C⟩,⟨k,by rw[qf (nx (by simp))];show i,j,l⟩,⟨xs,by rw[qf (nx (by simp))];show p,q⟩,by rw[qf (nx (by simp))];show h.wai,h.evn,h.evi,h.evs⟩
 .rw [qA];by_cases e:f="longer"
  .rw [yO e];subst e;have:(Str.ofString "longer",u)∈a.tab v:=b;simp only[Fo.tab,yz,XD,yW,YE] at this;rcases this with⟨z,_⟩ | ⟨z,_⟩ | ⟨z,_⟩ | ⟨z,_⟩ | ⟨z,_⟩ | ⟨z,_⟩ | ⟨z,_⟩ | ⟨_,z⟩<;>first | show absurd z (by room) | show congrArg some z.symm
  .rw [yE e];show G f u ?_;have:(f,u)∈a.tab v:=b;simp only[Fo.tab,yz,XD,yW,YE] at this ⊢;rcases this with z | z | z | z | z | z | z | ⟨z,_⟩
   all_goals first | show absurd z e | simp[z]
 .rw [qA,yE (fun e=>b (by rw[e];room))];show I f b
theorem FoA.rowAt{a:Fo}{bs wt:LS}(h:FoA (cc 9) cw H0 H a ss ns qs S bs dn wt lo)(e:S.rows u=some r){Q:VK}(q:∀ t,H t=some (.lst (r.map V.str))->Q (.ref t) H):qfj K (.ref a.dr) (.str u) H Q:=by
 obtain⟨g,d,_,f⟩:=h.row;have:=f u;rw[e] at this;obtain⟨t,b,c,_⟩:=this;show qea d b (q t c)
theorem ok_bt(F:Fun K "bring_together" "Forest.bring_together" qJ f fd)(T:Txt K mg cc cw)(Ky:MethOk P w K mg base CX0 1 (cc 9) "bases_down_from" ["self","place"] (spBd cc cw))(KJ:MethOk P w K mg base CX0 2 (cc 9) "reach_round" ["self","one","other","bases"] (spRr cc cw))(uQ:MethOk P w K mg base CX0 2 (cc 9) "fold" ["self","ring","meeting"] (spFd cc cw)):FnOk P w K mg base CX0 3 f fd ["self","one","other"] (spBt cc cw):=by
 show F.ok Kj fun _ _ _ _ H vs Q E hr h=>?_
 .obtain⟨H0,a,ss,ns,qs,S,dn,wt,v,w,rv,b,B,rfl,h,g,I,hv,hw,cj,q1,q2⟩:=h;have N:=jY hr;have Y:∀{v:Str} {r:LS},S.rows v=some r->v∈ss:=fun e=>h.evs _ ((h.evi _).mpr (by rw[e];show fun z=>by cases z));obtain⟨l,hl⟩:=I.chainOf hv;obtain⟨l',s⟩:=I.chainOf hw;have an:=hl.nd I hv rfl;have D:=s.nd I hw rfl;have ac:l.length<=14:=yi (jw an fun c hc=>(hl.bs0 I hv hc).elim fun r z=>Y z.1) g.few;have L:l'.length<=14:=yi (jw D fun c hc=>(s.bs0 I hw hc).elim fun r z=>Y z.1) g.few;obtain⟨ba,dz⟩:=(I.alt v rv hv).inn g (Y hv);obtain⟨ap,eb⟩:=(I.alt w b hw).inn g (Y hw);obtain⟨lx,c,ae⟩:∃ lx c,l=lx++[c]:=by obtain⟨t,e⟩:=hl.ne;show⟨_,_,(Y4 (by rw[e];show kW _ _)).symm⟩
  obtain⟨ly,d,af⟩:∃ ly d,l'=ly++[d]:=by obtain⟨t,e⟩:=s.ne;show⟨_,_,(Y4 (by rw[e];show kW _ _)).symm⟩
  show⟨_,(qc (qq (i:=3) Kj.nd rfl (yQ rfl) (qK Ky (hmR hr) (pv 0) (qa (pv 1) qd)))
 (qc (qq (i:=4) Kj.nd rfl (Xr rfl) (qK Ky (hmR hr) (pv 0) (qa (pv 2) qd)))
 (qe (qN (qk (zw (K:=K) rfl N) (qx (qy (K:=K) rfl N) (pv 3) (qba zQ qi) (fun _ _=>rfl)) (qx (qy (K:=K) rfl N) (pv 4) (qba zQ qi) (fun _ _=>rfl)) (qw _)) (qe (j3 (K:=K) rfl (pv 0) (qG (jU (K:=K) rfl) (qx (qy (K:=K) rfl N) (qC (K:=K) rfl (pv 0) rfl) (pv 1) (fun _ _=>rfl)) (qeu (K:=K) rfl (qx (qy (K:=K) rfl N) (qC (K:=K) rfl (pv 0) rfl) (pv 2) (fun _ _=>rfl)) (jp (qba zQ qi)))) rfl)) (qe (qN (qk (zw (K:=K) rfl N) (qx (qy (K:=K) rfl N) (pv 3) qi (fun _ _=>rfl)) (qx (qy (K:=K) rfl N) (pv 4) qi (fun _ _=>rfl)) (qw _)) (qc (qq (i:=5) Kj.nd rfl (yQ rfl) (qx (qy (K:=K) rfl N) (jd (sc:=qg qJ) (XN:=["self","one","other","ones","others","meeting","ring"]) ["base","others"] 1 [4] rfl rfl rfl (by room) rfl (by room)
  (qM (K:=K) rfl (pv 3)) (fun _ _ _ _=>(qr (i:=0) (show(["base","others"]:LS).Nodup by room) rfl (yQ rfl))) qP
  (fun _ _ _ _=>(qU (qk (zT (K:=K) rfl N) (pv 0) (pv 1) (by with_unfolding_all rfl))))
  (fun _ _ _ _=>(pv 0))) qi (fun _ _=>rfl)))
 (qc (qq (i:=6) Kj.nd rfl (yQ rfl) (qK KJ (hmR hr) (pv 0) (qa (pv 1) (qa (pv 2) (qa (jx (qdr (K:=K) rfl) (pv 3) jZ (jp (qbI (K:=K) rfl yU Xe XJ (qcD (K:=K) rfl) (pv 3) (qa (pv 5) qd)))) qd)))))
 (qc (qW (qbI (K:=K) rfl yU XE XF qaP (pv 6) (qa (qK KJ (hmR hr) (pv 0) (qa (pv 2) (qa (pv 1) (qa (jx (qdr (K:=K) rfl) (pv 4) jZ (jp (qbI (K:=K) rfl yU Xe XJ (qcD (K:=K) rfl) (pv 4) (qa (pv 5) qd)))) qd)))) qd)))
 (qe (qW (qK uQ (hmR hr) (pv 0) (qa (pv 6) (qa (pv 5) qd)))))))) qt)))))),?_⟩
  ext;obtain⟨dx,fs,ao,_,_,_,bf⟩:=id h.obj;show⟨a.x,dx,fs,rfl,ao,bf _ (by room),?_⟩;apply⟨H0,a,ss,ns,qs,S,dn,wt,.non,v,rv,l,B,rfl,h,g.few,I,hv,hl,ac,fun o1 H1 s1 dq cz=>?_⟩;apply⟨a.x,dx,fs,rfl,s1 _ _ ao,bf _ (by room),?_⟩;apply⟨H0,a,ss,ns,qs,S,dn,wt,.non,w,b,l',B,rfl,h.same s1,g.few,I,hw,s,L,fun o2 H2 s2 dr aq=>?_⟩;have au:=s1.trans s2;have h2:=h.same au;have U:=s2 _ _ cz;have dw:=h.newA dq;have dy:=(h.same s1).newA dr;apply⟨1,rfl,?_⟩;show .inl (qau U (v:=.str c) (by rw[ae];show atI_last) ?_);apply⟨1,rfl,?_⟩;show .inl (qau aq (v:=.str d) (by rw[af];show atI_last) ?_);show qez ⟨_,rfl,?_⟩;by_cases aa:c=d
  .rw [yM aa];show yq ?_;obtain⟨t0,X⟩:=hl.ne;obtain⟨ei,C⟩:=s.ne;apply .inl (qau U (v:=.str (S.bas v)) (qF (j:=0) (by rw[X];rfl)) ?_);apply .inl (qau aq (v:=.str (S.bas w)) (qF (j:=0) (by rw[C];rfl)) ?_);show qez ⟨_,rfl,?_⟩;by_cases Z:S.bas v=S.bas w
   .rw [yM Z];show yq ?_;show q1 H2 S [] (by rw[Yb];show h2) (Bx.of au) I Z (Mono.refl S) ⟨l,l',rv,b,hl,s,hv,(I.alt v rv hv).nd,hw,(I.alt w b hw).nd,by rw[ae,af,xw,xw,aa],.inl ⟨Z,rfl,rfl⟩⟩
   .rw [yl Z];show zr ?_;obtain⟨l1,m,l2,R,ad,am,tf,bx⟩:=qdd l' (l:=l) ⟨c,by rw[ae];simp,by rw[af,aa];simp⟩;obtain⟨m1,m2,M⟩:=Ym ad;obtain⟨cy,dj⟩:=hl.meet I hv hw s R M am;rw[cy] at M;have ce:m∉m1:=fun z=>by rw[M] at D;show(y9.mp D).2.2 m z m (by simp) rfl
    have ec:m∉l1:=fun z=>am m z ad;apply .inl ⟨⟨_,.of U⟩,qD (xs:=l.map V.str) (fun i ys J=>J=H2/\ys=((l.take i).filter fun d=>decide (d∈l')).map V.str) ⟨rfl,rfl⟩ (fun i ys J _ hp=>by rw[hp.1];show .of U) (fun i y ys J hy hp=>?_) fun ys J hp=>?_⟩
    .obtain⟨rfl,rfl⟩:=hp;rw[yd] at hy;obtain⟨z,hz,rfl⟩:=yn.mp hy
     have be:(l.take (i+1)).filter (fun d=>decide (d∈l'))=(l.take i).filter (fun d=>decide (d∈l'))++(if z∈l' then [z] else []):=by
      rw[yG,hz,yX];show _++[z].filter _=_;rw[yS];simp only[kN,Yn]
     have ef:=(yc.mp hz).1;have dl:=yJ (fun d=>decide (d∈l')) (l.take i);rw[yH] at dl;apply qdV aq ⟨_,rfl,?_⟩;rw[be];by_cases G:z∈l'
     .rw [yM G,yO G];show zr ?_;apply⟨by rw[ya];show qh (by lk),rfl,by rw[yy];rfl⟩
     .rw [yl G,yE G,Yb];show yq ?_;show⟨rfl,rfl⟩
    .obtain⟨rfl,rfl⟩:=hp;rw[show(l.map V.str).length=l.length from ya _,yP,bx];have dt:=yJ (fun d=>decide (d∈l')) l;rw[bx] at dt;show⟨by rw[ya];show yT (qh (by lk)),fun cl ca=>?_⟩;have s3:=qE au (o:=.lst ((m::tf).map V.str)) ca;have bh:=qE (Sr J) (o:=.lst ((m::tf).map V.str)) ca;have bo:upd J cl (.lst ((m::tf).map V.str)) cl=some (.lst ((m::tf).map V.str)):=qb;generalize upd J cl (.lst ((m::tf).map V.str))=H3 at s3 bh bo;apply .inl (qau bo (v:=.str m) (qF (j:=0) rfl) ?_);have h3:=h.same s3;have aj:=bh _ _ U;have br:=bh _ _ aq;apply⟨a.x,dx,fs,rfl,s3 _ _ ao,bf _ (by room),?_⟩;apply⟨.inl ⟨rfl,_,.of aj⟩,?_⟩;apply⟨o1,l,m,rfl,rfl,.of aj,by rw[R];simp,_,rfl,?_⟩;rw[show l.idxOf m=l1.length by rw[R] at an ⊢;show qcL an];apply .inl ⟨o1,_,rfl,.of aj,fun c1 ag=>?_⟩;have bp:qcV (l.map V.str) none (some ((l1.length:Nat):Int))=l1.map V.str:=by rw[qbk,R,yy,List.take_left' (by simp)]
     rw[bp];have s4:=qE s3 (o:=.lst (l1.map V.str)) ag;have cs:=qE (Sr H3) (o:=.lst (l1.map V.str)) ag;have ah:upd H3 c1 (.lst (l1.map V.str)) c1=some (.lst (l1.map V.str)):=qb;have n1:=h3.new ag;generalize upd H3 c1 (.lst (l1.map V.str))=H4 at s4 cs ah;have h4:=h.same s4
     have bc:∀{x y:Str} {rx k W:LS},S.rows x=some rx->(∀ u∈rx,u∈ss)->Ch (pt qs) S (S.bas x) k->k=W++m::l2->∀ c∈W,∃ q rz t,pt qs c=some q/\S.rows q=none/\q∈ss/\rx=rz++q::t:=fun{x y rx k W} hx hs hk ek c hc=>by
      obtain⟨a',b',ea⟩:=Ym hc;have bq:k=a'++c::(b'++m::l2):=by rw[ek,ea];simp
      obtain⟨_,_,_,_,g3,_⟩:=hk.up I hx rfl bq;rcases g3.cases' with⟨_,z⟩ | ⟨q,_,hq,_⟩
      .simp at z
      .obtain⟨rz,t,W,_,k3,_⟩:=hk.suf I hx bq hq;show⟨q,rz,_,hq,k3,hs q (by rw[W];simp),W⟩
     apply⟨H0,a,ss,ns,qs,S,dn,wt,.non,v,w,c1,l1,rv,b,rfl,h4,g.few,ah,n1,hv,hw,ba,ap,(I.alt v rv hv).nd,?_,?_,g.qn,bc (y:=v) hv dz hl R,fun O p ar H5 S1 h5 bj ci bu ay cg aw R1 dm=>?_⟩
     .rw [R] at an;show(y9.mp an).1
     .rw [R,yu] at ac;lk
     have ee:o1∉a.six:=fun z=>dw (Fo.sub _ z);have cr:o2∉a.six:=fun z=>dy (Fo.sub _ z);have ak:=bj _ _ cr (cs _ _ br);apply⟨.inl ⟨rfl,_,.of bu⟩,?_⟩;ext;obtain⟨cv,dd,cm,_,_,_,co⟩:=id h5.obj;show⟨a.x,cv,dd,rfl,cm,co _ (by room),?_⟩;apply⟨.inl ⟨rfl,_,.of ak⟩,?_⟩;apply⟨o2,l',m,rfl,rfl,.of ak,ad,_,rfl,?_⟩;rw[show l'.idxOf m=m1.length by rw[M] at D ⊢;show qcL D];apply .inl ⟨o2,_,rfl,.of ak,fun c2 al=>?_⟩;have bd:qcV (l'.map V.str) none (some ((m1.length:Nat):Int))=m1.map V.str:=by rw[qbk,M,yy,List.take_left' (by simp)]
     rw[bd];have s6:=qE (Sr H5) (o:=.lst (m1.map V.str)) al;have ai:upd H5 c2 (.lst (m1.map V.str)) c2=some (.lst (m1.map V.str)):=qb;have n2:=h5.new al;generalize upd H5 c2 (.lst (m1.map V.str))=H6 at s6 ai;have h6:=h5.same s6
     have cq:∀ c∈m1,∀ q,pt qs c=some q->S.rows q=none->S1.rows q=none:=fun c hc q hq hn=>by
      cases e:S1.rows q with
      | none=>rfl
      | some r =>
       exfalso;rcases R1.new q r e with z | ⟨c',hc',z,_⟩
       .rw [hn] at z;cases z
       .have e1:=g.gr.fs z;rw[g.gr.fs hq] at e1;rw[<- ym e1] at hc';show am c hc' (by rw[M];show yF _ hc)
     apply⟨H0,a.add O,ss,ns,qs,S1,dn,wt++ar,.non,w,v,c2,m1,b,rv,rfl,h6,g.few,ai,n2,R1.old _ _ hw,R1.old _ _ hv,ap,ba,(I.alt w b hw).nd,?_,?_,g.qn,fun c hc=>?_,fun t2 A bg H7 S2 h7 bm eg da az ch ax R2 dp=>?_⟩
     .rw [M] at D;show(y9.mp D).1
     .rw [M,yu] at L;lk
     .obtain⟨q,rz,t,W,k2,k3,k4⟩:=bc (y:=v) hw eb s M c hc;show⟨q,rz,t,W,cq c hc q W k2,k3,k4⟩
     have bi:O∉a.six:=h4.new ci;have bv:H7 O=some (.lst (p.map V.str)):=bm _ _ bi (s6 _ _ bu);apply⟨O,t2,_,_,rfl,rfl,bv,da,by rw[ya,ya,YA];rw[R,yu] at ac;rw[M,yu] at L;lk,?_⟩;have h8:=h7.updE (c:=O) (o:=.lst (p.map V.str++A.map V.str)) (by simp[Fo.add]);obtain⟨xs,dk,eh⟩:=h.rng;have cb:=dp _ (s6 _ _ (dm _ (s4 _ _ dk)));have dv:a.dg≠O:=fun z=>bi (by rw[<- z];simp[Fo.six]);have bw:upd H7 O (.lst (p.map V.str++A.map V.str)) O=some (.lst ((p++A).map V.str)):=by rw[qb,yy]
     have av:upd H7 O (.lst (p.map V.str++A.map V.str)) a.dg=some (.lst xs):=by rw[qf dv];show cb
     have bn:Bx a.six H (upd H7 O (.lst (p.map V.str++A.map V.str))):=fun e o n k=>by
      have ne:e≠O:=fun z=>by rw[z,s4.free ci] at k;cases k
      rw[qf ne];show bm _ _ n (s6 _ _ (bj _ _ n (s4 _ _ k)))
     generalize upd H7 O (.lst (p.map V.str++A.map V.str))=H8 at h8 bw av bn
     have ed:0<ar.length+bg.length:=by
      rw[aw,ax,ya,ya];rcases l1 with _ | ⟨x,r⟩
      .rcases m1 with _ | ⟨x,r⟩
       .rw [R] at X;rw[M] at C;show absurd ((xF X).1.symm.trans (xF C).1) Z
       .simp
      .simp;lk
     ext;obtain⟨cx,de,cn,_,_,_,cp⟩:=id h8.obj;show⟨a.x,cx,de,rfl,cn,cp _ (by room),?_⟩;apply⟨H0,(a.add O).add t2,ss,ns,qs,S2,dn,wt++ar++bg,.non,O,p++A,m,xs,rfl,h8,g.few,bw,bi,?_,av,?_,fun H9 h9 cu=>?_⟩
     .rw [yu,cg,ch];rw[R,yu] at ac;rw[M,yu] at L;lk
     .rw [<- y8,<- y8,yu,yu (as:=dn++wt)];lk
     have ds:∀ u,u∈p++A++[m]↔InR (pt qs) m (l1++m1) u:=fun u=>by
      rw[yw,yw,ay,az,yD];unfold InR;constructor
      .rintro ((⟨c,hc,z⟩ | ⟨c,hc,z⟩) | z)
       .show .inr ⟨c,yF _ hc,z⟩
       .show .inr ⟨c,yN _ hc,z⟩
       .show .inl z
      .rintro (z | ⟨c,hc,z⟩)
       .show .inr z
       .rcases yw.mp hc with y | y
        .show .inl (.inl ⟨c,y,z⟩)
        .show .inl (.inr ⟨c,y,z⟩)
     have bz:S2.bas=S.bas:=by rw[R2.bas,R1.bas]
     have cd:∀ u,InR (pt qs) m (l1++m1) (S.bas u)->u∈ss:=fun u N=>by
      cases e:S.rows u with
      | some r=>show Y e
      | none =>
       rw[I.own e] at N;rcases N with z | ⟨c,hc,z⟩
       .obtain⟨r,k,_⟩:=hl.bs0 I hv (c:=m) (by rw[R];simp);rw[z];show Y k
       .have di:∃ r,S.rows c=some r:=by
         rcases yw.mp hc with y | y
         .show(hl.bs0 I hv (by rw[R];show yF _ y)).elim fun r k=>⟨r,k.1⟩
         .show(s.bs0 I hw (by rw[M];show yF _ y)).elim fun r k=>⟨r,k.1⟩
        obtain⟨r,k⟩:=di;rcases z with z | z
        .rw [z];show Y k
        .show g.inn _ _ (g.gr.as (g.gr.fa z))
     have hM:Mg (pt qs) S (S2.setBas (wnL S2 ss (p++A) m) m) v w m l1 m1:=by
      have ck:∀ u,u∈wnL S2 ss (p++A) m↔u∈ss/\InR (pt qs) m (l1++m1) (S.bas u):=fun u=>by
       unfold wnL;rw[yp,Yj,ds,bz]
      have nr:∀{u:Str} {r:LS},NewRow S1 w v u r->NewRow S w v u r:=fun⟨a1,a2,a3,a4,W,k2,k3⟩=>by
       rw[R1.old _ _ hw] at W;rw[R1.old _ _ hv] at k2;cases W;cases k2;show⟨_,_,a3,a4,hw,hv,k3⟩
      show⟨by show S2.par=S.par;rw[R2.par,R1.par],fun u r e=>R2.old _ _ (R1.old _ _ e),fun u r e=>?_,fun c hc q hq=>?_,fun u N=>?_,fun u N=>?_⟩
      .rcases R2.new u r e with z | ⟨c,hc,W,k2⟩
       .rcases R1.new u r z with z | z
        .show .inl z
        .show .inr (.inl z)
       .show .inr (.inr ⟨c,hc,W,nr k2⟩)
      .rcases yw.mp hc with y | y
       .obtain⟨r,k⟩:=R1.all c y q hq;show⟨r,R2.old _ _ k⟩
       .show R2.all c y q hq
      .show(if u∈wnL S2 ss (p++A) m then m else S2.bas u)=m;rw[yO ((ck u).mpr ⟨cd u N,N⟩)]
      .show(if u∈wnL S2 ss (p++A) m then m else S2.bas u)=S.bas u;rw[yE (fun z=>N ((ck u).mp z).2),bz]
     have hI:=I.merge g.gr hv hw (R ▸ hl) (M ▸ s) (M ▸ am) (R ▸ dj) cj Z hM
     have df:InR (pt qs) m (l1++m1) (S.bas v):=by
      rcases l1 with _ | ⟨x,r⟩
      .rw [R] at X;cases X;show .inl rfl
      .rw [R] at X;cases X;show .inr ⟨_,by simp,.inl rfl⟩
     have dh:InR (pt qs) m (l1++m1) (S.bas w):=by
      rcases m1 with _ | ⟨x,r⟩
      .rw [M] at C;cases C;show .inl rfl
      .rw [M] at C;cases C;show .inr ⟨_,by simp,.inl rfl⟩
     show q1 H9 _ (ar++bg) ?_ (bn.trans cu) hI ((hM.inn v df).trans (hM.inn w dh).symm) ⟨fun u z e=>?_,fun u e=>by rw[hM.par];show e,hM.old⟩ ⟨l,l',rv,b,hl,s,hv,(I.alt v rv hv).nd,hw,(I.alt w b hw).nd,by rw[ae,af,xw,xw,aa],.inr ⟨Z,l1,m,l2,m1,S1,S2,p++A,R,am,ad,M,ce,R1,R2,fun u=>?_,rfl,by rw[aw,ax,yy]⟩⟩
     .rw [<- y8];show h9.drop (l:=a.ex) fun c hc=>by simp[Fo.add,hc]
     .by_cases G:InR (pt qs) m (l1++m1) (S.bas u)
      .rw [hM.inn u G,hM.inn z (by rw[<- e];show G)]
      .rw [hM.out u G,hM.out z (by rw[<- e];show G),e]
     .rw [yw,ay,az];constructor
      .rintro (⟨c,hc,z⟩ | ⟨c,hc,z⟩)
       .show⟨c,yF _ hc,z⟩
       .show⟨c,yN _ hc,z⟩
      .rintro ⟨c,hc,z⟩;rcases yw.mp hc with y | y
       .show .inl ⟨c,y,z⟩
       .show .inr ⟨c,y,z⟩
  .rw [yl aa];show zr ?_;apply .inl (h2.obj.rd T 2 rfl ?_);apply h2.rowAt hv fun tv db=>?_;apply qf7 ?_;apply .inl (h2.obj.rd T 2 rfl ?_);apply h2.rowAt hw fun tw dc=>?_;apply⟨1,rfl,?_⟩;show⟨_,rfl,rfl,tw,_,rfl,.of dc,fun c1 ag=>?_⟩;have O:=qE au (o:=.lst (b.map V.str).reverse) ag;have ct:=qE (Sr H2) (o:=.lst (b.map V.str).reverse) ag;have ah:upd H2 c1 (.lst (b.map V.str).reverse) c1=some (.lst (b.reverse.map V.str)):=by rw[qb,List.map_reverse]
   generalize upd H2 c1 (.lst (b.map V.str).reverse)=H3 at O ct ah;show qeh (ct _ _ db) ah (by rw[ya,ya,YB];lk) fun c2 al=>?_;have n2:=(h.same O).newA al;have t2:=qE O (o:=.lst (rv.map V.str++b.reverse.map V.str)) al;have ai:upd H3 c2 (.lst (rv.map V.str++b.reverse.map V.str)) c2=some (.lst ((rv++b.reverse).map V.str)):=by rw[qb,yy]
   generalize upd H3 c2 (.lst (rv.map V.str++b.reverse.map V.str))=H4 at t2 ai;obtain⟨W,k2⟩:=(h.same t2).setL (v:=.ref c2) (t2 _ _ ao) (fun e=>by cases e);apply .inl ⟨a.x,cc 9,dx,fs,rfl,t2 _ _ ao,T.fcl,T.fa _ (by room),W,?_⟩;have du:c2≠a.x:=fun z=>n2 (Fo.sub _ (by rw[z];simp[Fo.six]));show q2 _ c2 _ k2 ((Bx.of t2).upd (by simp[Fo.six])) (by rw[qf du];show ai) n2 (I.aug g.gr hv hw hl s (by rw[ae,af];simpa using aa) cj) (by rw[yu,YB];lk) ⟨l,l',rv,b,hl,s,by rw[ae,af,xw,xw];show fun z=>aa (ym z),hv,hw,rfl⟩
theorem Ks:FnScope ["self","place","other","partner"] ["self","place"] (qg qZ):=fS
noncomputable def FS.setPar(S:FS)(u p:Str):FS:=⟨S.rows,fun s=>if s=u then some p else S.par s,S.bas⟩
noncomputable def nbL(ss:LS)(ns:LN)(v:Str):LS:=inB ss 0 (ns.getD (ss.idxOf v) 0)
inductive LaR(qs:LP)(ss:LS)(v:Str):LS->FS->FS->LS->Option (LS)->Prop
 | nil {S:FS}:LaR qs ss v [] S S [] none
 | bt {S S1 S2:FS} {u:Str} {l m1 m2:LS} {o:Option (LS)}:S.rows u≠none->BtR qs ss S v u S1 m1->LaR qs ss v l S1 S2 m2 o->LaR qs ss v (u::l) S S2 (m1++m2) o
 | row {S:FS} {u:Str} {l r:LS}:S.rows u≠none->BtL qs S v u r->LaR qs ss v (u::l) S S [] (some r)
 | old {S S1:FS} {u:Str} {l m:LS} {o:Option (LS)}:S.rows u=none->S.par u≠none->LaR qs ss v l S S1 m o->LaR qs ss v (u::l) S S1 m o
 | new {S S1:FS} {u y:Str} {l m rv:LS} {o:Option (LS)}:S.rows u=none->S.par u=none->pt qs u=some y->S.rows v=some rv->LaR qs ss v l ((S.setPar u v).setRow y (rv++[u,y])) S1 m o->LaR qs ss v (u::l) S S1 ([y]++m) o
theorem LaR.det{l a:LS}{o:Option (LS)}(h:LaR qs ss v l S S1 m o):LaR qs ss v l S S2 a o'->S1=S2/\m=a/\o=o':=by
 induction h generalizing S2 a o' with
 | nil=>intro g;cases g;show⟨rfl,rfl,rfl⟩
 | bt h1 h2 _ ih =>
  intro g
  cases g with
  | bt g1 g2 g3 =>
   obtain⟨rfl,rfl⟩:=h2.det g2;obtain⟨rfl,rfl,rfl⟩:=ih g3;show⟨rfl,rfl,rfl⟩
  | row g1 g2=>show(g2.not h2).elim
  | old g1 _ _=>show absurd g1 h1
  | new g1 _ _ _ _=>show absurd g1 h1
 | row h1 h2 =>
  intro g
  cases g with
  | bt g1 g2 g3=>show(h2.not g2).elim
  | row g1 g2=>rw[h2.det g2];show⟨rfl,rfl,rfl⟩
  | old g1 _ _=>show absurd g1 h1
  | new g1 _ _ _ _=>show absurd g1 h1
 | old h1 h2 _ ih =>
  intro g
  cases g with
  | bt g1 g2 g3=>show absurd h1 g1
  | row g1 g2=>show absurd h1 g1
  | old _ _ g3=>show ih g3
  | new _ g2 _ _ _=>show absurd g2 h2
 | new h1 h2 h3 h4 _ ih =>
  intro g
  cases g with
  | bt g1 g2 g3=>show absurd h1 g1
  | row g1 g2=>show absurd h1 g1
  | old _ g2 _=>show absurd h2 g2
  | new _ _ g3 g4 g5 =>
   rw[h3] at g3;cases g3;rw[h4] at g4;cases g4;obtain⟨rfl,rfl,rfl⟩:=ih g5;show⟨rfl,rfl,rfl⟩
theorem drop_at{l:LS}(h:l[i]?=some u):l.drop i=u::l.drop (i+1):=by
 obtain⟨a,e⟩:=yc.mp h;rw[Xy a,e]
inductive spLa(cc:Nat->Addr)(cw:Addr)(vs:List V)(H:Hp)(Q:VK)(E:XK):Prop|mk (H0:Hp) (a:Fo) (ss:LS) (ns:LN) (qs:LP) (S:FS) (dn wt:LS) (v:Str) (A:Str->Str->Prop) (_:vs=[.ref a.x,.str v]) (_:FoA (cc 9) cw H0 H a ss ns qs S ss (dn++[v]) wt .non) (_:Wb A ss qs) (_:(∀ s∈ss,zG s=true)) (_:(∀(j:Nat) z u,ss[j]?=some z->(u∈inB ss 0 (ns.getD j 0)↔A z u))) (_:(∀ z∈ss,pt qs z=none->S.rows z≠none)) (_:FI A (pt qs) S) (_:CI A S (fun u=>u∈dn)) (_:(∀(H':Hp) (S':FS) (more:LS),FoA (cc 9) cw H0 H' a ss ns qs S' ss (dn++[v]) (wt++more) .non->Bx a.six H H'->FI A (pt qs) S'->CI A S' (fun u=>u∈dn++[v])->Mono S S'->LaR qs ss v (nbL ss ns v) S S' more none->Q .non H')) (_:∀(H':Hp) (S':FS) (more:LS) (t:Addr) (r:LS),FoA (cc 9) cw H0 H' a ss ns qs S' ss (dn++[v]) (wt++more) (.ref t)->Bx a.six H H'->H' t=some (.lst (r.map V.str))->t∉a.all->Aug A (pt qs) r->r.length<=28->LaR qs ss v (nbL ss ns v) S S' more (some r)->Q .non H')
theorem CI.on(h:CI A S Pd)(m:Mono S S'):CI A S' Pd:=h.mono m.ba m.pa fun u a=>by
 cases e:S.rows u with
 | none=>show absurd e a
 | some r=>rw[m.ro u r e];show fun z=>by cases z
theorem FoA.setP{a:Fo}{bs wt:LS}{d:List (Key×V)}{p:Str}(h:FoA (cc 9) cw H0 H a ss ns qs S bs dn wt lo)(C:H a.da=some (.dK d))(g:u∈ss)(f:S.par u=none):FoA (cc 9) cw H0 (upd H a.da (.dK (zA d (Sum.inr u) (.str p)))) a ss ns qs (S.setPar u p) bs dn wt lo/\d.length<=ss.length:=by
 obtain⟨E,P,r2,R⟩:=h.row;obtain⟨k',r,M,N⟩:=h.par;obtain⟨k,t,v,w⟩:=h.bas;obtain⟨xs,A,B⟩:=h.rng;rw[C] at r;cases r;obtain⟨⟨T,J,U,W,X⟩,⟨K,Y,Z,n9⟩,⟨i,j,l⟩,⟨F,G⟩,I⟩:=(by simpa [Fo.six] using h.sep:(¬a.x=a.dr/\¬a.x=a.da/\¬a.x=a.ds/\¬a.x=a.dg/\¬a.x=a.dw)/\(¬a.dr=a.da/\¬a.dr=a.ds/\¬a.dr=a.dg/\¬a.dr=a.dw)/\(¬a.da=a.ds/\¬a.da=a.dg/\¬a.da=a.dw)/\(¬a.ds=a.dg/\¬a.ds=a.dw)/\¬a.dg=a.dw);have n:Bx a.six H (upd H a.da (.dK (zA d (Sum.inr u) (.str p)))):=(Bx.of (Sr H)).upd (by simp[Fo.six]);obtain⟨O,L,q,m⟩:=M;show⟨⟨qax h.sm (h.fr _ (by simp[Fo.six])),h.web,h.prt,h.fr,h.nd,fun c hc=>⟨(h.exf c hc).1,(h.exf c hc).2.1,(h.exf c hc).2.2.elim fun o e=>⟨o,n _ _ (h.exf c hc).2.1 e⟩⟩,h.obj.eq (qf J),⟨E,by rw[qf K];show P,r2,fun y=>(R y).mono n Fo.sub⟩,⟨_,qb,⟨O++[u],by have:=jN d (Sum.inr u:Key) (.str p);rw[yu];show _<=_+1;lk,y9.mpr ⟨q,List.pairwise_singleton _ _,fun x b y D e=>(m u (by rw[<- yD.mp D,<- e];show b)).2 f⟩,fun x b=>?_⟩,fun s=>?_⟩,⟨k,by rw[qf (Ye i)];show t,v,w⟩,⟨xs,by rw[qf (Ye j)];show A,B⟩,by rw[qf (Ye l)];show h.wai,h.evn,h.evi,h.evs⟩,yi L (jw q fun x b=>(m x b).1)⟩
 .show x∈ss/\(if x=u then some p else S.par x)≠none;by_cases e:x=u
  .rw [yO e,e];show⟨g,fun z=>by cases z⟩
  .rw [yE e];show m x ((yw.mp b).resolve_right fun z=>e (yD.mp z))
 .rw [qaX,N];show _=(if s=u then some p else S.par s).map V.str;by_cases e:s=u
  .subst e;rw[yO rfl,yO rfl];rfl
  .rw [yE (fun x=>e (xR x)),yE e]
theorem ok_la(F:Fun K "look_around" "Forest.look_around" qZ f fd)(T:Txt K mg cc cw)(K3:MethOk P w K mg base CX0 6 cw "beside" ["self","place"] (spBs cw))(K8:MethOk P w K mg base CX0 3 (cc 9) "bring_together" ["self","one","other"] (spBt cc cw))(Kr:MethOk P w K mg base CX0 1 (cc 9) "reach" ["self","place","row"] (spRe cc cw)):FnOk P w K mg base CX0 7 f fd ["self","place"] (spLa cc cw):=by
 show F.ok Ks fun _ _ _ s H vs Q E hr h=>?_
 .obtain⟨H0,a,ss,ns,qs,S,dn,wt,v,B,rfl,h,c,bh,av,bc,I,hC,q1,q2⟩:=h;have U:=jY hr;show⟨_,(qe (jq y0 rfl (qM (K:=K) rfl (qK K3 (hmR hr) (qC (K:=K) rfl (pv 0) rfl) (qa (pv 1) qd))) (qr (i:=2) Ks.nd rfl (yQ rfl))
 (qc (qN (qk (zT (K:=K) rfl U) (pv 2) (qC (K:=K) rfl (pv 0) rfl) (by with_unfolding_all rfl)) (qe (qW (qK K8 (hmR hr) (pv 0) (qa (pv 1) (qa (pv 2) qd))))) (qe (qN (qk (zj (K:=K) rfl U) (pv 2) (qC (K:=K) rfl (pv 0) rfl) (by with_unfolding_all rfl)) (qc (qq (i:=3) Ks.nd rfl (yQ rfl) (qx (qy (K:=K) rfl U) (qC (K:=K) rfl (pv 0) rfl) (pv 2) (fun _ _=>rfl)))
 (qc (j4 (pv 1) (zg (qC (K:=K) rfl (pv 0) rfl) (pv 2) (zi U)))
 (qe (qW (qK Kr (hmR hr) (pv 0) (qa (pv 3) (qa (qG (jU (K:=K) rfl) (qx (qy (K:=K) rfl U) (qC (K:=K) rfl (pv 0) rfl) (pv 1) (fun _ _=>rfl)) (qR (qa (pv 2) (qa (pv 3) qd)))) qd))))))) qt)))
 (qe (qN (qk qbb (qC (K:=K) rfl (pv 0) rfl) jL (qw _)) (qe ps_retN) qt))))),?_⟩
  have am:v∈ss:=h.evs v (by simp)
  obtain⟨rv,az⟩:∃ r,S.rows v=some r:=by
   cases e:S.rows v with
   | none=>show absurd e ((h.evi v).mp (by simp))
   | some r=>show⟨r,rfl⟩
  obtain⟨j,hj⟩:=yf am;have af:=h.web.same h.sm;obtain⟨wx,dd,ol,nn,hb,_⟩:=id af;apply .inl (h.obj.rd T 0 rfl ?_);show⟨a.b,wx,_,rfl,hb,zY (by room),?_⟩;apply⟨a.b,ss,ns,v,j,rfl,af,hj,fun H1 s1 bl ag=>?_⟩;have l:=fun u=>av j v u hj;have O:(inB ss 0 (ns.getD j 0)).length<=14:=yi (qbp _ _ _) c.few;unfold nbL at q1 q2;rw[qdO c.nd hj] at q1 q2;generalize inB ss 0 (ns.getD j 0)=bes at l O q1 q2 ⊢;have bf:=(h.same s1).new ag;have s2:=qE s1 (o:=.lst (bes.map V.str)) ag;have eb:upd H1 bl (.lst (bes.map V.str)) bl=some (.lst (bes.map V.str)):=qb;generalize upd H1 bl (.lst (bes.map V.str))=H2 at s2 eb;have h2:=h.same s2;show .inl ⟨⟨_,.of eb⟩,jc (xs:=bes.map V.str) (fun i σ J=>∃(S':FS) (more:LS) (y2 y3:Option V),σ=[some (.ref a.x),some (.str v),y2,y3]/\FoA (cc 9) cw H0 J a ss ns qs S' ss (dn++[v]) (wt++more) .non/\Bx a.six H2 J/\FI B (pt qs) S'/\Mono S S'/\(∀ Sf mf o,LaR qs ss v (bes.drop i) S' Sf mf o->LaR qs ss v bes S Sf (more++mf) o)/\∀ u∈bes.take i,S'.bas u=S'.bas v\/(S'.par u≠none/\u∉dn++[v])) ⟨S,[],_,_,rfl,by rw[Yb];show h2,fun _ _ _ e=>e,I,Mono.refl S,(fun _ _ _ z=>z),(fun u U=>by simp at U)⟩ (fun i σ J _ hp=>?_) (fun i y σ J hy hp=>?_) fun σ J hp=>?_⟩
  .obtain⟨S',more,y2,y3,rfl,_,A,_⟩:=hp;show .of (A _ _ bf eb)
  .obtain⟨S',more,y2,y3,rfl,g,A,D,C,N,M⟩:=hp;rw[yd] at hy;obtain⟨u,X,rfl⟩:=yn.mp hy;have Y:B v u:=(l u).mp (ye X);have ak:u∈ss:=c.inn _ _ (c.gr.as Y);have d:=C.ro v rv az;have R:bes.take (i+1)=bes.take i++[u]:=by rw[yG,X];rfl
   rw[drop_at X] at N;obtain⟨kr,r1,r2,r3⟩:=g.row;have t:=r3 u;apply .inl (g.obj.rd T 2 rfl ?_);show .inr (.inl ⟨a.dr,_,rfl,DGet.k (k:=Sum.inr u) r1,?_⟩)
   cases m:S'.rows u with
   | some ru =>
    rw[m] at t;obtain⟨tu,k1,k2,_⟩:=t;rw[k1];show⟨_,rfl,zr ?_⟩;ext;obtain⟨dx,fs,Z,_,_,_,aa⟩:=id g.obj;show⟨a.x,dx,fs,rfl,Z,aa _ (by room),?_⟩;apply⟨H0,a,ss,ns,qs,S',dn++[v],wt++more,v,u,rv,ru,B,rfl,g,c,D,d,m,Y,fun H5 S5 be h5 G I5 au m5 L=>?_,fun H5 t5 r5 h5 G e5 n5 aq ax L=>?_⟩
    .ext;show .inl (h5.obj.rd T 7 rfl ?_);apply⟨rfl,_,rfl,qI (fun h=>by simp at h) fun _=>?_⟩;show⟨S5,more++be,_,_,rfl,by rw[<- y8 wt];show h5,A.trans G,I5,C.trans m5,(fun Sf mf o z=>by rw[y8];show N _ _ _ (.bt (by rw[m];show fun z=>by cases z) L z)),fun z hz=>?_⟩;rw[R] at hz;rcases yw.mp hz with hz | hz
     .show(M z hz).imp (m5.ba z v) fun y=>⟨m5.pa z y.1,y.2⟩
     .rw [yD.mp hz];show .inl au.symm
    .ext;show .inl (h5.obj.rd T 7 rfl ?_);apply⟨rfl,_,rfl,zr ?_⟩;show q2 H5 S' more t5 r5 h5 (((Bx.of s2).trans A).trans G) e5 n5 aq ax (by have:=N _ _ _ (.row (by rw[m];show fun z=>by cases z) L);rwa[Yb] at this)
   | none =>
    rw[m] at t;have ai:ze kr (.inr u:Key)=none:=t;rw[ai];have aj:u∉dn++[v]:=fun z=>(g.evi u).mp (yF _ z) m;show⟨_,rfl,qI (fun h=>by cases h) fun _=>?_⟩;obtain⟨ka,p1,p2,p3⟩:=g.par;apply .inl (g.obj.rd T 3 rfl ?_);show .inr (.inl ⟨a.da,_,rfl,DGet.k (k:=Sum.inr u) p1,?_⟩);rw[p3]
    cases ep:S'.par u with
    | some z =>
     show⟨_,rfl,qI (fun h=>by cases h) fun _=>?_⟩;apply .inl (g.obj.rd T 7 rfl ?_);apply⟨rfl,_,rfl,qI (fun h=>by simp at h) fun _=>?_⟩;show⟨S',more,_,_,rfl,g,A,D,C,(fun Sf mf o z=>N _ _ _ (.old m (by rw[ep];show fun z=>by cases z) z)),fun z hz=>?_⟩;rw[R] at hz;rcases yw.mp hz with hz | hz
     .show M z hz
     .rw [yD.mp hz];show .inr ⟨by rw[ep];show(fun y=>by cases y),aj⟩
    | none =>
     show⟨_,rfl,zr ?_⟩
     obtain⟨y,n⟩:∃ y,pt qs u=some y:=by
      cases e:pt qs u with
      | some y=>show⟨y,rfl⟩
      | none =>
       exfalso;have k:=bc u ak e
       cases e2:S.rows u with
       | none=>show k e2
       | some r=>rw[C.ro u r e2] at m;cases m
     have bd:y∈ss:=c.inn _ _ (c.gr.as (c.gr.fa n));have an:=D.fresh c.gr m ep n;have ay:=g.sm _ _ h.prt;obtain⟨h3,bg⟩:=g.setP (p:=v) p1 ak ep;have bj:=c.few;apply .inl (g.obj.rd T 1 rfl ?_);apply qea ay (by rw[jP,n];rfl) ?_;apply .inl (g.obj.rd T 3 rfl ?_);apply .inr ⟨a.da,_,rfl,DPut.k (k:=Sum.inr u) p1 (by rw[YA];lk),?_⟩;have ac:Bx a.six H2 (upd J a.da (.dK (zA ka (Sum.inr u) (.str v)))):=A.upd (by simp[Fo.six]);generalize upd J a.da (.dK (zA ka (Sum.inr u) (.str v)))=J3 at h3 ac;ext;obtain⟨dx,fs,Z,_,_,_,aa⟩:=id h3.obj;show⟨a.x,dx,fs,rfl,Z,aa _ (by room),?_⟩;apply .inl (h3.obj.rd T 2 rfl ?_);apply h3.rowAt (S:=S'.setPar u v) d fun tv ap=>?_;apply⟨by show 2<=sizeLine;decide,fun c1 aw=>?_⟩;have t1:=qE (Sr J3) (o:=.lst [.str u,.str y]) aw;have ad:upd J3 c1 (.lst [.str u,.str y]) c1=some (.lst [.str u,.str y]):=qb;generalize upd J3 c1 (.lst [.str u,.str y])=J4 at t1 ad;have bi:=((D.alt v rv d).inn c am).1;show qeh (t1 _ _ ap) ad (by rw[ya];show _+2<=_;lk) fun c2 ah=>?_;have n2:=(h3.same t1).newA ah;have t2:=qE t1 (o:=.lst (rv.map V.str++[.str u,.str y])) ah;have ae:upd J4 c2 (.lst (rv.map V.str++[.str u,.str y])) c2=some (.lst ((rv++[u,y]).map V.str)):=by rw[qb,yy];rfl
     generalize upd J4 c2 (.lst (rv.map V.str++[.str u,.str y]))=J5 at t2 ae;apply⟨H0,a,ss,ns,qs,S'.setPar u v,ss,dn++[v],wt++more,.non,y,c2,rv++[u,y],rfl,h3.same t2,c.few,ae,n2,bd,an,fun H6 h6 ao _=>?_⟩;have W:Gw S' ((S'.setPar u v).setRow y (rv++[u,y])) v u y rv:=⟨yO rfl,fun s hs=>yE hs,yO rfl,fun s hs=>yE hs,rfl⟩;have I6:=D.grow c.gr d Y m ep n W
     have m6:Mono S' ((S'.setPar u v).setRow y (rv++[u,y])):=⟨fun _ _ e=>e,fun z hz=>by
      show(if z=u then some v else S'.par z)≠none;split
      .show fun x=>by cases x
      .show hz,fun z r e=>by rw[W.ro z (fun x=>by rw[x,an] at e;cases e)];show e⟩
     apply .inl (h6.obj.rd T 7 rfl ?_);apply⟨rfl,_,rfl,qI (fun h=>by simp at h) fun _=>?_⟩;show⟨_,more++[y],_,_,rfl,by rw[<- y8 wt];show h6,(ac.trans (Bx.of t2)).trans ao,I6,C.trans m6,(fun Sf mf o z=>by rw[y8];show N _ _ _ (.new m ep n d z)),fun z hz=>?_⟩;rw[R] at hz;rcases yw.mp hz with hz | hz
     .show(M z hz).imp (m6.ba z v) fun y=>⟨m6.pa z y.1,y.2⟩
     .rw [yD.mp hz];show .inr ⟨by rw[W.pu];show(fun x=>by cases x),aj⟩
  .obtain⟨S',more,y2,y3,rfl,g,A,D,C,N,M⟩:=hp;rw[ya,yP] at M;show q1 J S' more g ((Bx.of s2).trans A) D ?_ C (by have:=N _ _ _ (by rw[ya,X8];show .nil);rwa[Yb] at this);have ar:=hC.on C;show⟨fun z u hz q=>?_,fun z hz=>?_⟩
   .rcases yw.mp hz with hz1 | hz1
    .by_cases al:u=v
     .rw [al] at q ⊢;rcases M z ((l z).mpr (c.gr.as q)) with y | y
      .show .inl y.symm
      .show absurd (yF _ hz1) y.2
     .rcases ar.cl z u hz1 q with y | ⟨y1,y2⟩
      .show .inl y
      .show .inr ⟨y1,fun x=>(yw.mp x).elim y2 fun x=>al (yD.mp x)⟩
    .rw [yD.mp hz1] at q ⊢;show M u ((l u).mpr q)
   .show(g.evi z).mp (yF _ hz)
theorem ud:FnScope ["self","place"] ["self"] (qg j7):=fS
noncomputable def S0:FS:=⟨fun _=>none,fun _=>none,fun s=>s⟩
noncomputable def SI(qs:LP)(l:LS):FS:=⟨fun s=>if s∈l/\pt qs s=none then some [s] else none,fun _=>none,fun s=>s⟩
inductive GwR(qs:LP)(ss:LS)(ns:LN):FS->LS->FS->Option (LS)->Prop
 | nil {S:FS}:GwR qs ss ns S [] S none
 | row {S S1:FS} {v:Str} {wt m r:LS}:LaR qs ss v (nbL ss ns v) S S1 m (some r)->GwR qs ss ns S (v::wt) S1 (some r)
 | on {S S1 S2:FS} {v:Str} {wt m:LS} {o:Option (LS)}:LaR qs ss v (nbL ss ns v) S S1 m none->GwR qs ss ns S1 (wt++m) S2 o->GwR qs ss ns S (v::wt) S2 o
theorem GwR.det{wt:LS}{o:Option (LS)}(h:GwR qs ss ns S wt S1 o):GwR qs ss ns S wt S2 o'->S1=S2/\o=o':=by
 induction h generalizing S2 o' with
 | nil=>intro g;cases g;show⟨rfl,rfl⟩
 | row h =>
  intro g
  cases g with
  | row g =>
   obtain⟨a,_,c⟩:=h.det g;show⟨a,c⟩
  | on g _=>cases (h.det g).2.2
 | on h _ ih =>
  intro g
  cases g with
  | row g=>cases (h.det g).2.2
  | on g k =>
   obtain⟨a,b,_⟩:=h.det g;subst a;subst b;show ih k
def LoV(H:Hp)(lo:V)(o:Option (LS)):Prop:=(lo=.non/\o=none)\/∃ t r,lo=.ref t/\H t=some (.lst (r.map V.str))/\o=some r
noncomputable def sgL(qs:LP)(l:LS):LS:=l.filter fun s=>(pt qs s).isNone
structure FoD(cf cw:Addr)(H0 H:Hp)(a:Fo)(ss:LS)(ns:LN)(qs:LP)(S:FS)(dn wt:LS)(lo:V)(A:Str->Str->Prop):Prop where
 fo:FoA cf cw H0 H a ss ns qs S ss dn wt lo
 en:(lo=.non/\wt=[]/\FI A (pt qs) S/\CI A S (fun u=>u∈dn)/\∀ z∈ss,pt qs z=none->S.rows z≠none)\/∃ t r,lo=.ref t/\H t=some (.lst (r.map V.str))/\t∉a.all/\Aug A (pt qs) r/\r.length<=28
 gw:∃ o,GwR qs ss ns (SI qs ss) (sgL qs ss) S o/\LoV H lo o
theorem SI_nil(qs:LP):SI qs []=S0:=by unfold SI S0;simp
theorem SI_on{l:LS}(h:pt qs z=none):SI qs (l++[z])=(SI qs l).setRow z [z]:=by
 unfold SI FS.setRow
 congr 1
 funext s;dsimp only;by_cases e:s=z
 .subst e;rw[yO ⟨by simp,h⟩,yO rfl]
 .rw [yE e];have:s∈l++[z]↔s∈l:=by simp[e]
  simp only[this]
theorem SI_off{l:LS}(h:pt qs z≠none):SI qs (l++[z])=SI qs l:=by
 unfold SI
 congr 1
 funext s;by_cases e:s=z
 .subst e;rw[yE (fun k=>h k.2),yE (fun k=>h k.2)]
 .have:s∈l++[z]↔s∈l:=by simp[e]
  simp only[this]
inductive spGw(cc:Nat->Addr)(cw:Addr)(vs:List V)(H:Hp)(Q:VK)(E:XK):Prop|mk (H0:Hp) (a:Fo) (ss:LS) (ns:LN) (qs:LP) (A:Str->Str->Prop) (_:vs=[.ref a.x]) (_:FoA (cc 9) cw H0 H a ss ns qs S0 [] [] [] .non) (_:Wb A ss qs) (_:(∀ s∈ss,zG s=true)) (_:(∀(j:Nat) z u,ss[j]?=some z->(u∈inB ss 0 (ns.getD j 0)↔A z u))) (_:∀(H':Hp) (S:FS) (dn wt:LS) (lo:V),FoD (cc 9) cw H0 H' a ss ns qs S dn wt lo A->Bx a.six H H'->Q .non H')
theorem ix_natF{k:Nat}(h:k<n):seqIndex? (k:Int) n=some k:=by
 unfold seqIndex?;simp;lk
theorem nin_prF{d:Addr}{Q:VK}(a:H d=some (.dK (prK qs)))(q:Q (.bl (!(pt qs s).isSome)) H):qef K true (.str s) (.ref d) H Q:=by
 show .inr (.inl ⟨d,_,rfl,DGet.k (k:=Sum.inr s) a,?_⟩);rw[jP,yO rfl,Xo];show q
theorem FoA.ne{a:Fo}{bs wt:LS}(h:FoA (cc 9) cw H0 H a ss ns qs S bs dn wt lo):(¬a.x=a.dr/\¬a.x=a.da/\¬a.x=a.ds/\¬a.x=a.dg/\¬a.x=a.dw)/\(¬a.dr=a.da/\¬a.dr=a.ds/\¬a.dr=a.dg/\¬a.dr=a.dw)/\(¬a.da=a.ds/\¬a.da=a.dg/\¬a.da=a.dw)/\(¬a.ds=a.dg/\¬a.ds=a.dw)/\¬a.dg=a.dw:=by simpa [Fo.six] using h.sep
theorem FoA.setN{a:Fo}{bs wt:LS}{ks:List (Key×V)}(h:FoA (cc 9) cw H0 H a ss ns qs S bs dn wt lo)(p:H a.ds=some (.dK ks))(hz:S.bas z=z):FoA (cc 9) cw H0 (upd H a.ds (.dK (zA ks (Sum.inr z) (.str z)))) a ss ns qs S (bs++[z]) dn wt lo/\ks.length<=bs.length:=by
 obtain⟨s,F,r2,G⟩:=h.row;obtain⟨r,C,D,E⟩:=h.par;obtain⟨k,g,j,l⟩:=h.bas;obtain⟨xs,m,n⟩:=h.rng;rw[p] at g;cases g;obtain⟨⟨I,J,A,K,L⟩,⟨M,B,N,O⟩,⟨b,t,v⟩,⟨d,f⟩,w⟩:=h.ne;have i:Bx a.six H (upd H a.ds (.dK (zA ks (Sum.inr z) (.str z)))):=(Bx.of (Sr H)).upd (by simp[Fo.six]);show⟨⟨qax h.sm (h.fr _ (by simp[Fo.six])),h.web,h.prt,h.fr,h.nd,fun c hc=>⟨(h.exf c hc).1,(h.exf c hc).2.1,(h.exf c hc).2.2.elim fun o e=>⟨o,i _ _ (h.exf c hc).2.1 e⟩⟩,h.obj.eq (qf A),⟨s,by rw[qf B];show F,r2,fun y=>(G y).mono i Fo.sub⟩,⟨r,by rw[qf b];show C,D,E⟩,⟨_,qb,by have:=jN ks (Sum.inr z:Key) (.str z);rw[yu];show _<=_+1;lk,fun u q=>?_⟩,⟨xs,by rw[qf (Ye d)];show m,n⟩,by rw[qf (Ye f)];show h.wai,h.evn,h.evi,h.evs⟩,j⟩;rw[qaX];by_cases e:u=z
 .subst e;rw[yO rfl,hz]
 .rw [yE (fun x=>e (xR x))];show l u ((yw.mp q).resolve_right fun y=>e (yD.mp y))
theorem FoA.pop{a:Fo}{bs wt:LS}(h:FoA (cc 9) cw H0 H a ss ns qs S bs dn (v::wt) lo):FoA (cc 9) cw H0 (upd H a.dw (.lst (wt.map V.str))) a ss ns qs S bs (dn++[v]) wt lo:=by
 obtain⟨r,C,r2,D⟩:=h.row;obtain⟨q,z,A,B⟩:=h.par;obtain⟨k,j,l,m⟩:=h.bas;obtain⟨xs,n,p⟩:=h.rng;obtain⟨⟨E,F,G,I,w⟩,⟨J,K,L,x⟩,⟨s,t,d⟩,⟨u,f⟩,g⟩:=h.ne;have b:dn++[v]++wt=dn++v::wt:=by simp
 have i:Bx a.six H (upd H a.dw (.lst (wt.map V.str))):=(Bx.of (Sr H)).upd (by simp[Fo.six]);show⟨qax h.sm (h.fr _ (by simp[Fo.six])),h.web,h.prt,h.fr,h.nd,fun c hc=>⟨(h.exf c hc).1,(h.exf c hc).2.1,(h.exf c hc).2.2.elim fun o e=>⟨o,i _ _ (h.exf c hc).2.1 e⟩⟩,h.obj.eq (qf w),⟨r,by rw[qf x];show C,by rw[b];show r2,fun y=>(D y).mono i Fo.sub⟩,⟨q,by rw[qf d];show z,A,B⟩,⟨k,by rw[qf f];show j,l,m⟩,⟨xs,by rw[qf g];show n,by rw[b];show p⟩,qb,by rw[b];show h.evn,by rw[b];show h.evi,by rw[b];show h.evs⟩
theorem ok_gw(F:Fun K "grow" "Forest.grow" j7 f fd)(T:Txt K mg cc cw)(Kx:MethOk P w K mg base CX0 1 cw "places" ["self"] (spPls cw))(Kr:MethOk P w K mg base CX0 1 (cc 9) "reach" ["self","place","row"] (spRe cc cw))(ue:MethOk P w K mg base CX0 7 (cc 9) "look_around" ["self","place"] (spLa cc cw)):FnOk P w K mg base CX0 8 f fd ["self"] (spGw cc cw):=by
 show F.ok ud fun _ _ _ _ H vs Q E hr h=>?_
 .obtain⟨H0,a,ss,ns,qs,B,rfl,h,G,an,aj,q⟩:=h;have hu:=jY hr;have ap:=G.few;show⟨_,(qc (jq y0 rfl (qM (K:=K) rfl (jG Kx (hmR hr) (qC (K:=K) rfl (pv 0) rfl))) (qr (i:=1) ud.nd rfl (yQ rfl))
 (qc (j4 (pv 1) (zg (qC (K:=K) rfl (pv 0) rfl) (pv 1) (zi hu)))
 (qe (qN (qk (zj (K:=K) rfl hu) (pv 1) (qC (K:=K) rfl (pv 0) rfl) (by with_unfolding_all rfl)) (qe (qW (qK Kr (hmR hr) (pv 0) (qa (pv 1) (qa (qR (qa (pv 1) qd)) qd))))) qt))))
 (qe (qay y0 (PW.pt (qaU (qk qcw (qm (jj (K:=K) rfl) rfl T.b_len Yt (qa (qC (K:=K) rfl (pv 0) rfl) qd)) qi (qw _)) (zP (qk qfc (qC (K:=K) rfl (pv 0) rfl) jL (qw _)))))
 (qe (qW (qK ue (hmR hr) (pv 0) (qa (qbI (K:=K) rfl yU X3 X4 qcc (qC (K:=K) rfl (pv 0) rfl) (qa qi qd)) qd))))))),?_⟩
  have ac:=h.web.same h.sm;obtain⟨wx,dd,ol,nn,hb,_⟩:=id ac;apply .inl (h.obj.rd T 0 rfl ?_);show⟨a.b,wx,_,rfl,hb,zY (by room),?_⟩;apply⟨a.b,ss,ns,rfl,ac,fun pl ae=>?_⟩;have as:=h.new ae;have s1:=qE (Sr H) (o:=.lst (ss.map V.str)) ae;have e1:upd H pl (.lst (ss.map V.str)) pl=some (.lst (ss.map V.str)):=qb;generalize upd H pl (.lst (ss.map V.str))=H1 at s1 e1;show .inl ⟨⟨_,.of e1⟩,jc (xs:=ss.map V.str) (fun i U J=>∃(Z:Option V),U=[some (.ref a.x),Z]/\FoA (cc 9) cw H0 J a ss ns qs (SI qs (ss.take i)) (ss.take i) [] (sgL qs (ss.take i)) .non/\Bx a.six H1 J) ⟨_,rfl,by rw[YO,SI_nil];show h.same s1,fun _ _ _ e=>e⟩ (fun i U J _ n=>?_) (fun i y U J hy n=>?_) fun U J n=>?_⟩
  .obtain⟨Z,rfl,_,bx⟩:=n;show .of (bx _ _ as e1)
  .obtain⟨Z,rfl,Y,bx⟩:=n;rw[yd] at hy;obtain⟨z,hz,rfl⟩:=yn.mp hy;have aw:=(yc.mp hz).1;have ar:=ye hz;have af:ss.take (i+1)=ss.take i++[z]:=by rw[yG,hz];rfl
   obtain⟨ks,b1,b2,b3⟩:=Y.bas;rw[yH] at b2;obtain⟨C,_⟩:=Y.setN (z:=z) b1 rfl;apply .inl (Y.obj.rd T 4 rfl ?_);apply .inr ⟨a.ds,_,rfl,DPut.k (k:=Sum.inr z) b1 (by rw[YA];lk),?_⟩;have p:Bx a.six H1 (upd J a.ds (.dK (zA ks (Sum.inr z) (.str z)))):=bx.upd (by simp[Fo.six]);generalize upd J a.ds (.dK (zA ks (Sum.inr z) (.str z)))=J2 at C p;have ao:=C.sm _ _ h.prt;apply .inl (C.obj.rd T 1 rfl ?_);show nin_prF ao ⟨_,rfl,?_⟩
   cases ez:pt qs z with
   | some y =>
    show yq ?_;have es:sgL qs (ss.take i++[z])=sgL qs (ss.take i):=by unfold sgL;rw[yX,yS,ez];simp
    show⟨_,rfl,by rw[af,SI_off (by rw[ez];show fun k=>nomatch k),es];show C,p⟩
   | none =>
    show zr ?_;ext;obtain⟨dx,fs,O,_,_,_,R⟩:=id C.obj;show⟨a.x,dx,fs,rfl,O,R _ (by room),?_⟩;apply⟨by show 1<=sizeLine;decide,fun c1 ad=>?_⟩;have n1:=C.newA ad;have t1:=qE (Sr J2) (o:=.lst [.str z]) ad;have aa:upd J2 c1 (.lst [.str z]) c1=some (.lst ([z].map V.str)):=qb;generalize upd J2 c1 (.lst [.str z])=J3 at t1 aa
    have aq:z∉ss.take i:=fun y=>by
     obtain⟨j,hj⟩:=yf y;have ak:=(yc.mp hj).1;rw[yH] at ak;rw[List.getElem?_take,yO (by lk)] at hj;have:=qv G.nd hj hz;lk
    apply⟨H0,a,ss,ns,qs,SI qs (ss.take i),ss.take i++[z],[],sgL qs (ss.take i),.non,z,c1,[z],rfl,C.same t1,ap,aa,n1,ar,yE (fun k=>aq k.1),fun H6 h6 ah _=>?_⟩;have es:sgL qs (ss.take i++[z])=sgL qs (ss.take i)++[z]:=by unfold sgL;rw[yX,yS,ez];simp
    show⟨_,rfl,by rw[af,SI_on ez,es];show h6,(p.trans (Bx.of t1)).trans ah⟩
  .obtain⟨Z,rfl,Y,bx⟩:=n;rw[ya,yP] at Y;have ag:Bx a.six H J:=(Bx.of s1).trans bx
   have IJ:FI B (pt qs) (SI qs ss):=FI.start (fun v r e=>by
    have e':(if v∈ss/\pt qs v=none then some [v] else none)=some r:=e;split at e'
    .rename_i k;show⟨k.2,(ym e').symm⟩
    .cases e') (fun _=>rfl) fun _=>rfl
   ext;obtain⟨W,g⟩:∃ W:Nat->L2.St->Hp->Prop,W=fun m U J=>∃(S:FS) (dn wt:LS) (lo:V) (Z:Option V),U=[some (.ref a.x),Z]/\Bx a.six H J/\((lo=.non/\m=15-dn.length/\(∀ Sf o,GwR qs ss ns S wt Sf o->GwR qs ss ns (SI qs ss) (sgL qs ss) Sf o)/\FoA (cc 9) cw H0 J a ss ns qs S ss dn wt .non/\FI B (pt qs) S/\CI B S (fun u=>u∈dn)/\∀ z∈ss,pt qs z=none->S.rows z≠none)\/(lo≠.non/\m=0/\FoD (cc 9) cw H0 J a ss ns qs S dn wt lo B)):=⟨_,rfl⟩;show⟨W,⟨15,by rw[g];show⟨SI qs ss,[],_,.non,_,rfl,ag,.inl ⟨rfl,rfl,(fun _ _ z=>z),Y,IJ,⟨(fun v u k=>by cases k),(fun v k=>by cases k)⟩,fun z hz e=>by show(if _ then _ else _)≠none;rw[yO ⟨hz,e⟩];show fun k=>by cases k⟩⟩⟩,fun m U J hW=>?_⟩;rw[g] at hW;obtain⟨S,dn,wt,lo,ax,rfl,d,L⟩:=hW;rcases L with⟨rfl,hm,M,l,I,hC,N⟩ | ⟨am,hm,X⟩
   .have c:=l.wai;apply .inl (l.obj.rd T 6 rfl ?_);apply jO c ?_;rw[ya];ext
    cases wt with
    | nil =>
     show qI (fun h=>by simp at h) fun _=>qI (fun h=>by cases h) fun _=>?_;show q J S dn [] .non ⟨l,.inl ⟨rfl,rfl,I,hC,N⟩,none,M _ _ .nil,.inl ⟨rfl,rfl⟩⟩ d
    | cons v wt =>
     show qI (fun _=>?_) fun h=>absurd (yM (by simp)) h;apply .inl (l.obj.rd T 7 rfl ?_);apply⟨_,rfl,zr ⟨fun au H'=>∃ m',m'<m/\W m' au H',fun _ _ z=>z,?_⟩⟩;have av:dn.length+1<=14:=by have:=l.few;rw[yu,yA] at this;lk
     ext;obtain⟨dx,fs,O,_,_,_,R⟩:=id l.obj;show⟨a.x,dx,fs,rfl,O,R _ (by room),?_⟩;apply .inl (l.obj.rd T 6 rfl ?_);show⟨.inl ⟨rfl,_,.of c⟩,?_⟩;apply⟨a.dw,_,0,0,.str v,rfl,rfl,c,by decide,by decide,by rw[ya];show ix_natF (by simp),rfl,?_⟩;have n:=l.pop;have A:Bx a.six H (upd J a.dw (.lst (wt.map V.str))):=d.upd (by simp[Fo.six]);ext;show spLa cc cw _ (upd J a.dw (.lst (wt.map V.str))) _ _;generalize upd J a.dw (.lst (wt.map V.str))=J2 at n A;show⟨H0,a,ss,ns,qs,S,dn,wt,v,B,rfl,n,G,an,aj,N,I,hC,fun H5 S5 mo h5 s I5 C5 m5 D=>?_,fun H5 S5 mo t5 r5 h5 s e5 n5 ai al D=>?_⟩
     .show⟨15-(dn++[v]).length,by rw[hm,yu];show _-(_+1)<_;lk,?_⟩;rw[g]
      show⟨S5,dn++[v],wt++mo,.non,_,rfl,A.trans s,.inl ⟨rfl,rfl,(fun Sf o z=>M _ _ (.on D z)),h5,I5,C5,fun z hz e=>(by
       have k:=N z hz e
       cases e2:S.rows z with
       | none=>show absurd e2 k
       | some r=>rw[m5.ro z r e2];show fun x=>by cases x)⟩⟩
     .show⟨0,by lk,?_⟩;rw[g];show⟨S5,dn++[v],wt++mo,.ref t5,_,rfl,A.trans s,.inr ⟨(fun e=>by cases e),rfl,⟨h5,.inr ⟨t5,r5,rfl,e5,n5,ai,al⟩,some r5,M _ _ (.row D),.inr ⟨t5,r5,rfl,e5,rfl⟩⟩⟩⟩
   .have c:=X.fo.wai;rcases X.en with k | ⟨t,r,rfl,_⟩
    .show absurd k.1 am
    apply .inl (X.fo.obj.rd T 6 rfl ?_);apply jO c ?_;apply qI (fun _=>?_) (fun _=>qI (fun h=>by cases h) fun _=>q J S dn wt _ X d);apply .inl (X.fo.obj.rd T 7 rfl ?_);apply⟨_,rfl,qI (fun h=>by cases h) fun _=>?_⟩;show q J S dn wt _ X d
theorem uJ:FnScope ["self","web","pairs"] ["self","web","pairs"] (qg j8):=fS
theorem uR:FnScope ["self"] ["self"] (qg zo):=fS
theorem uw:FnScope ["self"] ["self"] (qg jf):=fS
noncomputable def qeS(p:Addr)(H:Hp):Hp:=fun b=>if b=p then none else H b
theorem zJ{b:Addr}(h:b≠p):qeS p H b=H b:=yE h
theorem lkn{f g:Str}{v:V}{fs:List (Str×V)}(h:f≠g)(k:fs.lookup f=none):(qH g v fs).lookup f=none:=by rw[qA,yE h];show k
inductive spFi(cc:Nat->Addr)(cw:Addr)(vs:List V)(H:Hp)(Q:VK)(E:XK):Prop|mk (x dx b r:Addr) (ss:LS) (ns:LN) (us:LQ) (tps qs:LP) (A:Str->Str->Prop) (_:vs=[.ref x,.ref b,.ref r]) (_:H x=some (.ins (cc 9) dx [])) (_:WebAt cw H b ss ns) (_:Adj ss ns tps) (_:Wb A ss qs) (_:(∀ s∈ss,zG s=true)) (_:(∀(j:Nat) z u,ss[j]?=some z->(u∈inB ss 0 (ns.getD j 0)↔A z u))) (_:PL H r us qs) (_:qs.length<=30) (_:(∀ q∈qs,(q∈tps\/(q.2,q.1)∈tps)/\q.1∈ss/\q.2∈ss/\q.1≠q.2)) (_:∀(H0 H':Hp) (a:Fo) (S:FS) (dn wt:LS) (lo:V),a.x=x->a.ex=[]->FoD (cc 9) cw H0 H' a ss ns qs S dn wt lo A->L2.Same (qeS x H) H0->Q .non H')
theorem WebAt.out{b:Addr}{fs:List (Str×V)}(h:WebAt cw H b ss ns)(a:H x=some (.ins (cc 9) dx fs))(i:b≠x):WebAt cw (qeS x H) b ss ns:=by
 obtain⟨j,d,ol,n,h1,c,e,f,g⟩:=h;show⟨j,d,ol,n,(zJ i).trans h1,(zJ ?_).trans c,(zJ ?_).trans e,(zJ ?_).trans f,g⟩
 .show qaq c a (fun z=>by cases z)
 .show qaq e a (fun z=>by cases z)
 .show qaq f a (fun z=>by cases z)
theorem ok_fi(F:Fun K "__init__" "Forest.__init__" j8 f fd)(T:Txt K mg cc cw)(Kl:DefOk P w K mg base CX0 9 "partners_in" ["web","pairs"] (spPn cw))(uS:MethOk P w K mg base CX0 8 (cc 9) "grow" ["self"] (spGw cc cw)):FnOk P w K mg base CX0 10 f fd ["self","web","pairs"] (spFi cc cw):=by
 show F.ok uJ fun _ _ _ s H vs Q E hr h=>?_
 .obtain⟨x,dx,b,r,ss,ns,us,tps,qs,B,rfl,hx,hW,hA,bv,cj,ch,hP,ck,cl,q⟩:=h;have hu:=jY hr;show⟨_,(qc (j3 (K:=K) rfl (pv 0) (pv 1) rfl)
 (qc (j3 (K:=K) rfl (pv 0) (qp Kl (hmR hr) qz (qa (pv 1) (qa (pv 2) qd))) rfl)
 (qc (j3 (K:=K) rfl (pv 0) zB rfl)
 (qc (j3 (K:=K) rfl (pv 0) zB rfl)
 (qc (j3 (K:=K) rfl (pv 0) zB rfl)
 (qc (j3 (K:=K) rfl (pv 0) (qR qd) rfl)
 (qc (j3 (K:=K) rfl (pv 0) (qR qd) rfl)
 (qc (j3 (K:=K) rfl (pv 0) jL rfl)
 (qe (qW (jG uS (hmR hr) (pv 0)))))))))))),?_⟩
  have cb:b≠x:=fun e=>by
   obtain⟨wx,d,ol,n,hb,_⟩:=id hW;subst e;rw[hx] at hb;injection hb with hb;injection hb with _ _ hb;cases hb
  have cs:r≠x:=qaq hP.1 hx (fun z=>by cases z)
  have ct:∀ u∈us,u≠x:=fun u hu=>by
   obtain⟨q,_,eu⟩:=hP.2.mem hu;show qaq eu hx (fun z=>by cases z)
  have fa:∀ i,(h:i<8)->NoAttr K (cc 9) (fAtt.getD i ""):=fun i h=>T.fa _ (by have:i<fAtt.length:=h;rw[yV,yb this];show Xw this);apply .inl ⟨x,cc 9,dx,[],rfl,hx,T.fcl,fa 0 (by decide),by decide,?_⟩;have b1:=(But.refl x H).put (o:=.ins (cc 9) dx (qH "board" (.ref b) []));have bq:upd H x (.ins (cc 9) dx (qH "board" (.ref b) [])) x=some (.ins (cc 9) dx (qH "board" (.ref b) [])):=qb;generalize upd H x (.ins (cc 9) dx (qH "board" (.ref b) []))=H1 at b1 bq ⊢
  have keepW:∀{J:Hp},But x H J->WebAt cw J b ss ns:=fun k=>by
   obtain⟨wx,d,ol,n,h1,h2,h3,h4,h5⟩:=hW;show⟨wx,d,ol,n,k _ _ cb h1,k _ _ (qaq h2 hx (fun z=>by cases z)) h2,k _ _ (qaq h3 hx (fun z=>by cases z)) h3,k _ _ (qaq h4 hx (fun z=>by cases z)) h4,h5⟩
  have ce:PL H1 r us qs:=⟨b1 _ _ cs hP.1,hP.2.len,fun k t ab ht cg=>b1 _ _ (ct t (ye ht)) (hP.2.at_ k t ab ht cg)⟩;apply⟨b,r,ss,ns,us,tps,qs,rfl,keepW b1,hA,ce,⟨cl,bv.qn,ck⟩,fun dp H2 s2 bh ci=>?_⟩;have bx:=s2 _ _ bq;have b2:=b1.same s2;have cr:dp≠x:=fun e=>by rw[e,bq] at bh;cases bh
  have hl:∀{f:Str} {v:V} {fs:List (Str×V)} {n:Nat},fs.length<=n->(qH f v fs).length<=n+1:=fun h=>yi (jA _ _ _) (by lk);apply .inl ⟨x,cc 9,dx,_,rfl,bx,T.fcl,fa 1 (by decide),Yy (hl (n:=0) (yh _)) (by decide),?_⟩
  have c3:L2.Same (qeS x H2) (upd H2 x (.ins (cc 9) dx (qH "partners" (.ref dp) (qH "board" (.ref b) [])))):=fun c o e=>by
   have hc:c≠x:=fun z=>by rw[z] at e;unfold qeS at e;rw[yO rfl] at e;cases e
   rw[zJ hc] at e;rw[qf hc];show e
  have ap:upd H2 x (.ins (cc 9) dx (qH "partners" (.ref dp) (qH "board" (.ref b) []))) x=some (.ins (cc 9) dx (qH "partners" (.ref dp) (qH "board" (.ref b) []))):=qb;obtain⟨H0,ac⟩:∃ H0,H0=qeS x H2:=⟨_,rfl⟩;rw[<- ac] at c3;have D:H0 x=none:=by rw[ac];show yO rfl
  have l3:(qH "partners" (.ref dp) (qH "board" (.ref b) [])).length<=2:=hl (hl (n:=0) (yh _));generalize upd H2 x (.ins (cc 9) dx (qH "partners" (.ref dp) (qH "board" (.ref b) [])))=H3 at c3 ap ⊢;obtain⟨f3,bi⟩:∃ f3,f3=qH "partners" (.ref dp) (qH "board" (.ref b) []):=⟨_,rfl⟩;rw[<- bi] at ap l3;ext;intro m ao;have C:m≠x:=fun e=>by rw[e,ap] at ao;cases ao
  have cy:H0 m=none:=c3.free ao;have cm:upd H3 m (.dK []) x=some (.ins (cc 9) dx f3):=by rw[qf C.symm];show ap
  apply .inl ⟨x,cc 9,dx,_,rfl,cm,T.fcl,fa 2 (by decide),Yy l3 (by decide),?_⟩;have c4:L2.Same H0 (upd (upd H3 m (.dK [])) x (.ins (cc 9) dx (qH "rows" (.ref m) f3))):=qax (qE c3 ao) D;have aq:(upd (upd H3 m (.dK [])) x (.ins (cc 9) dx (qH "rows" (.ref m) f3))) x=some (.ins (cc 9) dx (qH "rows" (.ref m) f3)):=qb;have l4:(qH "rows" (.ref m) f3).length<=3:=hl l3;have U:(upd (upd H3 m (.dK [])) x (.ins (cc 9) dx (qH "rows" (.ref m) f3))) m=some (.dK []):=by rw[qf C,qb]
  generalize upd (upd H3 m (.dK [])) x (.ins (cc 9) dx (qH "rows" (.ref m) f3))=H4 at c4 aq U ⊢;obtain⟨f4,bj⟩:∃ f,f=qH "rows" (.ref m) f3:=⟨_,rfl⟩;rw[<- bj] at aq l4;ext;intro l G;have I:l≠x:=fun e=>by rw[e,aq] at G;cases G
  have cv:H0 l=none:=c4.free G;have ad:l≠m:=fun e=>by rw[e,U] at G;cases G
  have cn:upd H4 l (.dK []) x=some (.ins (cc 9) dx f4):=by rw[qf I.symm];show aq
  apply .inl ⟨x,cc 9,dx,_,rfl,cn,T.fcl,fa 3 (by decide),Yy l4 (by decide),?_⟩;have c5:L2.Same H0 (upd (upd H4 l (.dK [])) x (.ins (cc 9) dx (qH "parents" (.ref l) f4))):=qax (qE c4 G) D;have ar:(upd (upd H4 l (.dK [])) x (.ins (cc 9) dx (qH "parents" (.ref l) f4))) x=some (.ins (cc 9) dx (qH "parents" (.ref l) f4)):=qb;have l5:(qH "parents" (.ref l) f4).length<=4:=hl l4;have M:(upd (upd H4 l (.dK [])) x (.ins (cc 9) dx (qH "parents" (.ref l) f4))) l=some (.dK []):=by rw[qf I,qb]
  have W:(upd (upd H4 l (.dK [])) x (.ins (cc 9) dx (qH "parents" (.ref l) f4))) m=some (.dK []):=by rw[qf C,qf (Ye ad)];show U
  generalize upd (upd H4 l (.dK [])) x (.ins (cc 9) dx (qH "parents" (.ref l) f4))=H5 at c5 ar W M ⊢;obtain⟨f5,bm⟩:∃ f,f=qH "parents" (.ref l) f4:=⟨_,rfl⟩;rw[<- bm] at ar l5;ext;intro j A;have ah:j≠x:=fun e=>by rw[e,ar] at A;cases A
  have cz:H0 j=none:=c5.free A;have aj:j≠m:=fun e=>by rw[e,W] at A;cases A
  have ai:j≠l:=fun e=>by rw[e,M] at A;cases A
  have co:upd H5 j (.dK []) x=some (.ins (cc 9) dx f5):=by rw[qf ah.symm];show ar
  apply .inl ⟨x,cc 9,dx,_,rfl,co,T.fcl,fa 4 (by decide),Yy l5 (by decide),?_⟩;have c6:L2.Same H0 (upd (upd H5 j (.dK [])) x (.ins (cc 9) dx (qH "bases" (.ref j) f5))):=qax (qE c5 A) D;have as:(upd (upd H5 j (.dK [])) x (.ins (cc 9) dx (qH "bases" (.ref j) f5))) x=some (.ins (cc 9) dx (qH "bases" (.ref j) f5)):=qb;have l6:(qH "bases" (.ref j) f5).length<=5:=hl l5;have Z:(upd (upd H5 j (.dK [])) x (.ins (cc 9) dx (qH "bases" (.ref j) f5))) j=some (.dK []):=by rw[qf ah,qb]
  have X:(upd (upd H5 j (.dK [])) x (.ins (cc 9) dx (qH "bases" (.ref j) f5))) m=some (.dK []):=by rw[qf C,qf (Ye aj)];show W
  have N:(upd (upd H5 j (.dK [])) x (.ins (cc 9) dx (qH "bases" (.ref j) f5))) l=some (.dK []):=by rw[qf I,qf (Ye ai)];show M
  generalize upd (upd H5 j (.dK [])) x (.ins (cc 9) dx (qH "bases" (.ref j) f5))=H6 at c6 as X N Z ⊢;obtain⟨f6,bn⟩:∃ f,f=qH "bases" (.ref j) f5:=⟨_,rfl⟩;rw[<- bn] at as l6;apply⟨by show 0<=sizeLine;decide,fun g y=>?_⟩;have av:g≠x:=fun e=>by rw[e,as] at y;cases y
  have cx:H0 g=none:=c6.free y;have af:g≠m:=fun e=>by rw[e,X] at y;cases y
  have ae:g≠l:=fun e=>by rw[e,N] at y;cases y
  have ag:g≠j:=fun e=>by rw[e,Z] at y;cases y
  have cp:upd H6 g (.lst []) x=some (.ins (cc 9) dx f6):=by rw[qf av.symm];show as
  apply .inl ⟨x,cc 9,dx,_,rfl,cp,T.fcl,fa 5 (by decide),Yy l6 (by decide),?_⟩;have c7:L2.Same H0 (upd (upd H6 g (.lst [])) x (.ins (cc 9) dx (qH "rings" (.ref g) f6))):=qax (qE c6 y) D;have au:(upd (upd H6 g (.lst [])) x (.ins (cc 9) dx (qH "rings" (.ref g) f6))) x=some (.ins (cc 9) dx (qH "rings" (.ref g) f6)):=qb;have l7:(qH "rings" (.ref g) f6).length<=6:=hl l6;have R:(upd (upd H6 g (.lst [])) x (.ins (cc 9) dx (qH "rings" (.ref g) f6))) g=some (.lst []):=by rw[qf av,qb]
  have Y:(upd (upd H6 g (.lst [])) x (.ins (cc 9) dx (qH "rings" (.ref g) f6))) m=some (.dK []):=by rw[qf C,qf (Ye af)];show X
  have O:(upd (upd H6 g (.lst [])) x (.ins (cc 9) dx (qH "rings" (.ref g) f6))) l=some (.dK []):=by rw[qf I,qf (Ye ae)];show N
  have aa:(upd (upd H6 g (.lst [])) x (.ins (cc 9) dx (qH "rings" (.ref g) f6))) j=some (.dK []):=by rw[qf ah,qf (Ye ag)];show Z
  generalize upd (upd H6 g (.lst [])) x (.ins (cc 9) dx (qH "rings" (.ref g) f6))=H7 at c7 au Y O aa R ⊢;obtain⟨L,bo⟩:∃ f,f=qH "rings" (.ref g) f6:=⟨_,rfl⟩;rw[<- bo] at au l7;apply⟨by show 0<=sizeLine;decide,fun a p=>?_⟩;have bu:a≠x:=fun e=>by rw[e,au] at p;cases p
  have db:H0 a=none:=c7.free p;have am:a≠m:=fun e=>by rw[e,Y] at p;cases p
  have ak:a≠l:=fun e=>by rw[e,O] at p;cases p
  have an:a≠j:=fun e=>by rw[e,aa] at p;cases p
  have al:a≠g:=fun e=>by rw[e,R] at p;cases p
  have cq:upd H7 a (.lst []) x=some (.ins (cc 9) dx L):=by rw[qf bu.symm];show au
  apply .inl ⟨x,cc 9,dx,_,rfl,cq,T.fcl,fa 6 (by decide),Yy l7 (by decide),?_⟩;have c8:L2.Same H0 (upd (upd H7 a (.lst [])) x (.ins (cc 9) dx (qH "waiting" (.ref a) L))):=qax (qE c7 p) D;have br:(upd (upd H7 a (.lst [])) x (.ins (cc 9) dx (qH "waiting" (.ref a) L))) x=some (.ins (cc 9) dx (qH "waiting" (.ref a) L)):=qb;have l8:(qH "waiting" (.ref a) L).length<=7:=hl l7;have bf:(upd (upd H7 a (.lst [])) x (.ins (cc 9) dx (qH "waiting" (.ref a) L))) a=some (.lst []):=by rw[qf bu,qb]
  have ba:(upd (upd H7 a (.lst [])) x (.ins (cc 9) dx (qH "waiting" (.ref a) L))) m=some (.dK []):=by rw[qf C,qf (Ye am)];show Y
  have aw:(upd (upd H7 a (.lst [])) x (.ins (cc 9) dx (qH "waiting" (.ref a) L))) l=some (.dK []):=by rw[qf I,qf (Ye ak)];show O
  have bd:(upd (upd H7 a (.lst [])) x (.ins (cc 9) dx (qH "waiting" (.ref a) L))) j=some (.dK []):=by rw[qf ah,qf (Ye an)];show aa
  have ay:(upd (upd H7 a (.lst [])) x (.ins (cc 9) dx (qH "waiting" (.ref a) L))) g=some (.lst []):=by rw[qf av,qf (Ye al)];show R
  generalize upd (upd H7 a (.lst [])) x (.ins (cc 9) dx (qH "waiting" (.ref a) L))=H8 at c8 br ba aw bd ay bf ⊢;obtain⟨f8,bp⟩:∃ f,f=qH "waiting" (.ref a) L:=⟨_,rfl⟩;rw[<- bp] at br l8;apply .inl ⟨x,cc 9,dx,_,rfl,br,T.fcl,fa 7 (by decide),Yy l8 (by decide),?_⟩;have c9:L2.Same H0 (upd H8 x (.ins (cc 9) dx (qH "longer" .non f8))):=qax c8 D;have ca:(upd H8 x (.ins (cc 9) dx (qH "longer" .non f8))) x=some (.ins (cc 9) dx (qH "longer" .non f8)):=qb;have l9:(qH "longer" .non f8).length<=8:=hl l8;have bc:(upd H8 x (.ins (cc 9) dx (qH "longer" .non f8))) m=some (.dK []):=by rw[qf C];show ba
  have ax:(upd H8 x (.ins (cc 9) dx (qH "longer" .non f8))) l=some (.dK []):=by rw[qf I];show aw
  have be:(upd H8 x (.ins (cc 9) dx (qH "longer" .non f8))) j=some (.dK []):=by rw[qf ah];show bd
  have az:(upd H8 x (.ins (cc 9) dx (qH "longer" .non f8))) g=some (.lst []):=by rw[qf av];show ay
  have bg:(upd H8 x (.ins (cc 9) dx (qH "longer" .non f8))) a=some (.lst []):=by rw[qf bu];show bf
  generalize upd H8 x (.ins (cc 9) dx (qH "longer" .non f8))=H9 at c9 ca bc ax be az bg ⊢
  have hF:FoA (cc 9) cw H0 H9 ⟨x,b,dp,m,l,j,g,a,[]⟩ ss ns qs S0 [] [] [] .non:=by
   show⟨c9,?_,?_,fun c hc=>?_,?_,(fun c hc=>by cases hc),⟨dx,_,ca,XW l9,fun _=>l9,fun f v hf=>?_,fun f hf=>?_⟩,⟨[],bc,yh _,fun _=>rfl⟩,⟨[],ax,⟨[],yh _,.nil,(fun u hu=>by cases hu)⟩,fun _=>rfl⟩,⟨[],be,yh _,(fun s hs=>by cases hs)⟩,⟨[],az,yh _⟩,bg,.nil,fun v=>⟨(fun k=>by cases k),fun k=>absurd rfl k⟩,(fun v hv=>by cases hv)⟩
   .rw [ac];show(keepW b2).out bx cb
   .rw [ac];show(zJ cr).trans ci
   .simp only[Fo.six,yz,yW,YE] at hc;rcases hc with rfl | rfl | rfl | rfl | rfl | rfl<;>assumption
   .simp [ad.symm,aj.symm,af.symm,am.symm,ai.symm,ae.symm,ak.symm,ag.symm,an.symm,al.symm]
   .simp only[Fo.tab,yz,XD,yW,YE] at hf;rw[bp,bo,bn,bm,bj,bi];rcases hf with⟨rfl,rfl⟩ | ⟨rfl,rfl⟩ | ⟨rfl,rfl⟩ | ⟨rfl,rfl⟩ | ⟨rfl,rfl⟩ | ⟨rfl,rfl⟩ | ⟨rfl,rfl⟩ | ⟨rfl,rfl⟩<;>rfl
   .rw [bp,bo,bn,bm,bj,bi];have no:∀ i,i<8->f≠fAtt.getD i "":=fun i hi e=>hf (by rw[e,yV,yb (show i<fAtt.length from hi)];show Xw _);show lkn (no 7 (by decide)) (lkn (no 6 (by decide)) (lkn (no 5 (by decide)) (lkn (no 4 (by decide)) (lkn (no 3 (by decide)) (lkn (no 2 (by decide)) (lkn (no 1 (by decide)) (lkn (no 0 (by decide)) rfl)))))))
  ext;obtain⟨cd,fs,bw,_,_,_,bz⟩:=id hF.obj;show⟨x,cd,fs,rfl,bw,bz _ (by room),?_⟩;apply⟨H0,_,ss,ns,qs,B,rfl,hF,bv,cj,ch,fun HA S dn wt lo hD cu=>?_⟩;show q H0 HA _ S dn wt lo rfl rfl hD fun c o e=>?_;have hc:c≠x:=fun z=>by rw[z] at e;unfold qeS at e;rw[yO rfl] at e;cases e
  rw[zJ hc] at e;rw[ac,zJ hc];show b2 _ _ hc e
inductive spFr(cc:Nat->Addr)(cw:Addr)(vs:List V)(H:Hp)(Q:VK)(E:XK):Prop|mk (H0:Hp) (a:Fo) (ss:LS) (ns:LN) (qs:LP) (S:FS) (dn wt:LS) (lo:V) (A:Str->Str->Prop) (_:vs=[.ref a.x]) (_:FoD (cc 9) cw H0 H a ss ns qs S dn wt lo A) (_:(lo=.non->Q .non H)) (_:∀(t:Addr) (r:LS),lo=.ref t->H t=some (.lst (r.map V.str))->Aug A (pt qs) r->∀ l,H l=none->Q (.ref l) (upd H l (.lst (r.map V.str))))
inductive spFd2(cc:Nat->Addr)(cw:Addr)(vs:List V)(H:Hp)(Q:VK)(E:XK):Prop|mk (H0:Hp) (a:Fo) (ss:LS) (ns:LN) (qs:LP) (S:FS) (dn wt:LS) (lo:V) (A:Str->Str->Prop) (_:vs=[.ref a.x]) (_:FoD (cc 9) cw H0 H a ss ns qs S dn wt lo A) (_:ss.length<=14) (_:(lo≠.non->Q .non H)) (_:(lo=.non->∀(l:Addr) (H':Hp),L2.Same H H'->H l=none->H' l=some (.lst ((ss.filter fun s=>(S.rows s).isSome).map V.str))->Q (.ref l) H'))
theorem ok_fr(F:Fun K "row" "Forest.row" zo f fd)(T:Txt K mg cc cw):FnOk P w K mg base CX0 1 f fd ["self"] (spFr cc cw):=by
 show F.ok uR fun _ _ _ _ H vs Q E i h=>?_
 .obtain⟨H0,a,ss,ns,qs,S,dn,wt,lo,B,rfl,b,e,g⟩:=h;show⟨_,(qe (qo (pe_ifExp (qk qfc (qC (K:=K) rfl (pv 0) rfl) jL (qw _)) jL (jr (zU (K:=K) rfl rfl) rfl T.b_list xp (qa (qC (K:=K) rfl (pv 0) rfl) qd))))),?_⟩;apply .inl (b.fo.obj.rd T 7 rfl ?_);ext;rcases b.en with⟨rfl,_⟩ | ⟨t,r,rfl,c,j,d,_⟩
  .show⟨_,rfl,zr ?_⟩;apply e rfl
  .show⟨_,rfl,qI (fun h=>by cases h) fun _=>?_⟩;apply .inl (b.fo.obj.rd T 7 rfl ?_);apply .inl ⟨t,_,rfl,.inl (.of c),g t r rfl c d⟩
theorem ok_fd2(F:Fun K "reached" "Forest.reached" jf f fd)(T:Txt K mg cc cw)(D:MethOk P w K mg base CX0 1 cw "places" ["self"] (spPls cw)):FnOk P w K mg base CX0 2 f fd ["self"] (spFd2 cc cw):=by
 show F.ok uw fun _ _ _ s H vs Q E x h=>?_
 .obtain⟨H0,a,ss,ns,qs,S,dn,wt,lo,B,rfl,v,G,N,O⟩:=h;have M:=jY x;show⟨_,(qc (qN (qk qbb (qC (K:=K) rfl (pv 0) rfl) jL (qw _)) (qe (qo jL)) qt)
 (qe (qo (jd (sc:=qg jf) (XN:=["self"]) ["place","self"] 1 [0] rfl rfl rfl (by room) rfl (by room)
  (qM (K:=K) rfl (jG D (hmR x) (qC (K:=K) rfl (pv 0) rfl))) (fun _ _ _ _=>(qr (i:=0) (show(["place","self"]:LS).Nodup by room) rfl (yQ rfl))) qP
  (fun _ _ _ _=>(qU (qk (zT (K:=K) rfl M) (pv 0) (qC (K:=K) rfl (pv 1) rfl) (by with_unfolding_all rfl))))
  (fun _ _ _ _=>(pv 0)))))),?_⟩
  have h:=v.fo;apply .inl (h.obj.rd T 7 rfl ?_);ext;rcases v.en with⟨rfl,_⟩ | ⟨t,r,rfl,_⟩
  .show⟨rfl,_,rfl,qI (fun h=>by simp at h) fun _=>?_⟩;have g:=h.web.same h.sm;obtain⟨W,X,ol,Y,I,_⟩:=id g;apply .inl (h.obj.rd T 0 rfl ?_);show⟨a.b,W,_,rfl,I,zY (by room),?_⟩;apply⟨a.b,ss,ns,rfl,g,fun pl u=>?_⟩;have n:=qE (Sr H) (o:=.lst (ss.map V.str)) u;have p:upd H pl (.lst (ss.map V.str)) pl=some (.lst (ss.map V.str)):=qb;generalize upd H pl (.lst (ss.map V.str))=H1 at n p;have h1:=h.same n;obtain⟨C,R,r2,U⟩:=h1.row;show .inl ⟨⟨_,.of p⟩,qD (xs:=ss.map V.str) (fun i ys J=>J=H1/\ys=((ss.take i).filter fun s=>(S.rows s).isSome).map V.str) ⟨rfl,rfl⟩ (fun i ys J _ m=>by rw[m.1];show .of p) (fun i y ys J A m=>?_) fun ys J m=>?_⟩
   .obtain⟨rfl,rfl⟩:=m;rw[yd] at A;obtain⟨z,hz,rfl⟩:=yn.mp A;have L:=(yc.mp hz).1;have j:=yJ (fun s=>(S.rows s).isSome) (ss.take i);rw[yH] at j
    have d:(ss.take (i+1)).filter (fun s=>(S.rows s).isSome)=(ss.take i).filter (fun s=>(S.rows s).isSome)++(if (S.rows z).isSome=true then [z] else []):=by
     rw[yG,hz,yX];show _++[z].filter _=_;rw[yS,Yn]
    apply .inl (h1.obj.rd T 2 rfl ?_);show .inr (.inl ⟨a.dr,_,rfl,DGet.k (k:=Sum.inr z) R,?_⟩);have c:=U z
    have q:(ze C (.inr z:Key)).isSome=(S.rows z).isSome:=by
     cases e:S.rows z with
     | none=>rw[e] at c;rw[show ze C (.inr z:Key)=none from c];rfl
     | some r=>rw[e] at c;obtain⟨t,k,_⟩:=c;rw[k];rfl
    rw[yE (by decide),q,d];show⟨_,rfl,?_⟩
    cases (S.rows z).isSome with
    | true =>
     show zr ?_;rw[yO rfl];apply⟨by rw[ya];show qh (by lk),rfl,by rw[yy];rfl⟩
    | false =>
     show yq ?_;rw[yE (by decide),Yb];show⟨rfl,rfl⟩
   .obtain⟨rfl,rfl⟩:=m;rw[show(ss.map V.str).length=ss.length from ya _,yP];have j:=yJ (fun s=>(S.rows s).isSome) ss;show⟨by rw[ya];show yT (qh (by lk)),fun l hl=>?_⟩;show O rfl l _ (qE n hl) (n.free hl) qb
  .show⟨rfl,_,rfl,zr ?_⟩;apply N (fun e=>by cases e)
theorem uh:FnScope ["web","pairs","partners"] ["web","pairs"] (qg jW):=fS
theorem Kt:FnScope ["web","thing","seen","place"] ["web","thing"] (qg je):=fS
theorem qcM(a b:Str):eqV (.str a) (.str b)=decide (a=b):=by
 unfold eqV;by_cases h:a=b<;>simp[h]
theorem qfC{i j:Str}{Q:VK}(q:Q (.bl (decide (i=j))) H):qfk K (.str i) (.str j) H Q:=.inl (.inl (.inl ⟨rfl,rfl,by rw[yE (by decide),qcM];show q⟩))
noncomputable def qav(a qs:LP):LP:=a.filter fun q=>decide (pt qs q.1=some q.2)
inductive spTp(cw:Addr)(vs:List V)(H:Hp)(Q:VK)(E:XK):Prop|mk (x l:Addr) (ss:LS) (ns:LN) (us:LQ) (tps qs:LP) (_:vs=[.ref x,.ref l]) (_:WebAt cw H x ss ns) (_:Adj ss ns tps) (_:PL H l us qs) (_:PGo ss tps qs) (_:∀(l:Addr) (ls:LQ) (H':Hp),L2.Same H H'->H l=none->H' l=some (.lst (ls.map V.ref))->ls.length<=196->All2 (PrAt H H' l) ls (qav (qB ss ns ss.length) qs)->Q (.ref l) H')
noncomputable def stp(rs:LS):LP:=rs.zip rs.tail
noncomputable def prB(qs:LP)(ab:Str×Str):Bool:=decide (pt qs ab.1=some ab.2)
theorem stp_at:(stp rs)[j]?=some ab↔rs[j]?=some ab.1/\rs[j+1]?=some ab.2:=by
 unfold stp;rw[xj,YQ]
theorem qaw(rs:LS):(stp rs).length=rs.length-1:=by unfold stp;rw[List.length_zip,xH];lk
structure RowG(ss:LS)(tps qs:LP)(rs:LS):Prop where
 nd:rs.Nodup
 two:2<=rs.length
 few:rs.length<=1000
 inn:∀ r∈rs,r∈ss
 tie:∀(j:Nat) ab,(stp rs)[j]?=some ab->(ab∈tps\/(ab.2,ab.1)∈tps)/\prB qs ab=decide (j % 2=1)
 hd:∀ s,rs[0]?=some s->pt qs s=none
 tl:∀ s,rs[rs.length-1]?=some s->pt qs s=none
structure Rw(cw:Addr)(H:Hp)(x l a:Addr)(ss:LS)(ns:LN)(us:LQ)(tps qs:LP)(rs:LS):Prop where
 web:WebAt cw H x ss ns
 adj:Adj ss ns tps
 prs:PL H l us qs
 pgo:PGo ss tps qs
 row:H a=some (.lst (rs.map V.str))
 rok:RowG ss tps qs rs
theorem Rw.same{a:Addr}(h:Rw cw H x l a ss ns us tps qs rs)(s:L2.Same H H'):Rw cw H' x l a ss ns us tps qs rs:=
 ⟨h.web.same s,h.adj,h.prs.same s,h.pgo,s _ _ h.row,h.rok⟩
inductive spUl(cw:Addr)(vs:List V)(H:Hp)(Q:VK)(E:XK):Prop|mk (x a:Addr) (ss:LS) (ns:LN) (rs:LS) (_:vs=[.ref x,.ref a]) (_:WebAt cw H x ss ns) (_:H a=some (.lst (rs.map V.str))) (_:rs.Nodup) (_:rs.length<=1000) (_:(∀ r∈rs,r∈ss)) (_:∀ H',L2.Same H H'->Q (.bl true) H')
inductive spGt(cw:Addr)(vs:List V)(H:Hp)(Q:VK)(E:XK):Prop|mk (x l d a:Addr) (ss:LS) (ns:LN) (us:LQ) (tps qs:LP) (rs:LS) (_:vs=[.ref x,.ref d,.ref a]) (_:Rw cw H x l a ss ns us tps qs rs) (_:H d=some (.dK (prK qs))) (_:∀ H',L2.Same H H'->Q (.bl true) H')
inductive spIr(cw:Addr)(vs:List V)(H:Hp)(Q:VK)(E:XK):Prop|mk (x l a:Addr) (ss:LS) (ns:LN) (us:LQ) (tps qs:LP) (rs:LS) (_:vs=[.ref x,.ref l,.ref a]) (_:Rw cw H x l a ss ns us tps qs rs) (_:∀ H',L2.Same H H'->Q (.bl true) H')
theorem qeT{Q:VK}(q:Q (.bl (decide (pt qs s=some t))) H):qfk K (((pt qs s).map V.str).getD .non) (.str t) H Q:=by
 cases e:pt qs s with
 | none=>rw[e] at q;show .inl (.inl (.inl ⟨rfl,rfl,q⟩))
 | some u =>
  show qfC ?_;rw[e] at q
  rwa[show decide (u=t)=decide (some u=some t) from YF.mpr ⟨congrArg some,ym⟩]
theorem ok_tp(F:Fun K "told_pairs" "told_pairs" jW f fd)(T:Txt K mg cc cw)(R:DefOk P w K mg base CX0 9 "partners_in" ["web","pairs"] (spPn cw))(uf:MethOk P w K mg base CX0 7 cw "ties" ["self"] (spTs cw)):FnOk P w K mg base CX0 10 f fd ["web","pairs"] (spTp cw):=by
 show F.ok uh fun _ _ _ _ H vs Q E J h=>?_
 .obtain⟨x,pl,ss,ns,ps,tps,qs,rfl,C,S,W,U,q⟩:=h;have A:=jY J;obtain⟨wx,dd,ol,nn,X,_⟩:=id C;show⟨_,(qc (qq (i:=2) uh.nd rfl (Xr rfl) (qp R (hmR J) qz (qa (pv 0) (qa (pv 1) qd))))
 (qe (qo (jd (sc:=qg jW) (XN:=["web","pairs","partners"]) ["tie","partners"] 1 [2] rfl rfl rfl (by room) rfl (by room)
  (qM (K:=K) rfl (jG uf (hmR J) (pv 0))) (fun _ _ _ _=>(qr (i:=0) (show(["tie","partners"]:LS).Nodup by room) rfl (yQ rfl))) qP
  (fun _ _ _ _=>(qU (qk (zV (K:=K) rfl A) (qaz (qfl A) (pv 1) (qx (qy (K:=K) rfl A) (pv 0) qi (fun _ _=>rfl)) ⟨rfl,rfl,rfl,rfl⟩) (qx (qy (K:=K) rfl A) (pv 0) qi (fun _ _=>rfl)) (qw _))))
  (fun _ _ _ _=>(pv 0)))))),?_⟩
  apply⟨x,pl,ss,ns,ps,tps,qs,rfl,C,S,W,U,fun d H1 B Z Y=>?_⟩;apply⟨x,wx,_,rfl,B _ _ X,zY (by room),?_⟩;apply⟨x,ss,ns,rfl,C.same B,fun l ts H2 O aa hl D b=>?_⟩;have p:=O _ _ Y;have s:=B.trans O;show .inl ⟨⟨_,.of hl⟩,qD (xs:=ts.map V.ref) (fun i ys G=>G=H2/\∃ us:LQ,ys=us.map V.ref/\us.length<=i/\All2 (fun t ab=>H1 t=none/\H2 t=some (.tup [.str ab.1,.str ab.2])) us (qav ((qB ss ns ss.length).take i) qs)) ⟨rfl,[],rfl,yh _,.nil⟩ (fun i ys G _ a=>by rw[a.1];show .of hl) (fun i y ys G N a=>?_) fun ys G a=>?_⟩
  .obtain⟨rfl,us,rfl,r,m⟩:=a;rw[yd] at N;obtain⟨t,M,rfl⟩:=yn.mp N;have hi:i<ts.length:=(yc.mp M).1;obtain⟨ab,n⟩:∃ ab,(qB ss ns ss.length)[i]?=some ab:=⟨_,yb (by rw[<- b.len];show hi)⟩;obtain⟨z1,z2,L⟩:=b.at_ i t ab M n
   have c:qav ((qB ss ns ss.length).take (i+1)) qs=qav ((qB ss ns ss.length).take i) qs++(if pt qs ab.1=some ab.2 then [ab] else []):=by
    unfold qav;rw[yG,n,yX];show _++[ab].filter _=_;rw[yS];simp only[kN,Yn]
   apply qce ?_;apply⟨d,rfl,.inl ⟨_,.inl p⟩,?_⟩;apply .inl (qaO L (v:=.str ab.1) (qF (j:=0) rfl) ?_);show⟨_,DGet.k (k:=Sum.inr ab.1) p,?_⟩;rw[jP];apply .inl (qaO L (v:=.str ab.2) (qF (j:=1) rfl) ?_);show qeT ?_;ext;rw[c];show qI (fun I=>?_) (fun I=>?_)
   .rw [yO (yk I)];apply⟨by rw[ya];show qh (by lk),rfl,us++[t],by rw[yy];rfl,by rw[yu];simp;lk,m.snoc ⟨z1,L⟩⟩
   .rw [yE (fun e=>I (yM e)),Yb];show⟨rfl,us,rfl,by lk,m⟩
  .obtain⟨rfl,us,rfl,r,m⟩:=a;have e:(ts.map V.ref).length=(qB ss ns ss.length).length:=by rw[ya,b.len]
   rw[e,yP] at m;rw[ya] at r;show⟨by rw[ya];show yT (qh (by lk)),fun g u=>?_⟩;have s3:=qE s (o:=.lst (us.map V.ref)) u;show q g us _ s3 (s.free u) qb (by lk) (m.mono fun t ab z=>⟨B.free z.1,(fun e=>by rw[e,u] at z;cases z.2),by rw[qf (fun e=>by rw[e,u] at z;cases z.2)];show z.2⟩)
theorem ok_ul(F:Fun K "are_unlike_places" "are_unlike_places" je f fd)(T:Txt K mg cc cw)(L:MethOk P w K mg base CX0 3 cw "has_place" ["self","thing"] (spHas cw)):FnOk P w K mg base CX0 4 f fd ["web","thing"] (spUl cw):=by
 show F.ok Kt fun _ _ _ _ H vs Q E D h=>?_
 .obtain⟨x,a,ss,ns,rs,rfl,A,l,n,hl,m,q⟩:=h;have G:=jY D;show⟨_,(qc (qN (qS (qL (qm (zL (K:=K) rfl) rfl T.b_isinstance Yx (qa (pv 1) (qa (jm (v:=.ty "list") rfl T.b_list xp rfl) qd))))) (qe (qo jz)) qt)
 (qc (qq (i:=2) Kt.nd rfl (yQ rfl) zB)
 (qc (jq y0 rfl (qM (K:=K) rfl (pv 1)) (qr (i:=3) Kt.nd rfl (yQ rfl))
 (qc (qN (PW.pt (zq (qS (qL (qK L (hmR D) (pv 0) (qa (pv 3) qd)))) (jM (qk (zT (K:=K) rfl G) (pv 3) (pv 2) (by with_unfolding_all rfl))))) (qe (qo jz)) qt)
 (qe (j4 jz (zg (pv 2) (pv 3) (zi G))))))
 (qe (qo jz))))),?_⟩
  apply qaW (.inl (.lst l)) rfl (j0 K "list" (by simp) "list" (by simp)) ?_;apply yq ?_;ext;intro d B;have p:=qE (Sr H) (o:=.dK []) B;have t:upd H d (.dK []) d=some (.dK (qbN [])):=qb;generalize upd H d (.dK [])=H1 at p t;obtain⟨O,S,ol,U,M,_⟩:=id A;apply .inl ⟨⟨_,.of (p _ _ l)⟩,jc (xs:=rs.map V.str) (fun i j J=>L2.Same H J/\∃ s,j=[some (.ref x),some (.ref a),some (.ref d),s]/\J d=some (.dK (qbN (rs.take i)))) ⟨p,_,rfl,t⟩ (fun i j J _ c=>.of (c.1 _ _ l)) (fun i y j J I c=>?_) fun j J c=>?_⟩
  .obtain⟨g,s,rfl,b⟩:=c;rw[yd] at I;obtain⟨z,hz,rfl⟩:=yn.mp I;have N:i<rs.length:=(yc.mp hz).1;have e:rs.take (i+1)=rs.take i++[z]:=by rw[yG,hz];rfl
   have C:z∉rs.take i:=fun y=>by
    have u:(rs.take (i+1)).Nodup:=n.sublist (XM _ _);rw[e] at u;show(y9.mp u).2.2 _ y z (by simp) rfl
   apply⟨x,O,_,rfl,g _ _ M,zY (by room),?_⟩;apply⟨x,ss,ns,z,rfl,A.same g,m z (ye hz),fun R r=>?_⟩;apply yq ?_;apply .inr (.inl ⟨d,_,rfl,DGet.k (k:=Sum.inr z) (r _ _ b),?_⟩);rw[yE (by decide),qaa,yl C];apply yq ?_;apply .inr ⟨d,_,rfl,DPut.k (k:=Sum.inr z) (r _ _ b) (qh (by unfold qbN;rw[ya,yH];lk)),?_⟩;show⟨qax (g.trans r) B,_,rfl,?_⟩;rw[qb,qbO C,e]
  .obtain⟨g,s,rfl,b⟩:=c;apply q J g
theorem uL:FnScope ["web","pairs","thing","partners"] ["web","pairs","thing"] (qg qa5):=fS
theorem KF:FnScope ["web","partners","names","steps","paired"] ["web","partners","names"] (qg qT):=fS
theorem KP:FnScope ["web","pairs","thing","partners","first","last"] ["web","pairs","thing"] (qg qal):=fS
theorem qa6(rs:List V):qcV rs (some 1) none=rs.tail:=by
 have:=qbl rs 1
 rwa[List.drop_one] at this
theorem qfp:∀{bs:List Bool},(∀ b∈bs,b=true)->bs.all id=true:=fun h=>YK.mpr h
theorem qdW{xs ys:LS}(Z:Zl H H' l ts (xs.map V.str) (ys.map V.str))(hl:qs.length=min xs.length ys.length)(h:∀(j:Nat) q,qs[j]?=some q->xs[j]?=some q.1/\ys[j]?=some q.2):All2 (fun t ab=>H' t=some (.tup [.str ab.1,.str ab.2])) ts qs:=by
 show⟨by rw[Z.len,ya,ya,hl],fun j t ab g c=>?_⟩;obtain⟨d,f⟩:=h j ab c;obtain⟨_,u,v,a,b,e⟩:=Z.tp j t g;rw[yd,d] at a;rw[yd,f] at b;cases a;cases b;show e
theorem atI_back{xs:List α}{v:α}(a:1<=j)(h1:j<=xs.length)(h:xs[xs.length-j]?=some v):atI xs (-(j:Int))=some v:=by
 have e:ixN xs.length (-(j:Int))=some (xs.length-j):=by
  unfold ixN;rw[yE (by lk),yO (by lk)]
  congr 1
  lk
 unfold atI;rw[e];show h
theorem ok_gt(F:Fun K "goes_by_turns" "goes_by_turns" qT f fd)(T:Txt K mg cc cw)(KW:MethOk P w K mg base CX0 7 cw "has_tie" ["self","thing"] (spHt cw)):FnOk P w K mg base CX0 8 f fd ["web","partners","names"] (spGt cw):=by
 show F.ok KF fun _ _ _ _ H vs Q E hr h=>?_
 .obtain⟨x,l,d,a,ss,ns,us,tps,qs,rs,rfl,R,hd,q⟩:=h;have hu:=jY hr;obtain⟨wx,dd,ol,nn,X,_⟩:=id R.web;have ha:=R.row;have M:=R.rok;have hl:=M.few;show⟨_,(qc (qq (i:=3) KF.nd rfl (yQ rfl) (qcE (K:=K) rfl rfl rfl rfl T.b_list T.b_zip (qa (pv 2) (qa (jx (qdr (K:=K) rfl) (pv 2) (jp qi) jZ) qd))))
 (qc (qN (qS (qL (qm (qeQ (K:=K) rfl rfl) rfl T.b_all boot_all (qa (jd (sc:=qg qT) (XN:=["web","partners","names","steps","paired"]) ["step","web"] 1 [0] rfl rfl rfl (by room) rfl (by room)
  (qM (K:=K) rfl (pv 3)) (fun _ _ _ _=>(qr (i:=0) (show(["step","web"]:LS).Nodup by room) rfl (yQ rfl))) qP
  (fun _ _ _ _=>jR)
  (fun _ _ _ _=>(qK KW (hmR hr) (pv 1) (qa (pv 0) qd)))) qd)))) (qe (qo jz)) qt)
 (qc (zS (sc:=qg qT) (XN:=["web","partners","names","steps","paired"]) ["step","partners"] 1 [1] rfl rfl rfl (by room) rfl (by room) (i:=4) KF.nd rfl rfl
  (qM (K:=K) rfl (pv 3)) (fun _ _ _ _=>(qr (i:=0) (show(["step","partners"]:LS).Nodup by room) rfl (yQ rfl))) qP
  (fun _ _ _ _=>jR)
  (fun _ _ _ _=>(jo (zV (K:=K) rfl hu) (qaz (qfl hu) (pv 1) (qx (qy (K:=K) rfl hu) (pv 0) qi (fun _ _=>rfl)) ⟨rfl,rfl,rfl,rfl⟩) (qx (qy (K:=K) rfl hu) (pv 0) qi (fun _ _=>rfl)) (qw _))))
 (qe (qo (qm (qeQ (K:=K) rfl rfl) rfl T.b_all boot_all (qa (jd (sc:=qg qT) (XN:=["web","partners","names","steps","paired"]) ["one","other"] 2 [] rfl rfl rfl (by room) rfl (by room)
  (pi_zip (K:=K) rfl rfl T.b_zip (qa (pv 4) (qa (jx (qdr (K:=K) rfl) (pv 4) (jp qi) jZ) qd))) (fun _ _ _ _=>(qcS (n:=2) rfl (zf (qr (i:=0) (show(["one","other"]:LS).Nodup by room) rfl (yQ rfl)) (zf (qr (i:=1) (show(["one","other"]:LS).Nodup by room) rfl (yQ rfl)) qbF)))) gk_two
  (fun _ _ _ _=>jR)
  (fun _ _ _ _=>(jo (zw (K:=K) rfl hu) (pv 0) (pv 1) (qw _)))) qd))))))),?_⟩
  apply vLZ ?_;apply .inl ⟨a,_,rfl,SqL.of ha,fun c hc=>?_⟩;rw[qa6,<- kP];have s1:=qE (Sr H) (o:=.lst (rs.tail.map V.str)) hc;have aa:upd H c (.lst (rs.tail.map V.str)) c=some (.lst (rs.tail.map V.str)):=qb;generalize upd H c (.lst (rs.tail.map V.str))=H1 at s1 aa;apply⟨a,c,_,_,rfl,SqL.of (s1 _ _ ha),SqL.of aa,by rw[ya];show hl,fun l ts H2 Z=>?_⟩;have L:=s1.trans Z.sm;have ak:(stp rs).length<=1000:=by rw[qaw];lk
  have W:=qdW (qs:=stp rs) Z (by rw[qaw,xH];lk) fun j q e=>by
   obtain⟨z1,z2⟩:=stp_at.mp e;show⟨z1,by rw[YQ];show z2⟩
  have tl:=W.len;have C:=Z.ls
  have ai:∀{i:Nat} {y:V},(ts.map V.ref)[i]?=some y->∃ t ab,y=.ref t/\(stp rs)[i]?=some ab/\H2 t=some (.tup [.str ab.1,.str ab.2]):=fun{i y} O=>by
   rw[yd] at O;obtain⟨t,ht,rfl⟩:=yn.mp O;obtain⟨ab,p⟩:∃ ab,(stp rs)[i]?=some ab:=⟨_,yb (by rw[<- tl];show(yc.mp ht).1)⟩;show⟨t,ab,rfl,p,W.at_ i t ab ht p⟩
  apply .inl ⟨⟨_,.of C⟩,qD (xs:=ts.map V.ref) (fun i ys G=>L2.Same H2 G/\ys=(((stp rs).take i).map fun _=>true).map V.bl) ⟨L2.Same.refl H2,rfl⟩ (fun i ys G _ m=>.of (m.1 _ _ C)) (fun i y ys G O m=>?_) fun ys G m=>?_⟩
  .obtain⟨S,rfl⟩:=m;obtain⟨t,ab,rfl,p,N⟩:=ai O;obtain⟨e1,U⟩:=stp_at.mp p;apply zr ?_;apply⟨x,wx,_,rfl,(L.trans S) _ _ X,zY (by room),?_⟩;apply⟨x,t,ss,ns,tps,ab,rfl,R.web.same (L.trans S),R.adj,S _ _ N,(M.tie i ab p).1,M.inn _ (ye e1),M.inn _ (ye U),fun z=>?_,fun G2 am=>?_⟩
   .rw [<- z] at U;show absurd (qv M.nd e1 U) (by lk)
   .show⟨by rw[ya,ya,yH];show qh (by lk),S.trans am,?_⟩;rw[yG,p,yy,yy];rfl
  .obtain⟨S,rfl⟩:=m;rw[show(ts.map V.ref).length=(stp rs).length by rw[ya,tl],yP];show⟨by rw[ya,ya];show yT (qh (by lk)),fun g hg=>?_⟩;have s3:=qE S (o:=.lst (((stp rs).map fun _=>true).map V.bl)) hg;have eg:upd G g (.lst (((stp rs).map fun _=>true).map V.bl)) g=some (.lst (((stp rs).map fun _=>true).map V.bl)):=qb;generalize upd G g (.lst (((stp rs).map fun _=>true).map V.bl))=G3 at s3 eg;apply⟨g,_,rfl,SqL.of eg,_,rfl,?_⟩;rw[qfp (fun b X=>by obtain⟨_,_,rfl⟩:=Yq.mp X;rfl)];have ag:=L.trans s3;show yq ?_;have r:=s3 _ _ C;have ad:=ag _ _ hd;apply .inl ⟨⟨_,.of r⟩,qD (xs:=ts.map V.ref) (fun i ys G=>G=G3/\ys=(((stp rs).take i).map (prB qs)).map V.bl) ⟨rfl,rfl⟩ (fun i ys G _ m=>by rw[m.1];show .of r) (fun i y ys G O m=>?_) fun ys G m=>?_⟩
   .obtain⟨rfl,rfl⟩:=m;obtain⟨t,ab,rfl,p,N⟩:=ai O;have N:=s3 _ _ N;apply zr ?_;apply qce ?_;apply⟨d,rfl,.inl ⟨_,.inl ad⟩,?_⟩;apply .inl (qaO N (v:=.str ab.1) (qF (j:=0) rfl) ?_);show⟨_,DGet.k (k:=Sum.inr ab.1) ad,?_⟩;rw[jP];apply .inl (qaO N (v:=.str ab.2) (qF (j:=1) rfl) ?_);show qeT ?_;show⟨by rw[ya,ya,yH];show qh (by lk),rfl,?_⟩;rw[yG,p,yy,yy];rfl
   .obtain⟨rfl,rfl⟩:=m;rw[show(ts.map V.ref).length=(stp rs).length by rw[ya,tl],yP];show⟨by rw[ya,ya];show yT (qh (by lk)),fun b aj=>?_⟩;obtain⟨bs,B⟩:∃ bs,bs=(stp rs).map (prB qs):=⟨_,rfl⟩;rw[<- B];have an:bs.length<=1000:=by rw[B,ya];show ak
    have Y:∀(i:Nat) b,bs[i]?=some b->b=decide (i % 2=1):=fun i b e=>by
     rw[B,yd] at e;obtain⟨ab,p,rfl⟩:=yn.mp e;show(M.tie i ab p).2
    have s4:=qE ag (o:=.lst (bs.map V.bl)) aj;have eb:upd G b (.lst (bs.map V.bl)) b=some (.lst (bs.map V.bl)):=qb;generalize upd G b (.lst (bs.map V.bl))=G4 at s4 eb;apply vZip ?_;apply .inl ⟨b,_,rfl,SqL.of eb,fun c2 ac=>?_⟩;rw[qa6,<- kP];have s5:=qE s4 (o:=.lst (bs.tail.map V.bl)) ac;have s:=qE (Sr G4) (o:=.lst (bs.tail.map V.bl)) ac _ _ eb;have A:upd G4 c2 (.lst (bs.tail.map V.bl)) c2=some (.lst (bs.tail.map V.bl)):=qb;generalize upd G4 c2 (.lst (bs.tail.map V.bl))=G5 at s5 s A;apply⟨b,c2,_,_,rfl,SqL.of s,SqL.of A,comp_zip (xs:=bs.map V.bl) (ys:=bs.tail.map V.bl) (by simp) (fun i zs J=>L2.Same G5 J/\zs=(List.replicate i true).map V.bl) ⟨L2.Same.refl G5,rfl⟩ (fun i zs J _ m=>⟨SqL.of (m.1 _ _ s),SqL.of (m.1 _ _ A)⟩) (fun i u v t zs J D I ht m=>?_) fun zs J m=>?_⟩
    .obtain⟨sJ,rfl⟩:=m;rw[yd] at D I;obtain⟨u,ae,rfl⟩:=yn.mp D;obtain⟨v,af,rfl⟩:=yn.mp I;clear D I;have ao:=(yc.mp ae).1;rw[YQ] at af;have e1:=Y _ _ ae;have U:=Y _ _ af;have ah:=qE sJ (o:=.tup [.bl u,.bl v]) ht;show⟨t,_,rfl,.of qb,rfl,_,_,rfl,_,_,rfl,rfl,?_⟩;generalize upd J t (.tup [.bl u,.bl v])=J3 at ah;apply zr ?_;apply .inl ⟨rfl,rfl,?_⟩;show⟨by rw[ya,YZ];show qh (by lk),ah,?_⟩
     have al:v=!u:=by
      rw[e1,U];rcases YG i with z | z
      .rw [z,yM (by lk)];rfl
      .rw [z,yl (by lk)];rfl
     rw[List.replicate_succ',yy,al];cases u<;>rfl
    .obtain⟨sJ,rfl⟩:=m;rw[show(bs.tail.map V.bl).length=bs.length-1 by rw[ya,xH]];show⟨by rw[ya,YZ];show yT (qh (by lk)),fun e he=>?_⟩;have s6:=qE (s5.trans sJ) (o:=.lst ((List.replicate (bs.length-1) true).map V.bl)) he;have ee:upd J e (.lst ((List.replicate (bs.length-1) true).map V.bl)) e=some (.lst ((List.replicate (bs.length-1) true).map V.bl)):=qb;generalize upd J e (.lst ((List.replicate (bs.length-1) true).map V.bl))=J6 at s6 ee;apply⟨e,_,rfl,SqL.of ee,?_⟩;rw[qfp (fun b X=>(List.mem_replicate.mp X).2)];show q J6 s6
theorem ok_ir(F:Fun K "is_row" "is_row" qa5 f fd)(T:Txt K mg cc cw)(m:DefOk P w K mg base CX0 9 "partners_in" ["web","pairs"] (spPn cw))(s:DefOk P w K mg base CX0 4 "are_unlike_places" ["web","thing"] (spUl cw))(r:DefOk P w K mg base CX0 8 "goes_by_turns" ["web","partners","names"] (spGt cw)):FnOk P w K mg base CX0 10 f fd ["web","pairs","thing"] (spIr cw):=by
 show F.ok uL fun _ _ _ _ H vs Q E c h=>?_
 .obtain⟨x,l,a,ss,ns,us,tps,qs,rs,rfl,R,q⟩:=h;have u:=jY c;have G:=R.rok;have t:=G.two;show⟨_,(qc (qq (i:=3) uL.nd rfl (yQ rfl) (qp m (hmR c) qz (qa (pv 0) (qa (pv 1) qd))))
 (qc (qN (PW.pt (zq (qS (qL (qp s (hmR c) qz (qa (pv 0) (qa (pv 2) qd))))) (jM (qk qdu (qm (jj (K:=K) rfl) rfl T.b_len Yt (qa (pv 2) qd)) qi (qw _))))) (qe (qo jz)) qt)
 (qe (qo (qp r (hmR c) qz (qa (pv 0) (qa (pv 3) (qa (pv 2) qd)))))))),?_⟩
  apply⟨x,l,ss,ns,us,tps,qs,rfl,R.web,R.adj,R.prs,R.pgo,fun d H1 e o n=>?_⟩;apply⟨x,a,ss,ns,rs,rfl,R.web.same e,e _ _ R.row,G.nd,G.few,G.inn,fun H2 g=>?_⟩;have b:=e.trans g;apply yq ?_;apply .inl ⟨_,.inl (SqL.of (b _ _ R.row)),?_⟩;rw[ya];apply qI (fun h=>absurd (yk h) (by lk)) fun _=>?_;apply⟨x,l,d,a,ss,ns,us,tps,qs,rs,rfl,R.same b,g _ _ n,fun j p=>q j (b.trans p)⟩
theorem qeA{t:Addr}{n:Str}{Q:VK}(e:H t=some (.tup [.non,.str n]))(q:Q (.bl true) H):qef K false .non (.ref t) H Q:=
 .inl ⟨t,_,rfl,.inr (SqT.of e),rfl,rfl,q⟩
theorem ok_ct(F:Fun K "can_turn" "can_turn" qal f fd)(T:Txt K mg cc cw)(I:DefOk P w K mg base CX0 9 "partners_in" ["web","pairs"] (spPn cw))(J:DefOk P w K mg base CX0 10 "is_row" ["web","pairs","thing"] (spIr cw)):FnOk P w K mg base CX0 11 f fd ["web","pairs","thing"] (spIr cw):=by
 show F.ok KP fun _ _ _ _ H vs Q E u h=>?_
 .obtain⟨x,l,a,ss,ns,us,tps,qs,rs,rfl,R,q⟩:=h;have b:=jY u;have G:=R.rok;have W:=G.two;show⟨_,(qc (qN (qS (qL (qp J (hmR u) qz (qa (pv 0) (qa (pv 1) (qa (pv 2) qd)))))) (qe (qo jz)) qt)
 (qc (qq (i:=3) KP.nd rfl (yQ rfl) (qp I (hmR u) qz (qa (pv 0) (qa (pv 1) qd))))
 (qc (qq (i:=4) KP.nd rfl (yQ rfl) (qaz (qfl b) (pv 3) (qx (qy (K:=K) rfl b) (pv 2) qi (fun _ _=>rfl)) ⟨rfl,rfl,rfl,rfl⟩))
 (qc (qq (i:=5) KP.nd rfl (yQ rfl) (qaz (qfl b) (pv 3) (qx (qy (K:=K) rfl b) (pv 2) (qba zQ qi) (fun _ _=>rfl)) ⟨rfl,rfl,rfl,rfl⟩))
 (qe (qo (qbT (jo (zT (K:=K) rfl b) (pv 4) (zv (qa jL (qa (qx (qy (K:=K) rfl b) (pv 2) qi (fun _ _=>rfl)) qd))) (by with_unfolding_all rfl)) (qbt (jo (zT (K:=K) rfl b) (pv 5) (zv (qa jL (qa (qx (qy (K:=K) rfl b) (pv 2) (qba zQ qi) (fun _ _=>rfl)) qd))) (by with_unfolding_all rfl)))))))))),?_⟩
  apply⟨x,l,a,ss,ns,us,tps,qs,rs,rfl,R,fun H1 z=>?_⟩;show⟨_,rfl,qI (fun h=>by cases h) fun _=>?_⟩;apply⟨x,l,ss,ns,us,tps,qs,rfl,R.web.same z,R.adj,R.prs.same z,R.pgo,fun d H2 S M p=>?_⟩;obtain⟨s,B⟩:∃ s,rs[0]?=some s:=⟨_,yb (by lk)⟩;obtain⟨g,L⟩:∃ g,rs[1]?=some g:=⟨_,yb (by lk)⟩;obtain⟨r,D⟩:∃ r,rs[rs.length-1]?=some r:=⟨_,yb (by lk)⟩;obtain⟨m1,O⟩:∃ m1,rs[rs.length-2]?=some m1:=⟨_,yb (by lk)⟩;have m:=z.trans S;have C:=R.row;have c:=m _ _ C;have at_:∀{j:Nat} {n:Str},rs[j]?=some n->(rs.map V.str)[j]?=some (.str n):=fun e=>by rw[yd,e];rfl
  have back:∀{j:Nat} {n:Str},1<=j->j<=rs.length->rs[rs.length-j]?=some n->atI (rs.map V.str) (-(j:Int))=some (.str n):=fun l1 l2 e=>atI_back l1 (by rw[ya];show l2) (by rw[ya];show at_ e);apply qce ?_;apply⟨d,rfl,.inl ⟨_,.inl p⟩,?_⟩;apply .inl (qau c (v:=.str s) (qF (j:=0) (at_ B)) ?_);show⟨_,DGet.k (k:=Sum.inr s) p,?_⟩;rw[jP,G.hd _ B];apply qce ?_;apply⟨d,rfl,.inl ⟨_,.inl p⟩,?_⟩;apply⟨1,rfl,?_⟩;show .inl (qau c (v:=.str r) (back (j:=1) (by decide) (by lk) D) ?_);show⟨_,DGet.k (k:=Sum.inr r) p,?_⟩;rw[jP,G.tl _ D];apply .inl (qau c (v:=.str g) (qF (j:=1) (at_ L)) ?_);apply⟨by show 2<=sizeLine;decide,fun t N=>qeA qb ?_⟩;have A:=qE m (o:=.tup [.non,.str g]) N;generalize upd H2 t (.tup [.non,.str g])=U at A;show⟨_,rfl,zr ?_⟩;apply⟨2,rfl,?_⟩;show .inl (qau (A _ _ C) (v:=.str m1) (back (j:=2) (by decide) (by lk) O) ?_);apply⟨by show 2<=sizeLine;decide,fun X y=>qeA qb (q _ (qE A y))⟩
theorem uu:FnScope ["web","pairs","row","partners","steps"] ["web","pairs","row"] (qg qaI):=fS
noncomputable def qdX(rs:LS):LP:=stp rs++(stp rs).map fun q=>(q.2,q.1)
noncomputable def flT(a qs:LP)(rs:LS):LP:=a.filter fun q=>decide (pt qs q.1=some q.2) != decide (q∈qdX rs)
inductive spTu(cw:Addr)(vs:List V)(H:Hp)(Q:VK)(E:XK):Prop|mk (x l a:Addr) (ss:LS) (ns:LN) (us:LQ) (tps qs:LP) (rs:LS) (_:vs=[.ref x,.ref l,.ref a]) (_:Rw cw H x l a ss ns us tps qs rs) (_:∀(l:Addr) (ls:LQ) (H':Hp),L2.Same H H'->H l=none->H' l=some (.lst (ls.map V.ref))->ls.length<=196->All2 (PrAt H H' l) ls (flT (qB ss ns ss.length) qs rs)->Q (.ref l) H')
theorem All2.app9{R:α->β->Prop}{l1 l2:List α}{m1 m2:List β}(a:All2 R l1 m1)(b:All2 R l2 m2):All2 R (l1++l2) (m1++m2):=by
 show⟨by rw[yu,yu,a.len,b.len],fun k x y c d=>?_⟩;by_cases e:k<l1.length
 .rw [yZ e] at c;rw[yZ (by rw[<- a.len];show e)] at d;show a.at_ k x y c d
 .rw [yC (by lk)] at c;rw[yC (by rw[<- a.len];lk),<- a.len] at d;show b.at_ _ x y c d
theorem cat_W{a b:Addr}{Q:VK}(c:G a=some (.lst xs))(d:G b=some (.lst ys))(hl:xs.length+ys.length<=2000)(q:∀ p,G p=none->Q (.ref p) (upd G p (.lst (xs++ys)))):qdm K (.ref a) (.ref b) G Q:=.inl ⟨a,b,_,_,rfl,rfl,c,d,yi hl (by decide),q⟩
theorem ok_tu(F:Fun K "turned" "turned" qaI f fd)(T:Txt K mg cc cw)(Kl:DefOk P w K mg base CX0 9 "partners_in" ["web","pairs"] (spPn cw))(uf:MethOk P w K mg base CX0 7 cw "ties" ["self"] (spTs cw))(Uc:DefOk P w K mg base CX0 11 "can_turn" ["web","pairs","thing"] (spIr cw)):FnOk P w K mg base CX0 12 f fd ["web","pairs","row"] (spTu cw):=by
 show F.ok uu fun _ _ _ _ H vs Q E hr h=>?_
 .obtain⟨x,pl,a,ss,ns,ps,tps,qs,rs,rfl,R,q⟩:=h;have u:=jY hr;obtain⟨wx,dd,ol,nn,hb,_⟩:=id R.web;have ha:=R.row;have ah:=R.rok.few;have h2:=R.rok.two;show⟨_,(qc (qN (qS (qL (qp Uc (hmR hr) qz (qa (pv 0) (qa (pv 1) (qa (pv 2) qd)))))) (qe jE) qt)
 (qc (qq (i:=3) uu.nd rfl (Xr rfl) (qp Kl (hmR hr) qz (qa (pv 0) (qa (pv 1) qd))))
 (qc (qq (i:=4) uu.nd rfl (Xr rfl) (qG (jU (K:=K) rfl) (qcE (K:=K) rfl rfl rfl rfl T.b_list T.b_zip (qa (pv 2) (qa (jx (qdr (K:=K) rfl) (pv 2) (jp qi) jZ) qd))) (qcE (K:=K) rfl rfl rfl rfl T.b_list T.b_zip (qa (jx (qdr (K:=K) rfl) (pv 2) (jp qi) jZ) (qa (pv 2) qd)))))
 (qe (qo (jd (sc:=qg qaI) (XN:=["web","pairs","row","partners","steps"]) ["tie","steps","partners"] 1 [4,3] rfl rfl rfl (by room) rfl (by room)
  (qM (K:=K) rfl (jG uf (hmR hr) (pv 0))) (fun _ _ _ _=>(qr (i:=0) (show(["tie","steps","partners"]:LS).Nodup by room) rfl (yQ rfl))) qP
  (fun _ _ _ _=>(qU (qk (zw (K:=K) rfl u) (jo (zV (K:=K) rfl u) (qaz (qfl u) (pv 2) (qx (qy (K:=K) rfl u) (pv 0) qi (fun _ _=>rfl)) ⟨rfl,rfl,rfl,rfl⟩) (qx (qy (K:=K) rfl u) (pv 0) qi (fun _ _=>rfl)) (qw _)) (jo (zT (K:=K) rfl u) (pv 0) (pv 1) (by with_unfolding_all rfl)) (qw _))))
  (fun _ _ _ _=>(pv 0)))))))),?_⟩
  apply⟨x,pl,a,ss,ns,ps,tps,qs,rs,rfl,R,fun H1 s1=>?_⟩;show⟨_,rfl,qI (fun h=>by cases h) fun _=>?_⟩;apply⟨x,pl,ss,ns,ps,tps,qs,rfl,R.web.same s1,R.adj,R.prs.same s1,R.pgo,fun d H2 s2 ai hd=>?_⟩;have N:=s1.trans s2;have n:=N _ _ ha;apply vLZ ?_;apply .inl ⟨a,_,rfl,SqL.of n,fun Z ac=>?_⟩;rw[qa6,<- kP];have t1:=qE (Sr H2) (o:=.lst (rs.tail.map V.str)) ac;have A:upd H2 Z (.lst (rs.tail.map V.str)) Z=some (.lst (rs.tail.map V.str)):=qb;generalize upd H2 Z (.lst (rs.tail.map V.str))=G1 at t1 A;apply⟨a,Z,_,_,rfl,SqL.of (t1 _ _ n),SqL.of A,by rw[ya];show ah,fun l1 b G2 Z1=>?_⟩;have t2:=t1.trans Z1.sm;apply vLZ ?_;apply .inl ⟨a,_,rfl,SqL.of (t2 _ _ n),fun c2 ad=>?_⟩;rw[qa6,<- kP];have t3:=qE (Sr G2) (o:=.lst (rs.tail.map V.str)) ad;have B:upd G2 c2 (.lst (rs.tail.map V.str)) c2=some (.lst (rs.tail.map V.str)):=qb;generalize upd G2 c2 (.lst (rs.tail.map V.str))=G3 at t3 B;have S:=t2.trans t3;apply⟨c2,a,_,_,rfl,SqL.of B,SqL.of (S _ _ n),by rw[ya,xH];lk,fun l2 c G4 Y=>?_⟩;have t4:=S.trans Y.sm;have U:=t3.trans Y.sm
  have A1:=qdW (qs:=stp rs) Z1 (by rw[qaw,xH];lk) fun j q e=>by
   obtain⟨X,z2⟩:=stp_at.mp e;show⟨X,by rw[YQ];show z2⟩
  have A2:=qdW (qs:=(stp rs).map fun q=>(q.2,q.1)) Y (by rw[ya,qaw,xH];lk) fun j q e=>by
   rw[yd] at e;obtain⟨q',e',rfl⟩:=yn.mp e;obtain⟨X,z2⟩:=stp_at.mp e';show⟨by rw[YQ];show z2,X⟩
  have ak:b.length<=1000:=by rw[A1.len,qaw];lk
  have al:c.length<=1000:=by rw[A2.len,ya,qaw];lk
  show cat_W (U _ _ Z1.ls) Y.ls (by rw[ya,ya,A1.len,A2.len,ya,qaw];lk) fun st ag=>?_;have t5:=qE (Sr G4) (o:=.lst (b.map V.ref++c.map V.ref)) ag;have C:upd G4 st (.lst (b.map V.ref++c.map V.ref)) st=some (.lst (b.map V.ref++c.map V.ref)):=qb;generalize upd G4 st (.lst (b.map V.ref++c.map V.ref))=G5 at t5 C;have W:=t4.trans t5;have aa:PL G5 st (b++c) (qdX rs):=⟨by rw[yy];show C,All2.app9 (A1.mono fun _ _ z=>(U.trans t5) _ _ z) (A2.mono fun _ _ z=>t5 _ _ z)⟩;have p:=N.trans W;have ae:=W _ _ hd;apply⟨x,wx,_,rfl,p _ _ hb,zY (by room),?_⟩;apply⟨x,ss,ns,rfl,R.web.same p,fun l ts G6 s6 aj hl af r=>?_⟩;have O:=p.trans s6;have L:=s6 _ _ ae;have D:=aa.same s6;show .inl ⟨⟨_,.of hl⟩,qD (xs:=ts.map V.ref) (fun i ys G=>G=G6/\∃ us:LQ,ys=us.map V.ref/\us.length<=i/\All2 (fun t ab=>G5 t=none/\G6 t=some (.tup [.str ab.1,.str ab.2])) us (flT ((qB ss ns ss.length).take i) qs rs)) ⟨rfl,[],rfl,yh _,.nil⟩ (fun i ys G _ m=>by rw[m.1];show .of hl) (fun i y ys G hy m=>?_) fun ys G m=>?_⟩
  .obtain⟨rfl,us,rfl,M,I⟩:=m;rw[yd] at hy;obtain⟨t,ht,rfl⟩:=yn.mp hy;have hi:i<ts.length:=(yc.mp ht).1;obtain⟨ab,J⟩:∃ ab,(qB ss ns ss.length)[i]?=some ab:=⟨_,yb (by rw[<- r.len];show hi)⟩;obtain⟨X,z2,z3⟩:=r.at_ i t ab ht J
   have s:flT ((qB ss ns ss.length).take (i+1)) qs rs=flT ((qB ss ns ss.length).take i) qs rs++(if (decide (pt qs ab.1=some ab.2) != decide (ab∈qdX rs))=true then [ab] else []):=by
    unfold flT;rw[yG,J,yX];show _++[ab].filter _=_;rw[yS,Yn]
   apply qce ?_;apply⟨d,rfl,.inl ⟨_,.inl L⟩,?_⟩;apply .inl (qaO z3 (v:=.str ab.1) (qF (j:=0) rfl) ?_);show⟨_,DGet.k (k:=Sum.inr ab.1) L,?_⟩;rw[jP];apply .inl (qaO z3 (v:=.str ab.2) (qF (j:=1) rfl) ?_);show qeT ?_;apply qdS D z3 ?_;show .inl ⟨rfl,rfl,?_⟩;have eb:eqV (.bl (decide (pt qs ab.1=some ab.2))) (.bl (decide ((ab.1,ab.2)∈qdX rs)))=(decide (pt qs ab.1=some ab.2)==decide (ab∈qdX rs)):=rfl;rw[yO rfl,eb,s];show⟨_,rfl,?_⟩;show if (decide (pt qs ab.1=some ab.2) != decide (ab∈qdX rs))=true then _ else _
   cases am:(decide (pt qs ab.1=some ab.2) != decide (ab∈qdX rs)) with
   | true =>
    show zr ?_;rw[yO rfl];apply⟨by rw[ya];show qh (by lk),rfl,us++[t],by rw[yy];rfl,by rw[yu];simp;lk,I.snoc ⟨X,z3⟩⟩
   | false =>
    show yq ?_;rw[yE (by decide),Yb];show⟨rfl,us,rfl,by lk,I⟩
  .obtain⟨rfl,us,rfl,M,I⟩:=m;have e:(ts.map V.ref).length=(qB ss ns ss.length).length:=by rw[ya,r.len]
   rw[e,yP] at I;rw[ya] at M;show⟨by rw[ya];show yT (qh (by lk)),fun g hg=>?_⟩;have s7:=qE O (o:=.lst (us.map V.ref)) hg;show q g us _ s7 (O.free hg) qb (by lk) (I.mono fun t ab z=>⟨p.free z.1,(fun e=>by rw[e,hg] at z;cases z.2),by rw[qf (fun e=>by rw[e,hg] at z;cases z.2)];show z.2⟩)
def adjR(rs:LS)(a b:Str):Prop:=∃ j:Nat,(rs[j]?=some a/\rs[j+1]?=some b)\/(rs[j]?=some b/\rs[j+1]?=some a)
theorem adjR.symm(h:adjR rs a b):adjR rs b a:=h.elim fun j z=>⟨j,z.symm⟩
theorem adjR.mem(h:adjR rs a b):a∈rs/\b∈rs:=h.elim fun j z=>z.elim (fun y=>⟨ye y.1,ye y.2⟩) fun y=>⟨ye y.2,ye y.1⟩
structure TurnR(f:Str->Option Str)(rs:LS):Prop where
 nd:rs.Nodup
 two:2<=rs.length
 sym:∀ a b,f a=some b->f b=some a
 alt:∀(j:Nat) r s t,rs[j]?=some r->rs[j+1]?=some s->rs[j+2]?=some t->(f s=some r↔¬ f s=some t)
 fst:∀ s t,rs[0]?=some s->rs[1]?=some t->f s=none\/f s=some t
 lst:∀ s t,rs[rs.length-1]?=some s->rs[rs.length-2]?=some t->f s=none\/f s=some t
theorem TurnR.near{f:Str->Option Str}(h:TurnR f rs)(n:a∈rs)(c:f a=some b):adjR rs a b:=by
 obtain⟨i,d⟩:=yf n;have o:i<rs.length:=(yc.mp d).1;have p:=h.two;by_cases m:i=0
 .subst m;obtain⟨t,e⟩:∃ t,rs[1]?=some t:=⟨_,yb (by lk)⟩;rcases h.fst a t d e with z | z
  .rw [z] at c;cases c
  .rw [c] at z;cases z;show⟨0,.inl ⟨d,e⟩⟩
 .by_cases hl:i=rs.length-1
  .obtain⟨t,e⟩:∃ t,rs[rs.length-2]?=some t:=⟨_,yb (by lk)⟩;rcases h.lst a t (by rw[<- hl];show d) e with z | z
   .rw [z] at c;cases c
   .rw [c] at z;cases z;show⟨rs.length-2,.inr ⟨e,by rw[show rs.length-2+1=i by lk];show d⟩⟩
  .obtain⟨r,l⟩:∃ r,rs[i-1]?=some r:=⟨_,yb (by lk)⟩;obtain⟨t,e⟩:∃ t,rs[i+1]?=some t:=⟨_,yb (by lk)⟩;have g:i-1+1=i:=by lk
   have j:i-1+2=i+1:=by lk
   have:=h.alt (i-1) r a t l (by rw[g];show d) (by rw[j];show e);by_cases z:f a=some t
   .rw [c] at z;cases z;show⟨i,.inl ⟨d,e⟩⟩
   .have z:=this.mpr z;rw[c] at z;cases z;show⟨i-1,.inr ⟨l,by rw[g];show d⟩⟩
def flipR(f:Str->Option Str)(rs:LS)(a b:Str):Prop:=(a∉rs/\f a=some b)\/(adjR rs a b/\f a≠some b)
theorem TurnR.xor{f:Str->Option Str}(h:TurnR f rs):flipR f rs a b↔¬ (f a=some b↔adjR rs a b):=by
 unfold flipR;constructor
 .rintro (⟨h1,c⟩ | ⟨h1,c⟩) e
  .show h1 (e.mp c).mem.1
  .show c (e.mpr h1)
 .intro e;by_cases h1:f a=some b
  .show .inl ⟨fun d=>e ⟨fun _=>h.near d h1,fun _=>h1⟩,h1⟩
  .by_cases c:adjR rs a b
   .show .inr ⟨c,h1⟩
   .show absurd ⟨fun z=>absurd z h1,fun z=>absurd z c⟩ e
theorem flipR.symm{f:Str->Option Str}(h:TurnR f rs)(e:flipR f rs a b):flipR f rs b a:=by
 rcases e with⟨h1,c⟩ | ⟨h1,c⟩
 .show .inl ⟨fun d=>?_,h.sym _ _ c⟩;show h1 (h.near d (h.sym _ _ c)).mem.2
 .show .inr ⟨h1.symm,fun z=>c (h.sym _ _ z)⟩
theorem adjR.at_(nd:rs.Nodup)(d:rs[i]?=some a)(h:adjR rs a b):rs[i+1]?=some b\/(1<=i/\rs[i-1]?=some b):=by
 obtain⟨j,⟨h1,c⟩ | ⟨h1,c⟩⟩:=h
 .have:=qv nd d h1;subst this;show .inl c
 .have:=qv nd d c;subst this;show .inr ⟨by lk,by simpa using h1⟩
theorem flipR.one{f:Str->Option Str}(h:TurnR f rs)(p:flipR f rs a b)(o:flipR f rs a c):b=c:=by
 rcases p with⟨h1,j⟩ | ⟨h1,j⟩
 .rcases o with⟨e,d⟩ | ⟨e,d⟩
  .rw [j] at d;show ym d
  .show absurd e.mem.1 h1
 .rcases o with⟨e,d⟩ | ⟨e,d⟩
  .show absurd h1.mem.1 e
  .obtain⟨i,l⟩:=yf h1.mem.1
   have g:∀{b c:Str},rs[i+1]?=some b->1<=i->rs[i-1]?=some c->f a≠some b->f a≠some c->False:=fun r q hc s t=>by
    have m:i-1+1=i:=by lk
    have n:i-1+2=i+1:=by lk
    show t ((h.alt (i-1) _ a _ hc (by rw[m];show l) (by rw[n];show r)).mpr s)
   rcases h1.at_ h.nd l with z1 | ⟨l1,z1⟩<;>rcases e.at_ h.nd l with z2 | ⟨l2,z2⟩
   .rw [z1] at z2;show ym z2
   .show(g z1 l2 z2 j d).elim
   .show(g z2 l1 z1 d j).elim
   .rw [z1] at z2;show ym z2
theorem TurnR.again{f:Str->Option Str}(h:TurnR f rs)(l:∀ a b,g a=some b↔flipR f rs a b):TurnR g rs:=by
 have on:∀{a b:Str},adjR rs a b->(g a=some b↔¬ f a=some b):=fun i=>by
  rw[l,h.xor];constructor
  .show fun e z=>e ⟨fun _=>i,fun _=>z⟩
  .show fun e z=>e (z.mpr i)
 have only:∀{a b:Str},a∈rs->g a=some b->adjR rs a b:=fun p e=>by
  rcases(l _ _).mp e with⟨h1,_⟩ | ⟨h1,_⟩
  .show absurd p h1
  .show h1
 show⟨h.nd,h.two,fun a b e=>(l _ _).mpr (((l _ _).mp e).symm h),fun j r s t m c d=>?_,fun s t c d=>?_,fun s t c d=>?_⟩
 .have n:adjR rs s r:=⟨j,.inr ⟨m,c⟩⟩;have o:adjR rs s t:=⟨j+1,.inl ⟨c,d⟩⟩;rw[on n,on o,h.alt j r s t m c d]
 .cases e:g s with
  | none=>show .inl rfl
  | some b =>
   have:=(only (ye c) e).at_ h.nd c;rcases this with z | ⟨z,_⟩
   .rw [d] at z;show .inr (by rw[<- e,e];show z.symm ▸ rfl)
   .omega
 .cases e:g s with
  | none=>show .inl rfl
  | some b =>
   have q:=h.two;have:=(only (ye c) e).at_ h.nd c;rcases this with z | ⟨_,z⟩
   .have:=(yc.mp z).1;lk
   .rw [show rs.length-1-1=rs.length-2 by lk,d] at z;show .inr (by rw[<- z])
theorem TurnR.inner{f:Str->Option Str}(h:TurnR f rs)(d:0<i)(h1:i+1<rs.length)(b:rs[i]?=some s):(f s).isSome=true:=by
 obtain⟨r,a⟩:∃ r,rs[i-1]?=some r:=⟨_,yb (by lk)⟩;obtain⟨t,c⟩:∃ t,rs[i+1]?=some t:=⟨_,yb h1⟩;have:=h.alt (i-1) r s t a (by rw[show i-1+1=i by lk];show b) (by rw[show i-1+2=i+1 by lk];show c)
 cases e:f s with
 | some _=>rfl
 | none =>
  rw[e] at this;have:=this.mpr (fun z=>by cases z);cases this
theorem qde{f:Str->Option Str}(h:TurnR f rs)(e:∀ a b,g a=some b↔flipR f rs a b)(c:adjR rs a t)(i:f a=none\/f a=some t)(d:g a=none\/g a=some t):(g a).isSome=!(f a).isSome:=by
 rcases i with z | z
 .rw [(e a t).mpr (.inr ⟨c,by rw[z];show fun y=>by cases y⟩),z];rfl
 .rcases d with y | y
  .rw [y,z];rfl
  .show absurd ⟨fun _=>c,fun _=>z⟩ (h.xor.mp ((e a t).mp y))
theorem qdY{f:Str->Option Str}(h:TurnR f rs)(j:rs[0]?=some a)(g:rs[rs.length-1]?=some b):(rs.filter fun s=>(f s).isSome).length+2=rs.length+(if (f a).isSome then 1 else 0)+(if (f b).isSome then 1 else 0):=by
 have d:=h.two
 obtain⟨m,n⟩:∃ m,rs=a::(m++[b]):=by
  match rs,j,g,d with
  | x::r,j,g,d =>
   have u:x=a:=ym j;have q:r≠[]:=fun z=>by rw[z] at d;simp at d
   show⟨r.dropLast,?_⟩
   have e:r.getLast q=b:=by
    have hl:0<r.length:=ky.mpr q;rw[show(x::r).length-1=r.length-1+1 by simp;lk,List.getElem?_cons_succ] at g;rw[List.getLast_eq_getElem];show(yc.mp g).2
   rw[u,<- e,Y4]
 have o:rs.length=m.length+2:=by rw[n];simp
 have c:(m.filter fun s=>(f s).isSome)=m:=List.filter_eq_self.mpr fun s t=>by
  obtain⟨i,p⟩:=yf t;have l:=(yc.mp p).1;show h.inner (i:=i+1) (by lk) (by lk) ?_;rw[n,List.getElem?_cons_succ,yZ l];show p
 rw[o,n,yS,yX,c,yS,Yn];cases (f a).isSome<;>cases (f b).isSome<;>simp<;>lk
theorem qcq(f:ss.Nodup)(i:rs.Nodup)(c:∀ s∈rs,s∈ss)(p:Str->Bool):(ss.filter p).length=(rs.filter p).length+(ss.filter fun s=>p s&&!decide (s∈rs)).length:=by
 have e:(rs.filter p).length=(ss.filter fun s=>p s&&decide (s∈rs)).length:=xQ
  (qbP (i.filter _) fun s d=>by
   obtain⟨a,b⟩:=yp.mp d;show yp.mpr ⟨c s a,by rw[b,yM a];rfl⟩)
  (qbP (f.filter _) fun s d=>by
   obtain⟨a,b⟩:=yp.mp d;obtain⟨g,h⟩:=(yY _ _).mp b;show yp.mpr ⟨yk h,g⟩)
 rw[e];clear e f c
 induction ss with
 | nil=>rfl
 | cons x r ih =>
  rw[yS,yS,yS];cases p x<;>cases decide (x∈rs)<;>simp<;>lk
theorem qaS:∀{qs:LP},(∀ q∈qs,q.1≠q.2)->qs.Pairwise (fun q r=>q.1≠r.1/\q.1≠r.2/\q.2≠r.1/\q.2≠r.2)->(qj qs).Nodup
 | [],_,_=>X1
 | q::r,h,hp=>by
  obtain⟨j,l⟩:=List.pairwise_cons.mp hp;have i:=qaS (fun x f=>h x (yB _ f)) l;show(q.1::q.2::qj r).Nodup
  have out:∀ n∈qj r,q.1≠n/\q.2≠n:=fun n g=>by
   obtain⟨x,f,e⟩:=YS.mp g;obtain⟨a,b,c,d⟩:=j x f;simp only[yz,yW,YE] at e;rcases e with rfl | rfl
   .show⟨a,c⟩
   .show⟨b,d⟩
  show yo.mpr ⟨fun z=>?_,yo.mpr ⟨fun z=>(out _ z).2 rfl,i⟩⟩;rcases yz.mp z with z | z
  .show h q yR z
  .show(out _ z).1 rfl
theorem stpB_adj:(a,b)∈qdX rs↔adjR rs a b:=by
 unfold qdX adjR;rw[yw,Yq];constructor
 .rintro (h | ⟨q,h,e⟩)
  .obtain⟨j,d⟩:=yf h;show⟨j,.inl (stp_at.mp d)⟩
  .obtain⟨j,d⟩:=yf h;cases e;show⟨j,.inr (stp_at.mp d)⟩
 .rintro ⟨j,⟨h1,c⟩ | ⟨h1,c⟩⟩
  .show .inl (ye (stp_at.mpr ⟨h1,c⟩))
  .show .inr ⟨(b,a),ye (stp_at.mpr ⟨h1,c⟩),rfl⟩
theorem qdf{d:LP}(h:TurnR (pt qs) rs):(a,b)∈flT d qs rs↔(a,b)∈d/\flipR (pt qs) rs a b:=by
 unfold flT;rw[yp,h.xor];show and_congr_right fun _=>?_;show(decide (pt qs a=some b) != decide ((a,b)∈qdX rs))=true↔_;by_cases h1:pt qs a=some b<;>by_cases c:(a,b)∈qdX rs
 .rw [yM h1,yM c];show⟨(fun z=>by cases z),fun z=>absurd ⟨fun _=>stpB_adj.mp c,fun _=>h1⟩ z⟩
 .rw [yM h1,yl c];show⟨fun _ z=>c (stpB_adj.mpr (z.mp h1)),fun _=>rfl⟩
 .rw [yl h1,yM c];show⟨fun _ z=>h1 (z.mpr (stpB_adj.mp c)),fun _=>rfl⟩
 .rw [yl h1,yl c];show⟨(fun z=>by cases z),fun z=>absurd ⟨fun y=>absurd y h1,fun y=>absurd (stpB_adj.mpr y) c⟩ z⟩
def tA(tps:LP)(a b:Str):Prop:=(a,b)∈tps\/(b,a)∈tps
theorem pt_some:s∈qj qs↔(pt qs s).isSome=true:=by
 cases e:pt qs s with
 | none=>show⟨fun z=>absurd z (pt_none.mp e),(fun z=>by cases z)⟩
 | some b=>show⟨fun _=>rfl,fun _=>Ys fun z=>by rw[pt_none.mpr z] at e;cases e⟩
structure PFn(ss:LS)(tps:LP)(f:Str->Option Str):Prop where
 sym:∀ a b,f a=some b->f b=some a
 tie:∀ a b,f a=some b->tA tps a b
noncomputable def qeB(f:Str->Option Str)(ss:LS):Nat:=(ss.filter fun s=>(f s).isSome).length
section
variable{ss:LS}{ns:LN}{tps qs:LP}{f g:Str->Option Str}
theorem PGo.fn(h:PGo ss tps qs):PFn ss tps (pt qs):=⟨fun a b e=>(zM h.nd).mp e,fun a b e=>by
 rcases qco e with z | z
 .show(h.inn _ z).1
 .show(h.inn _ z).1.symm⟩
theorem PGo.cnt(h:PGo ss tps qs)(c:ss.Nodup):2*qs.length=qeB (pt qs) ss:=by
 rw[<- jC];show xQ (qbP h.nd fun s a=>yp.mpr ⟨?_,pt_some.mp a⟩) (qbP (c.filter _) fun s a=>pt_some.mpr (yp.mp a).2);obtain⟨q,b,a⟩:=YS.mp a;simp only[yz,yW,YE] at a;rcases a with rfl | rfl
 .show(h.inn q b).2.1
 .show(h.inn q b).2.2.1
theorem qeC:(snL f ss).length+qeB f ss=ss.length:=by
 unfold snL qeB
 induction ss with
 | nil=>rfl
 | cons x r ih =>
  rw[yS,yS];cases (f x).isSome
  .rw [yO (show(!false)=true from rfl),yE Yi,yA,yA];lk
  .rw [yE (show ¬ (!true)=true by decide),yO (show true=true from rfl),yA,yA];lk
theorem qaT(hw:WOk ss ns)(p:Adj ss ns tps):(a,b)∈qB ss ns ss.length↔tA tps a b/\∃ i j:Nat,i<j/\ss[i]?=some a/\ss[j]?=some b:=by
 unfold qB;rw[YS];constructor
 .rintro ⟨i,f,h⟩;have f:=YC.mp f;obtain⟨s,l⟩:∃ s,ss[i]?=some s:=⟨_,yb f⟩;have d:ss.getD i ""=s:=by rw[yV,l];rfl
  unfold qex at h;rw[d] at h;obtain⟨o,u,e⟩:=Yq.mp h;cases e;obtain⟨h1,c⟩:=yp.mp u;obtain⟨q,r⟩:=qdP hw.nd h1;have n:ss[ss.idxOf b]?=some b:=by rw[yb (Yu q),YN]
  show⟨(p i _ _ _ l n).mp r,i,_,yk c,l,n⟩
 .rintro ⟨h,i,j,g,h1,c⟩;show⟨i,YC.mpr (yc.mp h1).1,?_⟩;have d:ss.getD i ""=a:=by rw[yV,h1];rfl
  have m:ss.idxOf b=j:=by
   have t:=ye c;show qv hw.nd (by rw[yb (Yu t),YN]) c
  unfold qex;rw[d];show Yq.mpr ⟨b,yp.mpr ⟨?_,yM (by rw[m];show g)⟩,rfl⟩;rw[zx hw.nd];show yp.mpr ⟨ye c,by rw[m];show(p i j a b h1 c).mpr h⟩
theorem dps_nd(hw:WOk ss ns):(qB ss ns ss.length).Nodup:=by
 show List.pairwise_flatMap.mpr ⟨fun i _=>?_,?_⟩
 .unfold qex;show Xq.mpr ?_;have nd:((inB ss 0 (ns.getD i 0)).filter fun o=>decide (i<ss.idxOf o)).Nodup:=by rw[zx hw.nd];show(hw.nd.filter _).filter _
  show nd.imp fun c e=>c (Xu e).2
 .show Y1 (fun{i j} a b g q d r f e=>?_) (List.pairwise_lt_range (n:=ss.length));have a:=YC.mp a;have b:=YC.mp b;unfold qex at d f;obtain⟨_,_,rfl⟩:=Yq.mp d;obtain⟨_,_,rfl⟩:=Yq.mp f;have e:=(Xu e).1;rw[yV,yV,yb a,yb b] at e;have:=qv hw.nd (yb a) (by rw[yb b];show congrArg some e.symm);lk
theorem qdZ(hw:WOk ss ns)(A:Adj ss ns tps)(t:∀ ab∈tps,ab.1∈ss/\ab.2∈ss/\ab.1≠ab.2)(h:PFn ss tps g){L:LP}(f:∀ a b,(a,b)∈L↔(a,b)∈qB ss ns ss.length/\g a=some b)(H:L.Sublist (qB ss ns ss.length)):PGo ss tps L/\pt L=g:=by
 have mem:∀ q∈L,g q.1=some q.2/\tA tps q.1 q.2/\∃ i j:Nat,i<j/\ss[i]?=some q.1/\ss[j]?=some q.2:=fun q c=>by
  obtain⟨h1,G⟩:=(f q.1 q.2).mp c;show⟨G,(qaT hw A).mp h1⟩
 have inn:∀{a b:Str},tA tps a b->a∈ss/\b∈ss/\a≠b:=fun z=>z.elim (fun y=>t _ y) fun y=>⟨(t _ y).2.1,(t _ y).1,(t _ y).2.2.symm⟩
 have nd:(qj L).Nodup:=by
  show qaS (fun q c=>(inn (mem q c).2.1).2.2) (Y1 (fun{q r} c I n=>?_) (H.nodup (dps_nd hw)));obtain⟨d,_,i,j,l1,o,p⟩:=mem q c;obtain⟨x,_,J,K,l2,D,E⟩:=mem r I;have w:=h.sym _ _ d;have F:=h.sym _ _ x;show⟨fun z=>?_,fun z=>?_,fun z=>?_,fun z=>?_⟩
  .rw [z,x] at d;show n (XS z (ym d).symm)
  .rw [z,F] at d;have e:=ym d;rw[z] at o;rw[<- e] at p;have:=qv hw.nd o E;have:=qv hw.nd p D;lk
  .rw [z,x] at w;have e:=ym w;rw[z] at p;rw[<- e] at o;have:=qv hw.nd o E;have:=qv hw.nd p D;lk
  .rw [z,F] at w;show n (XS (ym w).symm z)
 have C:∀ q∈L,(q∈tps\/(q.2,q.1)∈tps)/\q.1∈ss/\q.2∈ss/\q.1≠q.2:=fun q c=>⟨(mem q c).2.1,inn (mem q c).2.1⟩
 have hl:L.length<=30:=by
  have:=qbP (l:=qj L) (m:=ss) nd fun s v=>by
   obtain⟨q,c,v⟩:=YS.mp v;simp only[yz,yW,YE] at v;rcases v with rfl | rfl
   .show(C q c).2.1
   .show(C q c).2.2.1
  rw[jC] at this;have:=hw.few;lk
 show⟨⟨C,nd,hl⟩,funext fun a=>qcK fun b=>?_⟩;rw[qcp nd];constructor
 .rintro (z | z)
  .show((f _ _).mp z).2
  .show h.sym _ _ ((f _ _).mp z).2
 .intro e;obtain⟨m1,m2,ne⟩:=inn (h.tie _ _ e);obtain⟨i,B⟩:=yf m1;obtain⟨j,u⟩:=yf m2;rcases kM i j with l | l | l
  .show .inl ((f _ _).mpr ⟨(qaT hw A).mpr ⟨h.tie _ _ e,i,j,l,B,u⟩,e⟩)
  .subst l;rw[B] at u;show absurd (ym u) ne
  .show .inr ((f _ _).mpr ⟨(qaT hw A).mpr ⟨(h.tie _ _ e).symm,j,i,l,u,B⟩,h.sym _ _ e⟩)
theorem qd0(hw:WOk ss ns)(c:Adj ss ns tps)(d:∀ ab∈tps,ab.1∈ss/\ab.2∈ss/\ab.1≠ab.2)(h:PGo ss tps qs):PGo ss tps (qav (qB ss ns ss.length) qs)/\pt (qav (qB ss ns ss.length) qs)=pt qs:=
 qdZ hw c d h.fn (fun a b=>by unfold qav;rw[yp,Yj]) xi
end
theorem qd1{f:Str->Option Str}(h:TurnR f rs):∃ g:Str->Option Str,∀ a b,g a=some b↔flipR f rs a b:=
 ⟨fun a=>@dite _ (∃ b,flipR f rs a b) (Classical.propDecidable _) (fun z=>some z.choose) fun _=>none,fun a b=>by
  dsimp only;split
  .rename_i z
   show⟨fun e=>by rw[<- ym e];show z.choose_spec,fun e=>congrArg some (z.choose_spec.one h e)⟩
  .rename_i z
   show⟨(fun e=>by cases e),fun e=>absurd ⟨b,e⟩ z⟩⟩
section
variable{ss:LS}{tps qs:LP}{f g:Str->Option Str}{rs:LS}
theorem qd2(h:TurnR f rs)(i:PFn ss tps f)(d:∀ a b,adjR rs a b->tA tps a b)(c:∀ a b,g a=some b↔flipR f rs a b):PFn ss tps g:=
 ⟨fun a b e=>(c _ _).mpr (((c _ _).mp e).symm h),fun a b e=>((c _ _).mp e).elim (fun z=>i.tie _ _ z.2) fun z=>d _ _ z.1⟩
theorem flip_cnt(h:TurnR f rs)(i:∀ a b,g a=some b↔flipR f rs a b)(o:ss.Nodup)(e:∀ s∈rs,s∈ss)(c:rs[0]?=some a)(d:rs[rs.length-1]?=some b):qeB g ss+2=qeB f ss+(if (f a).isSome then 0 else 2)+(if (f b).isSome then 0 else 2):=by
 have B:=h.two;have j:=h.again i;unfold qeB;rw[qcq o h.nd e,qcq (p:=fun s=>(f s).isSome) o h.nd e];have n:=qdY h c d;have r2:=qdY j c d
 have A:(ss.filter fun s=>(g s).isSome&&!decide (s∈rs))=ss.filter fun s=>(f s).isSome&&!decide (s∈rs):=xA fun s _=>by
  by_cases z:s∈rs
  .rw [yM z];simp
  .have:g s=f s:=qcK fun b=>by
    rw[i];show⟨fun y=>y.elim (fun x=>x.2) fun x=>absurd x.1.mem.1 z,fun y=>.inl ⟨z,y⟩⟩
   rw[this]
 rw[A];obtain⟨t,l⟩:∃ t,rs[1]?=some t:=⟨_,yb (by lk)⟩;obtain⟨u,m⟩:∃ u,rs[rs.length-2]?=some u:=⟨_,yb (by lk)⟩;have q:=qde h i ⟨0,.inl ⟨c,l⟩⟩ (h.fst a t c l) (j.fst a t c l);have r:=qde h i (a:=b) (t:=u) ⟨rs.length-2,.inr ⟨m,by rw[show rs.length-2+1=rs.length-1 by lk];show d⟩⟩ (h.lst b u d m) (j.lst b u d m);rw[q,r] at r2;generalize (rs.filter fun s=>(g s).isSome).length=C at r2 ⊢;generalize (rs.filter fun s=>(f s).isSome).length=D at n ⊢;cases v:(f a).isSome<;>cases w:(f b).isSome<;>rw[v,w] at n r2<;>simp at n r2 ⊢<;>lk
theorem turns_turn(c:∀ a b,f a=some b->f b=some a)(nd:rs.Nodup)(d:2<=rs.length)(st:Turns A f rs)(h:∀ s,rs[0]?=some s->f s=none)(tl:∀ s t,rs[rs.length-1]?=some s->rs[rs.length-2]?=some t->f s=none\/f s=some t):TurnR f rs:=by
 show⟨nd,d,c,fun j r s t i h1 l=>?_,fun s t h1 _=>.inl (h s h1),tl⟩;have e:=(st j r s i h1).2;have g:=(st (j+1) s t h1 l).2;have:f s=some r↔f r=some s:=⟨fun z=>c _ _ z,fun z=>c _ _ z⟩;rw[this,e,g];lk
theorem qcr(st:Turns (tA tps) f rs):∀ a b,adjR rs a b->tA tps a b:=fun a b h=>by
 obtain⟨j,⟨h1,c⟩ | ⟨h1,c⟩⟩:=h
 .show(st j _ _ h1 c).1
 .show(st j _ _ h1 c).1.symm
theorem Aug.row(h:Aug (tA tps) (pt qs) rs)(hl:rs.length<=1000)(c:∀ ab∈tps,ab.1∈ss/\ab.2∈ss/\ab.1≠ab.2):RowG ss tps qs rs:=by
 show⟨h.nd,h.two,hl,fun r n=>?_,fun j ab e=>?_,h.hd,h.tl⟩
 .obtain⟨i,d⟩:=yf n;have m:=(yc.mp d).1;have q:=h.two;have inn:∀{a b:Str},tA tps a b->a∈ss/\b∈ss:=fun z=>z.elim (fun y=>⟨(c _ y).1,(c _ y).2.1⟩) fun y=>⟨(c _ y).2.1,(c _ y).1⟩;by_cases l:i+1<rs.length
  .show(inn (h.st i r _ d (yb l)).1).1
  .show(inn (h.st (i-1) _ r (yb (by lk)) (by rw[show i-1+1=i by lk];show d)).1).2
 .obtain⟨f,g⟩:=stp_at.mp e;obtain⟨o,p⟩:=h.st j _ _ f g;show⟨o,YF.mpr p⟩
theorem Aug.turn(h:Aug (tA tps) (pt qs) rs)(c:∀ a b,pt qs a=some b->pt qs b=some a):TurnR (pt qs) rs:=
 turns_turn c h.nd h.two h.st h.hd fun s t e _=>.inl (h.tl s e)
theorem qd3(hw:WOk ss ns)(n:Adj ss ns tps)(f:∀ ab∈tps,ab.1∈ss/\ab.2∈ss/\ab.1≠ab.2)(e:PGo ss tps qs)(h:Aug (tA tps) (pt qs) rs)(hl:rs.length<=1000):PGo ss tps (flT (qB ss ns ss.length) qs rs)/\(flT (qB ss ns ss.length) qs rs).length=qs.length+1:=by
 have c:=h.turn e.fn.sym;obtain⟨g,d⟩:=qd1 c;obtain⟨l,o⟩:=qdZ hw n f (qd2 c e.fn (qcr h.st) d) (L:=flT (qB ss ns ss.length) qs rs) (fun a b=>by rw[qdf c,d]) xi;show⟨l,?_⟩;have p:=e.cnt hw.nd;have m:=l.cnt hw.nd;rw[o] at m;have q:=h.two;obtain⟨a,i⟩:∃ t,rs[0]?=some t:=⟨_,yb (by lk)⟩;obtain⟨b,j⟩:∃ t,rs[rs.length-1]?=some t:=⟨_,yb (by lk)⟩;have:=flip_cnt c d hw.nd (h.row hl f).inn i j;rw[h.hd a i,h.tl b j] at this;simp at this;lk
end
theorem Kn:FnScope ["web","pairs","now","rows","row"] ["web","pairs"] (qg jK):=fS
def MxF(ss:LS)(tps qs:LP):Prop:=∃ S:FS,Fn (tA tps) (pt qs) S ss
structure Wt(cw:Addr)(H:Hp)(x:Addr)(ss:LS)(ns:LN)(tps:LP):Prop where
 web:WebAt cw H x ss ns
 adj:Adj ss ns tps
 ok:∀ ab∈tps,ab.1∈ss/\ab.2∈ss/\ab.1≠ab.2
theorem Wt.same(h:Wt cw H x ss ns tps)(s:L2.Same H H'):Wt cw H' x ss ns tps:=⟨h.web.same s,h.adj,h.ok⟩
theorem Wt.wok(h:Wt cw H x ss ns tps):WOk ss ns:=by obtain⟨_,_,_,_,_,_,_,_,z⟩:=h.web;show z
theorem Wt.wb(h:Wt cw H x ss ns tps)(g:PGo ss tps qs):Wb (tA tps) ss qs:=by
 show⟨⟨fun z=>Or.symm z,fun z e=>?_,fun{a b} e=>g.fn.sym a b e,fun{a b} e=>g.fn.tie a b e⟩,fun a b z=>z.elim (fun y=>(h.ok _ y).1) fun y=>(h.ok _ y).2.1,g.nd,h.wok.few,h.wok.nd⟩;rcases z with z | z
 .show(h.ok _ z).2.2 e
 .show(h.ok _ z).2.2 e.symm
theorem Wt.bes(h:Wt cw H x ss ns tps):∀(j:Nat) z u,ss[j]?=some z->(u∈inB ss 0 (ns.getD j 0)↔tA tps z u):=fun j z u e=>by
 rw[zx h.wok.nd,yp];constructor
 .rintro ⟨h1,b⟩;show(h.adj j _ z u e (by rw[yb (Yu h1),YN])).mp b
 .intro t;have a:u∈ss:=t.elim (fun y=>(h.ok _ y).2.1) fun y=>(h.ok _ y).1;show⟨a,(h.adj j _ z u e (by rw[yb (Yu a),YN])).mpr t⟩
theorem qfq{a:Fo}{wt:LS}(h:FoD cf cw H0 H a ss ns qs S dn wt .non (tA tps))(W:Wb (tA tps) ss qs):Fn (tA tps) (pt qs) S ss:=by
 rcases h.en with⟨_,rfl,I,C,sg⟩ | ⟨t,r,e,_⟩
 .have b:∀ v,v∈dn↔S.rows v≠none:=fun v=>by have:=h.fo.evi v;rwa[Yb] at this
  show⟨I,W.gr,W.inn,W.nd,fun v u hv c=>(C.cl v u ((b v).mpr hv) c).imp id fun z=>⟨z.1,Ys fun y=>z.2 ((b u).mpr y)⟩,sg,fun v hv=>h.fo.evs v ((h.fo.evi v).mpr hv)⟩
 .cases e
def FiR(ss:LS)(ns:LN)(qs:LP)(o:Option (LS)):Prop:=∃ S,GwR qs ss ns (SI qs ss) (sgL qs ss) S o
theorem FiR.det{o:Option (LS)}(h:FiR ss ns qs o)(g:FiR ss ns qs o'):o=o':=by
 obtain⟨_,h⟩:=h;obtain⟨_,g⟩:=g;show(h.det g).2
inductive GfR(ss:LS)(ns:LN)(tps:LP):LP->List (LS)->LP->Prop
 | nil {ps:LP}:FiR ss ns ps none->GfR ss ns tps ps [] ps
 | on {ps rs:LP} {r:LS} {ro:List (LS)}:FiR ss ns ps (some r)->Aug (tA tps) (pt ps) r->GfR ss ns tps (flT (qB ss ns ss.length) ps r) ro rs->GfR ss ns tps ps (r::ro) rs
theorem GfR.det{ps rs b:LP}{a:List (LS)}(h:GfR ss ns tps ps ro rs):GfR ss ns tps ps a b->rs=b:=by
 induction h generalizing a with
 | nil h=>intro g;cases g with
  | nil _=>rfl
  | on g _ _=>cases h.det g
 | on h _ _ ih=>intro g;cases g with
  | nil g=>cases h.det g
  | on g _ k=>cases h.det g;show ih k
theorem GfR.fil{ps rs:LP}(h:GfR ss ns tps ps ro rs)(a:∃ p,ps=(qB ss ns ss.length).filter p):∃ p,rs=(qB ss ns ss.length).filter p:=by
 induction h with
 | nil _=>show a
 | on _ _ _ ih=>show ih ⟨_,rfl⟩
def RoA(r2:Addr)(H:Hp)(v:V)(r:LS):Prop:=∃ k,v=.ref k/\k≠r2/\H k=some (.lst (r.map V.str))
theorem RoA.same{v:V}(h:RoA r2 H v r)(s:L2.Same H H'):RoA r2 H' v r:=by
 obtain⟨k,a,b,c⟩:=h;show⟨k,a,b,s _ _ c⟩
theorem RoA.put{v:V}(h:RoA r2 H v r):RoA r2 (upd H r2 o) v r:=by
 obtain⟨k,b,a,c⟩:=h;show⟨k,b,a,by rw[qf a];show c⟩
def FRow(ss:LS)(ns:LN)(tps qs:LP)(H:Hp)(v:V)(H':Hp):Prop:=L2.Same H H'/\((v=.non/\MxF ss tps qs/\FiR ss ns qs none)\/∃(r:Addr) (rs:LS),v=.ref r/\H r=none/\H' r=some (.lst (rs.map V.str))/\rs.length<=1000/\Aug (tA tps) (pt qs) rs/\FiR ss ns qs (some rs))
inductive spGf(cw:Addr)(vs:List V)(H:Hp)(Q:VK)(E:XK):Prop|mk (x l:Addr) (ss:LS) (ns:LN) (us:LQ) (tps qs:LP) (_:vs=[.ref x,.ref l]) (_:Wt cw H x ss ns tps) (_:PL H l us qs) (_:PGo ss tps qs) (_:∀(t l2 r2:Addr) (ls:LQ) (ws:List V) (ro:List (LS)) (rs:LP) (H':Hp),L2.Same H H'->H' t=some (.tup [.ref l2,.ref r2])->H l2=none->H r2=none->l2≠r2->PL H' l2 ls rs->H' r2=some (.lst ws)->All2 (RoA r2 H') ws ro->rs.length=qs.length+ws.length->PGo ss tps rs->MxF ss tps rs->GfR ss ns tps (qav (qB ss ns ss.length) qs) ro rs->Q (.ref t) H')
theorem qeU{y:Addr}{Q:VK}(W:Wt cw G x ss ns tps)(n:PL G l us qs)(b:PGo ss tps qs)(f:G y=none)(i:G dx=none)(d:dx≠y)
  (h:∀ H0 H2 a S dn wt lo,a.x=y->FoD (cc 9) cw H0 H2 a ss ns qs S dn wt lo (tA tps)->L2.Same G H2->Q .non H2):spFi cc cw [.ref y,.ref x,.ref l] (upd (upd G dx (.own y)) y (.ins (cc 9) dx [])) Q E:=by
 have j:=qE (qE (Sr G) (o:=.own y) i) (o:=.ins (cc 9) dx []) (show upd G dx (.own y) y=none by rw[qf (Ye d)];show f);show⟨y,dx,x,l,ss,ns,us,tps,qs,tA tps,rfl,qb,W.web.same j,W.adj,W.wb b,W.wok.nm,W.bes,n.same j,b.few,b.inn,fun H0 H' a S dn wt lo m _ g p=>h H0 H' a S dn wt lo m g fun c o e=>?_⟩;show g.fo.sm c o (p c o ?_);rw[zJ (fun z=>by rw[z,f] at e;cases e),qf (fun z=>by rw[z,f] at e;cases e),qf (fun z=>by rw[z,i] at e;cases e)];show e
theorem qf8{a:Fo}{wt:LS}{Q:VK}(f:FoD (cc 9) cw H0 H2 a ss ns qs S dn wt lo (tA tps))(p:Wb (tA tps) ss qs)(h:∀ v H',FRow ss ns tps qs H2 v H'->Q v H'):spFr cc cw [.ref a.x] H2 Q E:=by
 show⟨H0,a,ss,ns,qs,S,dn,wt,lo,_,rfl,f,fun e=>?_,fun t r e m n l hl=>?_⟩
 .subst e;obtain⟨o,g,i⟩:=f.gw;rcases i with⟨_,rfl⟩ | ⟨t,r,e,_⟩
  .show h _ _ ⟨L2.Same.refl _,.inl ⟨rfl,⟨S,qfq f p⟩,S,g⟩⟩
  .cases e
 .obtain⟨o,g,i⟩:=f.gw
  have s:o=some r:=by
   rcases i with⟨c,_⟩ | ⟨t',j,c,d,rfl⟩
   .rw [e] at c;cases c
   .rw [e] at c;cases c;rw[m] at d;have:=show r.map V.str=j.map V.str by injection (ym d)
    rw[List.map_inj_right (fun a b z=>by injection z)] at this;rw[this]
  subst s;show h _ _ ⟨qE (Sr _) hl,.inr ⟨l,r,rfl,hl,qb,?_,n,S,g⟩⟩;rcases f.en with⟨c,_⟩ | ⟨t',j,c,d,_,_,q⟩
  .rw [e] at c;cases c
  .rw [e] at c;cases c;rw[m] at d;have:=congrArg List.length (show r.map V.str=j.map V.str by injection (ym d));rw[ya,ya] at this;lk
theorem ok_gf(F:Fun K "greatest_from" "greatest_from" jK f fd)(T:Txt K mg cc cw)(uU:DefOk P w K mg base CX0 10 "told_pairs" ["web","pairs"] (spTp cw))(ug:MakeOk P w K mg base CX0 10 (cc 9) "Forest" ["self","web","pairs"] (spFi cc cw))(uv:MethOk P w K mg base CX0 1 (cc 9) "row" ["self"] (spFr cc cw))(Uq:DefOk P w K mg base CX0 12 "turned" ["web","pairs","row"] (spTu cw)):FnOk P w K mg base CX0 13 f fd ["web","pairs"] (spGf cw):=by
 show F.ok Kn fun _ _ _ _ H vs Q E Z h=>?_
 .obtain⟨x,l,ss,ns,us,tps,qs,rfl,W,hP,hG,q⟩:=h;have hu:=jY Z;show⟨_,(qc (qq (i:=2) Kn.nd rfl (yQ rfl) (qp uU (hmR Z) qz (qa (pv 0) (qa (pv 1) qd))))
 (qc (qq (i:=3) Kn.nd rfl (yQ rfl) (qR qd))
 (qc (qq (i:=4) Kn.nd rfl (yQ rfl) (jG uv (hmR Z) (qaZ ug (hmR Z) (qa (pv 0) (qa (pv 2) qd)))))
 (qc (qay y0 (qk qbb (pv 4) jL (qw _))
 (qc (qW (qbI (K:=K) rfl yU Yo Yp jg (pv 3) (qa (pv 4) qd)))
 (qc (qq (i:=2) Kn.nd rfl (yQ rfl) (qp Uq (hmR Z) qz (qa (pv 0) (qa (pv 2) (qa (pv 4) qd)))))
 (qe (qq (i:=4) Kn.nd rfl (yQ rfl) (jG uv (hmR Z) (qaZ ug (hmR Z) (qa (pv 0) (qa (pv 2) qd)))))))))
 (qe (qo (zv (qa (pv 2) (qa (pv 3) qd))))))))),?_⟩
  apply⟨x,l,ss,ns,us,tps,qs,rfl,W.web,W.adj,hP,hG,fun l1 am H1 s1 ay X _ hA1=>?_⟩;apply⟨by decide,fun r2 aa=>?_⟩;have s2:=qE (Sr H1) (o:=.lst []) aa;have c:upd H1 r2 (.lst []) r2=some (.lst []):=qb;have W2:=W.same (s1.trans s2);have A:=qd0 W.wok W.adj W.ok hG
  have R:(qav (qB ss ns ss.length) qs).length=qs.length+0:=by
   have c1:=hG.cnt W.wok.nd;have c2:=A.1.cnt W.wok.nd;rw[A.2] at c2;lk
  have j:PL (upd H1 r2 (.lst [])) l1 am (qav (qB ss ns ss.length) qs):=⟨s2 _ _ X,hA1.mono fun _ _ z=>s2 _ _ z.2.2⟩;have aq:=s1.trans s2;generalize upd H1 r2 (.lst [])=G at aq c W2 j;obtain⟨p,C⟩:∃ p,p=qav (qB ss ns ss.length) qs:=⟨_,rfl⟩;rw[<- C] at q j A R;clear C;obtain⟨ps,ak⟩:∃ ps,ps=p:=⟨_,rfl⟩;rw[<- ak] at j A R;replace A:=A.1;apply fun y dx hy U Y=>qeU W2 j A hy U Y fun H0 H3 a S dn wt lo ea hD s3=>?_;subst ea;obtain⟨fx,ff,as,_,_,_,av⟩:=id hD.fo.obj;show⟨rfl,a.x,fx,ff,rfl,as,av _ (by room),?_⟩;apply qf8 hD (W2.wb A) fun v H4 hv=>?_;have ba:=aq.trans s3;have D:H r2=none:=s1.free aa;have ao:l1≠r2:=fun e=>by rw[e,aa] at X;cases X
  ext;obtain⟨Wv,O⟩:∃ Wv:Nat->L2.St->Hp->Prop,Wv=fun m σ J=>∃(u:Addr) (us:LQ) (ps:LP) (g:List V) (v:V),σ=[some (.ref x),some (.ref l),some (.ref u),some (.ref r2),some v]/\L2.Same H J/\H u=none/\PL J u us ps/\u≠r2/\PGo ss tps ps/\J r2=some (.lst g)/\ps.length=qs.length+g.length/\m=8-ps.length/\(∃ ro,All2 (RoA r2 J) g ro/\∀ d rs,GfR ss ns tps ps d rs->GfR ss ns tps p (ro++d) rs) /\
   ((v=.non/\MxF ss tps ps/\FiR ss ns ps none)\/∃(r:Addr) (rs:LS),v=.ref r/\r≠r2/\J r=some (.lst (rs.map V.str))/\rs.length<=1000/\Aug (tA tps) (pt ps) rs/\FiR ss ns ps (some rs)):=⟨_,rfl⟩
  show⟨Wv,⟨_,by
   rw[O];show⟨l1,am,ps,[],v,rfl,ba.trans hv.1,ay,j.same (s3.trans hv.1),ao,A,hv.1 _ _ (s3 _ _ c),R,rfl,⟨[],.nil,fun d rs z=>ak ▸ z⟩,hv.2.imp id ?_⟩;rintro⟨r,rs,e1,e2,e3,e4,e5,e6⟩;show⟨r,rs,e1,(fun z=>by rw[z,s3 _ _ c] at e2;cases e2),e3,e4,e5,e6⟩⟩,fun m σ J ah=>?_⟩
  rw[O] at ah;obtain⟨u,us,ps,g,v,rfl,sJ,aj,N,ap,gJ,c,hc,hm,⟨ro,al,ai⟩,hv⟩:=ah;ext
  have bd:2*ps.length<=14:=by
   have:=gJ.cnt W.wok.nd;have h2:qeB (pt ps) ss<=ss.length:=yJ _ _;have:=W.wok.few;lk
  rcases hv with⟨rfl,mx,fi⟩ | ⟨r,rs,rfl,nr,er,hl,au,fi⟩
  .show⟨rfl,_,rfl,qI (fun h=>by simp at h) fun _=>?_⟩;apply⟨by show 2<=sizeLine;decide,fun t ht=>?_⟩;have s9:=qE (Sr J) (o:=.tup [.ref u,.ref r2]) ht;show q t u r2 us g ro ps _ (sJ.trans s9) qb aj D ap (N.same s9) (s9 _ _ c) (al.mono fun _ _ z=>z.same s9) hc gJ mx (by have:=ai _ _ (.nil fi);rwa[Yb] at this)
  .show⟨rfl,_,rfl,zr ⟨fun bc H'=>∃ m',m'<m/\Wv m' bc H',fun _ _ z=>z,?_⟩⟩;apply⟨.inl ⟨rfl,_,SqL.of c⟩,?_⟩;apply⟨r2,_,_,rfl,rfl,c,qh (by lk),?_⟩;have sU:=qax sJ (o:=.lst (g++[.ref r])) D;have ag:PL (upd J r2 (.lst (g++[.ref r]))) u us ps:=⟨by rw[qf ap];show N.1,N.2.mono fun t ab z=>by rw[qf (qaq z c (fun e=>by cases e))];show z⟩;have M:upd J r2 (.lst (g++[.ref r])) r=some (.lst (rs.map V.str)):=by rw[qf nr];show er
   have L:upd J r2 (.lst (g++[.ref r])) r2=some (.lst (g++[.ref r])):=qb;have I:All2 (RoA r2 (upd J r2 (.lst (g++[.ref r])))) (g++[.ref r]) (ro++[rs]):=All2.snoc (al.mono fun _ _ z=>z.put) ⟨r,rfl,nr,M⟩;generalize upd J r2 (.lst (g++[.ref r]))=G1 at sU ag M L I ⊢;have WU:=W.same sU;apply⟨x,u,r,ss,ns,us,tps,ps,rs,rfl,⟨WU.web,WU.adj,ag,gJ,M,au.row hl W.ok⟩,fun l3 an H5 s5 n az _ ad=>?_⟩;obtain⟨g3,c3⟩:=qd3 W.wok W.adj W.ok gJ au hl
   have B:∀ d s,GfR ss ns tps (flT (qB ss ns ss.length) ps rs) d s->GfR ss ns tps p (ro++[rs]++d) s:=fun d s z=>by
    rw[y8];show ai _ _ (.on fi au z)
   generalize flT (qB ss ns ss.length) ps rs=p3 at ad g3 c3 B;have n3:l3≠r2:=fun e=>by rw[e,L] at n;cases n
   have af:PL H5 l3 an p3:=⟨az,ad.mono fun _ _ z=>z.2.2⟩;have ar:=sU.trans s5;have W5:=W.same ar;have ac:=s5 _ _ L;apply fun y dx hy U Y=>qeU W5 af g3 hy U Y fun H6 H7 b S5 be bg bf eb ae s7=>?_;subst eb;obtain⟨fy,fg,aw,_,_,_,ax⟩:=id ae.fo.obj;show⟨rfl,b.x,fy,fg,rfl,aw,ax _ (by room),?_⟩;apply qf8 ae (W5.wb g3) fun v H8 hv=>?_;apply⟨8-p3.length,by lk,?_⟩;rw[O];show⟨l3,an,p3,g++[.ref r],v,rfl,(ar.trans s7).trans hv.1,sU.free n,af.same (s7.trans hv.1),n3,g3,hv.1 _ _ (s7 _ _ ac),by rw[c3,hc,yu];rfl,rfl,⟨_,I.mono (fun _ _ z=>z.same ((s5.trans s7).trans hv.1)),B⟩,hv.2.imp id ?_⟩;rintro⟨r',s,e1,e2,e3,e4,e5,e6⟩;show⟨r',s,e1,(fun z=>by rw[z,s7 _ _ ac] at e2;cases e2),e3,e4,e5,e6⟩
theorem uZ:FnScope ["web"] ["web"] (qg qam):=fS
theorem u8:FnScope ["web"] ["web"] (qg qan):=fS
def GrR(ss:LS)(ns:LN)(tps rs:LP):Prop:=∃ ro,GfR ss ns tps (qav (qB ss ns ss.length) []) ro rs
inductive spGr(cw:Addr)(vs:List V)(H:Hp)(Q:VK)(E:XK):Prop|mk (x:Addr) (ss:LS) (ns:LN) (tps:LP) (_:vs=[.ref x]) (_:Wt cw H x ss ns tps) (_:∀(l:Addr) (ls:LQ) (rs:LP) (H':Hp),L2.Same H H'->H l=none->PL H' l ls rs->PGo ss tps rs->MxF ss tps rs->GrR ss ns tps rs->Q (.ref l) H')
inductive spCo(cw:Addr)(vs:List V)(H:Hp)(Q:VK)(E:XK):Prop|mk (x:Addr) (ss:LS) (ns:LN) (tps:LP) (_:vs=[.ref x]) (_:Wt cw H x ss ns tps) (_:∀(rs:LP) (H':Hp),L2.Same H H'->PGo ss tps rs->MxF ss tps rs->Q (.int rs.length) H')
theorem ok_gr(F:Fun K "greatest" "greatest" qam f fd)(T:Txt K mg cc cw)(d:DefOk P w K mg base CX0 13 "greatest_from" ["web","pairs"] (spGf cw)):FnOk P w K mg base CX0 14 f fd ["web"] (spGr cw):=by
 show F.ok uZ fun _ _ _ _ H vs Q E c h=>?_
 .obtain⟨x,ss,ns,tps,rfl,W,q⟩:=h;have p:=jY c;show⟨_,(qe (qo (qx (qy (K:=K) rfl p) (qp d (hmR c) qz (qa (pv 0) (qa (qR qd) qd))) qi (fun _ _=>rfl)))),?_⟩;apply⟨by decide,fun l hl=>?_⟩;have b:=qE (Sr H) (o:=.lst []) hl;apply⟨x,l,ss,ns,[],tps,[],rfl,W.same b,⟨qb,.nil⟩,⟨(fun q h=>by cases h),X1,by decide⟩,fun t l2 r2 r u ro rs H' s e a _ _ m _ _ _ g i n=>?_⟩;show .inl (qaO e (v:=.ref l2) (qF (j:=0) rfl) (q l2 r rs H' (b.trans s) (b.free a) m g i ⟨_,n⟩))
theorem ok_co(F:Fun K "count_of" "count_of" qan f fd)(T:Txt K mg cc cw)(c:DefOk P w K mg base CX0 14 "greatest" ["web"] (spGr cw)):FnOk P w K mg base CX0 15 f fd ["web"] (spCo cw):=by
 show F.ok u8 fun _ _ _ _ H vs Q E b h=>?_
 .obtain⟨x,ss,ns,tps,rfl,W,q⟩:=h;have i:=jY b;show⟨_,(qe (qo (qm (jj (K:=K) rfl) rfl T.b_len Yt (qa (qp c (hmR b) qz (qa (pv 0) qd)) qd)))),?_⟩;apply⟨x,ss,ns,tps,rfl,W,fun l j rs H' g _ a d e _=>?_⟩;show jO a.1 ?_;rw[ya,a.2.len];show q rs H' g d e
theorem K5:FnScope ["_law_pairs","_law_name","_law_one","_law_other"] ["_law_pairs","_law_name"] (qg zK):=fS
theorem uV:FnScope ["_law_names_here","_law_pairs"] ["_law_names_here","_law_pairs"] (qg zc):=fS
theorem Uk:FnScope ["_law_ties_here","_law_one","_law_other"] ["_law_ties_here","_law_one","_law_other"] (qg qa7):=fS
noncomputable def tB(tps:LP)(a b:Str):Bool:=decide ((a,b)∈tps)||decide ((b,a)∈tps)
noncomputable def ptV(qs:LP)(s:Str):V:=((pt qs s).map V.str).getD .non
inductive spPa(vs:List V)(H:Hp)(Q:VK)(E:XK):Prop|mk (l:Addr) (us:LQ) (qs:LP) (s:Str) (_:vs=[.ref l,.str s]) (_:PL H l us qs) (_:Q (ptV qs s) H)
noncomputable def sgl(ss:LS)(qs:LP):LS:=ss.filter fun s=>(pt qs s).isNone
inductive spSg(vs:List V)(H:Hp)(Q:VK)(E:XK):Prop|mk (n l:Addr) (ss:LS) (us:LQ) (qs:LP) (_:vs=[.ref n,.ref l]) (_:H n=some (.lst (ss.map V.str))) (_:ss.length<=14) (_:PL H l us qs) (_:∀ r,H r=none->Q (.ref r) (upd H r (.lst ((sgl ss qs).map V.str))))
inductive spTd(vs:List V)(H:Hp)(Q:VK)(E:XK):Prop|mk (l:Addr) (ts:LQ) (tps:LP) (a b:Str) (_:vs=[.ref l,.str a,.str b]) (_:PL H l ts tps) (_:∀ H',L2.Same H H'->Q (.bl (tB tps a b)) H')
theorem ok_pa(F:Fun K "_law_partner" "_law_partner" zK f fd)(T:Txt K mg cc cw):FnOk P w K mg base CX0 1 f fd ["_law_pairs","_law_name"] spPa:=by
 show F.ok K5 fun _ _ _ _ H vs Q E v h=>?_
 .obtain⟨l,us,qs,x,rfl,a,q⟩:=h;have r:=jY v;show⟨_,(qc (jq y0 rfl (ki_lst (K:=K) rfl (pv 0)) (qcS rfl (zf (qr (i:=2) K5.nd rfl (yQ rfl)) (zf (qr (i:=3) K5.nd rfl (yQ rfl)) qbF)))
 (qc (qN (qk (zV (K:=K) rfl r) (pv 2) (pv 1) (qw _)) (qe (qo (pv 3))) qt)
 (qe (qN (qk (zV (K:=K) rfl r) (pv 3) (pv 1) (qw _)) (qe (qo (pv 2))) qt))))
 (qe (qo jL))),?_⟩
  apply viLst ?_;apply⟨l,_,rfl,.of a.1,jc (xs:=us.map V.ref) (fun i g J=>J=H/\(∃ m n,g=[some (.ref l),some (.str x),m,n])/\pt qs x=pt (qs.drop i) x) ⟨rfl,⟨_,_,rfl⟩,rfl⟩ (fun i g J _ c=>by rw[c.1];show .of a.1) (fun i y g J s c=>?_) fun g J c=>?_⟩
  .obtain⟨rfl,⟨m,n,rfl⟩,e⟩:=c;rw[yd] at s;obtain⟨t,p,rfl⟩:=yn.mp s;have o:i<qs.length:=by rw[<- a.2.len];show(yc.mp p).1
   obtain⟨ab,b⟩:∃ ab,qs[i]?=some ab:=⟨_,yb o⟩;have u:=a.2.at_ i t ab p b
   have j:qs.drop i=ab::qs.drop (i+1):=by
    rw[Xy o,(yc.mp b).2]
   rw[j] at e;have e:pt qs x=if ab.1=x then some ab.2 else if ab.2=x then some ab.1 else pt (qs.drop (i+1)) x:=e;show⟨t,_,rfl,.of u,rfl,_,_,rfl,_,_,rfl,rfl,?_⟩;apply qfC ?_;ext;by_cases h1:ab.1=x
   .rw [yO h1] at e;show qI (fun _=>?_) fun h=>absurd (yM h1) h;ext;unfold ptV at q
    rwa[e] at q
   .rw [yE h1] at e;show qI (fun h=>absurd (yk h) h1) fun _=>?_;apply qfC ?_;ext;by_cases d:ab.2=x
    .rw [yO d] at e;show qI (fun _=>?_) fun h=>absurd (yM d) h;ext;unfold ptV at q
     rwa[e] at q
    .rw [yE d] at e;show qI (fun h=>absurd (yk h) d) fun _=>?_;show⟨rfl,⟨_,_,rfl⟩,e⟩
  .obtain⟨rfl,⟨m,n,rfl⟩,e⟩:=c;rw[ya,a.2.len,X8] at e;ext;unfold ptV at q
   rwa[e] at q
theorem ok_sg(F:Fun K "_law_singles" "_law_singles" zc f fd)(T:Txt K mg cc cw)(p:DefOk P w K mg base CX0 1 "_law_partner" ["_law_pairs","_law_name"] spPa):FnOk P w K mg base CX0 2 f fd ["_law_names_here","_law_pairs"] spSg:=by
 show F.ok uV fun _ _ _ _ H vs Q E j h=>?_
 .obtain⟨n,l,ss,us,qs,rfl,g,s,t,q⟩:=h;have A:=jY j;show⟨_,(qe (qo (jd (sc:=qg zc) (XN:=["_law_names_here","_law_pairs"]) ["_law_name","_law_pairs"] 1 [1] rfl rfl rfl (by room) rfl (by room)
  (qM (K:=K) rfl (pv 0)) (fun _ _ _ _=>(qr (i:=0) (show(["_law_name","_law_pairs"]:LS).Nodup by room) rfl (yQ rfl))) qP
  (fun _ _ _ _=>(qU (qk qfc (qp p (hmR j) qz (qa (pv 1) (qa (pv 0) qd))) jL (qw _))))
  (fun _ _ _ _=>(pv 0))))),?_⟩
  apply .inl ⟨⟨_,.of g⟩,qD (xs:=ss.map V.str) (fun i ys G=>G=H/\ys=(sgl (ss.take i) qs).map V.str) ⟨rfl,rfl⟩ (fun i ys G _ a=>by rw[a.1];show .of g) (fun i y ys G o a=>?_) fun ys G a=>?_⟩
  .obtain⟨rfl,rfl⟩:=a;rw[yd] at o;obtain⟨x,m,rfl⟩:=yn.mp o;have u:=(yc.mp m).1;have v:(sgl (ss.take i) qs).length<=i:=yi (yJ _ _) (by rw[yH];lk)
   have d:sgl (ss.take (i+1)) qs=sgl (ss.take i) qs++(if (pt qs x).isNone=true then [x] else []):=by
    unfold sgl;rw[yG,m,yX];show _++[x].filter _=_;rw[yS,Yn]
   apply⟨l,us,qs,x,rfl,t,?_⟩;ext;rw[d];unfold ptV
   cases e:pt qs x with
   | none =>
    show⟨_,rfl,zr ?_⟩;apply⟨by rw[ya];show qh (by lk),rfl,by rw[yO (show(none:Option Str).isNone=true from rfl),yy];rfl⟩
   | some b =>
    show⟨_,rfl,qI (fun h=>by simp at h) fun _=>?_⟩;show⟨rfl,by rw[yE (show ¬ (some b).isNone=true from fun z=>by cases z),Yb]⟩
  .obtain⟨rfl,rfl⟩:=a;rw[show(ss.map V.str).length=ss.length from ya _,yP];show⟨by rw[ya];show yT (qh (yi (yJ _ _) (by lk))),fun r c=>q r c⟩
theorem ok_td(F:Fun K "_law_tied" "_law_tied" qa7 f fd)(T:Txt K mg cc cw):FnOk P w K mg base CX0 1 f fd ["_law_ties_here","_law_one","_law_other"] spTd:=by
 show F.ok Uk fun _ _ _ _ H vs Q E s h=>?_
 .obtain⟨l,ts,tps,a,b,rfl,n,q⟩:=h;have r:=jY s;show⟨_,(qe (qo (pe_or (jo (zT (K:=K) rfl r) (zv (qa (pv 1) (qa (pv 2) qd))) (pv 0) (by with_unfolding_all rfl)) (qbt (jo (zT (K:=K) rfl r) (zv (qa (pv 2) (qa (pv 1) qd))) (pv 0) (by with_unfolding_all rfl)))))),?_⟩;apply⟨by show 2<=sizeLine;decide,fun t u=>?_⟩;have c:=qE (Sr H) (o:=.tup [.str a,.str b]) u;have j:upd H t (.tup [.str a,.str b]) t=some (.tup [.str a,.str b]):=qb;generalize upd H t (.tup [.str a,.str b])=H1 at c j;apply qdS (n.same c) j ?_;have e:=q H1 c;unfold tB at q e;show⟨_,rfl,?_⟩
  cases p:decide ((a,b)∈tps) with
  | true =>
   show zr ?_;rw[p] at e;show e
  | false =>
   show yq ?_;apply⟨by show 2<=sizeLine;decide,fun i d=>?_⟩;have g:=qE c (o:=.tup [.str b,.str a]) d;have m:upd H1 i (.tup [.str b,.str a]) i=some (.tup [.str b,.str a]):=qb;generalize upd H1 i (.tup [.str b,.str a])=H2 at g m;apply qdS (n.same g) m ?_;have:=q H2 g;rw[p] at this;show this
theorem Kw:FnScope ["_law_box_here","_law_ties_here","_law_found","_law_some","_law_tie"] ["_law_box_here","_law_ties_here"] (qg jT):=fS
theorem eqT_dec{a b:Addr}(d:H a=some (.lst (ss.map V.str)))(f:H b=some (.lst (rs.map V.str))):EqT K H 1 a b (decide (ss=rs)):=by
 by_cases hl:ss.length=rs.length
 .have z:=EqT.lst (K:=K) (H:=H) (n:=0) (e:=fun j=>eqV (.str (ss.getD j "")) (.str (rs.getD j ""))) (SqL.of d) (SqL.of f) (by rw[ya,ya];show hl) fun j x y h1 c=>by
   rw[yd] at h1 c;obtain⟨u,g,rfl⟩:=yn.mp h1;obtain⟨v,hv,rfl⟩:=yn.mp c;rw[yV,yV,g,hv];show .flat rfl rfl
  have e:(List.range (ss.map V.str).length).all (fun j=>eqV (.str (ss.getD j "")) (.str (rs.getD j "")))=decide (ss=rs):=by
   rw[Y2,YK,Yj];constructor
   .intro h;show List.ext_getElem hl fun i h1 c=>?_;have:=h i (YC.mpr (by rw[ya];show h1));rw[qcM,yV,yV,yb h1,yb c] at this;show yk this
   .rintro rfl j _;rw[qcM];show yM rfl
  rw[e] at z;show z
 .rw [yl (fun e=>hl (by rw[e]))];show .lstL (SqL.of d) (SqL.of f) (by rw[ya,ya];show hl)
inductive spSo(vs:List V)(H:Hp)(Q:VK)(E:XK):Prop|mk (p l:Addr) (ss:LS) (ts:LQ) (tps:LP) (_:vs=[.ref p,.ref l]) (_:Box H p) (_:TL p H l ts tps) (_:tps.length<=30) (_:(∀ ab∈tps,ab.1∈ss/\ab.2∈ss/\ab.1≠ab.2)) (_:∀(l':Addr) (us:LQ) (qs:LP) (H':Hp),BB p H H'->H l'=none->TL p H' l' us qs->PGo ss tps qs->Q (.ref l') H')
theorem Shuf.mem(sh:Shuf tps ups)(h:ab∈ups):ab∈tps\/(ab.2,ab.1)∈tps:=by
 obtain⟨f,d,a⟩:=sh;obtain⟨k,b⟩:=yf (d.mem_iff.mp h);obtain⟨c,hc⟩:∃ c,tps[k]?=some c:=⟨_,yb (by rw[a.len];show(yc.mp b).1)⟩;rcases a.at_ k c ab hc b with e | e
 .rw [e];show .inl (ye hc)
 .rw [e];show .inr (ye hc)
theorem Shuf.len(sh:Shuf tps ups):ups.length=tps.length:=by
 obtain⟨c,b,a⟩:=sh;rw[b.length_eq,a.len]
theorem ok_so(F:Fun K "_law_some_pairs" "_law_some_pairs" jT f fd)(T:Txt K mg cc cw)(Ki:DefOk P w K mg base CX0 1 "_law_take" ["_law_box_here","_law_many"] spTake)(KL:DefOk P w K mg base CX0 2 "_law_shuffled" ["_law_box_here","_law_ties_here"] spShuf)(ub:DefOk P w K mg base CX0 2 "_law_singles" ["_law_names_here","_law_pairs"] spSg):FnOk P w K mg base CX0 3 f fd ["_law_box_here","_law_ties_here"] spSo:=by
 show F.ok Kw fun _ _ _ _ H vs Q E hr h=>?_
 .obtain⟨p,l,ss,ts,tps,rfl,hB,hT,aa,j,q⟩:=h;have hu:=jY hr;show⟨_,(qc (qq (i:=2) Kw.nd rfl (yQ rfl) (qR qd))
 (qc (qq (i:=3) Kw.nd rfl (yQ rfl) (qp KL (hmR hr) qz (qa (pv 0) (qa (pv 1) qd))))
 (qc (jq y0 rfl (qM (K:=K) rfl (pv 3)) (qr (i:=4) Kw.nd rfl (yQ rfl))
 (qe (qN (PW.pt (qaU (qk qcw (qp Ki (hmR hr) qz (qa (pv 0) (qa qi qd))) qi (qw _)) (zP (qk (zV (K:=K) rfl hu) (qp ub (hmR hr) qz (qa (jr (zU (K:=K) rfl rfl) rfl T.b_list xp (qa (pv 4) qd)) (qa (pv 2) qd))) (jr (zU (K:=K) rfl rfl) rfl T.b_list xp (qa (pv 4) qd)) (qw _))))) (qe (qW (qbI (K:=K) rfl yU Yo Yp jg (pv 2) (qa (pv 4) qd)))) qt)))
 (qe (qo (pv 2)))))),?_⟩
  apply⟨by decide,fun d g=>?_⟩;have Y:=(BB.refl hB).new (o:=.lst []) g;have C:=hB.apart g;have e1:upd H d (.lst []) d=some (.lst []):=qb;have L:=hT.bb Y;generalize upd H d (.lst [])=H1 at Y e1 L;apply⟨p,l,ts,tps,rfl,Y.2,L,aa,fun sl X ups H2 Z n G sh=>?_⟩;have aj:=sh.len;have ag:d≠sl:=fun e=>by rw[<- e,e1] at n;cases n
  have e2:=Z.1 _ _ C e1;replace Z:=Y.trans Z;apply .inl ⟨⟨_,.of G.1⟩,jc (xs:=X.map V.ref) (fun i σ J=>BB p H J/\∃(us:LQ) (qs:LP) (y4:Option V),σ=[some (.ref p),some (.ref l),some (.ref d),some (.ref sl),y4]/\TL p J sl X ups/\TL p J d us qs/\(∀ q∈qs,q∈ups)/\(qj qs).Nodup/\qs.length<=i) ⟨Z,[],[],_,rfl,G,⟨e2,C,.nil⟩,(fun q h=>by cases h),X1,yh _⟩ (fun i σ J _ N=>by obtain⟨_,_,_,_,_,z,_⟩:=N;show .of z.1) (fun i y σ J S N=>?_) fun σ J N=>?_⟩
  .obtain⟨bJ,us,qs,y4,rfl,I,u,a,c,O⟩:=N;rw[yd] at S;obtain⟨t,ht,rfl⟩:=yn.mp S;have ac:=(yc.mp ht).1;have ai:i<30:=by have:=G.2.2.len;lk
   obtain⟨ab,B⟩:∃ ab,ups[i]?=some ab:=⟨_,yb (by rw[<- G.2.2.len];show ac)⟩;have U:=ye B;apply⟨p,4,rfl,bJ.2,by decide,by decide,fun r J1 r0 r1 c1=>?_⟩;have v:=I.bb c1;have s:=u.bb c1;have d1:=bJ.trans c1;have tt:=v.2.2.at_ i t ab ht B;apply qI (fun _=>?_) fun _=>qI (fun h=>by cases h) fun _=>⟨d1,us,qs,_,rfl,v,s,a,c,by lk⟩;apply .inl ⟨t,_,rfl,.inr (.of tt.2),fun l3 ad=>?_⟩;have s3:=qE (Sr J1) (o:=.lst [.str ab.1,.str ab.2]) ad;have e3:upd J1 l3 (.lst [.str ab.1,.str ab.2]) l3=some (.lst ([ab.1,ab.2].map V.str)):=qb;generalize upd J1 l3 (.lst [.str ab.1,.str ab.2])=J3 at s3 e3;apply⟨l3,d,[ab.1,ab.2],us,qs,rfl,e3,by show 2<=14;decide,(s.same s3).pl,fun l4 ae=>?_⟩;have s4:=qE s3 (o:=.lst ((sgl [ab.1,ab.2] qs).map V.str)) ae;have e4:upd J3 l4 (.lst ((sgl [ab.1,ab.2] qs).map V.str)) l4=some (.lst ((sgl [ab.1,ab.2] qs).map V.str)):=qb;generalize upd J3 l4 (.lst ((sgl [ab.1,ab.2] qs).map V.str))=J4 at s4 e4;apply .inl ⟨t,_,rfl,.inr (.of (s4 _ _ tt.2)),fun l5 M=>?_⟩;have s5:=qE s4 (o:=.lst [.str ab.1,.str ab.2]) M;have D:=qE (Sr J4) (o:=.lst [.str ab.1,.str ab.2]) M _ _ e4;have e5:upd J4 l5 (.lst [.str ab.1,.str ab.2]) l5=some (.lst ([ab.1,ab.2].map V.str)):=qb;generalize upd J4 l5 (.lst [.str ab.1,.str ab.2])=J5 at s5 e5 D;have d5:=d1.same s5;have A:=v.same s5;have b:=s.same s5;show .inl (.inl (.inr (.inl ⟨l4,l5,_,1,rfl,rfl,by decide,eqT_dec D e5,?_⟩)));rw[yE (by decide)];apply qI (fun hd=>?_) fun _=>⟨d5,us,qs,_,rfl,A,b,a,c,by lk⟩;have hd:=yk hd
   have W:ab.1∉qj qs/\ab.2∉qj qs:=by
    have k:∀ x∈[ab.1,ab.2],x∉qj qs:=fun x R=>by
     rw[<- hd] at R;have:=(yp.mp R).2;show pt_none.mp (Xx.mp this)
    show⟨k _ (by simp),k _ (by simp)⟩
   have af:ab.1≠ab.2:=by
    rcases sh.mem U with z | z
    .show(j _ z).2.2
    .show Ye (j _ z).2.2
   apply⟨.inl ⟨rfl,_,SqL.of b.1⟩,?_⟩;apply⟨d,_,_,rfl,rfl,b.1,by rw[ya,b.2.2.len];show qh (by lk),?_⟩;have ah:=A.2.2.at_ i t ab ht B;show⟨d5.put g C,us++[t],qs++[ab],_,rfl,A.other (Ye ag) b.1,b.more ah,fun q hq=>?_,?_,by rw[yu];simp;lk⟩
   .rcases yw.mp hq with z | z
    .show a q z
    .rw [yD.mp z];show U
   .rw [zn];show y9.mpr ⟨c,by simp[af],fun x R y S e=>?_⟩;subst e;simp only[yz,yW,YE] at S;rcases S with rfl | rfl
    .show W.1 R
    .show W.2 R
  .obtain⟨bJ,us,qs,y4,rfl,I,u,a,c,O⟩:=N;apply q d us qs J bJ g u ⟨fun z hz=>?_,c,by rw[ya,G.2.2.len] at O;lk⟩;have m:=sh.mem (a z hz);show⟨m,?_⟩;rcases m with y | y
   .show j _ y
   .obtain⟨k1,k2,k3⟩:=j _ y;show⟨k2,k1,Ye k3⟩
theorem Kk:FnScope ["_law_names_here","_law_ties_here","_law_found","_law_seen","_law_name","_law_piece","_law_line","_law_here","_law_fresh"] ["_law_names_here","_law_ties_here"] (qg zz):=fS
structure PcN(tps:LP)(ss p:LS):Prop where
 nd:p.Nodup
 sub:∀ s∈p,s∈ss
 clo:∀ s∈p,∀ t∈ss,tB tps s t=true->t∈p
 con:∃ a∈p,∀ C:Str->Prop,C a->(∀ s t,s∈ss->t∈ss->C s->tB tps s t=true->C t)->∀ s∈p,C s
structure PcsN(tps:LP)(ss:LS)(k:Nat)(pss:List (LS)):Prop where
 pc:∀ p∈pss,PcN tps ss p
 nd:pss.flatten.Nodup
 all:∀ s∈ss.take k,s∈pss.flatten
structure WkN(tps:LP)(ss:LS)(a:Str)(ps us:LS):Prop where
 nd:ps.Nodup
 has:a∈ps
 sub:∀ s∈ps,s∈ss
 lin:∀ s∈us,s∈ps
 len:us.length<=ps.length
 con:∀ C:Str->Prop,C a->(∀ s t,s∈ss->t∈ss->C s->tB tps s t=true->C t)->∀ s∈ps,C s
 clo:∀ s∈ps,s∈us\/∀ t∈ss,tB tps s t=true->t∈ps
theorem qd4(tps:LP)(a b:Str):tB tps a b=tB tps b a:=by unfold tB;show Bool.or_comm _ _
noncomputable def frN(tps:LP)(ss ps:LS)(u:Str):LS:=ss.filter fun o=>tB tps u o&&!decide (o∈ps)
theorem mem_frN{o:Str}:o∈frN tps ss ps u↔o∈ss/\tB tps u o=true/\o∉ps:=by
 unfold frN;rw[yp,yY,xy,xz]
theorem WkN.next{l:LS}(h:WkN tps ss a ps (l++[u]))(m:ss.Nodup):WkN tps ss a (ps++frN tps ss ps u) (l++frN tps ss ps u):=by
 have j:u∈ps:=h.lin u (by simp);have c:=h.len;rw[yu,xk] at c;show⟨?_,yF _ h.has,fun s b=>?_,fun s b=>?_,by rw[yu,yu];lk,fun C g d s b=>?_,fun s b=>?_⟩
 .show y9.mpr ⟨h.nd,m.sublist xi,fun x n y o e=>?_⟩;subst e;show(mem_frN.mp o).2.2 n
 .show(yw.mp b).elim (h.sub s) fun z=>(mem_frN.mp z).1
 .show(yw.mp b).elim (fun z=>yF _ (h.lin s (yF _ z))) fun z=>yN _ z
 .rcases yw.mp b with z | z
  .show h.con C g d s z
  .show d u s (h.sub u j) (mem_frN.mp z).1 (h.con C g d u j) (mem_frN.mp z).2.1
 .have put:∀ s∈ps,(∀ t∈ss,tB tps s t=true->t∈ps)->∀ t∈ss,tB tps s t=true->t∈ps++frN tps ss ps u:=fun s _ z t f e=>yF _ (z t f e);rcases yw.mp b with z | z
  .rcases h.clo s z with y | y
   .rcases yw.mp y with y | y
    .show .inl (yF _ y)
    .rw [yD] at y;subst y;show .inr fun t f e=>?_;by_cases i:t∈ps
     .show yF _ i
     .show yN _ (mem_frN.mpr ⟨f,e,i⟩)
   .show .inr (put s z y)
  .show .inl (yN _ z)
theorem WkN.done(h:WkN tps ss a ps []):PcN tps ss ps:=⟨h.nd,h.sub,fun s b=>(h.clo s b).resolve_left (by simp),a,h.has,h.con⟩
theorem WkN.few{us:LS}(h:WkN tps ss a ps us):ps.length<=ss.length:=jw h.nd h.sub
theorem PcsN.more{k:Nat}(h:PcsN tps ss k pss)(i:ss[k]?=some a)(l:a∉pss.flatten)(hw:WkN tps ss a ps []):PcsN tps ss (k+1) (pss++[ps]):=by
 have d:∀ s∈ps,s∉pss.flatten:=hw.con (fun s=>s∉pss.flatten) l fun s t c o hc e j=>by
  obtain⟨p,b,f⟩:=xI.mp j;show hc (xI.mpr ⟨p,b,(h.pc p b).clo t f s c (by rw[qd4];show e)⟩)
 have g:(pss++[ps]).flatten=pss.flatten++ps:=by simp
 show⟨fun p b=>?_,?_,fun s c=>?_⟩
 .rcases yw.mp b with z | z
  .show h.pc p z
  .rw [yD.mp z];show hw.done
 .rw [g];show y9.mpr ⟨h.nd,hw.nd,fun x m y n e=>d y n (e ▸ m)⟩
 .rw [g];rw[yG,i] at c;rcases yw.mp c with z | z
  .show yF _ (h.all s z)
  .cases z with
   | head=>show yN _ hw.has
   | tail _ z=>cases z
theorem PcsN.skip{k:Nat}(h:PcsN tps ss k pss)(c:ss[k]?=some a)(d:a∈pss.flatten):PcsN tps ss (k+1) pss:=by
 show⟨h.pc,h.nd,fun s b=>?_⟩;rw[yG,c] at b;rcases yw.mp b with z | z
 .show h.all s z
 .cases z with
  | head=>show d
  | tail _ z=>cases z
theorem PcsN.start:PcsN tps ss 0 []:=⟨fun p a=>(by cases a),X1,fun s b=>(by cases b)⟩
theorem PcsN.few{k:Nat}(h:PcsN tps ss k pss):pss.flatten.length<=ss.length:=jw h.nd fun s b=>by
 obtain⟨p,a,z⟩:=xI.mp b;show(h.pc p a).sub s z
def TlS(H':Hp)(r:Addr)(a:Addr)(p:LS):Prop:=a≠r/\H' a=some (.lst (p.map V.str))
inductive spPi(vs:List V)(H:Hp)(Q:VK)(E:XK):Prop|mk (n l:Addr) (ss:LS) (ts:LQ) (tps:LP) (_:vs=[.ref n,.ref l]) (_:H n=some (.lst (ss.map V.str))) (_:ss.Nodup) (_:ss.length<=14) (_:PL H l ts tps) (_:∀(r:Addr) (ls:LQ) (pss:List (LS)) (H':Hp),L2.Same H H'->H r=none->H' r=some (.lst (ls.map V.ref))->All2 (TlS H' r) ls pss->PcsN tps ss ss.length pss->Q (.ref r) H')
theorem ok_pi(F:Fun K "_law_pieces" "_law_pieces" zz f fd)(T:Txt K mg cc cw)(Ku:DefOk P w K mg base CX0 1 "_law_tied" ["_law_ties_here","_law_one","_law_other"] spTd):FnOk P w K mg base CX0 2 f fd ["_law_names_here","_law_ties_here"] spPi:=by
 show F.ok Kk fun _ _ _ s H vs Q E hr h=>?_
 .obtain⟨n,l,ss,ts,tps,rfl,hn,br,few,bv,q⟩:=h;have hu:=jY hr;show⟨_,(qc (qq (i:=2) Kk.nd rfl (yQ rfl) (qR qd))
 (qc (qq (i:=3) Kk.nd rfl (yQ rfl) (qR qd))
 (qc (jq y0 rfl (qM (K:=K) rfl (pv 0)) (qr (i:=4) Kk.nd rfl (yQ rfl))
 (qe (qN (qk (zj (K:=K) rfl hu) (pv 4) (pv 3) (by with_unfolding_all rfl)) (qc (qq (i:=5) Kk.nd rfl (Xr rfl) (qR (qa (pv 4) qd)))
 (qc (qq (i:=6) Kk.nd rfl (yQ rfl) (qR (qa (pv 4) qd)))
 (qc (qay y0 (qk (zw (K:=K) rfl hu) (pv 6) (qR qd) (qw _))
 (qc (qq (i:=7) Kk.nd rfl (Xr rfl) (qff (K:=K) rfl yU X3 X4 mtR_pop (pv 6)))
 (qc (zS (sc:=qg zz) (XN:=["_law_names_here","_law_ties_here","_law_found","_law_seen","_law_name","_law_piece","_law_line","_law_here","_law_fresh"]) ["_law_other","_law_ties_here","_law_here","_law_piece"] 1 [1,7,5] rfl rfl rfl (by room) rfl (by room) (i:=8) Kk.nd rfl rfl
  (qM (K:=K) rfl (pv 0)) (fun _ _ _ _=>(qr (i:=0) (show(["_law_other","_law_ties_here","_law_here","_law_piece"]:LS).Nodup by room) rfl (yQ rfl))) qP
  (fun _ _ _ _=>(qU (PW.pt (qaU (qL (qp Ku (hmR hr) qz (qa (pv 1) (qa (pv 2) (qa (pv 0) qd))))) (zP (qk (zj (K:=K) rfl hu) (pv 0) (pv 3) (by with_unfolding_all rfl)))))))
  (fun _ _ _ _=>(pv 0)))
 (qc (qq (i:=5) Kk.nd rfl (Xr rfl) (qG (jU (K:=K) rfl) (pv 5) (pv 8)))
 (qe (qq (i:=6) Kk.nd rfl (yQ rfl) (qG (jU (K:=K) rfl) (pv 6) (pv 8))))))))
 (qc (qq (i:=3) Kk.nd rfl (yQ rfl) (qG (jU (K:=K) rfl) (pv 3) (pv 5)))
 (qe (qW (qbI (K:=K) rfl yU Yo Yp jg (pv 2) (qa (pv 5) qd)))))))) qt)))
 (qe (qo (pv 2)))))),?_⟩
  apply⟨by decide,fun r am=>?_⟩;have s0:=qE (Sr H) (o:=.lst []) am;have er:upd H r (.lst []) r=some (.lst []):=qb;generalize upd H r (.lst [])=G0 at s0 er ⊢;apply⟨by decide,fun x G=>?_⟩;have s1:=qE s0 (o:=.lst []) G;have ao:upd G0 x (.lst []) r=some (.lst []):=by rw[qf (qu er G)];show er
  have ap:upd G0 x (.lst []) x=some (.lst []):=qb;have aa:x≠r:=(qu er G).symm;generalize upd G0 x (.lst [])=G1 at s1 ao ap ⊢;apply .inl ⟨⟨_,SqL.of (s1 _ _ hn)⟩,jc (K:=K) (fun k σ H'=>∃(sn:Addr) (pss:List (LS)) (Z:LQ) (x4 x5 x6 N O:Option V),σ=[some (.ref n),some (.ref l),some (.ref r),some (.ref sn),x4,x5,x6,N,O]/\L2.Same H H'/\H' r=some (.lst (Z.map V.ref))/\Z.length<=k/\All2 (TlS H' r) Z pss/\sn≠r/\H' sn=some (.lst (pss.flatten.map V.str))/\PcsN tps ss k pss)
   ⟨x,[],[],none,none,none,none,none,rfl,s1,ao,yh _,All2.nil,aa,ap,PcsN.start⟩ (fun k σ H' _ D=>by obtain⟨_,_,_,_,_,_,_,_,_,z,_⟩:=D;show SqL.of (z _ _ hn)) (fun k y σ H1 hy D=>?_) fun σ H1 D=>?_⟩
  .obtain⟨sn,pss,Z,x4,x5,x6,N,O,rfl,s2,v,av,d,aa,g,t⟩:=D;obtain⟨name,gk,rfl⟩:=jB hy;have ca:k<ss.length:=(yc.mp gk).1;have ai:name∈ss:=ye gk;have cb:=t.few;apply .inl ⟨sn,_,rfl,.inl (SqL.of g),rfl,zZ pss.flatten,?_⟩;rw[qaR];apply qI (fun ag=>?_) fun ag=>?_
   .have ay:name∉pss.flatten:=by simpa using ag
    apply⟨by show 1<=sizeLine;decide,fun b al=>?_⟩;have s3:=qE (Sr H1) (o:=.lst [.str name]) al;have U:upd H1 b (.lst [.str name]) b=some (.lst ([name].map V.str)):=qb;generalize upd H1 b (.lst [.str name])=G2 at s3 U ⊢;apply⟨by show 1<=sizeLine;decide,fun a B=>?_⟩;have s4:=qE s3 (o:=.lst [.str name]) B;have I:a≠b:=fun e=>by rw[e,U] at B;cases B
    have af:upd G2 a (.lst [.str name]) a=some (.lst ([name].map V.str)):=qb;have A:upd G2 a (.lst [.str name]) b=some (.lst ([name].map V.str)):=by rw[qf I.symm];show U
    generalize upd G2 a (.lst [.str name])=G3 at s4 A af ⊢;apply⟨fun m σ H'=>∃(b a:Addr) (ps us:LS) (N O:Option V),m=2*(14-ps.length)+us.length/\σ=[some (.ref n),some (.ref l),some (.ref r),some (.ref sn),some (.str name),some (.ref b),some (.ref a),N,O]/\L2.Same H1 H'/\H1 b=none/\H1 a=none/\a≠b/\H' b=some (.lst (ps.map V.str))/\H' a=some (.lst (us.map V.str))/\WkN tps ss name ps us,
     ⟨_,b,a,[name],[name],_,_,rfl,rfl,s4,al,s3.free B,I,A,af,⟨by simp,by simp,fun s hs=>by rw[yD.mp hs];show ai,fun s hs=>hs,yh _,fun C c0 _ s hs=>by rw[yD.mp hs];show c0,fun s hs=>.inl hs⟩⟩,fun m σ H4 hW=>?_⟩
    clear s3 s4 U I af A B al;obtain⟨b,a,ps,us,N,O,rfl,rfl,s5,ae,au,I,ba,ah,W⟩:=hW;have ce:=W.few;apply⟨by decide,fun z hz=>?_⟩;have sz:=qE (Sr H4) (o:=.lst []) hz;have ez:upd H4 z (.lst []) z=some (.lst []):=qb;generalize upd H4 z (.lst [])=H5 at sz ez ⊢;show qdR (sz _ _ ah) ez ?_;ext
    cases bg:us.isEmpty with
    | true =>
     have bh:us=[]:=List.isEmpty_iff.mp bg;subst bh;show yq ?_;have M:=s5.trans sz;have p:=sz _ _ ba;apply .inl ⟨sn,b,_,_,rfl,rfl,M _ _ g,p,by rw[ya,ya];show yT (qh (by lk)),fun sq Y=>?_⟩;have s7:=qE M (o:=.lst (pss.flatten.map V.str++ps.map V.str)) Y;have bm:=qE (Sr H5) (o:=.lst (pss.flatten.map V.str++ps.map V.str)) Y;have aq:upd H5 sq (.lst (pss.flatten.map V.str++ps.map V.str)) sq=some (.lst ((pss++[ps]).flatten.map V.str)):=by rw[qb];simp
     have bj:sq≠r:=fun e=>by rw[e,M _ _ v] at Y;cases Y
     generalize upd H5 sq (.lst (pss.flatten.map V.str++ps.map V.str))=H6 at s7 bm aq ⊢;have bc:=s7 _ _ v;have bu:=bm _ _ p;have bi:b≠r:=fun e=>by rw[e,v] at ae;cases ae
     apply⟨.inl ⟨rfl,_,SqL.of bc⟩,?_⟩;apply⟨r,_,_,rfl,rfl,bc,by rw[ya];show qh (by lk),?_⟩;show⟨sq,pss++[ps],Z++[b],_,_,_,_,_,rfl,qax (s2.trans s7) am,by rw[qb,yy];rfl,by rw[yu];show Z.length+1<=k+1;lk,?_,bj,by rw[qf bj];show aq,t.more gk ay W⟩;show All2.snoc (d.mono fun a' p' aj=>⟨aj.1,?_⟩) ⟨bi,?_⟩
     .rw [qf aj.1];show s7 _ _ aj.2
     .rw [qf bi];show bu
    | false =>
     have ax:us≠[]:=fun e=>by subst e;cases bg
     obtain⟨c,u,rfl⟩:∃ c u,us=c++[u]:=⟨us.dropLast,us.getLast ax,(Y4 ax).symm⟩;have be:(c++[u]).length=c.length+1:=by simp
     have an:(!((c++[u]).map V.str).isEmpty)=true:=by cases c<;>rfl
     show qI (fun _=>?_) (fun h=>absurd an h);show⟨fun bn H'=>∃(b a:Addr) (J L:LS) (N O:Option V),2*(14-J.length)+L.length<2*(14-ps.length)+(c++[u]).length/\bn=[some (.ref n),some (.ref l),some (.ref r),some (.ref sn),some (.str name),some (.ref b),some (.ref a),N,O]/\L2.Same H1 H'/\H1 b=none/\H1 a=none/\a≠b/\H' b=some (.lst (J.map V.str))/\H' a=some (.lst (L.map V.str))/\WkN tps ss name J L,
      fun bn H' ⟨b,a,J,L,N,O,hm,qbR⟩=>⟨_,hm,b,a,J,L,N,O,rfl,qbR⟩,?_⟩
     apply⟨.inl ⟨rfl,_,SqL.of (sz _ _ ah)⟩,?_⟩;show⟨a,_,.str u,rfl,rfl,sz _ _ ah,by simp,?_⟩;have bo:((c++[u]).map V.str).dropLast=c.map V.str:=by simp
     rw[bo];have M:L2.Same H1 (upd H5 a (.lst (c.map V.str))):=qax (s5.trans sz) au;have p:upd H5 a (.lst (c.map V.str)) b=some (.lst (ps.map V.str)):=by rw[qf I.symm];show sz _ _ ba
     have as:upd H5 a (.lst (c.map V.str)) a=some (.lst (c.map V.str)):=qb;generalize upd H5 a (.lst (c.map V.str))=H6 at M p as ⊢;have aw:=M _ _ (s2 _ _ hn);apply .inl ⟨⟨_,SqL.of aw⟩,qD (K:=K) (fun j ys H'=>L2.Same H6 H'/\ys=(frN tps (ss.take j) ps u).map V.str) ⟨L2.Same.refl _,by rw[YO];rfl⟩ (fun j ys H' _ D=>SqL.of (D.1 _ _ aw)) (fun j y ys H7 hy D=>?_) fun ys H7 D=>?_⟩
     .obtain⟨s7,rfl⟩:=D;obtain⟨o,gj,rfl⟩:=jB hy;have bz:j<ss.length:=(yc.mp gj).1;have cd:(frN tps (ss.take j) ps u).length<=j:=yi (yJ _ _) (by rw[yH];lk)
      have bd:frN tps (ss.take (j+1)) ps u=frN tps (ss.take j) ps u++if (tB tps u o&&!decide (o∈ps))=true then [o] else []:=by
       unfold frN;rw[yG,gj,yX];show _++[o].filter _=_;rw[yS,Yn]
      apply⟨l,ts,tps,u,o,rfl,(bv.same s2).same (M.trans s7),fun H8 s8=>⟨_,rfl,?_⟩⟩;have ac:=s7.trans s8;rw[bd]
      cases ht:tB tps u o with
      | true =>
       show zr ?_;apply .inl ⟨b,_,rfl,.inl (SqL.of (ac _ _ p)),rfl,zZ ps,?_⟩;rw[qaR];ext
       cases hd:decide (o∈ps) with
       | true=>show qI (fun h=>by cases h) fun _=>⟨ac,by simp⟩
       | false =>
        show zr ?_;apply⟨by rw[ya];show qh (by lk),ac,by simp⟩
      | false=>show qI (fun h=>by cases h) fun _=>qI (fun h=>by cases h) fun _=>⟨ac,by simp⟩
     .obtain⟨s7,rfl⟩:=D;have hw:=W.next br;have bw:=hw.few;rw[yu] at bw;rw[show(ss.map V.str).length=ss.length from ya _,yP];show⟨by rw[ya];show yT (qh (by lk)),fun fr bq=>?_⟩;have s8:=qE s7 (o:=.lst ((frN tps ss ps u).map V.str)) bq;have R:upd H7 fr (.lst ((frN tps ss ps u).map V.str)) fr=some (.lst ((frN tps ss ps u).map V.str)):=qb;generalize upd H7 fr (.lst ((frN tps ss ps u).map V.str))=H8 at s8 R ⊢;have bf:=W.len;rw[be] at bf;apply .inl ⟨b,fr,_,_,rfl,rfl,s8 _ _ p,R,by rw[ya,ya];show yT (qh (by lk)),fun p2 ak=>?_⟩;have s9:=qE s8 (o:=.lst (ps.map V.str++(frN tps ss ps u).map V.str)) ak;have ad:upd H8 p2 (.lst (ps.map V.str++(frN tps ss ps u).map V.str)) fr=_:=(qf (qu R ak)).trans R;have S:upd H8 p2 (.lst (ps.map V.str++(frN tps ss ps u).map V.str)) p2=some (.lst ((ps++frN tps ss ps u).map V.str)):=by rw[qb,yy]
      have az:=(M.trans s8).free ak;generalize upd H8 p2 (.lst (ps.map V.str++(frN tps ss ps u).map V.str))=H9 at s9 ad S ⊢;apply .inl ⟨a,fr,_,_,rfl,rfl,s9 _ _ as,ad,by rw[ya,ya];show yT (qh (by lk)),fun l2 X=>?_⟩;have bx:=qE s9 (o:=.lst (c.map V.str++(frN tps ss ps u).map V.str)) X;have bp:=(qf (o:=.lst (c.map V.str++(frN tps ss ps u).map V.str)) (qu S X)).trans S;show⟨p2,l2,_,_,_,_,by rw[yu,yu,be];lk,rfl,M.trans bx,az,(M.trans s9).free X,(qu S X).symm,bp,by rw[qb,yy],hw⟩
   .have ar:name∈pss.flatten:=by simpa using ag
    apply⟨sn,pss,Z,_,_,_,_,_,rfl,s2,v,XW av,d,aa,g,t.skip gk ar⟩
  .obtain⟨sn,pss,Z,x4,x5,x6,N,O,rfl,s2,v,av,d,aa,g,t⟩:=D;ext;rw[ya] at t;show q r Z pss H1 s2 am v d t
theorem uM:FnScope ["_law_names_here","_law_ties_here","_law_bar","_law_left"] ["_law_names_here","_law_ties_here","_law_bar"] (qg qao):=fS
theorem qdg(a b:Int):(if false=true then !eqV (V.int a) (V.int b) else eqV (V.int a) (V.int b))=decide (a=b):=by
 rw[yE (by decide)];unfold eqV;by_cases h:a=b<;>simp[h]
theorem qd5{i j:Int}{Q:VK}(q:Q (.bl (decide (i=j))) H):qfk K (.int i) (.int j) H Q:=.inl (.inl (.inl ⟨rfl,rfl,by rw[qdg];show q⟩))
noncomputable def zN(ss bs:LS):LS:=ss.filter fun s=>!decide (s∈bs)
noncomputable def qbQ(pss:List (LS)):List (LS):=pss.filter fun p=>decide (p.length % 2=1)
theorem qdh{bs:LS}:s∈zN ss bs↔s∈ss/\s∉bs:=by
 unfold zN;rw[yp,xy,xz]
inductive spOd(vs:List V)(H:Hp)(Q:VK)(E:XK):Prop|mk (n l b:Addr) (ss bs:LS) (ts:LQ) (tps:LP) (_:vs=[.ref n,.ref l,.ref b]) (_:H n=some (.lst (ss.map V.str))) (_:ss.Nodup) (_:ss.length<=14) (_:PL H l ts tps) (_:H b=some (.lst (bs.map V.str))) (_:∀(r:Addr) (ls:LQ) (pss:List (LS)) (H':Hp),L2.Same H H'->H r=none->H' r=some (.lst (ls.map V.ref))->All2 (TlS H' r) ls (qbQ pss)->PcsN tps (zN ss bs) (zN ss bs).length pss->Q (.ref r) H')
theorem ok_od(F:Fun K "_law_odds" "_law_odds" qao f fd)(T:Txt K mg cc cw)(Ud:DefOk P w K mg base CX0 2 "_law_pieces" ["_law_names_here","_law_ties_here"] spPi):FnOk P w K mg base CX0 3 f fd ["_law_names_here","_law_ties_here","_law_bar"] spOd:=by
 show F.ok uM fun _ _ _ _ H vs Q E hr h=>?_
 .obtain⟨n,l,b,ss,bs,ts,tps,rfl,hn,S,few,X,hb,q⟩:=h;have hu:=jY hr;show⟨_,(qc (zS (sc:=qg qao) (XN:=["_law_names_here","_law_ties_here","_law_bar","_law_left"]) ["_law_name","_law_bar"] 1 [2] rfl rfl rfl (by room) rfl (by room) (i:=3) uM.nd rfl rfl
  (qM (K:=K) rfl (pv 0)) (fun _ _ _ _=>(qr (i:=0) (show(["_law_name","_law_bar"]:LS).Nodup by room) rfl (yQ rfl))) qP
  (fun _ _ _ _=>(qU (qk (zj (K:=K) rfl hu) (pv 0) (pv 1) (by with_unfolding_all rfl))))
  (fun _ _ _ _=>(pv 0)))
 (qe (qo (jd (sc:=qg qao) (XN:=["_law_names_here","_law_ties_here","_law_bar","_law_left"]) ["_law_piece"] 1 [] rfl rfl rfl (by room) rfl (by room)
  (qM (K:=K) rfl (qp Ud (hmR hr) qz (qa (pv 3) (qa (pv 1) qd)))) (fun _ _ _ _=>(qr (i:=0) (show(["_law_piece"]:LS).Nodup by room) rfl (yQ rfl))) qP
  (fun _ _ _ _=>(qU (qk (zV (K:=K) rfl hu) (qG zu (qm (jj (K:=K) rfl) rfl T.b_len Yt (qa (pv 0) qd)) qi) qi (qw _))))
  (fun _ _ _ _=>(pv 0)))))),?_⟩
  apply .inl ⟨⟨_,SqL.of hn⟩,qD (K:=K) (fun j ys H'=>H'=H/\ys=(zN (ss.take j) bs).map V.str) ⟨rfl,by rw[YO];rfl⟩ (fun j ys H' _ m=>by rw[m.1];show SqL.of hn) (fun j y ys A M m=>?_) fun ys A m=>?_⟩
  .obtain⟨rfl,rfl⟩:=m;obtain⟨o,gj,rfl⟩:=jB M;have aa:j<ss.length:=(yc.mp gj).1;have G:(zN (ss.take j) bs).length<=j:=yi (yJ _ _) (by rw[yH];lk)
   have s:zN (ss.take (j+1)) bs=zN (ss.take j) bs++if (!decide (o∈bs))=true then [o] else []:=by
    unfold zN;rw[yG,gj,yX];show _++[o].filter _=_;rw[yS,Yn]
   rw[s];apply .inl ⟨b,_,rfl,.inl (SqL.of hb),rfl,zZ bs,?_⟩;rw[qaR];ext
   cases hd:decide (o∈bs) with
   | true=>show qI (fun h=>by cases h) fun _=>⟨rfl,by simp⟩
   | false =>
    show zr ?_;apply⟨by rw[ya];show qh (by lk),rfl,by simp⟩
  .obtain⟨rfl,rfl⟩:=m;rw[show(ss.map V.str).length=ss.length from ya _,yP];have W:(zN ss bs).length<=14:=yi (yJ _ _) few;show⟨by rw[ya];show yT (qh (by lk)),fun N R=>?_⟩;have O:=qE (Sr A) (o:=.lst ((zN ss bs).map V.str)) R;have B:upd A N (.lst ((zN ss bs).map V.str)) N=some (.lst ((zN ss bs).map V.str)):=qb;generalize upd A N (.lst ((zN ss bs).map V.str))=H8 at O B ⊢;apply⟨N,l,zN ss bs,ts,tps,rfl,B,S.sublist xi,W,X.same O,fun r ls pss Y s9 ac J t v=>?_⟩;have I:=t.len
   have x:pss.length<=14:=by
    have h1:=v.few
    have:∀ l:List (LS),(∀ p∈l,p≠[])->l.length<=l.flatten.length:=fun l=>by
     induction l with
     | nil=>intro _;show yh _
     | cons p l ih =>
      intro hl;have m:=ky.mpr (hl p (by simp));have:=ih fun q hq=>hl q (by simp[hq]);rw[xU,yu,yA];lk
    have:=this pss fun p m e=>by obtain⟨a,ha,_⟩:=(v.pc p m).con;rw[e] at ha;cases ha
    lk
   show .inl ⟨⟨_,SqL.of J⟩,qD (K:=K) (fun j ys H'=>H'=Y/\∃ d,ys=d.map V.ref/\All2 (TlS Y r) d (qbQ (pss.take j))) ⟨rfl,[],rfl,by rw[YO];show All2.nil⟩ (fun j ys H' _ m=>by rw[m.1];show SqL.of J) (fun j y ys A M m=>?_) fun ys A m=>?_⟩
   .obtain⟨rfl,d,rfl,c⟩:=m;rw[yd] at M;obtain⟨a,C,rfl⟩:=yn.mp M;have hj:j<pss.length:=by rw[<- I];show(yc.mp C).1
    have D:pss[j]?=some pss[j]:=yb hj;have Z:=t.at_ j a pss[j] C D;have u:=c.len;have G:(qbQ (pss.take j)).length<=j:=yi (yJ _ _) (by rw[yH];lk)
    have s:qbQ (pss.take (j+1))=qbQ (pss.take j)++if decide (pss[j].length % 2=1)=true then [pss[j]] else []:=by
     unfold qbQ;rw[yG,D,yX];show _++[pss[j]].filter _=_;rw[yS,Yn]
    rw[s];apply jO Z.2 ?_;rw[ya];apply vI (by decide) ?_;apply qd5 ?_;have eo:decide ((pss[j].length:Int) % 2=1)=decide (pss[j].length % 2=1):=YF.mpr (by lk);rw[eo];apply qI (fun U=>?_) fun U=>?_
    .ext;rw[yO U];show⟨by rw[ya,u];show qh (by lk),rfl,d++[a],by rw[yy];rfl,All2.snoc c Z⟩
    .rw [yE U,Yb];show⟨rfl,d,rfl,c⟩
   .obtain⟨rfl,d,rfl,c⟩:=m;rw[show(ls.map V.ref).length=pss.length by rw[ya,I],yP] at c;have u:=c.len;have G:(qbQ pss).length<=14:=yi (yJ _ _) x;show⟨by rw[ya,u];show yT (qh (by lk)),fun g L=>?_⟩;show q g d pss _ ((O.trans s9).trans (qE (Sr _) L)) ((O.trans s9).free L) qb (c.mono fun a p z=>⟨(qu z.2 L),by rw[qf (qu z.2 L)];show z.2⟩) v
theorem uA:FnScope ["_law_ties_here","_law_pairs","_law_row","_law_k"] ["_law_ties_here","_law_pairs","_law_row"] (qg qap):=fS
theorem qbq{Q:VK}{k:Nat}{x:Str}(a:H p=some (.lst (ss.map V.str)))(h:ss[k]?=some x)(q:Q (.str x) H):qfj K (.ref p) (.int k) H Q:=
 .inl (qau a (qF (by rw[yd,h];rfl)) q)
theorem str_in{n:Addr}{Q:VK}(a:H n=some (.lst (ss.map V.str)))(q:Q (.bl (decide (z∈ss))) H):qef K false (.str z) (.ref n) H Q:=
 .inl ⟨n,_,rfl,.inl (.of a),rfl,zZ ss,by rw[yE (by decide),qaR];show q⟩
theorem vEqP{Q:VK}(q:Q (.bl (decide (pt qs z=some y))) H):qfk K (ptV qs z) (.str y) H Q:=by
 unfold ptV
 cases e:pt qs z with
 | none =>
  rw[e,yl (by simp)] at q;show .inl (.inl (.inl ⟨rfl,rfl,q⟩))
 | some b =>
  rw[e] at q;show qfC ?_
  rwa[show decide (b=y)=decide (some b=some y) from YF.mpr (by simp)]
structure RwN(tps qs:LP)(r:LS):Prop where
 nd:r.Nodup
 two:2<=r.length
 few:r.length<=14
 tie:∀(j:Nat) a b,r[j]?=some a->r[j+1]?=some b->tB tps a b=true
 trn:∀(j:Nat) a b,r[j]?=some a->r[j+1]?=some b->(pt qs b=some a↔(j+1) % 2=0)
inductive spIrL(vs:List V)(H:Hp)(Q:VK)(E:XK):Prop|mk (l u x:Addr) (ts us:LQ) (tps qs:LP) (r:LS) (_:vs=[.ref l,.ref u,.ref x]) (_:PL H l ts tps) (_:PL H u us qs) (_:H x=some (.lst (r.map V.str))) (_:RwN tps qs r) (_:∀ H',L2.Same H H'->Q (.bl true) H')
theorem ok_irL(F:Fun K "_law_is_row" "_law_is_row" qap f fd)(T:Txt K mg cc cw)(M:DefOk P w K mg base CX0 1 "_law_tied" ["_law_ties_here","_law_one","_law_other"] spTd)(N:DefOk P w K mg base CX0 1 "_law_partner" ["_law_pairs","_law_name"] spPa):FnOk P w K mg base CX0 2 f fd ["_law_ties_here","_law_pairs","_law_row"] spIrL:=by
 show F.ok uA fun _ _ _ _ H vs Q E I h=>?_
 .obtain⟨l,u,x,ts,us,tps,qs,r,rfl,hl,hq,d,g,q⟩:=h;have a:=jY I;show⟨_,(qc (qN (PW.pt (zq (qS (qL (qm (zL (K:=K) rfl) rfl T.b_isinstance Yx (qa (pv 2) (qa (jm (v:=.ty "list") rfl T.b_list xp rfl) qd))))) (jM (qk qdu (qm (jj (K:=K) rfl) rfl T.b_len Yt (qa (pv 2) qd)) qi (qw _))))) (qe (qo jz)) qt)
 (qc (jq y0 rfl (jF rfl T.b_range (qa (qm (jj (K:=K) rfl) rfl T.b_len Yt (qa (pv 2) qd)) qd)) (qr (i:=3) uA.nd rfl (yQ rfl))
 (qc (qN (PW.pt (zq (qS (qL (qm (zL (K:=K) rfl) rfl T.b_isinstance Yx (qa (qx (qy (K:=K) rfl a) (pv 2) (pv 3) (fun _ _=>rfl)) (qa (jm (v:=.ty "str") rfl T.b_str boot_str rfl) qd))))) (jM (qk (zT (K:=K) rfl a) (qx (qy (K:=K) rfl a) (pv 2) (pv 3) (fun _ _=>rfl)) (jx (qdr (K:=K) rfl) (pv 2) jZ (jp (pv 3))) (by with_unfolding_all rfl))))) (qe (qo jz)) qt)
 (qc (qN (PW.pt (qaU (qk qcw (pv 3) qi (qw _)) (zP (qS (qL (qp M (hmR I) qz (qa (pv 0) (qa (qx (qy (K:=K) rfl a) (pv 2) (qG qbu (pv 3) qi) (fun _ _=>rfl)) (qa (qx (qy (K:=K) rfl a) (pv 2) (pv 3) (fun _ _=>rfl)) qd))))))))) (qe (qo jz)) qt)
 (qe (qN (PW.pt (qaU (qk qcw (pv 3) qi (qw _)) (zP (qk (zw (K:=K) rfl a) (jo (zV (K:=K) rfl a) (qp N (hmR I) qz (qa (pv 1) (qa (qx (qy (K:=K) rfl a) (pv 2) (pv 3) (fun _ _=>rfl)) qd))) (qx (qy (K:=K) rfl a) (pv 2) (qG qbu (pv 3) qi) (fun _ _=>rfl)) (qw _)) (jo (zV (K:=K) rfl a) (qG zu (pv 3) qi) qi (qw _)) (qw _))))) (qe (qo jz)) qt)))))
 (qe (qo jz)))),?_⟩
  apply qaW (.inl (.lst d)) rfl (j0 K "list" (by simp) "list" (by simp)) ?_;apply yq ?_;apply jO d ?_;rw[ya];ext;have h2:=g.two;have W:=g.few;show qI (fun h=>absurd (yk h) (by lk)) fun _=>?_;apply jO d ?_;rw[ya];apply⟨_,rfl,by lk,by lk,zt (fun i L H'=>L2.Same H H'/\∃ J,L=[some (.ref l),some (.ref u),some (.ref x),J]) ⟨L2.Same.refl H,_,rfl⟩ (fun i L H1 X n=>?_) fun L H1 n=>?_⟩
  .obtain⟨C,J,rfl⟩:=n;have m:i<r.length:=by simpa using X
   obtain⟨z,hz⟩:∃ z,r[i]?=some z:=⟨_,yb m⟩;have e:=C _ _ d;rw[XZ];apply qbq e hz ?_;apply qaW (.inl (.str z)) rfl (j0 K "str" (by simp) "str" (by simp)) ?_;apply yq ?_;apply qbq e hz ?_;apply .inl ⟨x,_,rfl,SqL.of e,fun p n=>?_⟩;rw[qbk,<- List.map_take];have t:=qE C (o:=.lst ((r.take i).map V.str)) n;have ep:upd H1 p (.lst ((r.take i).map V.str)) p=some (.lst ((r.take i).map V.str)):=qb;generalize upd H1 p (.lst ((r.take i).map V.str))=H2 at t ep ⊢;have s:=t _ _ d;apply str_in ep ?_
   have G:z∉r.take i:=fun Z=>by
    obtain⟨j,Y,A⟩:=List.mem_take_iff_getElem.mp Z;have D:j<i:=yj Y (Nat.min_le_left _ _);have S:=(yc.mp hz).2;show(Yd.mp g.nd) j i (by lk) m D (A.trans S.symm)
   rw[yl G];apply yq ?_;ext;by_cases U:i=0
   .subst U;show qI (fun h=>absurd (yk h) (by lk)) fun _=>?_;show yq ?_;apply qI (fun h=>absurd (yk h) (by lk)) fun _=>?_;show yq ?_;apply⟨t,_,rfl⟩
   .obtain⟨j,rfl⟩:∃ j,i=j+1:=⟨i-1,by lk⟩;obtain⟨y,B⟩:∃ y,r[j]?=some y:=⟨_,yb (by lk)⟩;show qI (fun _=>?_) fun h=>absurd (yM (by lk)) h;ext;have A:((j+1:Nat):Int)-1=(j:Int):=by lk
    rw[A];show qbq s B ?_;apply qbq s hz ?_;apply⟨l,ts,tps,y,z,rfl,hl.same t,fun H3 s3=>?_⟩;rw[g.tie j y z B hz];have c:=t.trans s3;show⟨_,rfl,qI (fun h=>by cases h) fun _=>?_⟩;apply qI (fun _=>?_) fun h=>absurd (yM (by lk)) h;apply qbq (c _ _ d) hz ?_;apply⟨u,us,qs,z,rfl,hq.same c,?_⟩;ext;rw[A];show qbq (c _ _ d) B ?_;apply vEqP ?_;apply vI (by decide) ?_;apply qd5 ?_;have O:decide (pt qs z=some y)=decide (((j+1:Nat):Int) % 2=0):=YF.mpr ((g.trn j y z B hz).trans (by lk));rw[O];show .inl ⟨rfl,rfl,_,rfl,?_⟩;have R:∀ b:Bool,(if true=true then !eqV (V.bl b) (V.bl b) else eqV (V.bl b) (V.bl b))=false:=fun b=>by cases b<;>rfl
    rw[R];show yq ?_;apply⟨c,_,rfl⟩
  .obtain⟨C,J,rfl⟩:=n;apply q H1 C
theorem uc:FnScope ["_law_names_here","_law_pairs","_law_row","_law_steps","_law_kept"] ["_law_names_here","_law_pairs","_law_row"] (qg jQ):=fS
theorem qeD{a:Addr}{Q:VK}(h:PL H l ts tps)(w:H a=some (.tup [.str s,.str t]))(q:Q (.bl (!decide ((s,t)∈tps))) H):qef K true (.ref a) (.ref l) H Q:=by
 have z:=qdS (K:=K) (Q:=fun v H'=>v=.bl (decide ((s,t)∈tps))/\H'=H) h w ⟨rfl,rfl⟩;rcases z with⟨p,xs,d,_,c,_⟩ | ⟨p,o,e,g,c,_⟩ | ⟨p,xs,e,n,d,c,f,i,j,_⟩
 .cases c
 .cases e;rcases g with⟨kvs,k,e | ⟨o',e⟩,_⟩ | ⟨kvs,k,b,e | ⟨o',e⟩,_⟩<;>(rw[h.1] at e;cases e)
 .show .inr (.inr ⟨p,xs,e,n,d,c,f,i,?_⟩)
  have m:xs.any e=decide ((s,t)∈tps):=by
   have:=j;rw[yE (by decide)] at this;cases r:xs.any e<;>cases u:decide ((s,t)∈tps)<;>rw[r,u] at this<;>first | rfl | (cases this)
  rw[yO rfl,m];show q
noncomputable def kpN(qs st:LP):LP:=qs.filter fun q=>!decide (q∈st)&&!decide ((q.2,q.1)∈st)
noncomputable def nwN(qs st:LP):LP:=st.filter fun q=>!tB qs q.1 q.2
inductive spTuL(vs:List V)(H:Hp)(Q:VK)(E:XK):Prop|mk (n u x:Addr) (us:LQ) (qs:LP) (r:LS) (_:vs=[.ref n,.ref u,.ref x]) (_:PL H u us qs) (_:qs.length<=30) (_:H x=some (.lst (r.map V.str))) (_:1<=r.length) (_:r.length<=14) (_:∀(l:Addr) (vs:LQ) (H':Hp),L2.Same H H'->H l=none->PL H' l vs (kpN qs (stp r)++nwN qs (stp r))->Q (.ref l) H')
theorem ok_tuL(F:Fun K "_law_turned" "_law_turned" jQ f fd)(T:Txt K mg cc cw)(Ku:DefOk P w K mg base CX0 1 "_law_tied" ["_law_ties_here","_law_one","_law_other"] spTd):FnOk P w K mg base CX0 2 f fd ["_law_names_here","_law_pairs","_law_row"] spTuL:=by
 show F.ok uc fun _ _ _ _ H vs Q E hr h=>?_
 .obtain⟨n,u,x,us,qs,r,rfl,hq,ae,hx,h1,ak,q⟩:=h;have hu:=jY hr;show⟨_,(qc (qq (i:=3) uc.nd rfl (Xr rfl) (jd (sc:=qg jQ) (XN:=["_law_names_here","_law_pairs","_law_row","_law_steps","_law_kept"]) ["_law_k","_law_row"] 1 [2] rfl rfl rfl (by room) rfl (by room)
  (jF rfl T.b_range (qa (qG qbu (qm (jj (K:=K) rfl) rfl T.b_len Yt (qa (pv 2) qd)) qi) qd)) (fun _ _ _ _=>(qr (i:=0) (show(["_law_k","_law_row"]:LS).Nodup by room) rfl (yQ rfl))) qP
  (fun _ _ _ _=>jR)
  (fun _ _ _ _=>(zv (qa (qx (qy (K:=K) rfl hu) (pv 1) (pv 0) (fun _ _=>rfl)) (qa (qx (qy (K:=K) rfl hu) (pv 1) (qG (jU (K:=K) rfl) (pv 0) qi) (fun _ _=>rfl)) qd))))))
 (qc (zS (sc:=qg jQ) (XN:=["_law_names_here","_law_pairs","_law_row","_law_steps","_law_kept"]) ["_law_tie","_law_steps"] 1 [3] rfl rfl rfl (by room) rfl (by room) (i:=4) uc.nd rfl rfl
  (qM (K:=K) rfl (pv 1)) (fun _ _ _ _=>(qr (i:=0) (show(["_law_tie","_law_steps"]:LS).Nodup by room) rfl (yQ rfl))) qP
  (fun _ _ _ _=>(qU (PW.pt (qaU (qk (zj (K:=K) rfl hu) (pv 0) (pv 1) (by with_unfolding_all rfl)) (zP (qk (zj (K:=K) rfl hu) (qet (K:=K) rfl (pv 0) (jp (qba zQ qi))) (pv 1) (by with_unfolding_all rfl)))))))
  (fun _ _ _ _=>(pv 0)))
 (qe (qo (qG (jU (K:=K) rfl) (pv 4) (jd (sc:=qg jQ) (XN:=["_law_names_here","_law_pairs","_law_row","_law_steps","_law_kept"]) ["_law_step","_law_pairs"] 1 [1] rfl rfl rfl (by room) rfl (by room)
  (qM (K:=K) rfl (pv 3)) (fun _ _ _ _=>(qr (i:=0) (show(["_law_step","_law_pairs"]:LS).Nodup by room) rfl (yQ rfl))) qP
  (fun _ _ _ _=>(qU (qS (qL (qp Ku (hmR hr) qz (qa (pv 1) (qa (qx (qy (K:=K) rfl hu) (pv 0) qi (fun _ _=>rfl)) (qa (qx (qy (K:=K) rfl hu) (pv 0) qi (fun _ _=>rfl)) qd))))))))
  (fun _ _ _ _=>(pv 0)))))))),?_⟩
  apply jO hx ?_;rw[ya];ext;have af:(stp r).length=r.length-1:=by unfold stp;rw[List.length_zip,xH];lk
  have stp_at:∀(j:Nat) a b,r[j]?=some a->r[j+1]?=some b->(stp r)[j]?=some (a,b):=fun j a b J hb=>by
   unfold stp;rw[xj];show⟨J,by rw[YQ];show hb⟩
  show⟨_,rfl,by lk,by lk,qaN (fun j ys H'=>L2.Same H H'/\∃ C:LQ,ys=C.map V.ref/\All2 (fun t ab=>H' t=some (.tup [.str ab.1,.str ab.2])) C ((stp r).take j)) ⟨L2.Same.refl H,[],rfl,by rw[YO];show All2.nil⟩ (fun j ys H1 hj c=>?_) fun ys H1 c=>?_⟩
  .obtain⟨s1,C,rfl,J⟩:=c;have ai:j+1<r.length:=by lk
   have e1:r[j]?=some r[j]:=yb (by lk);have e2:r[j+1]?=some r[j+1]:=yb ai;have ag:=s1 _ _ hx;have A:=J.len;rw[yH] at A;rw[XZ];apply zr ?_;apply qbq ag e1 ?_;ext;have ej:(j:Int)+1=((j+1:Nat):Int):=by lk
   rw[ej];show qbq ag e2 ?_;apply⟨(by decide:2<=sizeLine),fun t O=>?_⟩;have s2:=qE s1 (o:=.tup [.str r[j],.str r[j+1]]) O;have Z:=qE (Sr H1) (o:=.tup [.str r[j],.str r[j+1]]) O;show⟨by rw[ya];show qh (by lk),s2,C++[t],by rw[yy];rfl,?_⟩;rw[yG,stp_at j _ _ e1 e2];show All2.snoc (J.mono fun _ _ z=>Z _ _ z) qb
  .obtain⟨s1,C,rfl,J⟩:=c;rw[show((r.length:Int)-1).toNat=(stp r).length by rw[af];lk,yP] at J;have A:=J.len;show⟨by rw[ya,A,af];show yT (qh (by lk)),fun g hg=>?_⟩;have s2:=qE s1 (o:=.lst (C.map V.ref)) hg;have Z:=qE (Sr H1) (o:=.lst (C.map V.ref)) hg;have hS:PL (upd H1 g (.lst (C.map V.ref))) g C (stp r):=⟨qb,J.mono fun _ _ z=>Z _ _ z⟩;generalize upd H1 g (.lst (C.map V.ref))=H2 at s2 hS ⊢;have D:=hq.same s2;have N:=hq.2.len;apply .inl ⟨⟨_,SqL.of D.1⟩,qD (K:=K) (fun j ys H'=>L2.Same H2 H'/\∃ l:LQ,ys=l.map V.ref/\All2 (fun t ab=>H' t=some (.tup [.str ab.1,.str ab.2])) l (kpN (qs.take j) (stp r))) ⟨L2.Same.refl H2,[],rfl,by rw[YO];show All2.nil⟩ (fun j ys H' _ c=>SqL.of (c.1 _ _ D.1)) (fun j y ys R hy c=>?_) fun ys R c=>?_⟩
   .obtain⟨s3,l,rfl,e⟩:=c;rw[yd] at hy;obtain⟨t,O,rfl⟩:=yn.mp hy;have hj:j<qs.length:=by rw[<- N];show(yc.mp O).1
    have d:qs[j]?=some qs[j]:=yb hj;generalize qs[j]=ab at d;have S:=s3 _ _ (D.2.at_ j t ab O d);have W:=e.len;have ac:(kpN (qs.take j) (stp r)).length<=j:=yi (yJ _ _) (by rw[yH];lk)
    have Y:kpN (qs.take (j+1)) (stp r)=kpN (qs.take j) (stp r)++if (!decide (ab∈stp r)&&!decide ((ab.2,ab.1)∈stp r))=true then [ab] else []:=by
     unfold kpN;rw[yG,d,yX];show _++[ab].filter _=_;rw[yS,Yn]
    rw[Y];apply qeD (hS.same s3) S ?_;show⟨_,rfl,?_⟩;rw[show decide ((ab.1,ab.2)∈stp r)=decide (ab∈stp r) from rfl]
    cases al:decide (ab∈stp r) with
    | true=>show qI (fun h=>by cases h) fun _=>qI (fun h=>by cases h) fun _=>⟨s3,l,rfl,by simpa using e⟩
    | false =>
     show zr ?_;apply⟨1,rfl,_,rfl,rfl,t,_,_,rfl,SqT.of S,fun p c=>?_⟩;have G:=qE s3 (o:=.tup [.str ab.2,.str ab.1]) c;have B:=qE (Sr R) (o:=.tup [.str ab.2,.str ab.1]) c;have ep:upd R p (.tup [.str ab.2,.str ab.1]) p=some (.tup [.str ab.2,.str ab.1]):=qb;generalize upd R p (.tup [.str ab.2,.str ab.1])=H4 at G B ep ⊢;have L:=e.mono fun _ _ z=>B _ _ z;apply qeD (hS.same G) ep ?_;show⟨_,rfl,?_⟩
     cases am:decide ((ab.2,ab.1)∈stp r) with
     | true=>show qI (fun h=>by cases h) fun _=>⟨G,l,rfl,by simpa using L⟩
     | false =>
      show zr ?_;apply⟨by rw[ya,W];show qh (by lk),G,l++[t],by rw[yy];rfl,All2.snoc L (B _ _ S)⟩
   .obtain⟨s3,l,rfl,e⟩:=c;rw[show(us.map V.ref).length=qs.length by rw[ya,N],yP] at e;have W:=e.len;have ac:(kpN qs (stp r)).length<=30:=yi (yJ _ _) ae;show⟨by rw[ya,W];show yT (qh (by lk)),fun k hk=>?_⟩;have G:=qE s3 (o:=.lst (l.map V.ref)) hk;have B:=qE (Sr R) (o:=.lst (l.map V.ref)) hk;have hK:PL (upd R k (.lst (l.map V.ref))) k l (kpN qs (stp r)):=⟨qb,e.mono fun _ _ z=>B _ _ z⟩;generalize upd R k (.lst (l.map V.ref))=H4 at G hK ⊢;have U:=hS.same G;have aj:=D.same G;apply .inl ⟨⟨_,SqL.of U.1⟩,qD (K:=K) (fun j ys H'=>L2.Same H4 H'/\∃ v:LQ,ys=v.map V.ref/\All2 (fun t ab=>H' t=some (.tup [.str ab.1,.str ab.2])) v (nwN qs ((stp r).take j))) ⟨L2.Same.refl H4,[],rfl,by rw[YO];show All2.nil⟩ (fun j ys H' _ c=>SqL.of (c.1 _ _ U.1)) (fun j y ys H5 hy c=>?_) fun ys H5 c=>?_⟩
    .obtain⟨s5,v,rfl,s⟩:=c;rw[yd] at hy;obtain⟨t,O,rfl⟩:=yn.mp hy;have hj:j<(stp r).length:=by rw[<- A];show(yc.mp O).1
     have d:(stp r)[j]?=some (stp r)[j]:=yb hj;generalize (stp r)[j]=ab at d;have S:=s5 _ _ (U.2.at_ j t ab O d);have X:=s.len;have ad:(nwN qs ((stp r).take j)).length<=j:=yi (yJ _ _) (by rw[yH];lk)
     have Y:nwN qs ((stp r).take (j+1))=nwN qs ((stp r).take j)++if (!tB qs ab.1 ab.2)=true then [ab] else []:=by
      unfold nwN;rw[yG,d,yX];show _++[ab].filter _=_;rw[yS,Yn]
     rw[Y];apply .inl (qaO S (i:=0) rfl ?_);apply .inl (qaO S (i:=1) rfl ?_);apply⟨u,us,qs,_,_,rfl,aj.same s5,fun H6 s6=>?_⟩;have I:=s5.trans s6;have M:=s.mono fun _ _ z=>s6 _ _ z;show⟨_,rfl,?_⟩
     cases an:tB qs ab.1 ab.2 with
     | true=>show qI (fun h=>by cases h) fun _=>⟨I,v,rfl,by simpa using M⟩
     | false =>
      show zr ?_;apply⟨by rw[ya,X];show qh (by lk),I,v++[t],by rw[yy];rfl,All2.snoc M (s6 _ _ S)⟩
    .obtain⟨s5,v,rfl,s⟩:=c;rw[show(C.map V.ref).length=(stp r).length by rw[ya,A],yP] at s;have X:=s.len;have ad:(nwN qs (stp r)).length<=14:=yi (yJ _ _) (by lk);show⟨by rw[ya,X];show yT (qh (by lk)),fun m hm=>?_⟩;have s6:=qE s5 (o:=.lst (v.map V.ref)) hm;have I:=qE (Sr H5) (o:=.lst (v.map V.ref)) hm;have hN:PL (upd H5 m (.lst (v.map V.ref))) m v (nwN qs (stp r)):=⟨qb,s.mono fun _ _ z=>I _ _ z⟩;generalize upd H5 m (.lst (v.map V.ref))=H6 at s6 hN ⊢;have aa:=hK.same s6;apply .inl ⟨k,m,_,_,rfl,rfl,aa.1,hN.1,by rw[ya,ya];show yT (qh (by lk)),fun z hz=>?_⟩;have s7:=qE (Sr H6) (o:=.lst (l.map V.ref++v.map V.ref)) hz;have ah:=(s2.trans G).trans s6;show q z (l++v) _ (ah.trans s7) (ah.free hz) ⟨by rw[qb,yy],?_⟩;show All2.app9 (aa.2.mono fun _ _ z=>s7 _ _ z) (hN.2.mono fun _ _ z=>s7 _ _ z)
theorem Aug.rwN(h:Aug A (pt qs) r)(i:∀ a b,A a b->tB tps a b=true)(g:∀ a b,pt qs a=some b->pt qs b=some a)(c:r.length<=14):RwN tps qs r:=by
 show⟨h.nd,?_,c,fun j a b d f=>i a b (h.st j a b d f).1,fun j a b d f=>?_⟩
 .have:=h.ev;have:=h.two;lk
 .have:=(h.st j a b d f).2;constructor
  .intro e;have:=this.mp (g _ _ e);lk
  .intro e;show g _ _ (this.mpr (by lk))
theorem mem_stp:q∈stp r↔∃ j:Nat,r[j]?=some q.1/\r[j+1]?=some q.2:=by
 unfold stp;rw[xm];constructor
 .rintro ⟨j,h⟩;rw[xj,YQ] at h;show⟨j,h⟩
 .rintro ⟨j,h1,a⟩;show⟨j,?_⟩;rw[xj,YQ];show⟨h1,a⟩
theorem qeV(c:(qj qs).Nodup):tB qs a b=true↔pt qs a=some b:=by
 unfold tB;rw[km,Yj,Yj];show(qcp c).symm
theorem zd(h:Aug A (pt qs) r)(c:(qj qs).Nodup):q∈nwN qs (stp r)↔∃ j:Nat,j % 2=0/\r[j]?=some q.1/\r[j+1]?=some q.2:=by
 unfold nwN;rw[yp,mem_stp,xy,kK,Ne,qeV c];constructor
 .rintro ⟨⟨j,h1,a⟩,b⟩;show⟨j,?_,h1,a⟩;have:=(h.st j _ _ h1 a).2;rcases YG j with e | e
  .show e
  .show absurd (this.mpr e) b
 .rintro ⟨j,e,h1,a⟩;show⟨⟨j,h1,a⟩,fun z=>?_⟩;have:=(h.st j _ _ h1 a).2.mp z;lk
theorem qaJ(h:Aug A (pt qs) r)(o:(qj qs).Nodup)(e:pt qs a=some b)(n:a∈r):(a,b)∈stp r\/(b,a)∈stp r:=by
 obtain⟨i,m,g⟩:=YW n;have c:r[i]?=some a:=by rw[yb m,g]
 have p:=h.two;have l:=h.ev;by_cases j:i=0
 .subst j;have:=h.hd a c;rw[e] at this;cases this
 by_cases hl:i=r.length-1
 .subst hl;have:=h.tl a c;rw[e] at this;cases this
 rcases YG i with z | z
 .have d:r[i-1]?=some r[i-1]:=yb (by lk);have f:r[i-1+1]?=some a:=by rw[show i-1+1=i by lk];show c
  have:=(h.st (i-1) _ _ d f).2.mpr (by lk);rw[zM o,e] at this;cases this;show .inr (mem_stp.mpr ⟨i-1,d,f⟩)
 .have d:r[i+1]?=some r[i+1]:=yb (by lk);have:=(h.st i _ _ c d).2.mpr z;rw[e] at this;cases this;show .inl (mem_stp.mpr ⟨i,c,d⟩)
theorem qab(h:Aug A (pt qs) r)(b:(qj qs).Nodup):q∈kpN qs (stp r)↔q∈qs/\q.1∉r/\q.2∉r:=by
 unfold kpN;rw[yp,yY,xy,xy,xz,xz];constructor
 .rintro ⟨c,h1,a⟩;have e:pt qs q.1=some q.2:=qdp b (.inl c);show⟨c,fun z=>?_,fun z=>?_⟩
  .show(qaJ h b e z).elim h1 a
  .show(qaJ h b ((zM b).mp e) z).elim a h1
 .rintro ⟨c,h1,a⟩;show⟨c,fun z=>?_,fun z=>?_⟩
  .obtain⟨j,g,_⟩:=mem_stp.mp z;show h1 (ye g)
  .obtain⟨j,g,_⟩:=mem_stp.mp z;show a (ye g)
def ApN(q r:Str×Str):Prop:=q.1≠r.1/\q.1≠r.2/\q.2≠r.1/\q.2≠r.2
theorem qdi:∀{qs:LP},(qj qs).Nodup->(∀ q∈qs,q.1≠q.2)/\qs.Pairwise ApN
 | [],_=>⟨fun q h=>(by cases h),.nil⟩
 | q::r,h=>by
  have h:(q.1::q.2::qj r).Nodup:=h;obtain⟨h1,b⟩:=yo.mp h;obtain⟨a,c⟩:=yo.mp b;obtain⟨d,f⟩:=qdi c;show⟨fun x hx=>?_,List.pairwise_cons.mpr ⟨fun x hx=>?_,f⟩⟩
  .rcases yz.mp hx with rfl | hx
   .show fun e=>h1 (e ▸ yR)
   .show d x hx
  .have m1:x.1∈qj r:=YS.mpr ⟨x,hx,by simp⟩;have m2:x.2∈qj r:=YS.mpr ⟨x,hx,by simp⟩;show⟨fun e=>h1 (e ▸ yB _ m1),fun e=>h1 (e ▸ yB _ m2),fun e=>a (e ▸ m1),fun e=>a (e ▸ m2)⟩
theorem qd6(h:Aug A (pt qs) r)(c:(qj qs).Nodup):(qj (kpN qs (stp r)++nwN qs (stp r))).Nodup:=by
 obtain⟨L,M⟩:=qdi c
 have inj:∀(i j:Nat) s,r[i]?=some s->r[j]?=some s->i=j:=fun i j s u v=>by
  obtain⟨G,C⟩:=yc.mp u;obtain⟨H,D⟩:=yc.mp v;rcases kM i j with z | z | z
  .show absurd (C.trans D.symm) ((Yd.mp h.nd) i j G H z)
  .show z
  .show absurd (D.trans C.symm) ((Yd.mp h.nd) j i H G z)
 show qaS (fun q f=>?_) (List.pairwise_append.mpr ⟨M.sublist xi,?_,fun q f x w=>?_⟩)
 .rcases yw.mp f with z | z
  .show L q ((qab h c).mp z).1
  .obtain⟨j,_,l,n⟩:=(zd h c).mp z;intro e;rw[e] at l;have:=inj _ _ _ l n;lk
 .have y:(stp r).Pairwise fun q x=>(∃ j:Nat,j % 2=0/\r[j]?=some q.1/\r[j+1]?=some q.2)->(∃ j:Nat,j % 2=0/\r[j]?=some x.1/\r[j+1]?=some x.2)->ApN q x:=by
   rw[Yd];intro i j u v K;rintro⟨a,N,d,g⟩ ⟨b,O,m,B⟩;have o:(stp r)[i]?=some (stp r)[i]:=yb u;have t:(stp r)[j]?=some (stp r)[j]:=yb v;unfold stp at o t;rw[xj,YQ] at o t;have I:=inj _ _ _ d o.1;have J:=inj _ _ _ m t.1;subst I J;show⟨fun e=>?_,fun e=>?_,fun e=>?_,fun e=>?_⟩
   .rw [e] at d;have:=inj _ _ _ d m;lk
   .rw [e] at d;have:=inj _ _ _ d B;lk
   .rw [e] at g;have:=inj _ _ _ g m;lk
   .rw [e] at g;have:=inj _ _ _ g B;lk
  have:=(y.sublist (xi (p:=fun q=>!tB qs q.1 q.2)));show this.imp_of_mem fun f w z=>z ((zd h c).mp f) ((zd h c).mp w)
 .obtain⟨_,E,F⟩:=(qab h c).mp f;obtain⟨j,_,l,n⟩:=(zd h c).mp w;have m1:=ye l;have m2:=ye n;show⟨fun e=>E (e ▸ m1),fun e=>E (e ▸ m2),fun e=>F (e ▸ m1),fun e=>F (e ▸ m2)⟩
theorem mem_names:s∈qj qs↔∃ q∈qs,s=q.1\/s=q.2:=by
 unfold qj;rw[YS];simp
theorem row_nw(h:Aug A (pt qs) r)(b:(qj qs).Nodup)(f:s∈r):s∈qj (nwN qs (stp r)):=by
 obtain⟨i,e,c⟩:=YW f;have g:r[i]?=some s:=by rw[yb e,c]
 have d:=h.ev;rcases YG i with z | z
 .have a:r[i+1]?=some r[i+1]:=yb (by lk);show mem_names.mpr ⟨(s,r[i+1]),(zd h b).mpr ⟨i,z,g,a⟩,.inl rfl⟩
 .have a:r[i-1]?=some r[i-1]:=yb (by lk);show mem_names.mpr ⟨(r[i-1],s),(zd h b).mpr ⟨i-1,by lk,a,by rw[show i-1+1=i by lk];show g⟩,.inr rfl⟩
theorem tl_len(h:Aug A (pt qs) r)(c:(qj qs).Nodup):(kpN qs (stp r)++nwN qs (stp r)).length=qs.length+1:=by
 have K:=h.two;have G:=h.ev;obtain⟨a,l⟩:∃ a,r[0]?=some a:=⟨_,yb (by lk)⟩;obtain⟨b,n⟩:∃ b,r[r.length-1]?=some b:=⟨_,yb (by lk)⟩;have I:a∉qj qs:=pt_none.mp (h.hd a l);have J:b∉qj qs:=pt_none.mp (h.tl b n)
 have u:a≠b:=fun e=>by
  obtain⟨l1,B⟩:=yc.mp l;obtain⟨l2,C⟩:=yc.mp n;show(Yd.mp h.nd) 0 (r.length-1) l1 l2 (by lk) (B.trans (e.trans C.symm))
 have w:(a::b::qj qs).Nodup:=yo.mpr ⟨fun z=>(yz.mp z).elim u I,yo.mpr ⟨J,c⟩⟩;have v:=qd6 h c
 have app:∀ s,s∈qj (kpN qs (stp r)++nwN qs (stp r))↔s∈qj (kpN qs (stp r))\/s∈qj (nwN qs (stp r)):=fun s=>by
  unfold qj;rw[xE,yw]
 have l1:=jw v (m:=a::b::qj qs) fun s hs=>by
  have inr:s∈r->s∈a::b::qj qs:=fun d=>by
   obtain⟨i,H,D⟩:=YW d;have g:r[i]?=some s:=by rw[yb H,D]
   by_cases F:i=0
   .subst F;rw[l] at g;cases g;show yR
   by_cases hl:i=r.length-1
   .subst hl;rw[n] at g;cases g;show yB _ yR
   show yB _ (yB _ (Ys fun z=>?_));have en:=pt_none.mpr z;rcases YG i with y | y
   .have t:r[i-1]?=some r[i-1]:=yb (by lk);have E:r[i-1+1]?=some s:=by rw[show i-1+1=i by lk];show g
    have:=(h.st (i-1) _ _ t E).2.mpr (by lk);rw[zM c,en] at this;cases this
   .have t:r[i+1]?=some r[i+1]:=yb (by lk);have:=(h.st i _ _ g t).2.mpr y;rw[en] at this;cases this
  rcases(app s).mp hs with z | z
  .obtain⟨q,f,e⟩:=mem_names.mp z;show yB _ (yB _ (mem_names.mpr ⟨q,((qab h c).mp f).1,e⟩))
  .obtain⟨q,f,e⟩:=mem_names.mp z;obtain⟨j,_,o,p⟩:=(zd h c).mp f;rcases e with rfl | rfl
   .show inr (ye o)
   .show inr (ye p)
 have l2:=jw w (m:=qj (kpN qs (stp r)++nwN qs (stp r))) fun s hs=>by
  rw[app];by_cases d:s∈r
  .show .inr (row_nw h c d)
  .rcases yz.mp hs with rfl | hs
   .show absurd (ye l) d
   rcases yz.mp hs with rfl | hs
   .show absurd (ye n) d
   obtain⟨q,f,e⟩:=mem_names.mp hs;have ep:pt qs q.1=some q.2:=qdp c (.inl f)
   have st:∀{x y:Str},(x,y)∈stp r->x∈r/\y∈r:=fun z=>by
    obtain⟨j,o,p⟩:=mem_stp.mp z;show⟨ye o,ye p⟩
   show .inl (mem_names.mpr ⟨q,(qab h c).mpr ⟨f,fun z=>?_,fun z=>?_⟩,e⟩)
   .have:=(qaJ h c ep z).elim (fun y=>st y) fun y=>(st y).symm;rcases e with rfl | rfl
    .show d this.1
    .show d this.2
   .have:=(qaJ h c ((zM c).mp ep) z).elim (fun y=>(st y).symm) fun y=>st y;rcases e with rfl | rfl
    .show d this.1
    .show d this.2
 rw[jC] at l1 l2;rw[yA,yA,jC] at l1 l2;lk
theorem qbC:∀ qs:LP,(qs.map (·.1)++qs.map (·.2)).Perm (qj qs)
 | []=>.refl _
 | q::r=>by
  show(q.1::(r.map (·.1)++q.2::r.map (·.2))).Perm (q.1::q.2::qj r);show((List.perm_middle).trans ((qbC r).cons _)).cons _
theorem qfr{i j:Int}{Q:VK}(q:Q (.bl (!decide (i=j))) H):qeZ K true (.int i) (.int j) H Q:=.inl ⟨rfl,rfl,by
 have:=qdg i j;rw[yE (by decide)] at this;rw[yO rfl,this];show q⟩
noncomputable def brN(ss:LS)(tps:LP)(rs:LS):LS:=(zN ss rs).filter fun s=>!(rs.filter fun o=>tB tps s o).isEmpty
structure NnN(ss:LS)(tps qs:LP)(rs:LS):Prop where
 fil:ss.filter (fun s=>decide (s∈rs))=rs
 al:∀ s∈sgl ss qs,s∈rs
 odd:∀ pss,PcsN tps (zN ss (brN ss tps rs)) (zN ss (brN ss tps rs)).length pss->(qbQ pss).length=(brN ss tps rs).length+(sgl ss qs).length/\(qbQ pss).flatten.Perm rs
noncomputable def rdN(ss:LS)(S:FS):LS:=ss.filter fun s=>(S.rows s).isSome
theorem tB_tA:tB tps a b=true↔tA tps a b:=by
 unfold tB tA;rw[km,Yj,Yj]
section
variable{ss:LS}{tps qs:LP}{S:FS}
theorem mem_rd:s∈rdN ss S↔s∈ss/\S.rows s≠none:=by unfold rdN;rw[yp,isS]
theorem qeE(F:Fn (tA tps) (pt qs) S ss):s∈brN ss tps (rdN ss S)↔s∈qds S ss:=by
 unfold brN;rw[yp,qdh,mem_bar,xy,kK,Ne,List.isEmpty_iff];constructor
 .rintro ⟨⟨h1,b⟩,c⟩;have h:S.rows s=none:=Ys fun z=>b (mem_rd.mpr ⟨h1,z⟩);obtain⟨o,i⟩:=List.exists_mem_of_ne_nil _ c;obtain⟨f,g⟩:=yp.mp i;obtain⟨m,d⟩:=mem_rd.mp f;rcases F.cl o s d (F.gr.as (tB_tA.mp g)) with e | e
  .show absurd h (F.fi.evE d e)
  .show⟨h1,e⟩
 .rintro ⟨h1,b,c⟩;show⟨⟨h1,fun z=>(mem_rd.mp z).2 c⟩,fun e=>?_⟩;obtain⟨z,hz⟩:=some_of b;obtain⟨j,⟨r,l⟩,_⟩:=F.fi.odd s z hz;have a:S.rows z≠none:=by rw[l];show fun y=>by cases y
  have:z∈(rdN ss S).filter fun o=>tB tps s o:=yp.mpr ⟨mem_rd.mpr ⟨F.es z a,a⟩,tB_tA.mpr (F.gr.as j)⟩;rw[e] at this;cases this
theorem Fn.hang(F:Fn (tA tps) (pt qs) S ss)(hv:S.rows v≠none){C:Str->Prop}(o:∀ s t,S.bas s=S.bas v->S.bas t=S.bas v->C s->tA tps s t->C t)(n:C (S.bas v)):C v:=by
 obtain⟨r,c⟩:=some_of hv;obtain⟨w,t,h1,e,q⟩:=F.fi.bse v r c;obtain⟨b,d⟩:=(F.fi.alt _ _ h1).tl;obtain⟨l,i⟩:=(F.fi.alt _ _ c).tl;have st:=(F.fi.alt _ _ c).st
 have g:∀(k:Nat) x,r[b.length+k]?=some x->S.bas x=S.bas v/\C x:=by
  intro k
  induction k with
  | zero =>
   intro x a;rw[e,d,y8,yC (by lk),Nat.add_zero,X0] at a;cases a;show⟨F.fi.idm v r c,n⟩
  | succ k ih =>
   intro x a;obtain⟨y,j⟩:∃ y,r[b.length+k]?=some y:=⟨_,yb (by have:=(yc.mp a).1;lk)⟩;obtain⟨m,p⟩:=ih y j;have u:=(st _ y x j a).1
   have f:x∈t:=by
    rw[e,yC (by rw[d,yu,xk];lk)] at a;show ye a
   have h:=q x f;show⟨h,o y x m h p u⟩
 have l1:r.length=l.length+1:=by rw[i,yu,xk]
 have l2:r.length=b.length+1+t.length:=by rw[e,d,yu,yu,xk]
 show(g (r.length-1-b.length) v ?_).2;rw[show b.length+(r.length-1-b.length)=l.length by lk,i,yC (yh _),X0];rfl
noncomputable def lfN(ss:LS)(tps:LP)(S:FS):LS:=zN ss (brN ss tps (rdN ss S))
theorem qcs(F:Fn (tA tps) (pt qs) S ss):s∈lfN ss tps S↔s∈ss/\¬ (S.par s≠none/\S.rows s=none):=by
 unfold lfN;rw[qdh,qeE F,mem_bar];show⟨fun z=>⟨z.1,fun y=>z.2 ⟨z.1,y⟩⟩,fun z=>⟨z.1,fun y=>z.2 y.2⟩⟩
theorem qd7(F:Fn (tA tps) (pt qs) S ss){p:LS}(c:PcN tps (lfN ss tps S) p)(j:a∈p)(d:S.rows a≠none)(x:Str):x∈p↔x∈qcJ S ss (S.bas a):=by
 have inl:∀ s,S.rows s≠none->s∈lfN ss tps S:=fun s h=>(qcs F).mpr ⟨F.es s h,fun z=>h z.2⟩;constructor
 .obtain⟨m,_,b⟩:=c.con
  have step:∀ s t,t∈lfN ss tps S->s∈qcJ S ss (S.bas a)->tB tps s t=true->t∈qcJ S ss (S.bas a):=fun s t g f e=>by
   obtain⟨_,l,A⟩:=mem_cls.mp f;obtain⟨B,D⟩:=(qcs F).mp g;rcases F.cl s t l (tB_tA.mp e) with z | z
   .show mem_cls.mpr ⟨B,F.fi.evE l z,z.trans A⟩
   .show absurd z D
  have all:=b (fun s=>s∈qcJ S ss (S.bas a)↔m∈qcJ S ss (S.bas a)) Iff.rfl fun s t f g h e=>⟨fun z=>h.mp (step t s f z (by rw[qd4];show e)),fun z=>step s t g (h.mpr z) e⟩;have q:=(all a j).mp (mem_cls.mpr ⟨F.es a d,d,rfl⟩);show fun i=>(all x i).mpr q
 .intro i;obtain⟨_,E,G⟩:=mem_cls.mp i
  have one:∀ v,S.rows v≠none->S.bas v=S.bas a->(v∈p↔S.bas a∈p):=fun v hv r=>by
   have:=F.hang hv (C:=fun y=>y∈p↔S.bas a∈p) (fun s t n o h e=>?_) (by rw[r]);show this;have u:=inl s (F.fi.evE hv n);have w:=inl t (F.fi.evE hv o);rw[<- h];show⟨fun z=>c.clo t z s u (by rw[qd4];show tB_tA.mpr e),fun z=>c.clo s z t w (tB_tA.mpr e)⟩
  show(one x E G).mpr ((one a d rfl).mp j)
theorem qeF(F:Fn (tA tps) (pt qs) S ss){p:LS}(c:PcN tps (lfN ss tps S) p):p.length % 2=1↔∃ a∈p,S.rows a≠none:=by
 constructor
 .intro o;show Ys fun hc=>?_
  have:=qeg (g:=pt qs) _ (X:=p) (yh _) c.nd fun x d=>by
   obtain⟨m,_⟩:=(qcs F).mp (c.sub x d)
   cases e:pt qs x with
   | none=>show absurd ⟨x,d,F.sng x m e⟩ hc
   | some y =>
    have b:=F.gr.fa e;show⟨y,c.clo x d y ((qcs F).mpr ⟨F.inn _ _ (F.gr.as b),fun⟨n,_⟩=>?_⟩) (tB_tA.mpr b),rfl,Ye (F.gr.ir b),F.gr.fs e⟩;obtain⟨z,hz⟩:=some_of n;obtain⟨_,_,q,r,j,l⟩:=F.fi.odd y z hz;rw[F.gr.fs e] at j;cases j;show hc ⟨x,d,by rw[l];show fun z=>by cases z⟩
  lk
 .rintro ⟨a,b,f⟩;obtain⟨r,h⟩:=some_of f;have i:S.rows (S.bas a)≠none:=F.fi.evE f (F.fi.idm a r h);rw[((xL c.nd (F.nd.filter _)).mpr (qd7 F c b f)).length_eq];show F.cls_odd (mem_bas.mpr ⟨F.es _ i,i,F.fi.idm a r h⟩)
theorem Fn.nnN(F:Fn (tA tps) (pt qs) S ss):NnN ss tps qs (rdN ss S):=by
 show⟨?_,fun s d=>?_,fun pss h=>?_⟩
 .show _=ss.filter fun s=>(S.rows s).isSome;show xA fun s d=>?_;rw[Y2,Yj,mem_rd,isS];show⟨fun z=>z.2,fun z=>⟨d,z⟩⟩
 .obtain⟨h1,f⟩:=yp.mp d;show mem_rd.mpr ⟨h1,F.sng s h1 (Xx.mp f)⟩
 have h:PcsN tps (lfN ss tps S) (lfN ss tps S).length pss:=h;have g:=h.all;rw[yP] at g;obtain⟨K,L⟩:=List.pairwise_flatten.mp h.nd
 have l:∀{p},p∈qbQ pss↔p∈pss/\∃ a∈p,S.rows a≠none:=fun{p}=>by
  unfold qbQ;rw[yp,Yj];show⟨fun z=>⟨z.1,(qeF F (h.pc p z.1)).mp z.2⟩,fun z=>⟨z.1,(qeF F (h.pc p z.1)).mpr z.2⟩⟩
 have B:(qbQ pss).Pairwise fun p q=>∀ x∈p,∀ y∈q,x≠y:=L.filter _;have o:(qbQ pss).flatten.Nodup:=List.pairwise_flatten.mpr ⟨fun p c=>K p (l.mp c).1,B⟩
 have mem:∀ s,s∈(qbQ pss).flatten↔s∈rdN ss S:=fun s=>by
  rw[mem_rd,xI];constructor
  .rintro ⟨p,c,d⟩;obtain⟨h1,a,f,G⟩:=l.mp c;obtain⟨I,J,_⟩:=mem_cls.mp ((qd7 F (h.pc p h1) f G s).mp d);show⟨I,J⟩
  .rintro ⟨h1,f⟩;obtain⟨p,c,d⟩:=xI.mp (g s ((qcs F).mpr ⟨h1,fun z=>f z.2⟩));show⟨p,l.mpr ⟨c,s,d,f⟩,d⟩
 show⟨?_,(xL o (F.nd.filter _)).mpr mem⟩
 have t:∀ p∈qbQ pss,p.headD ""∈p:=fun p c=>by
  obtain⟨_,a,f,_⟩:=l.mp c
  cases p with
  | nil=>cases f
  | cons x r=>show yR
 have i:∀ p∈qbQ pss,S.rows (p.headD "")≠none:=fun p c=>(mem_rd.mp ((mem _).mp (xI.mpr ⟨p,c,t p c⟩))).2;have n:∀ p (c:p∈qbQ pss) x,x∈p↔x∈qcJ S ss (S.bas (p.headD "")):=fun p c=>qd7 F (h.pc p (l.mp c).1) (t p c) (i p c)
 have m:((qbQ pss).map fun p=>S.bas (p.headD "")).Nodup:=Xq.mpr (B.imp_of_mem fun{p q} c H u e=>by
  have A:=t p c;show u _ A _ ?_ rfl;rw[n q H,<- e,<- n p c];show A)
 have v:((qbQ pss).map fun p=>S.bas (p.headD "")).length=(qbs S ss).length:=xQ
  (qbP m fun b j=>by
   obtain⟨p,c,rfl⟩:=Yq.mp j;obtain⟨r,w⟩:=some_of (i p c);have j:S.rows (S.bas (p.headD ""))≠none:=F.fi.evE (i p c) (F.fi.idm _ r w);show mem_bas.mpr ⟨F.es _ j,j,F.fi.idm _ r w⟩)
  (qbP (F.nd.filter _) fun b j=>by
   obtain⟨C,D,E⟩:=mem_bas.mp j;obtain⟨p,c,d⟩:=xI.mp ((mem b).mpr (mem_rd.mpr ⟨C,D⟩));show Yq.mpr ⟨p,c,?_⟩;show((mem_cls.mp ((n p c b).mp d)).2.2.symm.trans E))
 rw[ya] at v;rw[v,F.count];have M:(brN ss tps (rdN ss S)).length=(qds S ss).length:=((xL ((F.nd.filter _).filter _) (F.nd.filter _)).mpr fun s=>qeE F).length_eq;have N:(sgl ss qs).length=(snL (pt qs) ss).length:=congrArg List.length (xA fun s _=>by cases pt qs s<;>rfl);lk
theorem qeG(c:(qj qs).Nodup)(b:ss.Nodup)(a:∀ s∈qj qs,s∈ss):(snL (pt qs) ss).length+2*qs.length=ss.length:=by
 have e:2*qs.length=(ss.filter fun s=>(pt qs s).isSome).length:=by
  rw[<- jC];show xQ (qbP c fun s h=>yp.mpr ⟨a s h,pt_some.mp h⟩) (qbP (b.filter _) fun s h=>pt_some.mpr (yp.mp h).2)
 rw[e];unfold snL;clear e b a
 induction ss with
 | nil=>rfl
 | cons x r ih =>
  rw[yS,yS];cases (pt qs x).isSome
  .rw [yO (show(!false)=true from rfl),yE Yi,yA,yA];lk
  .rw [yE (show ¬ (!true)=true by decide),yO (show true=true from rfl),yA,yA];lk
theorem qfs(G:Gr (tA tps) (pt qs)){rs:LP}(b:(qj rs).Nodup)(a:∀ q∈rs,tA tps q.1 q.2):Gr (tA tps) (pt rs):=
 ⟨G.as,G.ir,fun e=>(zM b).mp e,fun e=>(qco e).elim (fun z=>a _ z) fun z=>G.as (a _ z)⟩
theorem Fn.none(F:Fn (tA tps) (pt qs) S ss)(g:PGo ss tps qs)(h:Aug (tA tps) (pt qs) r):False:=by
 have d:=qd6 h g.nd;have hl:=tl_len h g.nd
 have c:∀ q∈kpN qs (stp r)++nwN qs (stp r),tA tps q.1 q.2:=fun q a=>by
  rcases yw.mp a with z | z
  .show(g.inn q ((qab h g.nd).mp z).1).1
  .obtain⟨j,_,i,l⟩:=(zd h g.nd).mp z;show(h.st j _ _ i l).1
 have f:∀{rs:LP},(∀ q∈rs,tA tps q.1 q.2)->∀ s∈qj rs,s∈ss:=fun k s b=>by
  obtain⟨q,a,e⟩:=mem_names.mp b;rcases e with rfl | rfl
  .show F.inn _ _ (k q a)
  .show F.inn _ _ (F.gr.as (k q a))
 have o:=qeG g.nd F.nd (f fun q a=>(g.inn q a).1);have p:=qeG d F.nd (f c);have t:=F.most (qfs F.gr d c)
 have v:(ss.filter fun u=>!(pt (kpN qs (stp r)++nwN qs (stp r)) u).isSome&&(S.rows u).isSome).length<=(snL (pt (kpN qs (stp r)++nwN qs (stp r))) ss).length:=qbP (F.nd.filter _) fun s b=>by
  obtain⟨m,n⟩:=yp.mp b;show yp.mpr ⟨m,(yY _ _ ▸ n).1⟩
 lk
theorem qbD:∀{l m:LP},All2 (fun a b=>b=a\/b=(a.2,a.1)) l m->(qj m).Perm (qj l)
 | [],[],_=>.refl _
 | [],_::_,h=>by have:=h.len;cases this
 | _::_,[],h=>by have:=h.len;cases this
 | a::l,b::m,h=>by
  have c:=qbD (l:=l) (m:=m) ⟨Nat.succ.inj h.len,fun k x y d f=>h.at_ (k+1) x y d f⟩;have e:=h.at_ 0 a b rfl rfl;show(b.1::b.2::qj m).Perm (a.1::a.2::qj l);rcases e with rfl | rfl
  .show(c.cons _).cons _
  .show(Ke _ _ _).trans ((c.cons _).cons _)
theorem Shuf.names(sh:Shuf qs ups):(qj ups).Perm (qj qs):=by
 obtain⟨ps,b,a⟩:=sh;show(b.flatMap_right _).trans (qbD a)
theorem Shuf.pgo(sh:Shuf qs ups)(g:PGo ss tps qs):PGo ss tps ups:=by
 show⟨fun q a=>?_,sh.names.nodup_iff.mpr g.nd,by rw[sh.len];show g.few⟩;rcases sh.mem a with z | z
 .show g.inn q z
 .obtain⟨b,c,d,e⟩:=g.inn _ z;show⟨b.symm,d,c,e.symm⟩
end
noncomputable def ioR(ss:LS)(tps:LP)(k:Nat):LP:=((ss.drop (k+1)).filter fun o=>tB tps (ss.getD k "") o).map fun o=>(ss.getD k "",o)
noncomputable def ioL(ss:LS)(tps:LP)(n:Nat):LP:=(List.range n).flatMap (ioR ss tps)
theorem qdj{l:List α}{f g:α->List β}(h:∀ a∈l,f a=g a):l.flatMap f=l.flatMap g:=by
 unfold List.flatMap;rw[List.map_congr_left h]
section
variable{ss:LS}{ns:LN}{tps qs rs:LP}
theorem drop_fil(d:ss.Nodup)(k:Nat)(q:Str->Bool):(ss.drop (k+1)).filter q=ss.filter fun o=>decide (k<ss.idxOf o)&&q o:=by
 have e:ss.filter (fun o=>decide (k<ss.idxOf o)&&q o)=(ss.take (k+1)++ss.drop (k+1)).filter fun o=>decide (k<ss.idxOf o)&&q o:=by rw[List.take_append_drop]
 have at_:∀{i:Nat} {o:Str},ss[i]?=some o->ss.idxOf o=i:=fun{i o} g=>qv d (by rw[yb (Yu (ye g)),YN]) g;have c:(ss.take (k+1)).filter (fun o=>decide (k<ss.idxOf o)&&q o)=[]:=List.filter_eq_nil_iff.mpr fun o b=>?_
 .rw [e,yX,c,List.nil_append];show xA fun o b=>?_;obtain⟨j,a⟩:=yf b;rw[kH] at a;rw[at_ a,yM (by lk)];rfl
 .obtain⟨j,a⟩:=yf b;have hl:=(yc.mp a).1;rw[yH] at hl;rw[List.getElem?_take_of_lt (by lk)] at a;rw[at_ a,yl (by lk)];show fun z=>by cases z
theorem mem_ioL(n:ss.Nodup):(a,b)∈ioL ss tps ss.length↔tB tps a b=true/\∃ i j:Nat,i<j/\ss[i]?=some a/\ss[j]?=some b:=by
 unfold ioL ioR;rw[YS];constructor
 .rintro ⟨i,d,h⟩;have d:=YC.mp d;obtain⟨o,m,e⟩:=Yq.mp h;cases e;obtain⟨h1,c⟩:=yp.mp m;obtain⟨j,f⟩:=yf h1;rw[kH] at f;show⟨c,i,_,by lk,by rw[yV,yb d];rfl,f⟩
 .rintro ⟨h,i,j,l,h1,c⟩;have g:ss.getD i ""=a:=by rw[yV,h1];rfl
  show⟨i,YC.mpr (yc.mp h1).1,?_⟩;rw[g];show Yq.mpr ⟨b,yp.mpr ⟨ye (i:=j-(i+1)) ?_,h⟩,rfl⟩;rw[kH,show i+1+(j-(i+1))=j by lk];show c
theorem io_congr(h:∀ a b,a∈ss->b∈ss->tB tps a b=tB qs a b):ioL ss tps ss.length=ioL ss qs ss.length:=by
 unfold ioL;show qdj fun k c=>?_;have c:=YC.mp c;unfold ioR;rw[xA fun o d=>h _ o ?_ (List.mem_of_mem_drop d)];rw[yV,yb c];show Xw c
theorem qeH(hw:WOk ss ns)(f:Adj ss ns tps){p:Str×Str->Bool}(h:∀(i j:Nat) a b,i<j->ss[i]?=some a->ss[j]?=some b->(tA tps a b/\p (a,b)=true↔tB rs a b=true)):(qB ss ns ss.length).filter p=ioL ss rs ss.length:=by
 unfold qB ioL;rw[List.filter_flatMap];show qdj fun k c=>?_;have c:=YC.mp c;have d:ss[k]?=some (ss.getD k ""):=by rw[yV,yb c];rfl
 unfold qex ioR;rw[List.filter_map,drop_fil hw.nd,zx hw.nd,List.filter_filter,List.filter_filter]
 congr 1
 show xA fun o g=>?_;have go:ss[ss.idxOf o]?=some o:=by rw[yb (Yu g),YN]
 by_cases z:k<ss.idxOf o
 .rw [yM z];have h1:=h k _ _ _ z d go;have e:=f k _ _ _ d go;rw[Y2,yY,yY,yY,<- h1];rw[e];show⟨fun⟨⟨x,_⟩,y⟩=>⟨rfl,y,x⟩,fun⟨_,y,x⟩=>⟨⟨x,rfl⟩,y⟩⟩
 .rw [yl z];simp
theorem ties_io(hw:WOk ss ns)(c:Adj ss ns tps):qB ss ns ss.length=ioL ss tps ss.length:=by
 have:=qeH (p:=fun _=>true) (rs:=tps) hw c fun i j a b _ _ _=>⟨fun z=>tB_tA.mpr z.1,fun z=>⟨tB_tA.mp z,rfl⟩⟩
 rwa[List.filter_eq_self.mpr fun _ _=>rfl] at this
theorem qft(hw:WOk ss ns)(d:Adj ss ns tps){p:Str×Str->Bool}(e:rs=(qB ss ns ss.length).filter p):rs=ioL ss rs ss.length:=by
 show e.trans (qeH hw d fun i j a b g h1 m=>?_);rw[tB_tA];have h:∀{x y:Str},(x,y)∈rs↔(x,y)∈qB ss ns ss.length/\p (x,y)=true:=fun{x y}=>by rw[e,yp]
 constructor
 .rintro ⟨c,f⟩;show .inl (h.mpr ⟨(qaT hw d).mpr ⟨c,i,j,g,h1,m⟩,f⟩)
 .rintro (z | z)
  .obtain⟨c,f⟩:=h.mp z;show⟨((qaT hw d).mp c).1,f⟩
  .obtain⟨c,f⟩:=h.mp z;obtain⟨_,q,r,l,n,o⟩:=(qaT hw d).mp c;have:=qv hw.nd n m;have:=qv hw.nd o h1;lk
theorem tl_flip(g:PGo ss tps qs)(h:Aug (tA tps) (pt qs) r)(a b:Str):pt (kpN qs (stp r)++nwN qs (stp r)) a=some b↔flipR (pt qs) r a b:=by
 have c:=g.nd;rw[qcp (qd6 h c),yw,yw,qab h c,qab h c,zd h c,zd h c];constructor
 .rintro ((⟨q1,q2,_⟩ | ⟨j,e,g1,g2⟩) | (⟨q1,_,q2⟩ | ⟨j,e,g1,g2⟩))
  .show .inl ⟨q2,qdp c (.inl q1)⟩
  .show .inr ⟨⟨j,.inl ⟨g1,g2⟩⟩,fun z=>by have:=(h.st j _ _ g1 g2).2.mp z;lk⟩
  .show .inl ⟨q2,qdp c (.inr q1)⟩
  .show .inr ⟨⟨j,.inr ⟨g1,g2⟩⟩,fun z=>by have:=(h.st j _ _ g1 g2).2.mp ((zM c).mp z);lk⟩
 .rintro (⟨h1,h2⟩ | ⟨⟨j,⟨g1,g2⟩ | ⟨g1,g2⟩⟩,h2⟩)
  .have d:b∉r:=fun z=>by
    rcases qaJ h c ((zM c).mp h2) z with y | y
    .obtain⟨i,_,k⟩:=mem_stp.mp y;show h1 (ye k)
    .obtain⟨i,k,_⟩:=mem_stp.mp y;show h1 (ye k)
   rcases qco h2 with z | z
   .show .inl (.inl ⟨z,h1,d⟩)
   .show .inr (.inl ⟨z,d,h1⟩)
  .show .inl (.inr ⟨j,?_,g1,g2⟩);rcases YG j with z | z
   .show z
   .show absurd ((h.st j _ _ g1 g2).2.mpr z) h2
  .show .inr (.inr ⟨j,?_,g1,g2⟩);rcases YG j with z | z
   .show z
   .show absurd ((zM c).mp ((h.st j _ _ g1 g2).2.mpr z)) h2
theorem tl_go(g:PGo ss tps qs)(l:ss.length<=14)(inn:∀ a b,tA tps a b->a∈ss/\b∈ss/\a≠b)(h:Aug (tA tps) (pt qs) r):PGo ss tps (kpN qs (stp r)++nwN qs (stp r)):=by
 have d:∀ q∈kpN qs (stp r)++nwN qs (stp r),tA tps q.1 q.2:=fun q c=>by
  rcases yw.mp c with z | z
  .show(g.inn q ((qab h g.nd).mp z).1).1
  .obtain⟨j,_,f,i⟩:=(zd h g.nd).mp z;show(h.st j _ _ f i).1
 show⟨fun q c=>⟨d q c,inn _ _ (d q c)⟩,qd6 h g.nd,?_⟩
 have:=qbP (qd6 h g.nd) (m:=ss) fun s n=>by
  obtain⟨q,c,e⟩:=mem_names.mp n;rcases e with rfl | rfl
  .show(inn _ _ (d q c)).1
  .show(inn _ _ (d q c)).2.1
 rw[jC] at this;lk
theorem fl_pt(hw:WOk ss ns)(f:Adj ss ns tps)(i:∀ ab∈tps,ab.1∈ss/\ab.2∈ss/\ab.1≠ab.2)(e:PGo ss tps qs)(h:Aug (tA tps) (pt qs) r)(a b:Str):pt (flT (qB ss ns ss.length) qs r) a=some b↔flipR (pt qs) r a b:=by
 have d:=h.turn e.fn.sym;obtain⟨g,c⟩:=qd1 d;obtain⟨l,j⟩:=qdZ hw f i (qd2 d e.fn (qcr h.st) c) (L:=flT (qB ss ns ss.length) qs r) (fun a b=>by rw[qdf d,c]) xi;rw[j];show c a b
theorem tl_same(hw:WOk ss ns)(c:Adj ss ns tps)(d:∀ ab∈tps,ab.1∈ss/\ab.2∈ss/\ab.1≠ab.2){ps:LP}(g:PGo ss tps qs)(f:PGo ss tps ps)(e:pt qs=pt ps)(h:Aug (tA tps) (pt ps) r):pt (kpN qs (stp r)++nwN qs (stp r))=pt (flT (qB ss ns ss.length) ps r):=by
 funext a;show qcK fun b=>?_;rw[tl_flip g (by rw[e];show h),fl_pt hw c d f h,e]
theorem qfu(c:(qj qs).Nodup)(d:(qj rs).Nodup)(e:pt qs=pt rs):ioL ss qs ss.length=ioL ss rs ss.length:=io_congr fun a b _ _=>by
 rw[Y2,qeV c,qeV d,e]
theorem qeI(d:ss.Nodup)(g:PGo ss tps qs)(k:PGo ss tps rs)(a:MxF ss tps qs)(b:MxF ss tps rs):qs.length=rs.length:=by
 have c:∀{qs rs:LP},PGo ss tps qs->PGo ss tps rs->MxF ss tps qs->rs.length<=qs.length:=fun{qs rs} g k ⟨S,F⟩=>by
  have l:=qeC (f:=pt qs) (ss:=ss);have m:=qeC (f:=pt rs) (ss:=ss);have p:=g.cnt d;have r:=k.cnt d;have n:=F.most (qfs F.gr k.nd fun q e=>(k.inn q e).1)
  have o:(ss.filter fun u=>!(pt rs u).isSome&&(S.rows u).isSome).length<=(snL (pt rs) ss).length:=qbP (d.filter _) fun s h=>by
   obtain⟨i,j⟩:=yp.mp h;show yp.mpr ⟨i,(yY _ _ ▸ j).1⟩
  lk
 show xQ (c k g b) (c g k a)
end
theorem KY:FnScope ["_law_names_here","_law_ties_here","_law_found","_law_k"] ["_law_names_here","_law_ties_here"] (qg jX):=fS
inductive spIo(vs:List V)(H:Hp)(Q:VK)(E:XK):Prop|mk (n l:Addr) (ss:LS) (ts:LQ) (tps:LP) (_:vs=[.ref n,.ref l]) (_:H n=some (.lst (ss.map V.str))) (_:ss.length<=14) (_:PL H l ts tps) (_:∀(r:Addr) (ls:LQ) (H':Hp),L2.Same H H'->H r=none->H' r=some (.lst (ls.map V.ref))->All2 (PrAt H H' r) ls (ioL ss tps ss.length)->Q (.ref r) H')
theorem ok_io(F:Fun K "_law_in_order" "_law_in_order" jX f fd)(T:Txt K mg cc cw)(Ku:DefOk P w K mg base CX0 1 "_law_tied" ["_law_ties_here","_law_one","_law_other"] spTd):FnOk P w K mg base CX0 2 f fd ["_law_names_here","_law_ties_here"] spIo:=by
 show F.ok KY fun _ _ _ _ H vs Q E hr h=>?_
 .obtain⟨n,l,ss,ts,tps,rfl,hn,few,af,q⟩:=h;have hu:=jY hr;show⟨_,(qc (qq (i:=2) KY.nd rfl (yQ rfl) (qR qd))
 (qc (jq y0 rfl (jF rfl T.b_range (qa (qm (jj (K:=K) rfl) rfl T.b_len Yt (qa (pv 0) qd)) qd)) (qr (i:=3) KY.nd rfl (Xr rfl))
 (qe (qW (qbI (K:=K) rfl yU XE XF qaP (pv 2) (qa (jd (sc:=qg jX) (XN:=["_law_names_here","_law_ties_here","_law_found","_law_k"]) ["_law_other","_law_names_here","_law_k","_law_ties_here"] 1 [0,3,1] rfl rfl rfl (by room) rfl (by room)
  (qM (K:=K) rfl (jx (qdr (K:=K) rfl) (pv 0) (jp (qG (jU (K:=K) rfl) (pv 3) qi)) jZ)) (fun _ _ _ _=>(qr (i:=0) (show(["_law_other","_law_names_here","_law_k","_law_ties_here"]:LS).Nodup by room) rfl (yQ rfl))) qP
  (fun _ _ _ _=>(qU (qL (qp Ku (hmR hr) qz (qa (pv 3) (qa (qx (qy (K:=K) rfl hu) (pv 1) (pv 2) (fun _ _=>rfl)) (qa (pv 0) qd)))))))
  (fun _ _ _ _=>(zv (qa (qx (qy (K:=K) rfl hu) (pv 1) (pv 2) (fun _ _=>rfl)) (qa (pv 0) qd))))) qd)))))
 (qe (qo (pv 2))))),?_⟩
  apply⟨by decide,fun r B=>?_⟩;have s0:=qE (Sr H) (o:=.lst []) B;have er:upd H r (.lst []) r=some (.lst (([]:LQ).map V.ref)):=qb;generalize upd H r (.lst [])=G0 at s0 er ⊢;apply jO (s0 _ _ hn) ?_;ext;rw[ya];show⟨_,rfl,by lk,by lk,?_⟩;show zt (fun i σ H'=>∃(C:LQ) (x3:Option V),σ=[some (.ref n),some (.ref l),some (.ref r),x3]/\L2.Same H H'/\H' r=some (.lst (C.map V.ref))/\C.length<=i*14/\All2 (PrAt H H' r) C (ioL ss tps i)) ⟨[],none,rfl,s0,er,YX _,All2.nil⟩ (fun i σ H1 hi m=>?_) fun σ H1 m=>?_
  .obtain⟨C,x3,rfl,M,u,ac,c⟩:=m;have aa:i<ss.length:=by lk
   have Z:ss[i]?=some (ss.getD i ""):=by rw[yV,yb aa];rfl
   have ad:=M _ _ hn;apply⟨.inl ⟨rfl,_,SqL.of u⟩,?_⟩;rw[XZ];apply .inl ⟨n,_,rfl,SqL.of ad,fun p m=>?_⟩;rw[show(i:Int)+1=((i+1:Nat):Int) by lk,qbl,<- List.map_drop];have W:ioR ss tps i=((ss.drop (i+1)).filter fun o=>tB tps (ss.getD i "") o).map fun o=>(ss.getD i "",o):=rfl;have I:(ss.drop (i+1)).length<=14:=by rw[X6];lk
   generalize ss.drop (i+1)=d at W I;generalize ss.getD i ""=s at W Z;have S:=qE M (o:=.lst (d.map V.str)) m;have D:=qE (Sr H1) (o:=.lst (d.map V.str)) m;have ep:upd H1 p (.lst (d.map V.str)) p=some (.lst (d.map V.str)):=qb;generalize upd H1 p (.lst (d.map V.str))=H2 at S D ep ⊢;have X:=D _ _ u;show .inl ⟨⟨_,SqL.of ep⟩,qD (K:=K) (fun j ys H'=>L2.Same H2 H'/\∃ v:LQ,ys=v.map V.ref/\All2 (PrAt H H' r) v (((d.take j).filter fun o=>tB tps s o).map fun o=>(s,o))) ⟨L2.Same.refl H2,[],rfl,by rw[YO];show All2.nil⟩ (fun j ys H' _ m=>SqL.of (m.1 _ _ ep)) (fun j y ys R hy m=>?_) fun ys R m=>?_⟩
   .obtain⟨N,v,rfl,a⟩:=m;obtain⟨o,gj,rfl⟩:=jB hy;have hj:j<d.length:=(yc.mp gj).1;have A:=a.len;rw[ya] at A;have J:((d.take j).filter fun o=>tB tps s o).length<=j:=yi (yJ _ _) (by rw[yH];lk)
    have ag:((d.take (j+1)).filter fun o=>tB tps s o).map (fun o=>(s,o))=((d.take j).filter fun o=>tB tps s o).map (fun o=>(s,o))++if tB tps s o=true then [(s,o)] else []:=by
     rw[yG,gj,yX,yy];show _++([o].filter _).map _=_;rw[yS,Yn];split<;>rfl
    rw[ag];have L:=(S.trans N) _ _ hn;apply qbq L Z ?_;apply⟨l,ts,tps,s,o,rfl,af.same (S.trans N),fun H4 U=>⟨_,rfl,?_⟩⟩;have ae:=U _ _ L;have b:=N.trans U;show qI (fun ht=>?_) fun ht=>?_
    .ext;show qbq ae Z ?_;apply⟨(by decide:2<=sizeLine),fun t x=>?_⟩;have O:=qE (Sr H4) (o:=.tup [.str s,.str o]) x;show⟨by rw[ya];show qh (by lk),b.trans O,v++[t],by rw[yy];rfl,?_⟩;rw[yO ht];show All2.snoc (a.mono fun _ _ z=>(z.same U).same O) ⟨(S.trans b).free x,fun e=>?_,qb⟩;rw[e,b _ _ X] at x;cases x
    .show⟨b,v,rfl,?_⟩;rw[yE ht,Yb];show a.mono fun _ _ z=>z.same U
   .obtain⟨N,v,rfl,a⟩:=m;rw[show(d.map V.str).length=d.length from ya _,yP] at a;have A:=a.len;rw[ya] at A;have J:(d.filter fun o=>tB tps s o).length<=14:=yi (yJ _ _) I;rw[<- W] at a;show⟨by rw[ya];show yT (qh (by lk)),fun g hg=>?_⟩;have b:=qE (Sr R) (o:=.lst (v.map V.ref)) hg;have eg:upd R g (.lst (v.map V.ref)) g=some (.lst (v.map V.ref)):=qb;generalize upd R g (.lst (v.map V.ref))=H4 at b eg ⊢;have G:=D.trans (N.trans b);have Y:=G _ _ u;apply⟨r,g,_,_,rfl,rfl,Y,eg,by rw[ya,ya];show yT (qh (by have:i*14<=14*14:=kg 14 (by lk);lk)),?_⟩;show⟨C++v,_,rfl,qax (M.trans G) B,by rw[qb,yy],by rw[yu];lk,?_⟩;have eI:ioL ss tps (i+1)=ioL ss tps i++ioR ss tps i:=by unfold ioL;rw[Kc,xE];simp
    rw[eI];show All2.app9 (c.mono fun t ab z=>⟨z.1,z.2.1,?_⟩) (a.mono fun t ab z=>⟨z.1,z.2.1,?_⟩)
    .rw [qf z.2.1];show G _ _ z.2.2
    .rw [qf z.2.1];show b _ _ z.2.2
  .obtain⟨C,x3,rfl,M,u,ac,c⟩:=m;ext;rw[show Int.toNat ((ss.length:Nat):Int)=ss.length from YI _] at c;show q r C H1 M B u c
theorem uk:FnScope ["_law_names_here","_law_ties_here","_law_found","_law_ends"] ["_law_names_here","_law_ties_here","_law_found"] (qg ji):=fS
structure ToR(ss:LS)(tps rs:LP):Prop where
 io:rs=ioL ss rs ss.length
 nd:(qj rs).Nodup
 few:rs.length<=7
 inn:∀ q∈rs,q∈tps
inductive spAt(vs:List V)(H:Hp)(Q:VK)(E:XK):Prop|mk (n l x:Addr) (ss:LS) (ts ls:LQ) (tps rs:LP) (_:vs=[.ref n,.ref l,.ref x]) (_:H n=some (.lst (ss.map V.str))) (_:ss.length<=14) (_:PL H l ts tps) (_:PL H x ls rs) (_:ToR ss tps rs) (_:∀ H',L2.Same H H'->Q (.bl true) H')
theorem ok_at(F:Fun K "_law_are_told" "_law_are_told" ji f fd)(T:Txt K mg cc cw)(Kz:DefOk P w K mg base CX0 2 "_law_in_order" ["_law_names_here","_law_ties_here"] spIo):FnOk P w K mg base CX0 3 f fd ["_law_names_here","_law_ties_here","_law_found"] spAt:=by
 show F.ok uk fun _ _ _ _ H vs Q E hr h=>?_
 .obtain⟨n,l,x,ss,ts,D,tps,TL,rfl,hn,few,hl,hx,⟨af,ah,h7,ae⟩,q⟩:=h;have L:=jY hr;show⟨_,(qc (qN (PW.pt (zq (qS (qL (qm (zL (K:=K) rfl) rfl T.b_isinstance Yx (qa (pv 2) (qa (jm (v:=.ty "list") rfl T.b_list xp rfl) qd))))) (jM (qk (zw (K:=K) rfl L) (pv 2) (qp Kz (hmR hr) qz (qa (pv 0) (qa (pv 2) qd))) (qw _))))) (qe (qo jz)) qt)
 (qc (qq (i:=3) uk.nd rfl (yQ rfl) (qG (jU (K:=K) rfl) (jd (sc:=qg ji) (XN:=["_law_names_here","_law_ties_here","_law_found","_law_ends"]) ["_law_tie"] 1 [] rfl rfl rfl (by room) rfl (by room)
  (qM (K:=K) rfl (pv 2)) (fun _ _ _ _=>(qr (i:=0) (show(["_law_tie"]:LS).Nodup by room) rfl (yQ rfl))) qP
  (fun _ _ _ _=>jR)
  (fun _ _ _ _=>(qx (qy (K:=K) rfl L) (pv 0) qi (fun _ _=>rfl)))) (jd (sc:=qg ji) (XN:=["_law_names_here","_law_ties_here","_law_found","_law_ends"]) ["_law_tie"] 1 [] rfl rfl rfl (by room) rfl (by room)
  (qM (K:=K) rfl (pv 2)) (fun _ _ _ _=>(qr (i:=0) (show(["_law_tie"]:LS).Nodup by room) rfl (yQ rfl))) qP
  (fun _ _ _ _=>jR)
  (fun _ _ _ _=>(qx (qy (K:=K) rfl L) (pv 0) qi (fun _ _=>rfl))))))
 (qc (qN (qk (zw (K:=K) rfl L) (qm (jj (K:=K) rfl) rfl T.b_len Yt (qa (qm (k_sortS rfl) rfl T.b_sorted boot_sorted (qa (jr (k_setS (K:=K) rfl rfl) rfl T.b_set boot_set (qa (pv 3) qd)) qd)) qd)) (qm (jj (K:=K) rfl) rfl T.b_len Yt (qa (pv 3) qd)) (qw _)) (qe (qo jz)) qt)
 (qe (qo (jo (zV (K:=K) rfl L) (qm (jj (K:=K) rfl) rfl T.b_len Yt (qa (jd (sc:=qg ji) (XN:=["_law_names_here","_law_ties_here","_law_found","_law_ends"]) ["_law_tie","_law_ties_here"] 1 [1] rfl rfl rfl (by room) rfl (by room)
  (qM (K:=K) rfl (pv 2)) (fun _ _ _ _=>(qr (i:=0) (show(["_law_tie","_law_ties_here"]:LS).Nodup by room) rfl (yQ rfl))) qP
  (fun _ _ _ _=>(qU (PW.pt (qaU (qL (qm (zL (K:=K) rfl) rfl T.b_isinstance Yx (qa (pv 0) (qa (jm (v:=.ty "tuple") rfl T.b_tuple boot_tuple rfl) qd)))) (zP (qk (zT (K:=K) rfl L) (pv 0) (pv 1) (by with_unfolding_all rfl)))))))
  (fun _ _ _ _=>(pv 0))) qd)) (qm (jj (K:=K) rfl) rfl T.b_len Yt (qa (pv 2) qd)) (qw _))))))),?_⟩
  apply qaW (.inl (.lst hx.1)) rfl (j0 K "list" (by simp) "list" (by simp)) ?_;apply yq ?_;apply⟨n,x,ss,D,TL,rfl,hn,few,hx,fun r ks J s1 al ai R=>?_⟩;have B:=hx.same s1;show .inr (.inl ⟨x,r,true,2,rfl,rfl,by decide,qcn B ⟨ai,by rw[<- af] at R;show R.mono fun _ _ z=>z.2.2⟩,?_⟩);show⟨_,rfl,qI (fun h=>by cases h) fun _=>?_⟩;have g:=B.2.len;apply .inl ⟨⟨_,SqL.of B.1⟩,qD (K:=K) (fun j ys H'=>H'=J/\ys=((TL.take j).map (·.1)).map V.str) ⟨rfl,rfl⟩ (fun j ys H' _ b=>by rw[b.1];show SqL.of B.1) (fun j y ys Y s b=>?_) fun ys Y b=>?_⟩
  .obtain⟨rfl,rfl⟩:=b;rw[yd] at s;obtain⟨t,m,rfl⟩:=yn.mp s;have O:j<TL.length:=by rw[<- g];show(yc.mp m).1
   have a:TL[j]?=some TL[j]:=yb O;generalize TL[j]=ab at a;have I:=B.2.at_ j t ab m a;apply zr ?_;apply .inl (qaO I (i:=0) rfl ?_);show⟨by rw[ya,ya,yH];show qh (by lk),rfl,?_⟩;rw[yG,a,yy,yy];rfl
  .obtain⟨rfl,rfl⟩:=b;rw[show(D.map V.ref).length=TL.length by rw[ya,g],yP];show⟨by rw[ya,ya];show yT (qh (by lk)),fun fa ad=>?_⟩;have s4:=qE (Sr Y) (o:=.lst ((TL.map (·.1)).map V.str)) ad;have u:upd Y fa (.lst ((TL.map (·.1)).map V.str)) fa=some (.lst ((TL.map (·.1)).map V.str)):=qb;generalize upd Y fa (.lst ((TL.map (·.1)).map V.str))=H4 at s4 u ⊢;have C:=B.same s4;apply .inl ⟨⟨_,SqL.of C.1⟩,qD (K:=K) (fun j ys H'=>H'=H4/\ys=((TL.take j).map (·.2)).map V.str) ⟨rfl,rfl⟩ (fun j ys H' _ b=>by rw[b.1];show SqL.of C.1) (fun j y ys Z s b=>?_) fun ys Z b=>?_⟩
   .obtain⟨rfl,rfl⟩:=b;rw[yd] at s;obtain⟨t,m,rfl⟩:=yn.mp s;have O:j<TL.length:=by rw[<- g];show(yc.mp m).1
    have a:TL[j]?=some TL[j]:=yb O;generalize TL[j]=ab at a;have I:=C.2.at_ j t ab m a;apply zr ?_;apply .inl (qaO I (i:=1) rfl ?_);show⟨by rw[ya,ya,yH];show qh (by lk),rfl,?_⟩;rw[yG,a,yy,yy];rfl
   .obtain⟨rfl,rfl⟩:=b;rw[show(D.map V.ref).length=TL.length by rw[ya,g],yP];show⟨by rw[ya,ya];show yT (qh (by lk)),fun sa U=>?_⟩;have s5:=qE s4 (o:=.lst ((TL.map (·.2)).map V.str)) U;have G:=qE (Sr Z) (o:=.lst ((TL.map (·.2)).map V.str)) U;have A:upd Z sa (.lst ((TL.map (·.2)).map V.str)) sa=some (.lst ((TL.map (·.2)).map V.str)):=qb;generalize upd Z sa (.lst ((TL.map (·.2)).map V.str))=H5 at s5 G A ⊢;apply .inl ⟨fa,sa,_,_,rfl,rfl,G _ _ u,A,by rw[ya,ya,ya,ya];show yT (qh (by lk)),fun en ac=>?_⟩;have s6:=qE s5 (o:=.lst ((TL.map (·.1)).map V.str++(TL.map (·.2)).map V.str)) ac;have d:upd H5 en (.lst ((TL.map (·.1)).map V.str++(TL.map (·.2)).map V.str)) en=some (.lst ((TL.map (·.1)++TL.map (·.2)).map V.str)):=by rw[qb,yy]
    generalize upd H5 en (.lst ((TL.map (·.1)).map V.str++(TL.map (·.2)).map V.str))=H6 at s6 d ⊢;have aa:(TL.map (·.1)++TL.map (·.2)).length=2*TL.length:=by rw[yu,ya,ya];lk
    have M:(TL.map (·.1)++TL.map (·.2)).Nodup:=(qbC _).nodup_iff.mpr ah;generalize TL.map (·.1)++TL.map (·.2)=X at aa M d;apply⟨en,X,rfl,SqL.of d,M,by lk,fun st ak=>?_⟩;have s7:=qE (Sr H6) (o:=qfo st X) ak;apply⟨st,X,rfl,qb,by lk,by lk,fun so W aj ag=>?_⟩;have s8:=qE s7 (o:=.lst (W.map V.str)) aj;apply jO qb ?_;rw[ya,ag];apply jO (s8 _ _ d) ?_;rw[ya];apply qfr ?_;rw[yM rfl];apply yq ?_;have p:=s6.trans s8;have e:=B.same p;have S:=(hl.same s1).same p;generalize upd (upd H6 st (qfo st X)) so (.lst (W.map V.str))=H8 at p e S ⊢;clear s8 s7 s6 s5 G s4 d A u;apply .inl ⟨⟨_,SqL.of e.1⟩,qD (K:=K) (fun j ys H'=>H'=H8/\ys=(D.take j).map V.ref) ⟨rfl,rfl⟩ (fun j ys H' _ b=>by rw[b.1];show SqL.of e.1) (fun j y ys J3 s b=>?_) fun ys J3 b=>?_⟩
    .obtain⟨rfl,rfl⟩:=b;rw[yd] at s;obtain⟨t,m,rfl⟩:=yn.mp s;have O:j<TL.length:=by rw[<- g];show(yc.mp m).1
     have a:TL[j]?=some TL[j]:=yb O;have N:=ae _ (ye a);generalize TL[j]=ab at a N;have I:=e.2.at_ j t ab m a;apply qaW (.inl (.tup I)) rfl (j0 K "tuple" (by simp) "tuple" (by simp)) ?_;show⟨_,rfl,zr ?_⟩;apply qdS S I ?_;rw[yM N];show⟨_,rfl,zr ?_⟩;apply⟨by rw[ya,yH];show qh (by lk),rfl,?_⟩;rw[yG,m,yy];rfl
    .obtain⟨rfl,rfl⟩:=b;rw[show(D.map V.ref).length=D.length from ya _,yP];show⟨by rw[ya];show yT (qh (by lk)),fun c hc=>?_⟩;have s9:=qE (Sr J3) (o:=.lst (D.map V.ref)) hc;apply jO qb ?_;apply jO (s9 _ _ e.1) ?_;apply qd5 ?_;rw[yM rfl];show q _ ((s1.trans p).trans s9)
theorem KD:FnScope ["_law_web","_law_names_here","_law_ties_here","_law_pairs","_law_reached","_law_bar"] ["_law_web","_law_names_here","_law_ties_here","_law_pairs"] (qg jD):=fS
theorem mx_lo{a:Fo}{wt:LS}(h:FoD cf cw H0 H a ss ns qs S dn wt lo (tA tps))(g:PGo ss tps qs)(m:MxF ss tps qs):lo=.non:=by
 obtain⟨S2,F⟩:=m;rcases h.en with⟨e,_⟩ | ⟨t,r,_,_,_,b,_⟩
 .show e
 .show(F.none g b).elim
inductive spLg(cw:Addr)(vs:List V)(H:Hp)(Q:VK)(E:XK):Prop|mk (y n l u:Addr) (ss:LS) (ns:LN) (ts us:LQ) (tps qs:LP) (_:vs=[.ref y,.ref n,.ref l,.ref u]) (_:Wt cw H y ss ns tps) (_:H n=some (.lst (ss.map V.str))) (_:PL H l ts tps) (_:PL H u us qs) (_:PGo ss tps qs) (_:MxF ss tps qs) (_:∀ H',L2.Same H H'->Q (.bl true) H')
theorem ok_lg(F:Fun K "_law_greatest" "_law_greatest" jD f fd)(T:Txt K mg cc cw)(ug:MakeOk P w K mg base CX0 10 (cc 9) "Forest" ["self","web","pairs"] (spFi cc cw))(uD:MethOk P w K mg base CX0 2 (cc 9) "reached" ["self"] (spFd2 cc cw))(Ku:DefOk P w K mg base CX0 1 "_law_tied" ["_law_ties_here","_law_one","_law_other"] spTd)(Ur:DefOk P w K mg base CX0 3 "_law_odds" ["_law_names_here","_law_ties_here","_law_bar"] spOd)(ub:DefOk P w K mg base CX0 2 "_law_singles" ["_law_names_here","_law_pairs"] spSg):FnOk P w K mg base CX0 12 f fd ["_law_web","_law_names_here","_law_ties_here","_law_pairs"] (spLg cw):=by
 show F.ok KD fun _ _ _ s H vs Q E t h=>?_
 .obtain⟨y,n,l,u,ss,ns,ts,us,tps,qs,rfl,W,hn,hl,hq,hG,hM,q⟩:=h;have hu:=jY t;show⟨_,(qc (qq (i:=4) KD.nd rfl (Xr rfl) (jG uD (hmR t) (qaZ ug (hmR t) (qa (pv 0) (qa (pv 3) qd)))))
 (qc (qN (qk qfc (pv 4) jL (qw _)) (qe (qo jz)) qt)
 (qc (zS (sc:=qg jD) (XN:=["_law_web","_law_names_here","_law_ties_here","_law_pairs","_law_reached","_law_bar"]) ["_law_name","_law_reached"] 1 [4] rfl rfl rfl (by room) rfl (by room) (i:=5) KD.nd rfl rfl
  (qM (K:=K) rfl (pv 1)) (fun _ _ _ _=>(qr (i:=0) (show(["_law_name","_law_reached"]:LS).Nodup by room) rfl (yQ rfl))) qP
  (fun _ _ _ _=>(qU (qk (zj (K:=K) rfl hu) (pv 0) (pv 1) (by with_unfolding_all rfl))))
  (fun _ _ _ _=>(pv 0)))
 (qc (zS (sc:=qg jD) (XN:=["_law_web","_law_names_here","_law_ties_here","_law_pairs","_law_reached","_law_bar"]) ["_law_name","_law_reached","_law_ties_here"] 1 [4,2] rfl rfl rfl (by room) rfl (by room) (i:=5) KD.nd rfl rfl
  (qM (K:=K) rfl (pv 5)) (fun _ _ _ _=>(qr (i:=0) (show(["_law_name","_law_reached","_law_ties_here"]:LS).Nodup by room) rfl (Xr rfl))) qP
  (fun _ _ _ _=>(qU (qk (zw (K:=K) rfl hu) (pe_compIn ["_law_other","_law_ties_here","_law_name"] 1 [2,0] rfl (by room) rfl (by room)
  (qM (K:=K) rfl (pv 1)) (fun _ _ _ _=>(qr (i:=0) (show(["_law_other","_law_ties_here","_law_name"]:LS).Nodup by room) rfl (yQ rfl))) qP
  (fun _ _ _ _=>(qU (qL (qp Ku (hmR t) qz (qa (pv 1) (qa (pv 2) (qa (pv 0) qd)))))))
  (fun _ _ _ _=>(pv 0))) (qR qd) (qw _))))
  (fun _ _ _ _=>(pv 0)))
 (qe (qo (jo (zV (K:=K) rfl hu) (qG qbu (qm (jj (K:=K) rfl) rfl T.b_len Yt (qa (qp Ur (hmR t) qz (qa (pv 1) (qa (pv 2) (qa (pv 5) qd)))) qd)) (qm (jj (K:=K) rfl) rfl T.b_len Yt (qa (pv 5) qd))) (qm (jj (K:=K) rfl) rfl T.b_len Yt (qa (qp ub (hmR t) qz (qa (pv 1) (qa (pv 3) qd))) qd)) (qw _)))))))),?_⟩
  have few:=W.wok.few;have ah:=W.wok.nd;apply fun x dx hx ae ai=>qeU W hq hG hx ae ai fun H0 H1 fo S dn wt lo ex hD s1=>⟨rfl,?_⟩;subst ex;have ag:=mx_lo hD hG hM;subst ag;have hN:=(qfq hD (W.wb hG)).nnN;show hD.fo.obj.me (by decide) ?_;apply⟨H0,fo,ss,ns,qs,S,dn,wt,_,tA tps,rfl,hD,few,(fun z=>absurd rfl z),fun _ x H2 ap ax d=>?_⟩;have s2:=s1.trans ap;have d:H2 x=some (.lst ((rdN ss S).map V.str)):=d;have N:(rdN ss S).length<=14:=yi (yJ _ _) few;generalize rdN ss S=rs at hN d N;have L:=s2 _ _ hn;apply⟨_,rfl,qI (fun h=>by simp at h) fun _=>?_⟩;apply .inl ⟨⟨_,SqL.of L⟩,qD (K:=K) (fun j ys H'=>H'=H2/\ys=(zN (ss.take j) rs).map V.str) ⟨rfl,by rw[YO];rfl⟩ (fun j ys H' _ a=>by rw[a.1];show SqL.of L) (fun j y ys H7 hy a=>?_) fun ys H7 a=>?_⟩
  .obtain⟨rfl,rfl⟩:=a;obtain⟨o,A,rfl⟩:=jB hy;have D:j<ss.length:=(yc.mp A).1;have af:(zN (ss.take j) rs).length<=j:=yi (yJ _ _) (by rw[yH];lk)
   have b:zN (ss.take (j+1)) rs=zN (ss.take j) rs++if (!decide (o∈rs))=true then [o] else []:=by
    unfold zN;rw[yG,A,yX];show _++[o].filter _=_;rw[yS,Yn]
   rw[b];apply .inl ⟨x,_,rfl,.inl (SqL.of d),rfl,zZ rs,?_⟩;rw[qaR];ext
   cases hd:decide (o∈rs) with
   | true=>show qI (fun h=>by cases h) fun _=>⟨rfl,by simp⟩
   | false =>
    show zr ?_;apply⟨by rw[ya];show qh (by lk),rfl,by simp⟩
  .obtain⟨rfl,rfl⟩:=a;rw[show(ss.map V.str).length=ss.length from ya _,yP];have ak:(zN ss rs).length<=14:=yi (yJ _ _) few;show⟨by rw[ya];show yT (qh (by lk)),fun b1 C=>?_⟩;have s3:=qE s2 (o:=.lst ((zN ss rs).map V.str)) C;have U:=qE (Sr H7) (o:=.lst ((zN ss rs).map V.str)) C;have g:upd H7 b1 (.lst ((zN ss rs).map V.str)) b1=some (.lst ((zN ss rs).map V.str)):=qb;generalize upd H7 b1 (.lst ((zN ss rs).map V.str))=H3 at s3 U g ⊢;have an:=U _ _ d;apply .inl ⟨⟨_,SqL.of g⟩,qD (K:=K) (fun j ys H'=>L2.Same H3 H'/\ys=(((zN ss rs).take j).filter fun s=>!(rs.filter fun o=>tB tps s o).isEmpty).map V.str) ⟨L2.Same.refl H3,by rw[YO];rfl⟩ (fun j ys H' _ a=>SqL.of (a.1 _ _ g)) (fun j y ys v hy a=>?_) fun ys v a=>?_⟩
   .obtain⟨X,rfl⟩:=a;obtain⟨o,A,rfl⟩:=jB hy;have D:j<(zN ss rs).length:=(yc.mp A).1;have O:=X _ _ an;have af:(((zN ss rs).take j).filter fun s=>!(rs.filter fun o=>tB tps s o).isEmpty).length<=j:=yi (yJ _ _) (by rw[yH];lk)
    have b:(((zN ss rs).take (j+1)).filter fun s=>!(rs.filter fun o=>tB tps s o).isEmpty)=(((zN ss rs).take j).filter fun s=>!(rs.filter fun o=>tB tps s o).isEmpty)++if (!(rs.filter fun z=>tB tps o z).isEmpty)=true then [o] else []:=by
     rw[yG,A,yX];show _++[o].filter _=_;rw[yS,Yn]
    rw[b];apply .inl ⟨⟨_,SqL.of O⟩,qD (K:=K) (fun i zs H'=>L2.Same v H'/\zs=((rs.take i).filter fun z=>tB tps o z).map V.str) ⟨L2.Same.refl v,by rw[YO];rfl⟩ (fun i zs H' _ a=>SqL.of (a.1 _ _ O)) (fun i z zs J hz a=>?_) fun zs J a=>?_⟩
    .obtain⟨Y,rfl⟩:=a;obtain⟨c,gc,rfl⟩:=jB hz;have ar:i<rs.length:=(yc.mp gc).1;have I:((rs.take i).filter fun z=>tB tps o z).length<=i:=yi (yJ _ _) (by rw[yH];lk);rw[yG,gc,yX];apply⟨l,ts,tps,o,c,rfl,(hl.same (s3.trans X)).same Y,fun J2 Z=>⟨_,rfl,qI (fun ho=>?_) fun ho=>?_⟩⟩
     .ext;show⟨by rw[ya];show qh (by lk),Y.trans Z,?_⟩;rw[show(some c).toList=[c] from rfl,yS,yO ho,yy];rfl
     .show⟨Y.trans Z,?_⟩;rw[show(some c).toList=[c] from rfl,yS,yE ho,Yn,Yb]
    .obtain⟨Y,rfl⟩:=a;rw[show(rs.map V.str).length=rs.length from ya _,yP];have I:(rs.filter fun z=>tB tps o z).length<=14:=yi (yJ _ _) N;show⟨by rw[ya];show yT (qh (by lk)),fun p a=>?_⟩;have sp:=qE (X.trans Y) (o:=.lst ((rs.filter fun z=>tB tps o z).map V.str)) a;have ep:upd J p (.lst ((rs.filter fun z=>tB tps o z).map V.str)) p=some (.lst ((rs.filter fun z=>tB tps o z).map V.str)):=qb;generalize upd J p (.lst ((rs.filter fun z=>tB tps o z).map V.str))=J1 at sp ep ⊢;apply⟨by decide,fun z hz=>?_⟩;have sz:=qE sp (o:=.lst []) hz;have aa:=qE (Sr J1) (o:=.lst []) hz;have ez:upd J1 z (.lst []) z=some (.lst []):=qb;generalize upd J1 z (.lst [])=J2 at sz aa ez ⊢;show qdR (aa _ _ ep) ez ?_;show⟨_,rfl,?_⟩;rw[List.isEmpty_map]
     cases he:(rs.filter fun z=>tB tps o z).isEmpty with
     | true=>show qI (fun h=>by cases h) fun _=>⟨sz,by simp⟩
     | false =>
      show zr ?_;apply⟨by rw[ya];show qh (by lk),sz,by simp⟩
   .obtain⟨X,rfl⟩:=a;rw[show((zN ss rs).map V.str).length=(zN ss rs).length from ya _,yP];have au:(brN ss tps rs).length<=14:=yi (yJ _ _) ak;show⟨by rw[ya];show yT (qh (show(brN ss tps rs).length<=1000 by lk)),fun b2 ad=>?_⟩
    change _
    have aq:=s3.trans X;have s9:=qE aq (o:=.lst ((brN ss tps rs).map V.str)) ad;have m:upd v b2 (.lst ((brN ss tps rs).map V.str)) b2=some (.lst ((brN ss tps rs).map V.str)):=qb;have M:=hN.odd;have eB:((zN ss rs).filter fun s=>!(rs.filter fun o=>tB tps s o).isEmpty)=brN ss tps rs:=rfl;rw[eB];generalize upd v b2 (.lst ((brN ss tps rs).map V.str))=H9 at s9 m ⊢;apply⟨n,l,b2,ss,brN ss tps rs,ts,tps,rfl,s9 _ _ hn,ah,few,hl.same s9,m,fun od ls pss G R as aj B am=>?_⟩;obtain⟨av,aw⟩:=M pss am;have r:=B.len;have e:=s9.trans R;apply jO aj ?_;rw[ya,r];apply jO (R _ _ m) ?_;rw[ya];apply⟨n,u,ss,us,qs,rfl,e _ _ hn,few,hq.same e,fun al ac=>?_⟩;have ao:=qE e (o:=.lst ((sgl ss qs).map V.str)) ac;apply jO qb ?_;rw[ya];apply qd5 ?_;rw[yM (by lk)];show q _ ao
theorem ua:FnScope ["_law_names_here","_law_ties_here","_law_pairs","_law_rows","_law_now","_law_row"] ["_law_names_here","_law_ties_here","_law_pairs","_law_rows"] (qg qa8):=fS
theorem atI_lastV{c:V}(h:xs≠[])(e:xs[xs.length-1]?=some c):atI xs (-1)=some c:=by
 have:0<xs.length:=ky.mpr h;unfold atI
 have a:ixN xs.length (-1)=some (xs.length-1):=by
  unfold ixN;rw[yE (by decide),yO (by lk)]
  congr 1
  lk
 rw[a];show e
noncomputable def tlN(qs:LP)(r:LS):LP:=kpN qs (stp r)++nwN qs (stp r)
noncomputable def goN:LP->List (LS)->LP
 | qs,[]=>qs
 | qs,r::ro=>goN (tlN qs r) ro
inductive GoK(ss:LS)(tps:LP):LP->List (LS)->Prop
 | nil {qs:LP}:PGo ss tps qs->GoK ss tps qs []
 | cons {qs:LP} {r:LS} {ro:List (LS)}:PGo ss tps qs->Aug (tA tps) (pt qs) r->r.length<=14->GoK ss tps (tlN qs r) ro->GoK ss tps qs (r::ro)
section
variable{ss:LS}{ns:LN}{tps:LP}
theorem Aug.few{f:Str->Option Str}(h:Aug (tA tps) f r)(inn:∀ a b,tA tps a b->a∈ss/\b∈ss/\a≠b):r.length<=ss.length:=qbP h.nd fun s j=>by
 obtain⟨i,e,c⟩:=YW j;have g:r[i]?=some s:=by rw[yb e,c]
 have:=h.two;by_cases z:i+1<r.length
 .show(inn _ _ (h.st i _ _ g (yb z)).1).1
 .have d:r[i-1]?=some r[i-1]:=yb (by lk);show(inn _ _ (h.st (i-1) _ _ d (by rw[show i-1+1=i by lk];show g)).1).2.1
theorem GfR.gok(hw:WOk ss ns)(j:Adj ss ns tps)(d:∀ ab∈tps,ab.1∈ss/\ab.2∈ss/\ab.1≠ab.2){ps rs:LP}(h:GfR ss ns tps ps ro rs):∀{qs:LP},PGo ss tps ps->PGo ss tps qs->pt qs=pt ps->GoK ss tps qs ro/\PGo ss tps (goN qs ro)/\pt (goN qs ro)=pt rs:=by
 have inn:∀ a b,tA tps a b->a∈ss/\b∈ss/\a≠b:=fun a b z=>z.elim (fun y=>d _ y) fun y=>⟨(d _ y).2.1,(d _ y).1,(d _ y).2.2.symm⟩
 induction h with
 | nil _ =>
  intro qs _ g e;show⟨.nil g,g,e⟩
 | on _ au _ ih =>
  intro qs i f e;have hl:=au.few inn;have l:=hw.few;have c:=au;rw[<- e] at c;obtain⟨m,n,o⟩:=ih (qd3 hw j d i au (by lk)).1 (tl_go f l inn c) (tl_same hw j d f i e au);show⟨.cons f c (by lk) m,n,o⟩
end
inductive spGo(vs:List V)(H:Hp)(Q:VK)(E:XK):Prop|mk (n l u r2:Addr) (ss:LS) (ts us:LQ) (tps qs:LP) (ws:List V) (ro:List (LS)) (_:vs=[.ref n,.ref l,.ref u,.ref r2]) (_:PL H l ts tps) (_:PL H u us qs) (_:H r2=some (.lst ws)) (_:All2 (RoA r2 H) ws ro) (_:GoK ss tps qs ro) (_:∀(g:Addr) (ls:LQ) (H':Hp),L2.Same H H'->PL H' g ls (goN qs ro)->Q (.ref g) H')
theorem ok_go(F:Fun K "_law_gone" "_law_gone" qa8 f fd)(T:Txt K mg cc cw)(Ue:DefOk P w K mg base CX0 2 "_law_is_row" ["_law_ties_here","_law_pairs","_law_row"] spIrL)(S:DefOk P w K mg base CX0 1 "_law_partner" ["_law_pairs","_law_name"] spPa)(Uf:DefOk P w K mg base CX0 2 "_law_turned" ["_law_names_here","_law_pairs","_law_row"] spTuL):FnOk P w K mg base CX0 3 f fd ["_law_names_here","_law_ties_here","_law_pairs","_law_rows"] spGo:=by
 show F.ok ua fun _ _ _ _ H vs Q E p h=>?_
 .obtain⟨n,l,u,r2,ss,ts,us,tps,qs,ws,ro,rfl,hl,Y,B,s,hK,q⟩:=h;have N:=jY p;show⟨_,(qc (qq (i:=4) ua.nd rfl (yQ rfl) (jr (zU (K:=K) rfl rfl) rfl T.b_list xp (qa (pv 2) qd)))
 (qc (jq y0 rfl (qM (K:=K) rfl (pv 3)) (qr (i:=5) ua.nd rfl (yQ rfl))
 (qc (qN (PW.pt (zq (qS (qL (qp Ue (hmR p) qz (qa (pv 1) (qa (pv 4) (qa (pv 5) qd)))))) (jM (qk (zV (K:=K) rfl N) (qG zu (qm (jj (K:=K) rfl) rfl T.b_len Yt (qa (pv 5) qd)) qi) qi (qw _))))) (qe (qo jL)) qt)
 (qc (qN (PW.pt (zq (qk qbb (qp S (hmR p) qz (qa (pv 4) (qa (qx (qy (K:=K) rfl N) (pv 5) qi (fun _ _=>rfl)) qd))) jL (qw _)) (jM (qk qbb (qp S (hmR p) qz (qa (pv 4) (qa (qx (qy (K:=K) rfl N) (pv 5) (qba zQ qi) (fun _ _=>rfl)) qd))) jL (qw _))))) (qe (qo jL)) qt)
 (qe (qq (i:=4) ua.nd rfl (yQ rfl) (qp Uf (hmR p) qz (qa (pv 0) (qa (pv 4) (qa (pv 5) qd)))))))))
 (qe (qo (pv 4))))),?_⟩
  apply .inl ⟨u,_,rfl,.inl (SqL.of Y.1),fun c hc=>?_⟩;have G:=qE (Sr H) (o:=.lst (us.map V.ref)) hc;have v:PL (upd H c (.lst (us.map V.ref))) c us qs:=⟨qb,(Y.same G).2⟩;generalize upd H c (.lst (us.map V.ref))=H1 at G v;apply .inl ⟨⟨_,SqL.of (G _ _ B)⟩,jc (K:=K) (fun j I H'=>L2.Same H H'/\∃(g:Addr) (ks:LQ) (d:LP) (R:Option V),I=[some (.ref n),some (.ref l),some (.ref u),some (.ref r2),some (.ref g),R]/\PL H' g ks d/\goN qs ro=goN d (ro.drop j)/\GoK ss tps d (ro.drop j)) ⟨G,c,us,qs,_,rfl,v,rfl,hK⟩ (fun j I H' _ A=>SqL.of (A.1 _ _ B)) (fun j y I H2 Z A=>?_) fun I H2 A=>?_⟩
  .obtain⟨C,g,ks,d,R,rfl,t,en,L⟩:=A;have X:j<ro.length:=by rw[<- s.len];show(yc.mp Z).1
   obtain⟨r,p⟩:∃ r,ro[j]?=some r:=⟨_,yb X⟩
   have J:ro.drop j=r::ro.drop (j+1):=by
    rw[Xy X,(yc.mp p).2]
   rw[J] at en L;obtain⟨x,rfl,_,ex⟩:=(s.at_ j y r Z p).same C
   cases L with
   | cons hG au h14 hk2 =>
   have hR:RwN tps d r:=Aug.rwN au (fun a b z=>tB_tA.mpr z) (fun a b z=>(zM hG.nd).mp z) h14;have h2:=au.two;have aa:=au.ev;obtain⟨a,U⟩:∃ a,r[0]?=some a:=⟨_,yb (by lk)⟩;obtain⟨b,W⟩:∃ b,r[r.length-1]?=some b:=⟨_,yb (by lk)⟩;apply⟨l,g,x,ts,ks,tps,d,r,rfl,hl.same C,t,ex,hR,fun H3 D=>?_⟩;show⟨_,rfl,qI (fun h=>by cases h) fun _=>?_⟩;have m:=D _ _ ex;apply jO m ?_;rw[ya];apply vI (by decide) ?_;apply qd5 ?_;rw[yl (by lk)];apply yq ?_;apply qbq (k:=0) m U ?_;apply⟨g,ks,d,a,rfl,t.same D,?_⟩;unfold ptV;rw[au.hd a U];show⟨rfl,⟨_,rfl,qI (fun h=>by cases h) fun _=>?_⟩⟩;apply⟨1,rfl,?_⟩;have M:atI (r.map V.str) (-1)=some (.str b):=atI_lastV (fun e=>by have:=congrArg List.length e;rw[ya,xB] at this;lk) (by rw[ya,yd,W];rfl);show .inl (qau m M ?_);apply⟨g,ks,d,b,rfl,t.same D,?_⟩;unfold ptV;rw[au.tl b W];show⟨rfl,⟨_,rfl,qI (fun h=>by cases h) fun _=>?_⟩⟩;apply⟨n,g,x,ks,d,r,rfl,t.same D,hG.few,m,by lk,h14,fun g2 O H4 s4 _ hB=>?_⟩;show⟨(C.trans D).trans s4,g2,O,_,_,rfl,hB,en,hk2⟩
  .obtain⟨C,g,ks,d,R,rfl,t,en,L⟩:=A;rw[s.len,X8] at en;apply q g ks H2 C (by rw[en];show t)
theorem KB:FnScope ["_law_web","_law_names_here","_law_ties_here","_law_pairs","_law_handed","_law_told","_law_found","_law_rows","_law_now"] ["_law_web","_law_names_here","_law_ties_here","_law_pairs"] (qg qaK):=fS
theorem qfv{c:TE}{b:TGs}{D:Ends}{a:L2.St}(h:c a H fun x H1=>qfw K n b x a H1 D.nx):qeW c (qfw K n b) D a H:=h
structure WtO(cw:Addr)(H:Hp)(y n l:Addr)(ss:LS)(ns:LN)(ts:LQ)(tps:LP):Prop where
 wt:Wt cw H y ss ns tps
 n:H n=some (.lst (ss.map V.str))
 l:PL H l ts tps
 o:∀ q∈qB ss ns ss.length,q∈tps
theorem WtO.same{y n:Addr}(h:WtO cw H y n l ss ns ts tps)(s:L2.Same H H'):WtO cw H' y n l ss ns ts tps:=⟨h.wt.same s,s _ _ h.n,h.l.same s,h.o⟩
theorem GfR.tor{y n:Addr}{rs:LP}(h:WtO cw H y n l ss ns ts tps)(g:PGo ss tps rs)(k:GfR ss ns tps (qav (qB ss ns ss.length) qs) ro rs):ToR ss tps rs:=by
 obtain⟨p,e⟩:=k.fil ⟨_,rfl⟩;show⟨qft h.wt.wok h.wt.adj e,g.nd,?_,fun q a=>h.o q ?_⟩
 .have:=g.cnt h.wt.wok.nd;have b:qeB (pt rs) ss<=ss.length:=yJ _ _;have:=h.wt.wok.few;lk
 .rw [e] at a;show(yp.mp a).1
inductive spLr(cw:Addr)(vs:List V)(H:Hp)(Q:VK)(E:XK):Prop|mk (y n l u:Addr) (ss:LS) (ns:LN) (ts us:LQ) (tps qs:LP) (_:vs=[.ref y,.ref n,.ref l,.ref u]) (_:WtO cw H y n l ss ns ts tps) (_:PL H u us qs) (_:PGo ss tps qs) (_:∀ H',L2.Same H H'->Q (.bl true) H')
theorem ok_lr(F:Fun K "_law_right" "_law_right" qaK f fd)(T:Txt K mg cc cw)(Kq:DefOk P w K mg base CX0 13 "greatest_from" ["web","pairs"] (spGf cw))(K6:DefOk P w K mg base CX0 3 "_law_are_told" ["_law_names_here","_law_ties_here","_law_found"] spAt)(Us:DefOk P w K mg base CX0 3 "_law_gone" ["_law_names_here","_law_ties_here","_law_pairs","_law_rows"] spGo)(Kz:DefOk P w K mg base CX0 2 "_law_in_order" ["_law_names_here","_law_ties_here"] spIo)(K7:DefOk P w K mg base CX0 12 "_law_greatest" ["_law_web","_law_names_here","_law_ties_here","_law_pairs"] (spLg cw)):FnOk P w K mg base CX0 14 f fd ["_law_web","_law_names_here","_law_ties_here","_law_pairs"] (spLr cw):=by
 show F.ok KB fun _ _ _ _ H vs Q E m h=>?_
 .obtain⟨y,n,l,u,ss,ns,ts,us,tps,qs,rfl,W,J,U,q⟩:=h;have C:=jY m;have few:=W.wt.wok.few;show⟨_,(qc (qq (i:=4) KB.nd rfl (yQ rfl) (jr (zU (K:=K) rfl rfl) rfl T.b_list xp (qa (pv 3) qd)))
 (qc (qq (i:=5) KB.nd rfl (yQ rfl) (qp Kq (hmR m) qz (qa (pv 0) (qa (pv 4) qd))))
 (qc (qN (PW.pt (zq (qS (qL (qm (zL (K:=K) rfl) rfl T.b_isinstance Yx (qa (pv 5) (qa (jm (v:=.ty "tuple") rfl T.b_tuple boot_tuple rfl) qd))))) (zq (qk (zw (K:=K) rfl C) (qm (jj (K:=K) rfl) rfl T.b_len Yt (qa (pv 5) qd)) qi (qw _)) (jM (qk (zw (K:=K) rfl C) (pv 4) (pv 3) (qw _)))))) (qe (qo jz)) qt)
 (qc (j4 (pv 5) (qcS rfl (zf (qr (i:=6) KB.nd rfl (yQ rfl)) (zf (qr (i:=7) KB.nd rfl (yQ rfl)) qbF))))
 (qc (qN (PW.pt (zq (qS (qL (qp K6 (hmR m) qz (qa (pv 1) (qa (pv 2) (qa (pv 6) qd)))))) (jM (qS (qL (qm (zL (K:=K) rfl) rfl T.b_isinstance Yx (qa (pv 7) (qa (jm (v:=.ty "list") rfl T.b_list xp rfl) qd)))))))) (qe (qo jz)) qt)
 (qc (qq (i:=8) KB.nd rfl (yQ rfl) (qp Us (hmR m) qz (qa (pv 1) (qa (pv 2) (qa (pv 3) (qa (pv 7) qd))))))
 (qc (qN (PW.pt (zq (qk qfc (pv 8) jL (qw _)) (jM (qk (zw (K:=K) rfl C) (pv 6) (qp Kz (hmR m) qz (qa (pv 1) (qa (pv 8) qd))) (qw _))))) (qe (qo jz)) qt)
 (qc (qN (PW.pt (zq (qk (zw (K:=K) rfl C) (qm (jj (K:=K) rfl) rfl T.b_len Yt (qa (pv 8) qd)) (qm (jj (K:=K) rfl) rfl T.b_len Yt (qa (pv 6) qd)) (qw _)) (jM (qk (zw (K:=K) rfl C) (qm (jj (K:=K) rfl) rfl T.b_len Yt (qa (pv 6) qd)) (qG (jU (K:=K) rfl) (qm (jj (K:=K) rfl) rfl T.b_len Yt (qa (pv 3) qd)) (qm (jj (K:=K) rfl) rfl T.b_len Yt (qa (pv 7) qd))) (qw _))))) (qe (qo jz)) qt)
 (qe (qo (qp K7 (hmR m) qz (qa (pv 0) (qa (pv 1) (qa (pv 2) (qa (pv 6) qd))))))))))))))),?_⟩
  apply .inl ⟨u,_,rfl,.inl (SqL.of J.1),fun c hc=>?_⟩;have L:=qE (Sr H) (o:=.lst (us.map V.ref)) hc;have e:PL (upd H c (.lst (us.map V.ref))) c us qs:=⟨qb,(J.same L).2⟩;generalize upd H c (.lst (us.map V.ref))=H1 at L e;apply⟨y,c,ss,ns,us,tps,qs,rfl,W.wt.same L,e,U,fun t l2 r2 ls ws ro rs H2 D S _ _ _ s Y aa ag I mx gf=>?_⟩;have s2:=L.trans D;have B:=gf.tor W I;obtain⟨ad,ae⟩:=qd0 W.wt.wok W.wt.adj W.wt.ok U;obtain⟨gk,gn,gp⟩:=gf.gok W.wt.wok W.wt.adj W.wt.ok ad U ae.symm;have N:=W.same s2;have x:=J.same s2;apply qaW (.inl (.tup S)) rfl (j0 K "tuple" (by simp) "tuple" (by simp)) ?_;apply yq ?_;apply .inl ⟨_,.inr (SqT.of S),?_⟩;apply qfr ?_;rw[yM (show(([V.ref l2,V.ref r2].length:Nat):Int)=2 from rfl)];show⟨_,rfl,qI (fun h=>by cases h) fun _=>?_⟩;apply .inr (.inl ⟨c,u,true,2,rfl,rfl,by decide,qcn (e.same D) x,?_⟩);show⟨_,rfl,qI (fun h=>by cases h) fun _=>?_⟩;apply qfv ?_;apply⟨t,_,rfl,SqT.of S,rfl,_,_,rfl,_,_,rfl,rfl,?_⟩;apply⟨n,l,l2,ss,ts,ls,tps,rs,rfl,N.n,few,N.l,s,B,fun H3 p=>?_⟩;show⟨_,rfl,qI (fun h=>by cases h) fun _=>?_⟩;have b:=p _ _ Y;apply qaW (.inl (.lst b)) rfl (j0 K "list" (by simp) "list" (by simp)) ?_;apply yq ?_;have ac:=s2.trans p;apply⟨n,l,u,r2,ss,ts,us,tps,qs,ws,ro,rfl,N.l.same p,x.same p,b,aa.mono (fun _ _ z=>z.same p),gk,fun g ks H4 s4 hg=>?_⟩;have G:=ac.trans s4;have X:=(s.same p).same s4;apply⟨_,rfl,qI (fun h=>by simp at h) fun _=>?_⟩;apply⟨n,g,ss,ks,goN qs ro,rfl,G _ _ W.n,few,hg,fun r5 ah H5 M _ Z d=>?_⟩;have R:ioL ss (goN qs ro) ss.length=rs:=(qfu gn.nd I.nd gp).trans B.io.symm;rw[R] at d;have a:=X.same M;show .inr (.inl ⟨l2,r5,true,2,rfl,rfl,by decide,qcn a ⟨Z,d.mono fun _ _ z=>z.2.2⟩,?_⟩);show⟨_,rfl,qI (fun h=>by cases h) fun _=>?_⟩;have j:=G.trans M;have r:=hg.same M
  have af:(goN qs ro).length=rs.length:=by
   have c1:=gn.cnt W.wt.wok.nd;have c2:=I.cnt W.wt.wok.nd;rw[gp] at c1;lk
  apply jO r.1 ?_;rw[ya,r.2.len];apply jO a.1 ?_;rw[ya,a.2.len];apply qfr ?_;rw[yM (by lk)];show⟨_,rfl,qI (fun h=>by cases h) fun _=>?_⟩;apply jO a.1 ?_;rw[ya,a.2.len];ext;have A:=J.same j;show jO A.1 ?_;rw[ya,A.2.len];apply jO ((s4.trans M) _ _ b) ?_;apply qfr ?_;rw[yM (by lk)];show⟨_,rfl,qI (fun h=>by cases h) fun _=>?_⟩;ext;have O:=W.same j;show⟨y,n,l,l2,ss,ns,ts,ls,tps,rs,rfl,O.wt,O.n,O.l,a,I,mx,fun H6 s6=>q H6 (j.trans s6)⟩
theorem KA:FnScope ["_law_script","_law_k","_law_box_here","_law_names_here","_law_ties_here","_law_web","_law_pairs","_law_found","_law_many","_law_kept"] ["_law_script"] (qg qcN):=fS
theorem wt_new{y:Addr}(h:WebN H0 cw H y ss ns)(e:qbo ss ns kps)(g:TGo ss kps):Wt cw H y ss ns kps:=
 ⟨h.web,fun a b s t d c=>by rw[e.2.2 a b s t d c,Yj],g.inn⟩
structure Wq(p cw:Addr)(H:Hp)(x:Addr)(ss:LS)(ns:LN)(tps:LP):Prop where
 web:WebP (fun a=>a=p) cw H x ss ns
 adj:Adj ss ns tps
 ok:∀ ab∈tps,ab.1∈ss/\ab.2∈ss/\ab.1≠ab.2
section
variable{p cw x:Addr}{H H':Hp}{ss:LS}{ns:LN}{tps:LP}
theorem Wq.wt(h:Wq p cw H x ss ns tps):Wt cw H x ss ns tps:=⟨h.web.web,h.adj,h.ok⟩
theorem Wq.bb(h:Wq p cw H x ss ns tps)(b:BB p H H'):Wq p cw H' x ss ns tps:=⟨h.web.keep fun c o n e=>b.1 c o n e,h.adj,h.ok⟩
end
theorem tok_go(c:ss.Nodup)(h:TOk ss tps):TGo ss tps:=by
 show⟨h.few,fun ab b=>?_,Y1 (fun{q r} i m d=>⟨d,fun z=>?_⟩) h.nd⟩
 .obtain⟨j,k,l,h1,a⟩:=h.ok ab b;show⟨ye h1,ye a,fun e=>by rw[e] at h1;have:=qv c h1 a;lk⟩
 .obtain⟨j,k,l,h1,a⟩:=h.ok q i;obtain⟨n,k',l',f,g⟩:=h.ok r m;rw[z] at h1 a;have:=qv c h1 g;have:=qv c a f;lk
theorem wmake{m y:Addr}{Q:VK}(F:G m=some (.lst (ss.map V.str)))(g:ss.length<=14)(nd:ss.Nodup)(H:∀ s∈ss,zG s=true)(C:PL G l us kps)(j:TGo ss kps)(p:G y=none)(D:G dx=none)(i:dx≠y)
  (h:∀ ns H2,L2.Same G H2->WebN G cw H2 y ss ns->Wt cw H2 y ss ns kps->Q .non H2):spWeb cw [.ref y,.ref m,.ref l] (upd (upd G dx (.own y)) y (.ins cw dx [])) Q E:=by
 have f:=qE (qE (Sr G) (o:=.own y) D) (o:=.ins cw dx []) (show upd G dx (.own y) y=none by rw[qf (Ye i)];show p);show⟨y,dx,m,l,ss,us,kps,rfl,qb,f _ _ F,g,nd,H,C.same f,j,fun ns H' b B A=>?_⟩
 have a:WebN G cw H' y ss ns:=by
  obtain⟨I,d,ol,n,h1,q,r,t,u,v,w,x⟩:=B
  have k:∀ c,upd (upd G dx (.own y)) y (.ins cw dx []) c=none->G c=none:=fun c z=>by
   cases e:G c with
   | none=>rfl
   | some o=>rw[f _ _ e] at z;cases z
  show⟨I,d,ol,n,h1,q,r,t,u,k _ v,k _ w,k _ x⟩
 show h ns H' (fun c o e=>b c o (fun z=>by rw[z,p] at e;cases e) (f _ _ e)) a (wt_new a A j)
theorem Shuf.go{x:LS}(h:TGo x tps)(sh:Shuf tps ups):TGo x ups/\∀ a b,tA ups a b↔tA tps a b:=by
 have D:∀ a b,tA ups a b↔tA tps a b:=fun a b=>by
  constructor
  .rintro (z | z)
   .show sh.mem z
   .show(sh.mem z).symm
  .have m:∀{a b:Str},(a,b)∈tps->tA ups a b:=fun{a b} z=>by
    obtain⟨n,s,f⟩:=sh;obtain⟨k,w⟩:=yf z;obtain⟨c,hc⟩:∃ c,n[k]?=some c:=⟨_,yb (by rw[<- f.len];show(yc.mp w).1)⟩;have d:=s.mem_iff.mpr (ye hc);rcases f.at_ k _ c w hc with e | e
    .rw [e] at d;show .inl d
    .rw [e] at d;show .inr d
   rintro(z | z)
   .show m z
   .show(m z).symm
 show⟨⟨by rw[sh.len];show h.few,fun ab q=>?_,?_⟩,D⟩
 .rcases sh.mem q with z | z
  .show h.inn _ z
  .obtain⟨h1,B,C⟩:=h.inn _ z;show⟨B,h1,Ye C⟩
 .obtain⟨n,s,f⟩:=sh;show(s.symm.pairwise_iff (R:=UN) (fun{a b} u=>u.symm)).mp (Yd.mpr fun i j t v r=>?_);have g:i<tps.length:=by rw[f.len];show t
  have l:j<tps.length:=by rw[f.len];show v
  have u:=Yd.mp h.un i j g l r;have y:=f.at_ i _ _ (yb g) (yb t);have A:=f.at_ j _ _ (yb l) (yb v);have o:=u.1;have p:=u.2;show⟨fun z=>?_,fun z=>?_⟩<;>rcases y with e1 | e1<;>rcases A with e2 | e2<;>rw[e1,e2] at z
  .show o z
  .show p z
  .show p (by rw[<- z])
  .show o (XS (Xu z).2 (Xu z).1)
  .show p z
  .show o z
  .show o (XS (Xu z).2 (Xu z).1)
  .show p (by rw[show tps[j]=(tps[i].2,tps[i].1) from z.symm])
inductive spLaw(K:W.Frag)(vs:List V)(H:Hp)(Q:VK)(E:XK):Prop|mk (a:Addr) (ns:LX) (_:vs=[.ref a]) (_:SqL K H a (ns.map V.int)) (_:ns.length<=63) (_:∀ H',Q (.bl true) H')
theorem BB.out(s:L2.Same H H1)(a:H p=none)(b:BB p H1 H2):L2.Same H H2:=fun c o e=>b.1 c o (fun z=>by subst z;rw[a] at e;cases e) (s c o e)
theorem qd8(d:ss.Nodup):(ioL ss tps ss.length).Nodup:=by
 show List.pairwise_flatMap.mpr ⟨fun i _=>?_,?_⟩
 .unfold ioR;show Xq.mpr ?_;show((d.sublist (List.drop_sublist _ _)).filter _).imp fun c e=>c (Xu e).2
 .show Y1 (fun{i j} a b h q f r g e=>?_) (List.pairwise_lt_range (n:=ss.length));have a:=YC.mp a;have b:=YC.mp b;unfold ioR at f g;obtain⟨_,_,rfl⟩:=Yq.mp f;obtain⟨_,_,rfl⟩:=Yq.mp g;have e:=(Xu e).1;rw[yV,yV,yb a,yb b] at e;have:=qv d (yb a) (by rw[yb b];show congrArg some e.symm);lk
theorem TOk.mem(c:ss.Nodup)(h:TOk ss tps):(a,b)∈ioL ss tps ss.length↔(a,b)∈tps:=by
 rw[mem_ioL c,tB_tA];constructor
 .rintro ⟨z | z,i,j,l,h1,f⟩
  .show z
  .obtain⟨g,m,l',d,e⟩:=h.ok _ z;have:=qv c h1 e;have:=qv c f d;lk
 .show fun z=>⟨.inl z,h.ok _ z⟩
theorem TOk.io(c:ss.Nodup)(h:TOk ss tps):TOk ss (ioL ss tps ss.length):=by
 have d:=(xL (qd8 (tps:=tps) c) h.nd).mpr fun q=>h.mem c (a:=q.1) (b:=q.2);show⟨by rw[d.length_eq];show h.few,fun q e=>h.ok q (d.mem_iff.mp e),qd8 c⟩
theorem eq_two{t u a b c d:Addr}(i:H t=some (.tup [.ref a,.ref b]))(l:H u=some (.tup [.ref c,.ref d]))(h1:EqD K H n (.ref a) (.ref c) true)(h:EqD K H n (.ref b) (.ref d) true):EqT K H (n+1) t u true:=
 EqT.tup (K:=K) (H:=H) (n:=n) (e:=fun _=>true) (SqT.of i) (SqT.of l) fun j x y f g=>by
  match j,f,g with
  | 0,f,g=>cases f;cases g;show h1
  | 1,f,g=>cases f;cases g;show h
theorem ok_law34(F:Fun K "law" "law" qcN f fd)(T:Txt K mg cc cw)(Ut:DefOk P w K mg base CX0 1 "_law_cell" ["_law_script","_law_k"] (spCell K))(Uu:DefOk P w K mg base CX0 1 "_law_box" ["_law_cell_here"] spBox)(Ul:DefOk P w K mg base CX0 3 "_law_drawn" ["_law_box_here","_law_most"] spDrawn)(Kz:DefOk P w K mg base CX0 2 "_law_in_order" ["_law_names_here","_law_ties_here"] spIo)(KL:DefOk P w K mg base CX0 2 "_law_shuffled" ["_law_box_here","_law_ties_here"] spShuf)(Uv:MakeOk P w K mg base CX0 5 cw "Web" ["self","names","ties"] (spWeb cw))(uK:DefOk P w K mg base CX0 3 "_law_some_pairs" ["_law_box_here","_law_ties_here"] spSo)(uN:DefOk P w K mg base CX0 14 "_law_right" ["_law_web","_law_names_here","_law_ties_here","_law_pairs"] (spLr cw))(K2:DefOk P w K mg base CX0 14 "greatest" ["web"] (spGr cw))(K6:DefOk P w K mg base CX0 3 "_law_are_told" ["_law_names_here","_law_ties_here","_law_found"] spAt)(K7:DefOk P w K mg base CX0 12 "_law_greatest" ["_law_web","_law_names_here","_law_ties_here","_law_pairs"] (spLg cw))(Ug:DefOk P w K mg base CX0 15 "count_of" ["web"] (spCo cw))(Kq:DefOk P w K mg base CX0 13 "greatest_from" ["web","pairs"] (spGf cw)):FnOk P w K mg base CX0 16 f fd ["_law_script"] (spLaw K):=by
 show F.ok KA fun _ _ _ s H vs Q E r h=>?_
 .obtain⟨a,zs,rfl,ha,hl,q⟩:=h;have hu:=jY r;show⟨_,(qc (jq y0 rfl (jF rfl T.b_range (qa (qm (call_max2 rfl) rfl T.b_max boot_max (qa qi (qa (qm (call_min2 rfl) rfl T.b_min boot_min (qa qi (qa (qm (jj (K:=K) rfl) rfl T.b_len Yt (qa (pv 0) qd)) qd))) qd))) qd)) (qr (i:=1) KA.nd rfl (yQ rfl))
 (qc (qq (i:=2) KA.nd rfl (yQ rfl) (qp Uu (hmR r) qz (qa (qp Ut (hmR r) qz (qa (pv 0) (qa (pv 1) qd))) qd)))
 (qc (j4 (qp Ul (hmR r) qz (qa (pv 2) (qa (qx (qy (K:=K) rfl hu) (qR (qa qi (qa qi qd))) (jr call_int1 rfl T.b_int boot_int (qa (jo (zV (K:=K) rfl hu) (pv 1) qi (qw _)) qd)) (fun _ _=>rfl)) qd))) (qcS rfl (zf (qr (i:=3) KA.nd rfl (yQ rfl)) (zf (qr (i:=4) KA.nd rfl (yQ rfl)) qbF))))
 (qc (qq (i:=4) KA.nd rfl (yQ rfl) (qp Kz (hmR r) qz (qa (pv 3) (qa (pv 4) qd))))
 (qc (qq (i:=5) KA.nd rfl (yQ rfl) (qaZ Uv (hmR r) (qa (pv 3) (qa (qp KL (hmR r) qz (qa (pv 2) (qa (pv 4) qd))) qd))))
 (qc (qq (i:=6) KA.nd rfl (yQ rfl) (qp KL (hmR r) qz (qa (pv 2) (qa (qp uK (hmR r) qz (qa (pv 2) (qa (pv 4) qd))) qd))))
 (qc (qN (PW.pt (zq (qS (qL (qp uN (hmR r) qz (qa (pv 5) (qa (pv 3) (qa (pv 4) (qa (pv 6) qd))))))) (jM (qS (qL (qp uN (hmR r) qz (qa (pv 5) (qa (pv 3) (qa (pv 4) (qa (qR qd) qd)))))))))) (qe (qo jz)) qt)
 (qc (qq (i:=7) KA.nd rfl (yQ rfl) (qp K2 (hmR r) qz (qa (pv 5) qd)))
 (qc (qN (PW.pt (zq (qS (qL (qp K6 (hmR r) qz (qa (pv 3) (qa (pv 4) (qa (pv 7) qd)))))) (jM (qS (qL (qp K7 (hmR r) qz (qa (pv 5) (qa (pv 3) (qa (pv 4) (qa (pv 7) qd)))))))))) (qe (qo jz)) qt)
 (qc (qq (i:=8) KA.nd rfl (yQ rfl) (qp Ug (hmR r) qz (qa (pv 5) qd)))
 (qc (qN (PW.pt (zq (qS (qL (qm (zL (K:=K) rfl) rfl T.b_isinstance Yx (qa (pv 8) (qa (jm (v:=.ty "int") rfl T.b_int boot_int rfl) qd))))) (zq (qL (qm (zL (K:=K) rfl) rfl T.b_isinstance Yx (qa (pv 8) (qa (jm (v:=.ty "bool") rfl T.b_bool boot_bool rfl) qd)))) (jM (qk (zw (K:=K) rfl hu) (pv 8) (qm (jj (K:=K) rfl) rfl T.b_len Yt (qa (pv 7) qd)) (qw _)))))) (qe (qo jz)) qt)
 (qc (qq (i:=9) KA.nd rfl (yQ rfl) (jr (zU (K:=K) rfl rfl) rfl T.b_list xp (qa (pv 7) qd)))
 (qc (qW (qff (K:=K) rfl yU PySem.F.slot_list_clear PySem.F.type_list_clear mtR_clear (pv 7)))
 (qe (qN (PW.pt (zq (qk (zw (K:=K) rfl hu) (qp K2 (hmR r) qz (qa (pv 5) qd)) (pv 9) (qw _)) (jM (qk (zw (K:=K) rfl hu) (qp Kq (hmR r) qz (qa (pv 5) (qa (pv 9) qd))) (zv (qa (pv 9) (qa (qR qd) qd))) (qw _))))) (qe (qo jz)) qt)))))))))))))))
 (qe (qo jz))),?_⟩
  apply qen ha ?_;apply⟨_,_,rfl,?_⟩;apply⟨_,_,rfl,?_⟩;ext;rw[ya];show⟨_,rfl,by split<;>split<;>lk,by split<;>split<;>lk,?_⟩;generalize hN:(Int.toNat _)=N;have df:N<=63:=by rw[<- hN];split<;>split<;>lk
  clear hN;show zt (fun i σ H'=>L2.Same H H'/\∃ x1 x2 x3 x4 x5 x6 x7 x8 x9,σ=[some (.ref a),x1,x2,x3,x4,x5,x6,x7,x8,x9]) ⟨L2.Same.refl H,none,none,none,none,none,none,none,none,none,rfl⟩ (fun i σ H1 hi hp=>?_) fun σ H1 hp=>?_
  .obtain⟨s1,x1,x2,x3,x4,x5,x6,x7,x8,x9,rfl⟩:=hp;apply⟨a,zs,_,rfl,s1.seq ha,by lk,by lk,fun c=>?_⟩;apply⟨c,rfl,fun p u1 u2 u3 bg=>?_⟩;have s2:=qE s1 (o:=.lst [.int u1,.int u2,.int u3]) bg;have hB:Box (upd H1 p (.lst [.int u1,.int u2,.int u3])) p:=⟨u1,u2,u3,qb⟩;have ck:H p=none:=s1.free bg;generalize upd H1 p (.lst [.int u1,.int u2,.int u3])=H2 at s2 hB;apply qfv ?_;apply⟨by show 2<=sizeLine;decide,fun m hm=>?_⟩;have b3:=(BB.refl hB).new (o:=.lst [.int 7,.int 14]) hm;have em:upd H2 m (.lst [.int 7,.int 14]) m=some (.lst [.int 7,.int 14]):=qb;generalize upd H2 m (.lst [.int 7,.int 14])=H3 at b3 em ⊢;apply .inl (.inl (.inl ⟨rfl,rfl,?_⟩));apply .inr ⟨_,rfl,?_⟩
   obtain⟨mo,cn,cp,bq⟩:=(show ∀ bb:Bool,∃ mo:Int,atI [V.int 7,V.int 14] (if bb=true then 1 else 0)=some (.int mo)/\0<=mo/\mo<=14 from fun bb=>by
    cases bb
    .show⟨7,rfl,by decide,by decide⟩
    .show⟨14,rfl,by decide,by decide⟩) _
   show .inl (qau em cn ?_);apply⟨p,mo,rfl,cp,bq,b3.2,fun t n l ss ts tps H4 ao ht dh hn hO dg hT az=>?_⟩;show⟨t,_,rfl,SqT.of ht,rfl,_,_,rfl,_,_,rfl,rfl,?_⟩;have b4:=b3.trans ao;apply⟨n,l,ss,ts,tps,rfl,hn.1,hO.few,hT.pl,fun r5 ks H5 s5 ac bi bd=>?_⟩;have J:=az.io hO.nd;have O:TL p H5 r5 ks (ioL ss tps ss.length):=⟨bi,b4.apart ac,bd.mono fun t' ab z=>⟨b4.apart z.1,z.2.2⟩⟩;have b5:=b4.same s5;have af:=hn.same s5;generalize ioL ss tps ss.length=kps at J O;have hg:TGo ss kps:=tok_go hO.nd J;clear bd bi ac hT az ao b4 hn s5;apply⟨p,r5,ks,kps,rfl,b5.2,O,hg.few,fun l6 di ups H6 c6 _ aw cb=>?_⟩;have b6:=b5.trans c6;obtain⟨bc,eA⟩:=Shuf.go hg cb;apply fun y dx hy ci cj=>wmake (af.bb c6).1 hO.few hO.nd hO.nm aw.pl bc hy ci cj fun ns H7 s7 wn W7=>⟨rfl,?_⟩;have Wq7:Wq p cw H7 y ss ns kps:=⟨wn.apart (b6.apart hy) (fun z e e0=>by subst e;obtain⟨_,_,_,q9⟩:=b6.2;rw[q9] at e0;cases e0),fun a b s t ha hb=>(W7.adj a b s t ha hb).trans (eA s t),hg.inn⟩;have b7:=b6.same s7;have bf:=(af.bb c6).same s7;have ae:=(O.bb c6).same s7;clear W7 wn aw cb b6 b5 af O c6 eA bc;apply⟨p,r5,ss,ks,kps,rfl,b7.2,ae,hg.few,hg.inn,fun l8 cy cs H8 c8 _ ax ad=>?_⟩;apply⟨p,l8,cy,cs,rfl,c8.2,ax,ad.few,fun l9 us qs H9 c9 _ ay cd=>?_⟩;have hG:=cd.pgo ad;have D:=c8.trans c9;have b9:=b7.trans D;have s9:L2.Same H H9:=BB.out s2 ck b9
   have W9:WtO cw H9 y n r5 ss ns ks kps:=⟨(Wq7.bb D).wt,(bf.bb D).1,(ae.bb D).pl,fun q hq=>by
    rw[ties_io Wq7.wt.wok Wq7.adj] at hq;show(J.mem hO.nd (a:=q.1) (b:=q.2)).mp hq⟩
   have bh:=ay.pl;clear ax ad cd c8 c9 D b7 bf ae Wq7 ay b9;have u:=W9.wt.wok;apply⟨y,n,r5,l9,ss,ns,ks,us,kps,qs,rfl,W9,bh,hG,fun H10 bx=>?_⟩;show⟨_,rfl,qI (fun h=>by cases h) fun _=>?_⟩;apply⟨by decide,fun z hz=>?_⟩;have L:=qE bx (o:=.lst []) hz;have ez:upd H10 z (.lst []) z=some (.lst (([]:LQ).map V.ref)):=qb;generalize upd H10 z (.lst [])=H11 at L ez;apply⟨y,n,r5,z,ss,ns,ks,[],kps,[],rfl,W9.same L,⟨ez,.nil⟩,⟨(fun q h=>by cases h),X1,by decide⟩,fun H12 ag=>?_⟩;show⟨_,rfl,qI (fun h=>by cases h) fun _=>?_⟩;have W12:=W9.same (L.trans ag);have cr:=s9.trans (L.trans ag);clear bh bx L ag ez hz W9;apply⟨y,ss,ns,kps,rfl,W12.wt,fun A R rs H13 ah be hP gr mx ⟨ro,gf⟩=>?_⟩;have bn:=gf.tor W12 gr;have W13:=W12.same ah;apply⟨n,r5,A,ss,ks,R,kps,rs,rfl,W13.n,u.few,W13.l,hP,bn,fun H14 S=>?_⟩;show⟨_,rfl,qI (fun h=>by cases h) fun _=>?_⟩;have W14:=W13.same S;have I:=hP.same S;apply⟨y,n,r5,A,ss,ns,ks,R,kps,rs,rfl,W14.wt,W14.n,W14.l,I,gr,mx,fun H15 U=>?_⟩;show⟨_,rfl,qI (fun h=>by cases h) fun _=>?_⟩;have W15:=W14.same U;have Y:=I.same U;apply⟨y,ss,ns,kps,rfl,W15.wt,fun ct H16 ai ch cq=>?_⟩;have d:=Y.same ai;have M:=(ah.trans S).trans (U.trans ai);apply qaW (.inl (.int _)) rfl (j0 K "int" (by simp) "int" (by simp)) ?_;apply yq ?_;apply qaW (.inl (.int _)) rfl (j0 K "int" (by simp) "bool" (by simp)) ?_;apply yq ?_;apply jO d.1 ?_;rw[ya,d.2.len];show qfr ?_;rw[yM (show((ct.length:Nat):Int)=(rs.length:Nat) by rw[qeI u.nd ch gr cq mx])];show⟨_,rfl,qI (fun h=>by cases h) fun _=>?_⟩;apply .inl ⟨A,_,rfl,.inl (SqL.of d.1),fun c hc=>?_⟩;have aj:=qE M (o:=.lst (R.map V.ref)) hc;have an:=qE (Sr H16) (o:=.lst (R.map V.ref)) hc;have ec:upd H16 c (.lst (R.map V.ref)) c=some (.lst (R.map V.ref)):=qb;generalize upd H16 c (.lst (R.map V.ref))=H17 at aj an ec;have g:=d.same an;have nc:c≠A:=fun e=>by rw[e,d.1] at hc;cases hc
   apply⟨.inl ⟨rfl,_,SqL.of g.1⟩,?_⟩;show⟨A,_,rfl,rfl,g.1,?_⟩;have ak:L2.Same H12 (upd H17 A (.lst [])):=qax aj be;have Z:PL (upd H17 A (.lst [])) c R rs:=⟨by rw[qf nc];show ec,g.2.mono fun t ab z=>by rw[qf (qaq z g.1 (fun e=>by cases e))];show z⟩;generalize upd H17 A (.lst [])=H18 at ak Z;have W18:=W12.same ak;clear hP I Y d g ah S U ai aj an ec W13 W14 W15 M hc;apply⟨y,ss,ns,kps,rfl,W18.wt,fun co db de H19 al _ au _ _ ⟨dd,aq⟩=>?_⟩;have ce:=gf.det aq;subst ce;have C:=Z.same al;have W19:=W18.same al;apply .inr (.inl ⟨co,c,true,2,rfl,rfl,by decide,qcn au C,?_⟩);show⟨_,rfl,qI (fun h=>by cases h) fun _=>?_⟩;apply⟨y,c,ss,ns,R,kps,rs,rfl,W19.wt,C,gr,fun cu bp bu dc ws bv bw H20 bz ap aa da _ av G cl cz as br ar=>?_⟩
   have cm:ws.length=0:=by
    have:=qeI u.nd as gr br mx;lk
   have bo:ws=[]:=xv cm;subst bo;have bj:bv=[]:=xv (by rw[<- cl.len];rfl);subst bj;obtain⟨cv,cx⟩:=qd0 u W19.wt.adj W19.wt.ok gr
   have cg:bw=rs:=by
    cases ar with
    | nil _ =>
     have k1:=qft u W19.wt.adj (rs:=qav (qB ss ns ss.length) rs) rfl;rw[qfu cv.nd gr.nd cx] at k1;show k1.trans bn.io.symm
   subst cg;have ba:=C.same bz;apply⟨by decide,fun z hz=>?_⟩;have ca:=qE (Sr H20) (o:=.lst []) hz;have ez:upd H20 z (.lst []) z=some (.lst []):=qb;generalize upd H20 z (.lst [])=H21 at ca ez;apply⟨by show 2<=sizeLine;decide,fun W bm=>?_⟩;have am:=qE (Sr H21) (o:=.tup [.ref c,.ref z]) bm;have X:upd H21 W (.tup [.ref c,.ref z]) W=some (.tup [.ref c,.ref z]):=qb;generalize upd H21 W (.tup [.ref c,.ref z])=H22 at am X;have B:=ca.trans am;have n1:bp≠c:=fun e=>by rw[e,C.1] at aa;cases aa
   have n2:bu≠z:=fun e=>by rw[e,hz] at G;cases G
   have q1:EqT K H22 2 bp c true:=qcn (av.same B) (ba.same B);have q2:EqT K H22 2 bu z true:=qdT (B _ _ G) (am _ _ ez) rfl fun j x y hx=>by cases hx
   apply .inr (.inl ⟨cu,W,true,3,rfl,rfl,by decide,eq_two (B _ _ ap) X (.deep q1 n1) (.deep q2 n2),?_⟩);show⟨_,rfl,qI (fun h=>by cases h) fun _=>?_⟩;show⟨cr.trans (((ak.trans al).trans bz).trans B),_,_,_,_,_,_,_,_,_,rfl⟩
  .obtain⟨s1,x1,x2,x3,x4,x5,x6,x7,x8,x9,rfl⟩:=hp;apply q H1
end
theorem all_mk{l:W.OpenLaw}{w:World}{h:Heap}{n:Str->Option Value}{fa f c :Addr}{o p q:Tok}(X:K.In h)(G:h.Ns mainGlobals n)(y:n "law"=some (.ref fa))
  (Cw_:W.nsIn K mainGlobals "Web"=some (some (.ref f)))
  (Cf_:W.nsIn K mainGlobals "Forest"=some (some (.ref c)))
  (vx:FG K "are_pairs" zI)
  (U3:FG K "partners_in" j6)
  (va:FG K "told_pairs" jW)
  (Vr:FG K "is_row" qa5)
  (UE:FG K "are_unlike_places" je)
  (UT:FG K "goes_by_turns" qT)
  (vG:FG K "can_turn" qal)
  (Vs:FG K "turned" qaI)
  (vH:FG K "greatest" qam)
  (vJ:FG K "count_of" qan)
  (UU:FG K "greatest_from" jK)
  (v9:FG K "is_name" zX)
  (Va:FG K "has_bit" qaD)
  (vK:FG K "is_place" qag)
  (UK:FG K "are_two_places" jy)
  (vb:FG K "numbers_of" zk)
  (Vb:FG K "near_of" qaE)
  (Vt:FG K "_law_cell" qa2)
  (wK:FG K "_law_box" qbL)
  (Vu:FG K "_law_take" qa3)
  (Vc:FG K "_law_names" zy)
  (Vv:FG K "_law_ties" qa4)
  (Vd:FG K "_law_drawn" qaH)
  (vc:FG K "_law_shuffled" jV)
  (vy:FG K "_law_partner" zK)
  (vz:FG K "_law_singles" zc)
  (UZ:FG K "_law_some_pairs" jT)
  (Vw:FG K "_law_tied" qa7)
  (vL:FG K "_law_pieces" zz)
  (Vx:FG K "_law_odds" qao)
  (vM:FG K "_law_is_row" qap)
  (vN:FG K "_law_turned" jQ)
  (vd:FG K "_law_in_order" jX)
  (ve:FG K "_law_are_told" ji)
  (vf:FG K "_law_greatest" jD)
  (Vy:FG K "_law_gone" qa8)
  (Ve:FG K "_law_right" qaK)
  (wN:FG K "law" qcN)
  (Wi:FM K f "__init__" "Web.__init__" qah)
  (vO:FM K f "places" "Web.places" zl)
  (Vz:FM K f "ties" "Web.ties" qaj)
  (U4:FM K f "has_place" "Web.has_place" jH)
  (vA:FM K f "has_tie" "Web.has_tie" j5)
  (U5:FM K f "number_of" "Web.number_of" jI)
  (vP:FM K f "beside" "Web.beside" zm)
  (UV:FM K f "bits_beside" "Web.bits_beside" jk)
  (VA:FM K f "tied" "Web.tied" qai)
  (vg:FM K f "names_in" "Web.names_in" jv)
  (U6:FM K c "__init__" "Forest.__init__" j8)
  (VB:FM K c "row" "Forest.row" zo)
  (vh:FM K c "reached" "Forest.reached" jf)
  (Vf:FM K c "grow" "Forest.grow" j7)
  (vQ:FM K c "reach" "Forest.reach" jS)
  (UL:FM K c "look_around" "Forest.look_around" qZ)
  (UF:FM K c "bring_together" "Forest.bring_together" qJ)
  (UA:FM K c "bases_down_from" "Forest.bases_down_from" qQ)
  (UM:FM K c "reach_round" "Forest.reach_round" qY)
  (Vg:FM K c "fold" "Forest.fold" jJ)
  (w1:W.plainGet K f Str.empty=true)
  (w2:W.hasDictIn K f=true)
  (w3:W.plainOver K f=true)
  (w4:W.findIn K (.ref f) "__setattr__"=some (some (.builtin "object.__setattr__")))
  (w5:W.makesIn K f=true)
  (w6:W.keepIn K (.ref f)=true)
  (w7:W.findIn K (.ref f) "numbers"=some none)
  (w8:W.findIn K (.ref f) "order"=some none)
  (w9:W.findIn K (.ref f) "near"=some none)
  (A:W.plainGet K c Str.empty=true)
  (B:W.hasDictIn K c=true)
  (C:W.plainOver K c=true)
  (D:W.findIn K (.ref c) "__setattr__"=some (some (.builtin "object.__setattr__")))
  (E:W.makesIn K c=true)
  (F:W.keepIn K (.ref c)=true)
  (aa:W.findIn K (.ref c) "board"=some none)
  (ac:W.findIn K (.ref c) "partners"=some none)
  (ad:W.findIn K (.ref c) "rows"=some none)
  (ae:W.findIn K (.ref c) "parents"=some none)
  (af:W.findIn K (.ref c) "bases"=some none)
  (ag:W.findIn K (.ref c) "rings"=some none)
  (ah:W.findIn K (.ref c) "waiting"=some none)
  (ai:W.findIn K (.ref c) "longer"=some none)
  (J:W.nsIn K mainGlobals "zip"=some none)
  (t:W.nsIn K mainGlobals "sorted"=some none)
  (r:W.nsIn K mainGlobals "set"=some none)
  (z0:W.nsIn K mainGlobals "len"=some none)
  (z1:W.nsIn K mainGlobals "int"=some none)
  (z2:W.nsIn K mainGlobals "enumerate"=some none)
  (z3:W.nsIn K mainGlobals "all"=some none)
  (z4:W.nsIn K mainGlobals "max"=some none)
  (z5:W.nsIn K mainGlobals "min"=some none)
  (z6:W.nsIn K mainGlobals "isinstance"=some none)
  (z7:W.nsIn K mainGlobals "bool"=some none)
  (z8:W.nsIn K mainGlobals "str"=some none)
  (z9:W.nsIn K mainGlobals "range"=some none)
  (H:W.nsIn K mainGlobals "list"=some none)
  (I:W.nsIn K mainGlobals "tuple"=some none)
  (u0:W.nsIn K mainGlobals "LONGEST_NAME"=some (some (.int 6 o)))
  (u1:W.nsIn K mainGlobals "MOST_PLACES"=some (some (.int 14 p)))
  (u2:W.nsIn K mainGlobals "MOST_TIES"=some (some (.int 30 q))) :
  ∃ fd:FuncData,(∀(s:Shared) (v:Value),BindsTo s fd ⟨[v],[]⟩ [("_law_script",v)])/\∀ d:Heap,K.In d->d.Ns mainGlobals n->FnOk l.prog w K n d CX0 16 fa fd ["_law_script"] (spLaw K):=by
 obtain⟨_,_,vD,VN⟩:=vx;obtain⟨_,_,U7,VO⟩:=U3;obtain⟨_,_,vi,VP⟩:=va;obtain⟨_,_,VC,VQ⟩:=Vr;obtain⟨_,_,UG,VR⟩:=UE;obtain⟨_,_,UW,VS⟩:=UT;obtain⟨_,_,vR,VT⟩:=vG;obtain⟨_,_,VD,VU⟩:=Vs;obtain⟨_,_,vS,VV⟩:=vH;obtain⟨_,_,vT,VW⟩:=vJ;obtain⟨_,_,UX,VX⟩:=UU;obtain⟨_,_,Vh,VY⟩:=v9;obtain⟨_,_,Vi,VZ⟩:=Va;obtain⟨_,_,vV,Z⟩:=vK;obtain⟨_,_,UO,V1⟩:=UK;obtain⟨_,_,vk,V2⟩:=vb;obtain⟨_,_,Vj,V3⟩:=Vb;obtain⟨_,_,VE,V4⟩:=Vt;obtain⟨_,_,wL,V5⟩:=wK;obtain⟨_,_,VF,V6⟩:=Vu;obtain⟨_,_,Vk,V7⟩:=Vc;obtain⟨_,_,VG,V8⟩:=Vv;obtain⟨_,_,Vl,V9⟩:=Vd;obtain⟨_,_,vm,wa⟩:=vc;obtain⟨_,_,vE,wc⟩:=vy;obtain⟨_,_,vF,wd⟩:=vz;obtain⟨_,_,U0,we⟩:=UZ;obtain⟨_,_,VH,wf⟩:=Vw;obtain⟨_,_,vW,wg⟩:=vL;obtain⟨_,_,VI,wj⟩:=Vx;obtain⟨_,_,vX,wm⟩:=vM;obtain⟨_,_,vY,wq⟩:=vN;obtain⟨_,_,vn,wu⟩:=vd;obtain⟨_,_,vo,wv⟩:=ve;obtain⟨_,_,vp,ww⟩:=vf;obtain⟨_,_,VJ,wy⟩:=Vy;obtain⟨_,_,Vm,wz⟩:=Ve;obtain⟨_,_,wO,wA⟩:=wN;obtain⟨_,_,Wj,Wk,wM⟩:=Wi;obtain⟨_,_,wP,wQ,wB⟩:=vO;obtain⟨_,_,wR,wS,wC⟩:=Vz;obtain⟨_,_,wT,wU,wD⟩:=U4;obtain⟨_,_,wV,wW,wE⟩:=vA;obtain⟨_,_,wX,wY,wF⟩:=U5;obtain⟨_,_,wZ,Wa,wG⟩:=vP;obtain⟨_,_,Wc,Wd,wH⟩:=UV;obtain⟨_,_,We,Wf,wI⟩:=VA;obtain⟨_,_,Wg,Wh,wJ⟩:=vg;obtain⟨_,_,U8,U9,N⟩:=U6;obtain⟨_,_,VL,VM,vq⟩:=VB;obtain⟨_,_,vv,vw,O⟩:=vh;obtain⟨_,_,Vn,Vo,L⟩:=Vf;obtain⟨_,_,vZ,v8,P⟩:=vQ;obtain⟨_,_,UP,UQ,U⟩:=UL;obtain⟨_,_,UH,UI,S⟩:=UF;obtain⟨_,_,UB,UC,R⟩:=UA;obtain⟨_,_,UR,US,Y⟩:=UM;obtain⟨_,_,Vp,Vq,M⟩:=Vg;have e:=y.symm.trans (W.mg_of X G wO);cases e;have j:Cls K f:=⟨w1,w2,w3,w4⟩;have g:Cls K c:=⟨A,B,C,D⟩
 have z:∀ a∈fAtt,NoAttr K c a:=fun a x=>by
  unfold fAtt at x;simp only[yz,yW,YE] at x;rcases x with rfl | rfl | rfl | rfl | rfl | rfl | rfl | rfl<;>assumption
 have T:Txt K n (fun i=>c) f:=⟨YL X G z0,
  YL X G z1,
  YL X G z2,
  YL X G z3,
  YL X G z4,
  YL X G z5,
  YL X G z6,
  YL X G z7,
  YL X G z8,
  YL X G z9,
  YL X G H,
  YL X G I,
  ⟨o,W.mg_of X G u0⟩,
  ⟨p,W.mg_of X G u1⟩,
  ⟨q,W.mg_of X G u2⟩,
  j,
  w7,
  w8,
  w9,
  W.mg_of X G Cw_,
  W.mg_of X G Cf_,
  g,
  z,
  YL X G J,
  YL X G t,
  YL X G r⟩
 obtain⟨oc,od,kV,u,pm,an,cd,ct,sl,rfl,lk,hc⟩:=wA.ex;show⟨W.fnOf "law" "law" (qat qcN) (zR qcN) (qg qcN) .none kV u pm an cd ct,fun s v=>.of_eq rfl,fun d _ _=>?_⟩;have b:=@fg_mk l.prog w K n d h;have m:=@fm_mk l.prog w K n d;have fw:=@fw_mk l.prog w K n d h;have d_name:=b X G Vh VY (ok_name VY T);have d_place:=b X G vV Z (ok_place Z d_name);have d_two:=b X G UO V1 (ok_two V1 T d_place);have d_bit:=b X G Vi VZ (ok_bit VZ);have d_nums:=b X G vk V2 (ok_nums V2 T d_name);have d_near:=b X G Vj V3 (ok_near V3 T d_two d_bit);have q_web:MakeOk l.prog w K n d CX0 5 f "Web" ["self","names","ties"] (spWeb f):=fw X G Cw_ w5 w6 Wj Wk wM (ok_web wM T d_nums d_near);have m_has:=m j wT wU wD (ok_has wD T d_place);have m_num:=m j wX wY wF (ok_num wF T m_has);have m_bb:=m j Wc Wd wH (ok_bb wH T m_num);have m_nin:=m j Wg Wh wJ (ok_nin wJ T d_bit);have m_bs:=m j wZ Wa wG (ok_bs wG T m_bb m_nin);have m_tied:=m j We Wf wI (ok_tied wI T m_bb m_num d_bit);have m_pls:=m j wP wQ wB (ok_pls wB T);have m_ts:=m j wR wS wC (ok_ts wC T m_bs);have m_ht:=m j wV wW wE (ok_ht wE T d_two m_tied);have d_ap:=b X G vD VN (ok_ap VN T m_ht);have d_pn:=b X G U7 VO (ok_pn VO T d_ap);have d_tp:=b X G vi VP (ok_tp VP T d_pn m_ts);have d_ul:=b X G UG VR (ok_ul VR T m_has);have d_gt:=b X G UW VS (ok_gt VS T m_ht);have d_ir:=b X G VC VQ (ok_ir VQ T d_pn d_ul d_gt);have d_ct:=b X G vR VT (ok_ct VT T d_pn d_ir);have d_tu:=b X G VD VU (ok_tu VU T d_pn m_ts d_ct);have p_re:=m g vZ v8 P (ok_re P T);have p_bd:=m g UB UC R (ok_bd R T);have p_rr:=m g UR US Y (ok_rr Y T p_re);have p_fd:=m g Vp Vq M (ok_fdF M T m_pls);have p_bt:=m g UH UI S (ok_bt S T p_bd p_rr p_fd);have p_la:=m g UP UQ U (ok_la U T m_bs p_bt p_re);have p_gw:=m g Vn Vo L (ok_gw L T m_pls p_re p_la);have p_mk:MakeOk l.prog w K n d CX0 10 c "Forest" ["self","web","pairs"] (spFi (fun i=>c) f):=fw X G Cf_ E F U8 U9 N (ok_fi N T d_pn p_gw);have p_row:=m g VL VM vq (ok_fr vq T);have p_rch:=m g vv vw O (ok_fd2 O T m_pls);have d_gf:=b X G UX VX (ok_gf VX T d_tp p_mk p_row d_tu);have d_gr:=b X G vS VV (ok_gr VV T d_gf);have d_tk:=b X G VF V6 (ok_take V6);have d_sh:=b X G vm wa (ok_shuf wa T d_tk);have d_pa:=b X G vE wc (ok_pa wc T);have d_sg:=b X G vF wd (ok_sg wd T d_pa);have d_td:=b X G VH wf (ok_td wf T);have d_od:=b X G VI wj (ok_od wj T (b X G vW wg (ok_pi wg T d_td)));have d_io:=b X G vn wu (ok_io wu T d_td);have d_at:=b X G vo wv (ok_at wv T d_io);have d_lg:=b X G vp ww (ok_lg ww T p_mk p_rch d_td d_od d_sg);have d_go:=b X G VJ wy (ok_go wy T (b X G vX wm (ok_irL wm T d_td d_pa)) d_pa (b X G vY wq (ok_tuL wq T d_td)));have d_lr:=b X G Vm wz (ok_lr wz T d_gf d_at d_go d_io d_lg);show ok_law34 wA T (b X G VE V4 (ok_cell V4 T)) (b X G wL V5 (ok_box V5)) (b X G Vl V9 (ok_drawn V9 d_tk (b X G Vk V7 (ok_names V7 T d_tk)) (b X G VG V8 (ok_ties V8 T d_tk)))) d_io d_sh q_web (b X G U0 we (ok_so we T d_tk d_sh d_sg)) d_lr d_gr d_at d_lg (b X G vT VW (ok_co VW T d_gr)) d_gf
theorem walk{l:PySem.W.OpenLaw}{q:Program}{loose:LS}{XP:(Str->Option Value)->Heap->Prop}{YP:World->Heap->Prop}{d:DefRec}{K:Params->yg}(o:l.most=some 63)(e:d.params.defaults=[])
  (m:∀(w:World) (h:Heap),YP w h->(K w.params).In h)
  (F:∀(w:World) (c:Str->Option Value) (g:Addr) (h:Heap),(K w.params).In h->h.Ns mainGlobals c->c d.name=some (.ref g) ->
   ∃ i:FuncData,(∀(s:Shared) (u:Value),BindsTo s i ⟨[u],[]⟩ [("_law_script",u)])/\∀ b:Heap,(K w.params).In b->b.Ns mainGlobals c->FnOk l.prog w (K w.params) c b CX0 16 g i ["_law_script"] (spLaw (K w.params))) :
  PySem.W.WalkO q loose XP YP l.row.toRowW d [] (fun f vs=>PySem.call f vs):=
 L2.walk_of (n:=63) (k:=16) (x:="_law_script") (CX:=fun _=>CX0) (sp:=fun w=>spLaw (K w.params)) o (by decide) e ⟨rfl,by decide,by decide,rfl⟩ m F (fun _ _ a ns hl _ j=>⟨a,ns,rfl,j,hl,fun _=>rfl⟩) fun _ _ _ _ _ z=>z
end K34
set_option maxRecDepth 100000 in
set_option maxHeartbeats 0 in
theorem PySem.Challenge.cw_onceroad_k34_rows_turned_to_greatest_holds : PySem.Challenge.rw_onceroad_k34_rows_turned_to_greatest.Holds := by
  w_on; o_law
  show PySem.W.holds_open (q := K34.Q) (loose := []) (Xt := K34.Xt) (XP := PySem.W.XL K34.Q []) (Yf := PySem.W.Hook.obs K34.Hk) (Ya := PySem.W.Hook.val K34.Hk) (YP := PySem.W.Hook.says (PySem.W.kHook K34.Kf K34.ks K34.ks_eq)) (N := K34.NN) K34.hl (PySem.W.Hook.of K34.Hk) (PySem.W.Hook.keeps K34.Hk) (fun s e => PySem.W.xl_of s (Bool.and_eq_true_iff.mp e).1) PySem.W.XL.keeps (by rfl) (by rfl) (by rfl) (fun s e => PySem.W.recFacts_of (Bool.and_eq_true_iff.mp e).2) (by rfl) (by first | assumption | room) (by room) ⟨rfl, rfl, rfl, rfl, rfl, by room⟩ ?hw ?hc
  (case hw => w_witness2)
  k_fill
  show K34.walk (l := PySem.Challenge.rw_onceroad_k34_rows_turned_to_greatest) rfl rfl (fun w h Y => PySem.W.kIn_of Y) ?F
  case F =>
    intro w mg fa h KX G hmg
    refine' K34.all_mk KX G hmg ?_ ?_ ?_ ?_ ?_ ?_ ?_ ?_ ?_ ?_ ?_ ?_ ?_ ?_ ?_ ?_ ?_ ?_ ?_ ?_ ?_ ?_ ?_ ?_ ?_ ?_ ?_ ?_ ?_ ?_ ?_ ?_ ?_ ?_ ?_ ?_ ?_ ?_ ?_ ?_ ?_ ?_ ?_ ?_ ?_ ?_ ?_ ?_ ?_ ?_ ?_ ?_ ?_ ?_ ?_ ?_ ?_ ?_ ?_ ?_ ?_ ?_ ?_ ?_ ?_ ?_ ?_ ?_ ?_ ?_ ?_ ?_ ?_ ?_ ?_ ?_ ?_ ?_ ?_ ?_ ?_ ?_ ?_ ?_ ?_ ?_ ?_ ?_ ?_ ?_ ?_ ?_ ?_ ?_ ?_ ?_ ?_ ?_ ?_ ?_ ?_
    any_goals first | k_is | decide
    any_goals first | k_is | decide | show⟨_, _, by k_is, L2.fun_mk (by k_is) (by k_is) (by k_is)⟩ | show⟨_, _, by k_is, by k_is, L2.fun_mk (by k_is) (by k_is) (by k_is)⟩ | show⟨_, _, _, _, _, _, _, _, _, _, _, _, _, _, _, by k_is⟩ | show⟨by k_is, by k_is, by k_is, by k_is, by k_is, by k_is, by k_is, by k_is⟩ | kernel_rfl | fail
