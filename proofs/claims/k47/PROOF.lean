import PyProof.Rows.All
import Wide.All
import OpenK.AllK
import Wide.FinOn
import PyProof.EqAt
import PyProof.EqKinds
import PyProof.TupleCall
import Lean
import PySem.Challenge.RW_onceroad_k47_pairs_that_leave_out
set_option Elab.async false
set_option linter.all false
set_option maxRecDepth 100000
local macro_rules | `(tactic| show $e)=>`(tactic| refine $e)
local macro_rules | `(tactic| omega)=>`(tactic| lia)
theorem ya{a b:Type}{as:List a}(f:a→b):(as.map f).length=as.length:=List.length_map f
theorem yb{a:Type}{l:List a}{i:Nat}(h:i<l.length):l[i]?=some l[i]:=List.getElem?_eq_getElem h
theorem yc{b:Type}{l:List b}{i:Nat}{a:b}:l[i]?=some a↔∃h:i<l.length,l[i]=a:=List.getElem?_eq_some_iff
theorem yd{a b:Type}{f:a→b}{l:List a}{i:Nat}:(l.map f)[i]?=l[i]?.map f:=List.getElem?_map
theorem ye{b:Type}{l:List b}{i:Nat}{a:b}(h:l[i]?=some a):a∈l:=List.mem_of_getElem? h
theorem yf{b:Type}{a:b}{l:List b}(h:a∈l):∃i:Nat,l[i]?=some a:=List.getElem?_of_mem h
noncomputable abbrev yg:=PySem.W.Frag
theorem yh(n:Nat):n≤n:=Nat.le_refl n
theorem yi{a b c:Nat}(h:a≤b)(k:b≤c):a≤c:=Nat.le_trans h k
theorem yj{a b c:Nat}(h:a<b)(k:b≤c):a<c:=Nat.lt_of_lt_of_le h k
theorem yk{p:Prop}[Decidable p](h:decide p=true):p:=of_decide_eq_true h
theorem yl{p:Prop}[Decidable p](h:¬p):decide p=false:=decide_eq_false h
theorem ym{c:Type}{a b:c}(h:some a=some b):a=b:=Option.some.inj h
theorem yn{c e:Type}{f:c→e}{x:Option c}{b:e}:x.map f=some b↔∃a,x=some a∧f a=b:=Option.map_eq_some_iff
theorem yo{b:Type}{a:b}{l:List b}:(a::l).Nodup↔a∉l∧l.Nodup:=List.nodup_cons
theorem yp{a:Type}{p:a→Bool}{as:List a}{x:a}:x∈as.filter p↔x∈as∧p x=true:=List.mem_filter
theorem yq{A B:Prop}(h:B):if false=true then A else B:=h
def yr:=@PySem.wpAny_bind
def yt:=@List.length_append
def yu:=@PySem.Heap.get?_push_of_some
def yv:=@List.mem_cons
def yw:=@PySem.wpAny_pure
def yx:=@List.mem_cons_of_mem
def yy:=@List.mem_singleton
def yz:=@List.size_toArray
def yA:=@List.mem_append
def yB:=@decide_eq_true
def yC:=@List.length_cons
def yD:=@if_neg
def yE:=@Nat.ne_of_lt
def yF:=@List.map_append
def yG:=@if_pos
def yH:=@PySem.Heap.lt_size
def yI:=@List.mem_cons_self
def yJ:=@List.getElem?_append_right
def yK:=@PySem.F.plainAttrs_list
def yL:=@Or.inl
def yM:=@List.not_mem_nil
def yN:=@List.mem_append_right
def yO:=@List.mem_append_left
def yP:=@PySem.PassesOwn.never
def yQ:=@List.mem_map
def yR:=@List.idxOf_lt_length_of_mem
def yS:=@PySem.Heap.get?_push_size
def yT:=@List.take_add_one
def yU:=@decide_eq_true_iff
def yV:=@List.getElem?_append_left
def yW:=@List.take_length
def yX:=@List.length_take
def yY:=@Bool.and_eq_true
def yZ:=@List.filter_cons
def Yb:=@Int.toNat_natCast
def Yc:=@PySem.F.slot_list_append
def Yd:=@PySem.F.type_list_append
def Ye:=@List.getD_eq_getElem?_getD
def Yg:=@List.nodup_append
def Yh:=@Nat.le_of_lt
def Yi:=@Ne.symm
def Yj:=@List.append_nil
def Yk:=@List.append_assoc
def Yl:=@Nat.ne_of_gt
def Ym:=@List.getElem_idxOf
def Yn:=@beq_iff_eq
def Yo:=@Bool.false_ne_true
def Yp:=@Nat.lt_of_le_of_lt
def Yq:=@decide_eq_decide
def Yr:=@List.append_of_mem
def Ys:=@PySem.wpAny_holding
def Yt:=@or_false
def Yu:=@List.contains_cons
def Yv:=@List.pairwise_iff_getElem
def Yw:=@List.filter_append
def Yx:=@beq_eq_false_iff_ne
def Yy:=@Nat.lt_irrefl
def Yz:=@List.length_reverse
def YA:=@PySem.Heap.get?_update_other
def YB:=@PySem.wpAny_mono
def YC:=@Nat.zero_le
def YD:=@PySem.sizeLine_eq
def YE:=@PySem.Heap.get?_update_self
def YF:=@List.length_filter_le
def YG:=@PySem.F.slot_list_index
def YH:=@List.map_cons
def YI:=@PySem.wpAny_loadPart_at
def YJ:=@Classical.byContradiction
def YK:=@PySem.W.mg_none_of
def YL:=@PyProof.Rows.boot_isinstance
def YM:=@List.all_eq_true
def YN:=@List.length_replicate
def YO:=@PyProof.Rows.callWith_type1
def YQ:=@PySem.F.type_list_index
def YR:=@PySem.W.looks_findIn
def YS:=@True.intro
def YT:=@Bool.false_eq_true
def YU:=@List.length_nil
def YV:=@Nat.testBit_two_pow
def YW:=@PySem.Heap.size_push
def YX:=@Option.isSome_iff_exists
def YY:=@PySem.F.slot_NoneType_eq
def YZ:=@Bool.eq_iff_iff
def Y3:=@PySem.F.excBase_ValueError
def Y4:=@Array.getElem?_eq_some_iff
def Y5:=@List.take_of_length_le
def Y6:=@PySem.wpAny_field
def Y7:=@PySem.wpAny_of_eq
def Y8:=@PySem.W.callWith_K
def Y9:=@List.any_eq_true
def xi:=@List.getElem_mem
def xj:=@List.mem_flatMap
def xk:=@List.length_erase_of_mem
def xl:=@List.Pairwise.imp_of_mem
def xm:=@List.getElem?_set_ne
def xn:=@PySem.boot_len
def xo:=@List.getLast?_concat
def xp:=@List.filter_congr
def xq:=@List.filter_nil
def xr:=@List.dropLast_concat_getLast
def xt:=@List.replicate_succ
def xu:=@PySem.W.looks_mroIn
def xv:=@PySem.wpAny_isSubtype_exc
def xw:=@List.length_pos_of_mem
def xx:=@List.cons.inj
def xz:=@beq_self_eq_true
def xA:=@PySem.wpAny_Call_Name_kw
def xB:=@List.lookup_append
def xC:=@PySem.W.methodCall_KW
def xD:=@Array.getElem?_eq_getElem
def xE:=@PySem.wpAny_passesOwn
def xF:=@List.length_set
def xG:=@List.find?_cons
def xH:=@Int.natCast_pow
def xI:=@PyProof.Rows.boot_list
def xJ:=@Sum.inr.inj
def xK:=@PySem.wpAny_truthy_bool
def xL:=@Nat.le_succ
def xM:=@PySem.wpAny_newObj_type
def xN:=@PySem.codeAny_call_builtin
def xO:=@Nat.pow_le_pow_right
def xP:=@PySem.Heap.get?_push_ne
def xQ:=@Nat.zero_add
def xR:=@PySem.wpAny_getItem_list_slice
def xS:=@PyProof.Rows.slot_tuple_getitem
def xT:=@Array.length_toList
def xU:=@PySem.mem_of_lookup
def xV:=@PySem.Heap.SameBut.update
def xW:=@List.flatMap_append
def xX:=@List.mem_range
def xY:=@PySem.W.any_some
def xZ:=@List.getElem?_replicate
def x0:=@List.lookup_cons
def Xa:=@PySem.wpAny_getItem_str_slice
def Xb:=@Nat.le_add_right
def Xc:=@List.length_tail
def Xd:=@List.getElem?_set_self
def Xe:=@PySem.wpAny_call
def Xf:=@PySem.tupleKind_room_in1
def Xg:=@Array.getElem?_eq_none
def Xh:=@List.getElem?_tail
def Xi:=@Int.emod_lt_of_pos
def Xj:=@if_false
def Xk:=@Prod.ext
def Xl:=@Nat.le_antisymm
def Xm:=@Nat.testBit_and
def Xn:=@Array.getElem?_toList
def Xo:=@List.mem_iff_getElem?
def Xp:=@PySem.slot_list_getitem
def Xq:=@List.flatten_cons
def Xr:=@Option.isSome_map
def Xs:=@Nat.pow_lt_pow_right
def Xu:=@List.getLast?_append
def Xv:=@Nat.mod_two_eq_zero_or_one
def Xw:=@Nat.eq_of_testBit_eq
def Xx:=@PySem.codeAny_mono
def Xy:=@PySem.wpAny_call_entry
def Xz:=@List.filterMap_cons
def XA:=@PySem.Heap.get?_update_ne
def XB:=@PySem.F.plain_extend_loop
def XC:=@List.filter_sublist
def XD:=@PySem.wpAny_standAt
def XE:=@Prod.mk.injEq
def XF:=@PySem.F.slot_list_extend
def XG:=@PySem.F.type_list_extend
def XH:=@if_true
def XI:=@Nat.two_pow_pos
def XJ:=@List.range_succ
def XM:=@Int.emod_nonneg
def XR:=@PySem.Heap.IsSliceOf.new
def XS:=@Option.isSome_some
def XT:=@PySem.wpAny_callSpecial?_slot
def XU:=@decide_eq_false_iff_not
def XV:=@List.pairwise_singleton
def XW:=@Nat.le_of_eq
def XY:=@List.take_sublist
def XZ:=@PySem.Calls.callWith_builtin
def X3:=@Nat.lt_succ_of_lt
def X4:=@Bool.not_eq_true'
def X5:=@PyProof.Rows.bitAnd_m1
def X6:=@decide_eq_true_eq
def X7:=@PySem.wpAny_nextOf_list_item
def X8:=@Nat.or_lt_two_pow
def X9:=@Nat.testBit_or
def kc:=@List.pairwise_map
def ke:=@PySem.F.slot_dict_get
def kf:=@Nat.lt_succ_self
def kg:=@List.mem_reverse
def kh:=@List.all_cons
def ki:=@List.any_cons
def kj:=@PySem.wpAny_attempt
def kn:=@PySem.Value.ref.inj
def ko:=@PySem.Calls.evalArgs_plain
def kq:=@List.mem_erase_of_ne
def kt:=@List.mem_of_mem_take
def ku:=@PySem.wpAny_execs_nil
def kx:=@PySem.SeqAt.EqAt.same
def ky:=@Option.map_some
def kz:=@Bool.or_eq_true
def kA:=@PySem.post_val_or_str
def kB:=@PySem.F.slot_zip_next
def kC:=@PySem.wpAny_updateSeq
def kD:=@List.all_append
def kE:=@PySem.W.plainGet_of
def kF:=@PySem.W.looks_clsIn
def kG:=@List.getElem_of_mem
def kH:=@List.filter_eq_self
def kI:=@List.mem_map_of_mem
def kJ:=@Bool.or_true
def kK:=@Nat.sub_self
def kL:=@PySem.Calls.spliced_cons
def kM:=@PySem.call_meets
def kN:=@Or.inr
def kO:=@PyProof.Rows.boot_tuple
def kP:=@PySem.Calls.spliced_nil
def kQ:=@PySem.wpAny_pyIter_list
def kR:=@PySem.Heap.get?_push_at
def kS:=@Nat.le_succ_of_le
def kT:=@bne_self_eq_false
def kU:=@Int.one_mul
def kW:=@Nat.lt_trichotomy
def kX:=@PySem.W.mg_of
def kY:=@PySem.evalPart_none
def kZ:=@Bool.or_false
def k7:=@PySem.W.mg_of
def k8:=@List.map_tail
def k9:=@Nat.min_le_right
def Ka:=@List.length_drop
def Kb:=@List.cons_append
def Kc:=@PySem.wpAny_askSetting
def Kd:=@Nat.min_eq_right
def Ke:=@PySem.wpAny_pyIter_zip
def Kg:=@Nat.lt_of_not_le
def Kh:=@PySem.Heap.size_update
def Ki:=@List.cons_ne_nil
def Kj:=@Nat.lt_trans
def Kk:=@List.all_map
def Kl:=@PySem.Txt.slice_le
def Km:=@Int.zero_add
def Kn:=@List.of_mem_zip
def Ko:=@List.forIn_cons
def Kp:=@Nat.min_eq_left
def Kq:=@Nat.le_max_left
def Kr:=@Nat.testBit_xor
def Ks:=@List.forIn_nil
def Kt:=@Bool.not_false
def Ku:=@Bool.and_true
def Kv:=@decide_false
def Kw:=@Nat.sub_zero
def Kx:=@not_or
namespace L2
open PySem PySem.Spec PyProof.Rows
noncomputable def qV(s:Stmt)(j:Nat):Stmt:=match s with
 | .ClassDef _ _ _ body _ _ _ _ _ _ _=>body.getD j (.Pass ⟨0,0,0,0⟩)
 | _=>.Pass ⟨0,0,0,0⟩
noncomputable def qao(s:Stmt):Arguments:=match s with
 | .FunctionDef _ a _ _ _ _ _ _ _ _=>a
 | _=>{ posonlyargs:=[],args:=[],vararg:=none,kwonlyargs:=[],kw_defaults:=[],kwarg:=none,defaults:=[] }
noncomputable def zD(s:Stmt):List Stmt:=match s with
 | .FunctionDef _ _ b _ _ _ _ _ _ _=>b
 | _=>[]
noncomputable def qh(s:Stmt):Scope:=match s with
 | .FunctionDef _ _ _ _ _ _ sc _ _ _=>sc
 | _=>{ kind:=.function,names:=[],isGenerator:=false,isCoroutine:=false }
end L2
namespace K47
open PySem L2 PyProof.Rows
noncomputable def top(i:Nat):Stmt:=PySem.Challenge.pw_onceroad_k47_pairs_that_leave_out.main.body.getD i (.Pass ⟨0,0,0,0⟩)
noncomputable abbrev jv:Stmt:=qV (top 2) 0
noncomputable abbrev jR:Stmt:=qV (top 5) 0
noncomputable abbrev za:Stmt:=top 32
noncomputable abbrev qaG:Stmt:=top 37
noncomputable abbrev zx:Stmt:=top 38
noncomputable abbrev jw:Stmt:=top 39
noncomputable abbrev zj:Stmt:=top 40
noncomputable abbrev qac:Stmt:=qV (top 36) 0
noncomputable abbrev qaI:Stmt:=top 41
noncomputable abbrev zl:Stmt:=qV (top 36) 1
noncomputable abbrev jj:Stmt:=qV (top 36) 4
noncomputable abbrev jk:Stmt:=qV (top 36) 6
noncomputable abbrev zm:Stmt:=qV (top 36) 7
noncomputable abbrev jm:Stmt:=qV (top 36) 8
noncomputable abbrev qad:Stmt:=qV (top 36) 9
noncomputable abbrev js:Stmt:=qV (top 36) 12
noncomputable abbrev qaf:Stmt:=qV (top 36) 2
noncomputable abbrev zK:Stmt:=top 11
noncomputable abbrev jZ:Stmt:=qV (top 36) 5
noncomputable abbrev j0:Stmt:=top 12
noncomputable abbrev jT:Stmt:=qV (top 15) 6
noncomputable abbrev qR:Stmt:=qV (top 15) 9
noncomputable abbrev q9:Stmt:=qV (top 15) 10
noncomputable abbrev jE:Stmt:=qV (top 15) 11
noncomputable abbrev qJ:Stmt:=qV (top 15) 8
noncomputable abbrev jc:Stmt:=qV (top 15) 7
noncomputable abbrev j3:Stmt:=qV (top 15) 5
noncomputable abbrev j4:Stmt:=qV (top 15) 0
noncomputable abbrev zo:Stmt:=qV (top 15) 1
noncomputable abbrev jX:Stmt:=top 13
noncomputable abbrev jd:Stmt:=top 18
noncomputable abbrev qa6:Stmt:=top 17
noncomputable abbrev qU:Stmt:=top 19
noncomputable abbrev qag:Stmt:=top 20
noncomputable abbrev qaK:Stmt:=top 21
noncomputable abbrev jF:Stmt:=top 25
noncomputable abbrev qah:Stmt:=top 23
noncomputable abbrev qai:Stmt:=top 24
noncomputable abbrev qa9:Stmt:=top 43
noncomputable abbrev qaL:Stmt:=top 44
noncomputable abbrev qba:Stmt:=top 45
noncomputable abbrev qbb:Stmt:=top 48
noncomputable abbrev zX:Stmt:=top 46
noncomputable abbrev qbc:Stmt:=top 47
noncomputable abbrev qbd:Stmt:=top 49
noncomputable abbrev qbe:Stmt:=top 50
noncomputable abbrev qT:Stmt:=qV (top 36) 13
noncomputable abbrev qaM:Stmt:=top 51
noncomputable abbrev j6:Stmt:=top 52
noncomputable abbrev jG:Stmt:=top 27
noncomputable abbrev jt:Stmt:=top 28
noncomputable abbrev jH:Stmt:=top 29
noncomputable abbrev qaN:Stmt:=top 54
noncomputable abbrev zd:Stmt:=top 53
noncomputable abbrev zN:Stmt:=top 55
noncomputable abbrev qbf:Stmt:=top 56
noncomputable abbrev qcQ:Stmt:=top 57
end K47
namespace Hd
open PySem PySem.W PySem.Calls PyProof.Rows
variable{p:Program}{α:Type}
noncomputable def qfy(c:String->Option Builtin)(p:Program)(w:World)(a:Nat)(b:Option Value):Nat->SharedT->Thread->Option SharedT
 | 0,_,_=>none
 | n+1,s,t=>match through t with
  | true=>some s
  | false=>match stepOk a b t with
   | false=>none
   | true=>match stepT (denote c) p w s t with
    | some (s',t')=>qfy c p w a b n s' t'
    | none=>none
theorem qfg{e:String->Option Builtin}{w:World}{a:Nat}{b:Option Value}:∀{n:Nat} {s s':SharedT} {t:Thread},qfy e p w a b n s t=some s'->topRun e p w a b n s.abs t=some s'.abs
 | 0,_,_,_,h=>by cases h
 | n+1,s,s',t,h=>by
  unfold qfy at h;unfold topRun
  cases f:through t with
  | true=>rw[f] at h;cases h;rfl
  | false =>
   rw[f] at h
   cases g:stepOk a b t with
   | false=>rw[g] at h;cases h
   | true =>
    rw[g] at h
    cases c:stepT (denote e) p w s t with
    | none=>rw[c] at h;cases h
    | some r=>obtain⟨i,j⟩:=r;rw[c] at h;rw[stepT_spec c];show qfg h
noncomputable def qc5:List Obj->Nat->BT->BT
 | [],_,t=>t
 | o::r,n,t=>qc5 r (n+1) (t.ins n o)
noncomputable def qez(P:Params)(a:OsState):SharedT:=⟨qc5 (boot_heap P).objs.toList 0 .nil,(boot_heap P).objs.size,(boot_heap P).life,Array.mk [],boot_drawn,boot_toks,a⟩
theorem boot_abs(P:Params):absHeap (qc5 (boot_heap P).objs.toList 0 .nil) (boot_heap P).objs.size (boot_heap P).life=boot_heap P:=by kernel_rfl
noncomputable def qeN(p q:Program)(Xt:Shared->Bool){α:Type}(Yf:Shared->α)(N:Nat)(w:World)(a:OsState):=match (boot_heap w.params).isNs mainGlobals&&(Array.mk []:Array GenState).size==0 with
 | true=>(qfy treeTable p w (boot_heap w.params).objs.size ((boot_heap w.params).nsMap mainGlobals "__annotations__") N (qez w.params a) (topStub p)).bind fun s=>match staticsOk (importedModules p.main.body) (boot_heap w.params) s.abs.heap&&namesBound p s.abs.heap&&gensDone s.abs&&laidKept (boot_heap w.params) s.abs.heap with
   | true=>some (openSeen q [] (importedModules p.main.body) Xt true s.abs,Yf s.abs)
   | false=>none
 | false=>none
noncomputable def lookS(p:Program)(N:Nat)(w:World)(a:OsState):Option Shared:=match (boot_heap w.params).isNs mainGlobals&&(Array.mk []:Array GenState).size==0 with
 | true=>(qfy treeTable p w (boot_heap w.params).objs.size ((boot_heap w.params).nsMap mainGlobals "__annotations__") N (qez w.params a) (topStub p)).bind fun s=>match staticsOk (importedModules p.main.body) (boot_heap w.params) s.abs.heap&&namesBound p s.abs.heap&&gensDone s.abs&&laidKept (boot_heap w.params) s.abs.heap with
   | true=>some s.abs
   | false=>none
 | false=>none
theorem lookT_map(p q:Program)(Xt:Shared->Bool)(Yf:Shared->α)(N:Nat)(w:World)(a:OsState):qeN p q Xt Yf N w a=(lookS p N w a).map fun s=>(openSeen q [] (importedModules p.main.body) Xt true s,Yf s):=by
 unfold qeN lookS
 cases (boot_heap w.params).isNs mainGlobals&&(Array.mk []:Array GenState).size==0 with
 | false=>rfl
 | true =>
  dsimp only
  cases qfy treeTable p w (boot_heap w.params).objs.size ((boot_heap w.params).nsMap mainGlobals "__annotations__") N (qez w.params a) (topStub p) with
  | none=>rfl
  | some s =>
   show(match _ with | true=>_ | false=>_)=Option.map _ (match _ with | true=>_ | false=>_);cases staticsOk (importedModules p.main.body) (boot_heap w.params) s.abs.heap&&namesBound p s.abs.heap&&gensDone s.abs&&laidKept (boot_heap w.params) s.abs.heap<;>rfl
theorem packs{b A B C D E Y:Type}{o:Option b}{f:b->A×B×C×D×E}{g:b->Y}{x:A×B×C×D×E}{y:Y}(h1:o.map (fun s=>((f s).1,(f s).2.1,(f s).2.2.1,(f s).2.2.2.1))=some (x.1,x.2.1,x.2.2.1,x.2.2.2.1))(i:o.map (fun s=>(f s).2.2.2.2)=some x.2.2.2.2)(c:o.map g=some y):o.map (fun s=>(f s,g s))=some (x,y):=by
 cases o with
 | none=>cases c
 | some s =>
  have a:=ym h1;have e:=ym i;have h:=ym c;have j:=congrArg Prod.fst a;have l:=congrArg (fun z=>z.2.1) a;have m:=congrArg (fun z=>z.2.2.1) a;have n:=congrArg (fun z=>z.2.2.2) a;show congrArg some (Xk (Xk j (Xk l (Xk m (Xk n e)))) h)
theorem left_of{q:Program}{Xt:Shared->Bool}{Yf:Shared->α}{Ya:World->α}{N:Nat}(e:opening p=plainProg p.main.scope.names)(n:Nat.ble 600 N=true)(f:∀ s,fenceModules? p s=some s)
  (h:∀ w a,qeN p q Xt Yf N w a=some (openGood q [],Ya w)):LeftO p q [] Xt Yf Ya N:=fun w=>by
 obtain⟨⟨m,l,d,k,a⟩,i,j⟩:=yn.mp (boot_open e n f w);obtain⟨rfl,rfl,rfl,rfl⟩:m=boot_heap w.params/\l=Array.mk []/\d=boot_drawn/\k=boot_toks:=by simpa using j
 have b:=h w a;unfold qeN at b;unfold openEnds;rw[i];show(topFrom treeTable p w N _).map _=_;unfold topFrom;dsimp only;split at b
 .rename_i z
  rw[z];obtain⟨s,o,c⟩:=Option.bind_eq_some_iff.mp b;have r:=qfg o
  have g:(qez w.params a).abs=⟨boot_heap w.params,Array.mk [],boot_drawn,boot_toks,a⟩:=by
   unfold qez SharedT.abs;dsimp only;rw[boot_abs]
  rw[g] at r;dsimp only;rw[r];split at c
  .rename_i z2
   show((match staticsOk (importedModules p.main.body) (boot_heap w.params) s.abs.heap&&namesBound p s.abs.heap&&gensDone s.abs&&laidKept (boot_heap w.params) s.abs.heap with | true=>some s.abs | false=>none):Option Shared).map _=_;rw[z2];show c
  .cases c
 .cases b
end Hd
namespace K47
open PySem L2 PyProof.Rows PySem.W
noncomputable abbrev NN:Nat:=20000
noncomputable def Q:Program:=view PySem.Challenge.pw_onceroad_k47_pairs_that_leave_out [0,2,3,4,5,6,7,8,9,11,12,13,15,17,18,19,20,21,23,24,25,27,28,29,31,32,34,35,36,37,38,39,40,41,43,44,45,46,47,48,49,50,51,52,53,54,55,56,57]
noncomputable def en(P:Params)(t:Tok)(v:Value)(k:Str):DictEntry:=⟨PyData.keyHash P k,.str k t,v⟩
noncomputable def cO(t a b r:Nat)(x y z v:Value)(e u:Nat)(q n:Str):Obj:=⟨.type "code",none,.fields #[.str n t,.str q (t+1),.str "/claim/cut.py" (t+2),.int a 0,.int b 0,.int 0 0,.int 0 0,.int 3 0,.ref r,.bool true,.int 181 0,x,y,z,v,.ref e,.int u 0,.int a 0,.str "/claim/cut.py" (u+1)],#[]⟩
noncomputable def cE(t b a r:Nat)(x y z v:Value)(e u:Nat)(n:Str):Obj:=cO t b a r x y z v e u n n
noncomputable def fO(k c:Nat)(s:Stmt)(m q n:Str):Obj:=⟨.type "function",none,.func (fnOf n q (qao s) (zD s) (qh s) .none .none .none (.str m k) none (.ref c) .none),#[]⟩
noncomputable def fE(k c:Nat)(s:Stmt)(m n:Str):Obj:=fO k c s m n n
noncomputable def Kf(P:Params):Frag:=
 (nat_lit 1,(⟨(.type "dict"),none,.dict #[en P 162 (.ref 4) "builtins",en P 163 (.ref 5) "__main__"] 2,#[]⟩:Obj)) ::
 (nat_lit 2,(⟨.none,none,.dict #[] 0,#[]⟩:Obj)) ::
 (nat_lit 3,(⟨(.type "dict"),none,.dict #[en P 165 (.str "law_onceroad_k47_pairs_that_leave_out" 877) "__name__",en P 166 .none "__doc__",en P 167 .none "__package__",en P 168 (.builtin "__main__.__loader__#opaque") "__loader__",en P 169 .none "__spec__",en P 170 (.ref 6) "__annotations__",en P 171 (.ref 4) "__builtins__",en P 173 (.str "/claim/cut.py" 172) "__file__",en P 174 .none "__cached__",en P 193 (.ref 21) "_wall",en P 221 (.ref 38) "OnceError",en P 246 (.ref 58) "NoName",en P 271 (.ref 77) "Twice",en P 296 (.ref 96) "NoPlace",en P 321 (.ref 115) "NoTie",en P 346 (.ref 134) "TooMany",en P 371 (.ref 153) "NoPairs",en P 396 (.ref 172) "NoRow",en P 408 (.ref 181) "are_pairs",en P 418 (.ref 188) "partners_in",en P 424 (.ref 193) "told_pairs",en P 555 (.ref 283) "Forest",en P 567 (.ref 294) "is_row",en P 577 (.ref 301) "are_unlike_places",en P 583 (.ref 306) "goes_by_turns",en P 595 (.ref 313) "can_turn",en P 601 (.ref 318) "turned",en P 610 (.ref 325) "greatest",en P 617 (.ref 332) "count_of",en P 628 (.ref 339) "greatest_from",en P 638 (.ref 346) "leaving_out",en P 647 (.ref 353) "leaving_both",en P 656 (.ref 360) "leaving_all",en P 660 (.int 6 659) "LONGEST_NAME",en P 666 (.ref 365) "is_name",en P 670 (.int 14 669) "MOST_PLACES",en P 672 (.int 30 671) "MOST_TIES",en P 830 (.ref 490) "Web",en P 838 (.ref 501) "has_bit",en P 846 (.ref 508) "is_place",en P 855 (.ref 515) "are_two_places",en P 864 (.ref 522) "numbers_of",en P 876 (.ref 529) "near_of",en P 886 (.ref 536) "_law_cell",en P 893 (.ref 543) "_law_purse",en P 903 (.ref 550) "_law_take",en P 909 (.ref 555) "_law_names",en P 923 (.ref 562) "_law_ties",en P 931 (.ref 569) "_law_many",en P 942 (.ref 576) "_law_made",en P 953 (.ref 583) "_law_bits",en P 968 (.ref 590) "_law_table",en P 981 (.ref 597) "_law_are_pairs",en P 987 (.ref 602) "_law_right",en P 996 (.ref 609) "_law_asked",en P 1008 (.ref 616) "_law_refused",en P 1022 (.ref 623) "_law_both",en P 1028 (.ref 628) "law"] 58,#[]⟩:Obj)) ::
 (nat_lit 34,cO 208 7 2 29 (.ref 30) .none (.ref 31) (.ref 32) 33 213 "OnceError.__init__" "__init__") ::
 (nat_lit 35,fO 194 34 jv "onceroad.errors" "OnceError.__init__" "__init__") ::
 (nat_lit 37,(⟨(.type "dict"),none,.dict #[en P 203 (.str "onceroad.errors" 194) "__module__",en P 207 (.int 5 206) "__firstlineno__",en P 215 (.ref 35) "__init__",en P 216 (.ref 36) "__static_attributes__",en P 218 (.ref 39) "__weakref__",en P 219 .none "__doc__"] 3,#[]⟩:Obj)) ::
 (nat_lit 38,(⟨(.type "type"),none,.cls { name:="OnceError",bases:=[(.type "ValueError")],mro:=[(.ref 38),(.type "ValueError"),(.type "Exception"),(.type "BaseException"),(.type "object")],ns:=37,qualname:="OnceError",hasDict:=true,slotNames:=[],subclasses:=[(.ref 58),(.ref 77),(.ref 96),(.ref 115),(.ref 134),(.ref 153),(.ref 172)],abstract:=false,collection:=none,hasDel:=false },#[(some (.ref 22)),none,(some (.str "OnceError" 196)),(some (.str "OnceError" 204)),(some (.builtin "ValueError.__new__")),(some (.bool true))]⟩:Obj)) ::
 (nat_lit 92,cO 284 21 2 87 (.ref 88) .none (.ref 89) (.ref 90) 91 289 "NoPlace.__init__" "__init__") ::
 (nat_lit 93,fO 194 92 jR "onceroad.errors" "NoPlace.__init__" "__init__") ::
 (nat_lit 95,(⟨(.type "dict"),none,.dict #[en P 279 (.str "onceroad.errors" 194) "__module__",en P 283 (.int 19 282) "__firstlineno__",en P 291 (.ref 93) "__init__",en P 293 (.ref 94) "__static_attributes__",en P 294 .none "__doc__"] 2,#[]⟩:Obj)) ::
 (nat_lit 96,(⟨(.type "type"),none,.cls { name:="NoPlace",bases:=[(.ref 38)],mro:=[(.ref 96),(.ref 38),(.type "ValueError"),(.type "Exception"),(.type "BaseException"),(.type "object")],ns:=95,qualname:="NoPlace",hasDict:=true,slotNames:=[],subclasses:=[],abstract:=false,collection:=none,hasDel:=false },#[(some (.ref 80)),none,(some (.str "NoPlace" 272)),(some (.str "NoPlace" 280)),(some (.builtin "ValueError.__new__")),(some (.bool true))]⟩:Obj)) ::
 (nat_lit 152,(⟨(.type "dict"),none,.dict #[en P 354 (.str "onceroad.errors" 194) "__module__",en P 358 (.int 34 357) "__firstlineno__",en P 366 (.ref 150) "__init__",en P 368 (.ref 151) "__static_attributes__",en P 369 .none "__doc__"] 2,#[]⟩:Obj)) ::
 (nat_lit 153,(⟨(.type "type"),none,.cls { name:="NoPairs",bases:=[(.ref 38)],mro:=[(.ref 153),(.ref 38),(.type "ValueError"),(.type "Exception"),(.type "BaseException"),(.type "object")],ns:=152,qualname:="NoPairs",hasDict:=true,slotNames:=[],subclasses:=[],abstract:=false,collection:=none,hasDel:=false },#[(some (.ref 137)),none,(some (.str "NoPairs" 347)),(some (.str "NoPairs" 355)),(some (.builtin "ValueError.__new__")),(some (.bool true))]⟩:Obj)) ::
 (nat_lit 180,cE 399 45 2 175 (.ref 176) .none (.ref 177) (.ref 178) 179 406 "are_pairs") ::
 (nat_lit 181,fE 397 180 zK "onceroad.pairs" "are_pairs") ::
 (nat_lit 187,cE 409 55 2 182 (.ref 183) .none (.ref 184) (.ref 185) 186 416 "partners_in") ::
 (nat_lit 188,fE 397 187 j0 "onceroad.pairs" "partners_in") ::
 (nat_lit 192,cE 419 63 2 189 (.ref 190) .none .none .none 191 422 "told_pairs") ::
 (nat_lit 193,fE 397 192 jX "onceroad.pairs" "told_pairs") ::
 (nat_lit 206,cO 439 69 3 201 (.ref 202) .none (.ref 203) (.ref 204) 205 445 "Forest.__init__" "__init__") ::
 (nat_lit 207,fO 425 206 j4 "onceroad.forests" "Forest.__init__" "__init__") ::
 (nat_lit 213,cO 448 80 1 208 (.ref 209) .none (.ref 210) (.ref 211) 212 452 "Forest.row" "row") ::
 (nat_lit 214,fO 425 213 zo "onceroad.forests" "Forest.row" "row") ::
 (nat_lit 241,cO 477 92 1 236 (.ref 237) .none (.ref 238) (.ref 239) 240 482 "Forest.grow" "grow") ::
 (nat_lit 242,fO 425 241 j3 "onceroad.forests" "Forest.grow" "grow") ::
 (nat_lit 248,cO 485 100 3 243 (.ref 244) .none (.ref 245) (.ref 246) 247 491 "Forest.reach" "reach") ::
 (nat_lit 249,fO 425 248 jT "onceroad.forests" "Forest.reach" "reach") ::
 (nat_lit 255,cO 494 104 2 250 (.ref 251) .none (.ref 252) (.ref 253) 254 501 "Forest.look_around" "look_around") ::
 (nat_lit 256,fO 425 255 jc "onceroad.forests" "Forest.look_around" "look_around") ::
 (nat_lit 260,cO 504 115 3 257 (.ref 258) .none .none .none 259 507 "Forest.bring_together" "bring_together") ::
 (nat_lit 261,fO 425 260 qJ "onceroad.forests" "Forest.bring_together" "bring_together") ::
 (nat_lit 267,cO 510 126 2 262 (.ref 263) .none (.ref 264) (.ref 265) 266 517 "Forest.bases_down_from" "bases_down_from") ::
 (nat_lit 268,fO 425 267 qR "onceroad.forests" "Forest.bases_down_from" "bases_down_from") ::
 (nat_lit 274,cO 520 133 4 269 (.ref 270) .none (.ref 271) (.ref 272) 273 531 "Forest.reach_round" "reach_round") ::
 (nat_lit 275,fO 425 274 q9 "onceroad.forests" "Forest.reach_round" "reach_round") ::
 (nat_lit 279,cO 534 142 3 276 (.ref 277) .none .none .none 278 537 "Forest.fold" "fold") ::
 (nat_lit 280,fO 425 279 jE "onceroad.forests" "Forest.fold" "fold") ::
 (nat_lit 282,(⟨(.type "dict"),none,.dict #[en P 434 (.str "onceroad.forests" 425) "__module__",en P 438 (.int 67 437) "__firstlineno__",en P 447 (.ref 207) "__init__",en P 454 (.ref 214) "row",en P 461 (.ref 221) "reached",en P 469 (.ref 228) "row_to",en P 476 (.ref 235) "folds",en P 484 (.ref 242) "grow",en P 493 (.ref 249) "reach",en P 503 (.ref 256) "look_around",en P 509 (.ref 261) "bring_together",en P 519 (.ref 268) "bases_down_from",en P 533 (.ref 275) "reach_round",en P 539 (.ref 280) "fold",en P 548 (.ref 281) "__static_attributes__",en P 550 (.ref 284) "__dict__",en P 552 (.ref 285) "__weakref__",en P 553 .none "__doc__"] 4,#[]⟩:Obj)) ::
 (nat_lit 283,(⟨(.type "type"),none,.cls { name:="Forest",bases:=[(.type "object")],mro:=[(.ref 283),(.type "object")],ns:=282,qualname:="Forest",hasDict:=true,slotNames:=[],subclasses:=[],abstract:=false,collection:=none,hasDel:=false },#[none,none,(some (.str "Forest" 427)),(some (.str "Forest" 435)),(some (.builtin "object.__new__")),(some (.bool true))]⟩:Obj)) ::
 (nat_lit 293,cE 558 148 3 288 (.ref 289) .none (.ref 290) (.ref 291) 292 565 "is_row") ::
 (nat_lit 294,fE 556 293 qa6 "onceroad.rows" "is_row") ::
 (nat_lit 300,cE 568 153 2 295 (.ref 296) .none (.ref 297) (.ref 298) 299 575 "are_unlike_places") ::
 (nat_lit 301,fE 556 300 jd "onceroad.rows" "are_unlike_places") ::
 (nat_lit 305,cE 578 162 3 302 (.ref 303) .none .none .none 304 581 "goes_by_turns") ::
 (nat_lit 306,fE 556 305 qU "onceroad.rows" "goes_by_turns") ::
 (nat_lit 312,cE 584 168 3 307 (.ref 308) .none (.ref 309) (.ref 310) 311 593 "can_turn") ::
 (nat_lit 313,fE 556 312 qag "onceroad.rows" "can_turn") ::
 (nat_lit 317,cE 596 175 3 314 (.ref 315) .none .none .none 316 599 "turned") ::
 (nat_lit 318,fE 556 317 qaK "onceroad.rows" "turned") ::
 (nat_lit 324,cE 604 182 1 319 (.ref 320) .none (.ref 321) (.ref 322) 323 608 "greatest") ::
 (nat_lit 325,fE 602 324 qah "onceroad.greatest" "greatest") ::
 (nat_lit 331,cE 611 184 1 326 (.ref 327) .none (.ref 328) (.ref 329) 330 615 "count_of") ::
 (nat_lit 332,fE 602 331 qai "onceroad.greatest" "count_of") ::
 (nat_lit 338,cE 618 186 2 333 (.ref 334) .none (.ref 335) (.ref 336) 337 626 "greatest_from") ::
 (nat_lit 339,fE 602 338 jF "onceroad.greatest" "greatest_from") ::
 (nat_lit 345,cE 631 196 2 340 (.ref 341) .none (.ref 342) (.ref 343) 344 636 "leaving_out") ::
 (nat_lit 346,fE 629 345 jG "onceroad.sorts" "leaving_out") ::
 (nat_lit 352,cE 639 198 3 347 (.ref 348) .none (.ref 349) (.ref 350) 351 645 "leaving_both") ::
 (nat_lit 353,fE 629 352 jt "onceroad.sorts" "leaving_both") ::
 (nat_lit 359,cE 648 200 2 354 (.ref 355) .none (.ref 356) (.ref 357) 358 654 "leaving_all") ::
 (nat_lit 360,fE 629 359 jH "onceroad.sorts" "leaving_all") ::
 (nat_lit 364,cE 661 205 1 361 (.ref 362) .none .none .none 363 664 "is_name") ::
 (nat_lit 365,fE 657 364 za "onceroad.names" "is_name") ::
 (nat_lit 378,cO 685 214 3 373 (.ref 374) .none (.ref 375) (.ref 376) 377 691 "Web.__init__" "__init__") ::
 (nat_lit 379,fO 667 378 qac "onceroad.webs" "Web.__init__" "__init__") ::
 (nat_lit 385,cO 694 219 1 380 (.ref 381) .none (.ref 382) (.ref 383) 384 698 "Web.places" "places") ::
 (nat_lit 386,fO 667 385 zl "onceroad.webs" "Web.places" "places") ::
 (nat_lit 392,cO 701 222 1 387 (.ref 388) .none (.ref 389) (.ref 390) 391 708 "Web.ties" "ties") ::
 (nat_lit 393,fO 667 392 qaf "onceroad.webs" "Web.ties" "ties") ::
 (nat_lit 406,cO 718 233 2 401 (.ref 402) .none (.ref 403) (.ref 404) 405 723 "Web.has_place" "has_place") ::
 (nat_lit 407,fO 667 406 jj "onceroad.webs" "Web.has_place" "has_place") ::
 (nat_lit 413,cO 726 236 2 408 (.ref 409) .none (.ref 410) (.ref 411) 412 731 "Web.has_tie" "has_tie") ::
 (nat_lit 414,fO 667 413 jZ "onceroad.webs" "Web.has_tie" "has_tie") ::
 (nat_lit 420,cO 734 239 2 415 (.ref 416) .none (.ref 417) (.ref 418) 419 739 "Web.number_of" "number_of") ::
 (nat_lit 421,fO 667 420 jk "onceroad.webs" "Web.number_of" "number_of") ::
 (nat_lit 427,cO 742 244 2 422 (.ref 423) .none (.ref 424) (.ref 425) 426 747 "Web.beside" "beside") ::
 (nat_lit 428,fO 667 427 zm "onceroad.webs" "Web.beside" "beside") ::
 (nat_lit 434,cO 750 247 2 429 (.ref 430) .none (.ref 431) (.ref 432) 433 755 "Web.bits_beside" "bits_beside") ::
 (nat_lit 435,fO 667 434 jm "onceroad.webs" "Web.bits_beside" "bits_beside") ::
 (nat_lit 441,cO 758 250 3 436 (.ref 437) .none (.ref 438) (.ref 439) 440 765 "Web.tied" "tied") ::
 (nat_lit 442,fO 667 441 qad "onceroad.webs" "Web.tied" "tied") ::
 (nat_lit 460,cO 782 260 2 457 (.ref 458) .none .none .none 459 785 "Web.names_in" "names_in") ::
 (nat_lit 461,fO 667 460 js "onceroad.webs" "Web.names_in" "names_in") ::
 (nat_lit 465,cO 788 263 2 462 (.ref 463) .none .none .none 464 791 "Web.without" "without") ::
 (nat_lit 466,fO 667 465 qT "onceroad.webs" "Web.without" "without") ::
 (nat_lit 489,(⟨(.type "dict"),none,.dict #[en P 680 (.str "onceroad.webs" 667) "__module__",en P 684 (.int 212 683) "__firstlineno__",en P 693 (.ref 379) "__init__",en P 700 (.ref 386) "places",en P 710 (.ref 393) "ties",en P 717 (.ref 400) "how_many",en P 725 (.ref 407) "has_place",en P 733 (.ref 414) "has_tie",en P 741 (.ref 421) "number_of",en P 749 (.ref 428) "beside",en P 757 (.ref 435) "bits_beside",en P 767 (.ref 442) "tied",en P 774 (.ref 449) "pieces",en P 781 (.ref 456) "told",en P 787 (.ref 461) "names_in",en P 793 (.ref 466) "without",en P 801 (.ref 473) "with_place",en P 810 (.ref 480) "with_tie",en P 819 (.ref 487) "without_tie",en P 823 (.ref 488) "__static_attributes__",en P 825 (.ref 491) "__dict__",en P 827 (.ref 492) "__weakref__",en P 828 .none "__doc__"] 4,#[]⟩:Obj)) ::
 (nat_lit 490,(⟨(.type "type"),none,.cls { name:="Web",bases:=[(.type "object")],mro:=[(.ref 490),(.type "object")],ns:=489,qualname:="Web",hasDict:=true,slotNames:=[],subclasses:=[],abstract:=false,collection:=none,hasDel:=false },#[none,none,(some (.str "Web" 673)),(some (.str "Web" 681)),(some (.builtin "object.__new__")),(some (.bool true))]⟩:Obj)) ::
 (nat_lit 500,cE 831 281 2 495 (.ref 496) .none (.ref 497) (.ref 498) 499 836 "has_bit") ::
 (nat_lit 501,fE 667 500 qaG "onceroad.webs" "has_bit") ::
 (nat_lit 507,cE 839 283 2 502 (.ref 503) .none (.ref 504) (.ref 505) 506 844 "is_place") ::
 (nat_lit 508,fE 667 507 zx "onceroad.webs" "is_place") ::
 (nat_lit 514,cE 847 285 2 509 (.ref 510) .none (.ref 511) (.ref 512) 513 853 "are_two_places") ::
 (nat_lit 515,fE 667 514 jw "onceroad.webs" "are_two_places") ::
 (nat_lit 521,cE 856 290 1 516 (.ref 517) .none (.ref 518) (.ref 519) 520 862 "numbers_of") ::
 (nat_lit 522,fE 667 521 zj "onceroad.webs" "numbers_of") ::
 (nat_lit 528,cE 865 303 2 523 (.ref 524) .none (.ref 525) (.ref 526) 527 874 "near_of") ::
 (nat_lit 529,fE 667 528 qaI "onceroad.webs" "near_of") ::
 (nat_lit 535,cE 879 320 2 530 (.ref 531) .none (.ref 532) (.ref 533) 534 884 "_law_cell") ::
 (nat_lit 536,fE 877 535 qa9 "law_onceroad_k47_pairs_that_leave_out" "_law_cell") ::
 (nat_lit 542,cE 887 324 1 537 (.ref 538) .none (.ref 539) (.ref 540) 541 891 "_law_purse") ::
 (nat_lit 543,fE 877 542 qaL "law_onceroad_k47_pairs_that_leave_out" "_law_purse") ::
 (nat_lit 549,cE 894 326 2 544 (.ref 545) .none (.ref 546) (.ref 547) 548 901 "_law_take") ::
 (nat_lit 550,fE 877 549 qba "law_onceroad_k47_pairs_that_leave_out" "_law_take") ::
 (nat_lit 554,cE 904 336 2 551 (.ref 552) .none .none .none 553 907 "_law_names") ::
 (nat_lit 555,fE 877 554 zX "law_onceroad_k47_pairs_that_leave_out" "_law_names") ::
 (nat_lit 561,cE 910 354 2 556 (.ref 557) .none (.ref 558) (.ref 559) 560 921 "_law_ties") ::
 (nat_lit 562,fE 877 561 qbc "law_onceroad_k47_pairs_that_leave_out" "_law_ties") ::
 (nat_lit 568,cE 924 366 2 563 (.ref 564) .none (.ref 565) (.ref 566) 567 929 "_law_many") ::
 (nat_lit 569,fE 877 568 qbb "law_onceroad_k47_pairs_that_leave_out" "_law_many") ::
 (nat_lit 575,cE 932 368 2 570 (.ref 571) .none (.ref 572) (.ref 573) 574 940 "_law_made") ::
 (nat_lit 576,fE 877 575 qbd "law_onceroad_k47_pairs_that_leave_out" "_law_made") ::
 (nat_lit 582,cE 943 373 2 577 (.ref 578) .none (.ref 579) (.ref 580) 581 951 "_law_bits") ::
 (nat_lit 583,fE 877 582 qbe "law_onceroad_k47_pairs_that_leave_out" "_law_bits") ::
 (nat_lit 589,cE 954 379 2 584 (.ref 585) .none (.ref 586) (.ref 587) 588 966 "_law_table") ::
 (nat_lit 590,fE 877 589 qaM "law_onceroad_k47_pairs_that_leave_out" "_law_table") ::
 (nat_lit 596,cE 969 393 3 591 (.ref 592) .none (.ref 593) (.ref 594) 595 979 "_law_are_pairs") ::
 (nat_lit 597,fE 877 596 j6 "law_onceroad_k47_pairs_that_leave_out" "_law_are_pairs") ::
 (nat_lit 601,cE 982 406 5 598 (.ref 599) .none .none .none 600 985 "_law_right") ::
 (nat_lit 602,fE 877 601 zd "law_onceroad_k47_pairs_that_leave_out" "_law_right") ::
 (nat_lit 608,cE 988 418 3 603 (.ref 604) .none (.ref 605) (.ref 606) 607 994 "_law_asked") ::
 (nat_lit 609,fE 877 608 qaN "law_onceroad_k47_pairs_that_leave_out" "_law_asked") ::
 (nat_lit 615,cE 997 422 4 610 (.ref 611) .none (.ref 612) (.ref 613) 614 1006 "_law_refused") ::
 (nat_lit 616,fE 877 615 zN "law_onceroad_k47_pairs_that_leave_out" "_law_refused") ::
 (nat_lit 622,cE 1009 434 6 617 (.ref 618) .none (.ref 619) (.ref 620) 621 1020 "_law_both") ::
 (nat_lit 623,fE 877 622 qbf "law_onceroad_k47_pairs_that_leave_out" "_law_both") ::
 (nat_lit 627,cE 1023 443 1 624 (.ref 625) .none .none .none 626 1026 "law") ::
 (nat_lit 628,fE 877 627 qcQ "law_onceroad_k47_pairs_that_leave_out" "law") ::
 []
noncomputable def ks:List Addr:=[1,2,3,34,35,37,38,92,93,95,96,152,153,180,181,187,188,192,193,206,207,213,214,241,242,248,249,255,256,260,261,267,268,274,275,279,280,282,283,293,294,300,301,305,306,312,313,317,318,324,325,331,332,338,339,345,346,352,353,359,360,364,365,378,379,385,386,392,393,406,407,413,414,420,421,427,428,434,435,441,442,460,461,465,466,489,490,500,501,507,508,514,515,521,522,528,529,535,536,542,543,549,550,554,555,561,562,568,569,575,576,582,583,589,590,596,597,601,602,608,609,615,616,622,623,627,628]
theorem ks_eq:∀ P,ks=(Kf P).map (·.1):=fun P=>by kernel_rfl
noncomputable abbrev Hk:Hook:=kHook Kf ks ks_eq
noncomputable abbrev Xt(s:Shared):Bool:=xlAt Q [] s&&recOk [] s
noncomputable abbrev sn(s:Shared):=openSeen Q [] (importedModules PySem.Challenge.pw_onceroad_k47_pairs_that_leave_out.main.body) Xt true s
noncomputable def runA(w:World)(a:OsState):=(Hd.lookS PySem.Challenge.pw_onceroad_k47_pairs_that_leave_out NN w a).map fun s=>((sn s).1,(sn s).2.1,(sn s).2.2.1,(sn s).2.2.2.1)
noncomputable def runB(w:World)(a:OsState):=(Hd.lookS PySem.Challenge.pw_onceroad_k47_pairs_that_leave_out NN w a).map fun s=>(sn s).2.2.2.2
noncomputable def runC(w:World)(a:OsState):=(Hd.lookS PySem.Challenge.pw_onceroad_k47_pairs_that_leave_out NN w a).map fun s=>ks.map s.heap.get?
noncomputable def gdA(_:World)(_:OsState):=some ((openGood Q []).1,(openGood Q []).2.1,(openGood Q []).2.2.1,(openGood Q []).2.2.2.1)
noncomputable def gdB(_:World)(_:OsState):=some (openGood Q []).2.2.2.2
noncomputable def gdC(w:World)(_:OsState):=some ((Kf w.params).map fun p=>some p.2)
noncomputable def tag{a:Type}(f g:World->OsState->a):Bool:=true
theorem tag1:(tag runA gdA&&(tag runB gdB&&tag runC runC))=true:=by k_qdec
theorem hA1(w:World)(a:OsState):runA w a=gdA w a:=by
 rw[PySem.W.Fast.te829448282658297155,PySem.W.Fast.te5647138678785034669]
 kernel_rfl
theorem hB1(w:World)(a:OsState):runB w a=gdB w a:=by
 rw[PySem.W.Fast.te16874581790382363624,PySem.W.Fast.te6980293748643830938]
 kernel_rfl
theorem hC1(w:World)(a:OsState):runC w a=gdC w a:=by
 rw[PySem.W.Fast.te10961130953300075049]
 kernel_rfl
theorem hl:LeftO PySem.Challenge.pw_onceroad_k47_pairs_that_leave_out Q [] Xt (Hook.obs Hk) (Hook.val Hk) NN:=Hd.left_of (by kernel_rfl) (by decide) (fun s=>by kernel_rfl) fun w a=>(Hd.lookT_map ..).trans (Hd.packs (hA1 w a) (hB1 w a) (hC1 w a))
end K47
namespace L2
open PySem PySem.Spec PyProof.Rows
variable{A:Around}{C a b dx it:Addr}{CX:CXT}{D:Ends}{E:Value->Shared->Prop}{H:Hp}{M:Model}{N ps:List Str}{P:Program}{X:Cx}{base h:Heap}{body:List Stmt}{c e tg:Expr}{ch fp:List Addr}{d':Drawn}{es:List Expr}{f:Value->Value->Sem Value}{g:TG}{g':Array GenState}{i j n t':Nat}{kindOf:Str->Option NameKind}{kw:List (Str×Value)}{lo:Int}{mA mg:Str->Option Value}{o:HO}{op op':CmpOp}{outer:List Env}{p pos:Pos}{pins:List (Addr×Obj)}{pl:Sem Bool}{qual x:Str}{r r':R2}{s s':Shared}{sc scope:Scope}{t te:TE}{ta:TA}{tb:TS}{tc:TT}{u:Value}{us:List Value}{v y:V}{vs xs:List V}{w:World}{α:Type}{σ:St}
noncomputable abbrev Key:=Sum Int Str
noncomputable def qcR:Key->Value->Bool
 | .inl k,v=>Value.isInt k v
 | .inr x,v=>Value.isStrOf x v
noncomputable def keyH(w:World):Key->Int
 | .inl k=>hashInt k
 | .inr x=>hashStr w x
theorem qY:∀{k:Key} {v:Value},qcR k v=true->(∃ i t,k=Sum.inl i/\v=Value.int i t)\/(∃ x t,k=Sum.inr x/\v=Value.str x t)
 | .inl i,v,h=>by
  obtain⟨t,e⟩:=Value.isInt_shape (k:=i) (v:=v) h;show .inl ⟨i,t,rfl,e⟩
 | .inr x,v,h=>by
  obtain⟨t,e⟩:=Value.isStrOf_shape (x:=x) (v:=v) h;show .inr ⟨x,t,rfl,e⟩
theorem keyIs_int(i:Int)(t:Tok):qcR (.inl i) (.int i t)=true:=by simp[qcR,Value.isInt]
theorem keyIs_str(x:Str)(t:Tok):qcR (.inr x) (.str x t)=true:=by simp[qcR,Value.isStrOf]
theorem key_ll(a b:Int):decide ((Sum.inl a:Key)=Sum.inl b)=(a==b):=by
 by_cases e:a=b
 .subst e;simp
 .have h:¬ (Sum.inl a:Key)=Sum.inl b:=fun q=>e (Sum.inl.inj q);rw[yl h];show(Yx.mpr e).symm
theorem key_rr(a b:Str):decide ((Sum.inr a:Key)=Sum.inr b)=decide (a=b):=by
 by_cases e:a=b
 .subst e;simp
 .have h:¬ (Sum.inr a:Key)=Sum.inr b:=fun q=>e (xJ q);rw[yl h,yl e]
theorem key_lr(a:Int)(b:Str):decide ((Sum.inl a:Key)=Sum.inr b)=false:=yl (fun q=>nomatch q)
theorem key_rl(a:Str)(b:Int):decide ((Sum.inr a:Key)=Sum.inl b)=false:=yl (fun q=>nomatch q)
noncomputable def jo(prog:Program)(w:World):PySem.KeyKind prog w Key where
 is:=qcR
 hash:=keyH w
 inj:=fun v a b c hb=>by
  rcases qY c with⟨i,t,rfl,rfl⟩ | ⟨x,t,rfl,rfl⟩
  .rcases qY hb with⟨j,u,rfl,e⟩ | ⟨y,u,rfl,e⟩
   .injection e with e1 _;rw[e1]
   .show nomatch e
  .rcases qY hb with⟨j,u,rfl,e⟩ | ⟨y,u,rfl,e⟩
   .show nomatch e
   .injection e with e1 _;rw[e1]
 byValue:=fun k v h=>by
  rcases qY h with⟨i,t,rfl,rfl⟩ | ⟨x,t,rfl,rfl⟩<;>rfl
 pyHash:=fun hv h=>by
  rcases qY hv with⟨i,t,rfl,rfl⟩ | ⟨x,t,rfl,rfl⟩
  .show wpAny_pyHash_int h
  .show wpAny_pyHash_str h
 eqBool:=fun f hv h=>by
  rcases qY f with⟨i,t,rfl,rfl⟩ | ⟨x,t,rfl,rfl⟩
  .rcases qY hv with⟨j,u,rfl,rfl⟩ | ⟨y,u,rfl,rfl⟩
   .rw [key_ll] at h;show wpAny_eqBool_int h
   .rw [key_lr] at h;show SeqAt.EqAt.int_str i t y u _ _ _ _ h
  .rcases qY hv with⟨j,u,rfl,rfl⟩ | ⟨y,u,rfl,rfl⟩
   .rw [key_rl] at h;show SeqAt.EqAt.str_int x t j u _ _ _ _ h
   .rw [key_rr] at h;show wpAny_eqBool_str h
 «strs»:=fun k x t v h=>by
  rcases qY h with⟨i,u,rfl,e⟩ | ⟨y,u,rfl,e⟩
  .show nomatch e
  .injection e with e1 _
   subst e1;cases v<;>rfl
theorem mixKind_int(prog:Program)(w:World)(i:Int)(t:Tok):(jo prog w).is (.inl i) (.int i t)=true:=keyIs_int i t
theorem mixKind_str(prog:Program)(w:World)(x:Str)(t:Tok):(jo prog w).is (.inr x) (.str x t)=true:=keyIs_str x t
inductive V where
 | non | bl (b:Bool) | int (i:Int) | str (x:Str) | byt (b:Array UInt8) | flt (b:UInt64) | ref (a:Addr) | ty (n:String)
 deriving DecidableEq
def RelV:V->Value->Prop
 | .non,u=>u=Value.none
 | .bl b,u=>u=Value.bool b
 | .int i,u=>∃ t,u=Value.int i t
 | .str x,u=>∃ t,u=Value.str x t
 | .byt b,u=>∃ t,u=Value.bytes b t
 | .flt b,u=>∃ t,u=Value.float b t
 | .ref a,u=>u=Value.ref a
 | .ty n,u=>u=Value.type n
abbrev Vals:List V->List Value->Prop:=Paired RelV
theorem Vals.length(r:Vals xs us):xs.length=us.length:=Paired.length r
theorem Vals.get:∀{xs:List V} {us:List Value} {i:Nat} {x:V},Vals xs us->xs[i]?=some x->∃ u,us[i]?=some u/\RelV x u
 | _,_,_,_,.nil,e=>by simp at e
 | _,_,0,_,.cons r _,e=>by simp at e;subst e;show⟨_,rfl,r⟩
 | _,_,i+1,x,.cons _ t,e=>by
  obtain⟨u,h1,a⟩:=Vals.get (i:=i) (x:=x) t (by simpa using e);show⟨u,by simpa using h1,a⟩
theorem Vals.set{x:V}(r:RelV x u):∀{xs:List V} {us:List Value} (i:Nat),Vals xs us->Vals (xs.set i x) (us.set i u)
 | _,_,_,.nil=>.nil
 | _,_,0,.cons _ t=>.cons r t
 | _,_,i+1,.cons q t=>.cons q (Vals.set r i t)
theorem Vals.append:∀{xs ys:List V} {us a:List Value},Vals xs us->Vals ys a->Vals (xs++ys) (us++a)
 | _,_,_,_,.nil,s=>s
 | _,_,_,_,.cons r t,s=>.cons r (Vals.append t s)
theorem Vals.take:∀{xs:List V} {us:List Value} (n:Nat),Vals xs us->Vals (xs.take n) (us.take n)
 | _,_,0,_=>.nil
 | _,_,_+1,.nil=>.nil
 | _,_,n+1,.cons r t=>.cons r (Vals.take n t)
theorem Vals.drop:∀{xs:List V} {us:List Value} (n:Nat),Vals xs us->Vals (xs.drop n) (us.drop n)
 | _,_,0,r=>r
 | _,_,_+1,.nil=>.nil
 | _,_,n+1,.cons _ t=>Vals.drop n t
def RelO:Option V->Option Value->Prop
 | some v,some u=>RelV v u
 | none,none=>True
 | _,_=>False
def KV{a:Type}:List (a×V)->List (a×Value)->Prop:=Paired fun(p:a×V) (q:a×Value)=>p.1=q.1/\RelV p.2 q.2
noncomputable def kV:Key->V
 | .inl i=>.int i
 | .inr x=>.str x
inductive HO where
 /-- a list -/
 | lst (xs:List V)
 /-- a tuple (never changes) -/
 | tup (xs:List V)
 /-- a dict whose keys are ints and texts;one whose keys are tuples of ints and texts (the empty one is both) -/
 | dK (kvs:List (Key×V)) | dT (kvs:List (List Key×V))
 /-- a set of ints: its members,its size -/
 | set (S:Int->Bool) (n:Nat)
 /-- an instance of the class at C,its dict at dx,its attributes -/
 | ins (C dx:Addr) (fs:List (Str×V))
 /-- the dict of the instance at x -/
 | own (x:Addr)
 /-- the dict of an exception -/
 | xd (fs:List (Str×V))
 /-- a bound method,f of x -/
 | met (f x:Addr)
 /-- a range object lo,lo+1,.. below hi -/
 | rng (lo hi:Int)
 /-- a thing that is known to the object (the script;a dict while a loop walks it): read,never written while it is so -/
 | frz (o:Obj) (u:HO)
 /-- a code object's table -/
 | tbl (ps:Array Value)
 /-- any other thing,by what is true of its one object (a def of one's own: SetO a S n:=HO.ext fun h=>..) -/
 | ext (φ:Heap->Prop)
noncomputable abbrev Hp:=Addr->Option HO
noncomputable def upd(H:Hp)(a:Addr)(o:HO):Hp:=fun b=>if b=a then some o else H b
theorem qb:upd H a o a=some o:=by unfold upd;rw[yG rfl]
theorem qf(h:b≠a):upd H a o b=H b:=by unfold upd;rw[yD h]
theorem qam{u:HO}(h:H a=some o)(h':H b=some u)(d:o≠u):a≠b:=by
 intro e;subst e;rw[h] at h';show d (ym h')
theorem qK(h:H a=some o)(h':H b=none):a≠b:=by
 intro e;subst e;rw[h] at h';cases h'
section
variable(P:Program)(w:World)
def ObjOk(H:Hp)(h:Heap)(a:Addr):HO->Prop
 | .lst xs=>xs.length<=sizeLine/\∃(b:List Value) (n:Nat),Vals xs b/\h.get? a=some { cls:=.type "list",data:=.seq b.toArray n }
 | .tup xs=>xs.length<=sizeLine/\∃ b:List Value,Vals xs b/\IsTup h a b.toArray
 | .dK kvs=>kvs.length<=sizeLine/\(a==sysModules)=false/\∃ vs,KV kvs vs/\h.DictOf (jo P w) a vs
 | .dT kvs=>kvs.length<=sizeLine/\(a==sysModules)=false/\∃ xs:List (List Key×Addr×Value),
   Paired (fun(p:List Key×V) (q:List Key×Addr×Value)=>p.1=q.1/\H q.2.1=some (.tup (p.1.map kV))/\RelV p.2 q.2.2) kvs xs /\
   ∃ o es ep,h.get? a=some o/\o.ExactDict/\o.data=.dict es ep/\es.toList=xs.map (entryOfKey (tupleKind (jo P w)))/\(xs.map (·.1)).Nodup
 | .set S n=>h.SetOf (intKind P w) a S n
 | .ins C dx fs=>H dx=some (.own a)/\fs.length<=1000/\dx≠a/\h.get? a=some (PySem.W.instObj C dx) /\
   ∃ mA,h.Ns1 dx mA/\(∀ f,RelO (fs.lookup f) (mA f))/\PySem.Within mA (fs.map (·.1))
 | .own _=>∃ o,h.get? a=some o
 | .xd fs=>∃ mA,h.Ns1 a mA/\∀ f,RelO (fs.lookup f) (mA f)
 | .rng lo hi=>∃ t u v,h.get? a=some { cls:=.type "range",data:=.fields #[.int lo t,.int hi u,.int 1 v] }
 | .frz o u=>h.get? a=some o/\ObjOk H h a u
 | .tbl ps=>h.get? a=some { cls:=.none,data:=.fields ps }
 | .met f x=>h.get? a=some (PySem.W.methodObj (.ref f) (.ref x))
 | .ext φ=>φ h/\(∃ o,h.get? a=some o)/\∀ h1 c:Heap,φ h1->(∀ o,h1.get? a=some o->c.get? a=some o)->φ c
def HOk(H:Hp)(h:Heap):Prop:=∀ a o,H a=some o->ObjOk P w H h a o
end
section
variable{P:Program}{w:World}{H H':Hp}{h h':Heap}{a:Addr}{o:HO}
theorem ObjOk.lt(x:ObjOk P w H h a o):a<h.objs.size:=by
 cases o with
 | lst xs=>obtain⟨_,_,_,_,e⟩:=x;show yH e
 | tup xs=>obtain⟨_,_,_,p⟩:=x;show p.lt
 | dK kvs=>obtain⟨_,_,_,_,o,_,_,e,_⟩:=x;show yH e
 | dT kvs=>obtain⟨_,_,_,_,o,_,_,e,_⟩:=x;show yH e
 | set S n=>obtain⟨o,_,_,_,e,_⟩:=x;show yH e
 | ins C dx fs=>obtain⟨_,_,_,e,_⟩:=x;show yH e
 | own y=>obtain⟨_,e⟩:=x;show yH e
 | xd fs=>obtain⟨_,⟨_,_,_,e,_⟩,_⟩:=x;show yH e
 | rng lo hi=>obtain⟨_,_,_,e⟩:=x;show yH e
 | frz ob u=>obtain⟨e,_⟩:=x;show yH e
 | tbl ps=>show yH (show h.get? a=some _ from x)
 | met f y=>show yH (show h.get? a=some _ from x)
 | ext φ=>obtain⟨_,⟨_,e⟩,_⟩:=x;show yH e
theorem Paired.mapP{e:Type}{F G:α->e->Prop}:∀{l₁:List α} {c:List e},Paired F l₁ c->(∀ a b,F a b->G a b)->Paired G l₁ c
 | _,_,.nil,_=>.nil
 | _,_,.cons r t,f=>.cons (f _ _ r) (Paired.mapP t f)
theorem ObjOk.stay(x:ObjOk P w H h a o)(k:∀ b u,(b=a\/H b=some (.own a))->h.get? b=some u->h'.get? b=some u)
  (l:∀ b,H b=some (.own a)->H' b=some (.own a)) (m:∀ b xs,H b=some (.tup xs)->H' b=some (.tup xs)):ObjOk P w H' h' a o:=by
 induction o with
 | lst xs=>obtain⟨z,i,n,r,e⟩:=x;show⟨z,i,n,r,k _ _ (.inl rfl) e⟩
 | tup xs=>obtain⟨z,i,r,g,e,c⟩:=x;show⟨z,i,r,g,k _ _ (.inl rfl) e,c⟩
 | dK kvs=>obtain⟨z,y,vs,r,g,es,ep,e,c⟩:=x;show⟨z,y,vs,r,g,es,ep,k _ _ (.inl rfl) e,c⟩
 | dT kvs =>
  obtain⟨z,y,xs,r,g,es,ep,e,c⟩:=x;show⟨z,y,xs,Paired.mapP r fun p q z=>⟨z.1,m _ _ z.2.1,z.2.2⟩,g,es,ep,k _ _ (.inl rfl) e,c⟩
 | set S n=>obtain⟨g,es,ep,t,e,c⟩:=x;show⟨g,es,ep,t,k _ _ (.inl rfl) e,c⟩
 | ins C dx fs =>
  obtain⟨d,z,ne,e,mA,⟨od,es,ep,j,c⟩,r⟩:=x;show⟨l _ d,z,ne,k _ _ (.inl rfl) e,mA,⟨od,es,ep,k _ _ (.inr d) j,c⟩,r⟩
 | own y=>obtain⟨g,e⟩:=x;show⟨g,k _ _ (.inl rfl) e⟩
 | xd fs=>obtain⟨mA,⟨od,es,ep,e,c⟩,r⟩:=x;show⟨mA,⟨od,es,ep,k _ _ (.inl rfl) e,c⟩,r⟩
 | rng lo hi=>obtain⟨t,u,v,e⟩:=x;show⟨t,u,v,k _ _ (.inl rfl) e⟩
 | frz g u ih=>obtain⟨e,q⟩:=x;show⟨k _ _ (.inl rfl) e,ih q⟩
 | tbl ps =>
  have e:h.get? a=some { cls:=.none,data:=.fields ps }:=x;show h'.get? a=some { cls:=.none,data:=.fields ps };show k a _ (.inl rfl) e
 | met f y =>
  have e:h.get? a=some (PySem.W.methodObj (.ref f) (.ref y)):=x;show h'.get? a=some (PySem.W.methodObj (.ref f) (.ref y));show k a _ (.inl rfl) e
 | ext φ=>obtain⟨p,⟨o,e⟩,st⟩:=x;show⟨st _ _ p fun o q=>k _ _ (.inl rfl) q,⟨o,k _ _ (.inl rfl) e⟩,st⟩
theorem HOk.lt(x:HOk P w H h)(e:H a=some o):a<h.objs.size:=(x a o e).lt
theorem HOk.fresh(x:HOk P w H h)(e:h.objs.size<=a):H a=none:=by
 cases q:H a with
 | none=>rfl
 | some u=>show absurd (yj (x.lt q) e) (Yy _)
theorem HOk.kept(x:HOk P w H h)(k:∀ b u,h.get? b=some u->h'.get? b=some u):HOk P w H h':=fun a o e =>
 (x a o e).stay (fun b u _ q=>k b u q) (fun _ q=>q) fun _ _ q=>q
theorem HOk.laid(x:HOk P w H h)(k:∀ b u,h.get? b=some u->h'.get? b=some u)(g:h.objs.size<=a)(new:ObjOk P w (upd H a o) h' a o):HOk P w (upd H a o) h':=fun b u e=>by
 have f:=x.fresh g;by_cases hb:b=a
 .subst hb;rw[qb] at e;cases e;show new
 .rw [qf hb] at e;show(x b u e).stay (fun c v _ q=>k c v q) (fun c q=>by rw[qf (qK q f)];show q) fun c xs q=>by rw[qf (qK q f)];show q
end
def Rd(H:Hp)(a:Addr)(u:HO):Prop:=H a=some u\/∃ o,H a=some (.frz o u)
theorem Rd.ok{u:HO}(r:Rd H a u)(x:HOk P w H h):ObjOk P w H h a u:=by
 rcases r with r | ⟨o,r⟩
 .show x a u r
 .obtain⟨_,q⟩:=x a _ r;show q
def Mut:Option HO->Prop
 | some (.lst _)=>True
 | some (.dK _)=>True
 | some (.dT _)=>True
 | some (.set _ _)=>True
 | some (.ins _ _ _)=>True
 | some (.ext _)=>True
 | _=>False
section
variable{P:Program}{w:World}{H:Hp}{h h':Heap}{x e:Addr}{o':HO}
theorem HOk.write(ok:HOk P w H h)(i:Mut (H x))(l:e=x\/H e=some (.own x))(k:∀ b u,b≠e->h.get? b=some u->h'.get? b=some u)(j:∃ u,h'.get? e=some u)
  (new:ObjOk P w (upd H x o') h' x o'):HOk P w (upd H x o') h':=fun b u q=>by
 have f:∀ c y,H c=some (.own y)->c≠x:=fun c y r z=>by subst z;rw[r] at i;show i
 have g:∀ c xs,H c=some (.tup xs)->c≠x:=fun c xs r z=>by subst z;rw[r] at i;show i
 by_cases hb:b=x
 .subst hb;rw[qb] at q;cases q;show new
 .rw [qf hb] at q;by_cases a:b=e
  .have m:H b=some (.own x):=by
    rcases l with z | z
    .show absurd (a.trans z) hb
    .rw [a];show z
   rw[q] at m;cases m;obtain⟨v,hv⟩:=j;show⟨v,by rw[a];show hv⟩
  .show(ok b u q).stay (fun c v hc r=>k c v ?_ r) (fun c r=>by rw[qf (f c b r)];show r) fun c xs r=>by rw[qf (g c xs r)];show r
   rcases hc with rfl | hc
   .show a
   .rintro rfl;rcases l with z | z
    .show f c b hc z
    .rw [hc] at z;cases z;show hb rfl
end
structure Un(fs ex:List Addr)(H H':Hp)(h h':Heap):Prop where
 keep:∀ b o,h.get? b=some o->H b=none->b∉fs->b∉ex->h'.get? b=some o
 slot:∀ b o,h.get? b=some o->H b=none->b∈fs->b∉ex->∃ sl,h'.get? b=some { o with slots:=sl }
 free:∀ b o,h.get? b=some o->H b=none->b∉ex->H' b=none
 there:∀ b o,h.get? b=some o->b∉ex->∃ o',h'.get? b=some o'
 tups:∀ b xs,H b=some (.tup xs)->H' b=some (.tup xs)
 frzs:∀ b o u,H b=some (.frz o u)->H' b=some (.frz o u)
 tbls:∀ b ps,H b=some (.tbl ps)->∃ more,H' b=some (.tbl (ps++more))
section
variable{fs fs' ex ex':List Addr}{H H1 H2:Hp}{h h1 h2 h':Heap}{a x e:Addr}{o:HO}
theorem Un.any(u:Un fs ex H H1 h h1){a:Obj}(q:h.get? b=some a)(n:H b=none)(c:b∉ex):∃ e,h1.get? b=some { a with slots:=e }:=by
 by_cases hb:b∈fs
 .show u.slot b a q n hb c
 .show⟨a.slots,u.keep b a q n hb c⟩
theorem Un.kept(k:∀ b u,h.get? b=some u->h'.get? b=some u):Un fs ex H H h h':=
 ⟨fun b a q _ _ _=>k b a q,fun b a q _ _ _=>⟨a.slots,k b a q⟩,fun _ _ _ n _=>n,fun b a q _=>⟨a,k b a q⟩,fun _ _ q=>q,fun _ _ _ q=>q,fun _ ps q=>⟨#[],by rw[q];simp⟩⟩
theorem Un.refl:Un fs ex H H h h:=Un.kept fun _ _ q=>q
theorem Un.laid(k:∀ b u,h.get? b=some u->h'.get? b=some u)(e:h.objs.size<=a)(c:H a=none):Un fs ex H (upd H a o) h h' where
 keep:=fun b u q _ _ _=>k b u q
 slot:=fun b u q _ _ _=>⟨u.slots,k b u q⟩
 free:=fun b u q n _=>by rw[qf (yE (yj (yH q) e))];show n
 there:=fun b u q _=>⟨u,k b u q⟩
 tups:=fun b xs q=>by rw[qf (qK q c)];show q
 frzs:=fun b u xs q=>by rw[qf (qK q c)];show q
 tbls:=fun b ps q=>⟨#[],by rw[qf (qK q c),q];simp⟩
theorem Un.write(c:Mut (H x))(j:e=x\/H e=some (.own x))(k:∀ b u,b≠e->h.get? b=some u->h'.get? b=some u)(f:∃ u,h'.get? e=some u):Un fs ex H (upd H x o) h h':=by
 have i:∀ b,H b=none->b≠x:=fun b n z=>by subst z;rw[n] at c;show c
 have hb:∀ b,H b=none->b≠e:=fun b n z=>by
  subst z;rcases j with r | r
  .show i b n r
  .rw [n] at r;cases r
 have g:∀ b u,H b=some u->¬ Mut (some u)->b≠x:=fun b u q l z=>by subst z;rw[q] at c;show l c
 show⟨fun b u q n _ _=>k b u (hb b n) q,fun b u q n _ _=>⟨u.slots,k b u (hb b n) q⟩,fun b u q n _=>by rw[qf (i b n)];show n,fun b u q _=>?_,
  fun b xs q=>by rw[qf (g b _ q fun z=>z)];show q,fun b u xs q=>by rw[qf (g b _ q fun z=>z)];show q,fun b ps q=>⟨#[],by rw[qf (g b _ q fun z=>z),q];simp⟩⟩
 by_cases a:b=e
 .subst a;show f
 .show⟨u,k b u a q⟩
end
noncomputable def trk(h:Heap)(H:Hp):List Addr:=(List.range h.objs.size).filter fun a=>(H a).isSome
noncomputable def qeD(h:Heap)(H:Hp):Heap:=PySem.W.hideAll h (trk h H)
theorem hidT_size(h:Heap)(H:Hp):(qeD h H).objs.size=h.objs.size:=PySem.W.hideAll_size _ _
theorem hidT_get{o:Obj}(e:h.get? b=some o)(n:H b=none):(qeD h H).get? b=some o:=
 PySem.W.hideAll_get _ e fun a=>by
  have q:(H b).isSome=true:=(yp.mp a).2;rw[n] at q;simp at q
theorem of_hidT{o:Obj}(e:(qeD h H).get? b=some o):h.get? b=some o/\H b=none:=by
 have a:h.get? b=some o:=PySem.W.of_hideAll (trk h H) e;show⟨a,?_⟩
 cases q:H b with
 | none=>rfl
 | some x =>
  have c:b∈trk h H:=yp.mpr ⟨xX.mpr (yH a),by simp[q]⟩;have z:(qeD h H).get? b=none:=PySem.W.hideAll_none (trk h H) c;rw[z] at e;cases e
noncomputable def allNews(g h:Heap)(L:Addr):List (Addr×Obj):=(List.range h.objs.size).filterMap fun a=>if a=L\/(g.get? a).isSome=true then none else(h.get? a).map fun o=>(a,o)
noncomputable def rest(g h:Heap)(L d:Addr):List (Addr×Obj):=(allNews g h L).filter fun p=>decide (p.1≠d)
structure Mod(K:yg)(mg:Str->Option Value)(base:Heap):Prop where
 kin:K.In base
 glob:base.Ns mainGlobals mg
 blt:∃ mb,base.Ns builtinsNs mb/\∀ x:Str,x≠"__name__"->mb x=bootBuiltins x
 nolimit:base.NoLimit
structure Cx where
 prog:Program
 w:World
 K:yg
 mg:Str->Option Value
 base:Heap
 A:Around
 N:List Str
 s₀:Shared
 H₀:Hp
 env:Env
 outer:List Env
 stack:List Env
 ex:List Addr
 fn:Str->Bool
 calm:Bool
 pn:List (Addr×Obj)
 xe:Value->Shared->Prop
noncomputable def frs(l:List Env):List Addr:=l.filterMap (·.frame)
noncomputable abbrev Cx.fs(X:Cx):List Addr:=frs X.outer
def Vis(sc:Scope)(x:Str):Prop:=sc.names.lookup x=some .local\/sc.names.lookup x=some .cell\/sc.names.lookup x=some .free
def Loc(sc:Scope)(x:Str):Prop:=sc.names.lookup x=some .local\/sc.names.lookup x=some .cell
def Look(env:Env)(h:Heap)(m:Str->Option Value)(x:Str)(u:Value):Prop:=
 (env.kindOf x=some .local/\m x=some u)\/((env.kindOf x=some .cell\/env.kindOf x=some .free)/\∃ c,env.cells.lookup x=some c/\h.IsCell c (some u))
structure Cx.Ok(X:Cx):Prop where
 mod:Mod X.K X.mg X.base
 kind:X.env.scope.kind=.function
 glob:X.env.globals=mainGlobals
 blt:X.env.builtins=builtinsNs
 above:X.s₀.heap.objs.size<=X.env.locals
 inj:∀ x y c,X.env.cells.lookup x=some c->X.env.cells.lookup y=some c->x=y
 has:∀ x,(X.env.kindOf x=some .cell\/X.env.kindOf x=some .free)->∃ c,X.env.cells.lookup x=some c
 cab:∀ x c,X.fn x=true->X.env.cells.lookup x=some c->X.s₀.heap.objs.size<=c
 hd:X.calm=true->X.A.handled=none
 frames:X.A.frames=some X.stack
 stk:X.stack=X.outer\/(X.stack=X.env::X.outer/\X.env.frame=some X.env.locals)
 exf:∀ b∈X.ex,b≠X.env.locals/\∀ x c,X.env.cells.lookup x=some c->c≠b
 bs:∀ b o,X.base.get? b=some o->X.s₀.heap.get? b=some o/\X.H₀ b=none
 bsz:X.base.objs.size<=X.s₀.heap.objs.size
 noex:∀ b o,X.base.get? b=some o->b∉X.ex
 exfs:∀ b∈X.ex,b∉X.fs
 funs:X.s₀.heap.FunFrames X.base X.outer
 frf:∀ b∈X.fs,X.H₀ b=none
structure Inv(X:Cx)(pins:List (Addr×Obj))(σ:List (Option V))(H:Hp)(s:Shared):Prop where
 ok:X.Ok
 os:s.os=X.s₀.os
 bare:AllBare s.gens
 base:Un X.fs X.ex X.H₀ H X.s₀.heap s.heap
 loc:∃ m,s.heap.Ns X.env.locals m/\∀(i:Nat) (x:Str) (v:V),X.N[i]?=some x->σ[i]?=some (some v)->Vis X.env.scope x->∃ u,RelV v u/\Look X.env s.heap m x u
 cell:∀ x c,X.env.cells.lookup x=some c->∃ v,s.heap.IsCell c v
 free:H X.env.locals=none
 freeC:∀ x c,X.env.cells.lookup x=some c->H c=none
 pin:∀ p∈X.pn++pins,s.heap.get? p.1=some p.2/\H p.1=none/\p.1≠X.env.locals/\p.1∉X.fs/\∀ v,p.2.data≠.cell v
 hok:HOk X.prog X.w H s.heap
 len:σ.length=X.N.length
section
variable{X:Cx}{pins:List (Addr×Obj)}{σ:List (Option V)}{H H':Hp}{s:Shared}{h':Heap}
theorem Cx.Ok.nofr(ok:X.Ok){o:Obj}(e:X.base.get? b=some o):b∉X.fs:=fun hb=>by
 have:=(ok.funs.mem hb).1;rw[e] at this;cases this
theorem Inv.bs(I:Inv X pins σ H s):∀ b o,X.base.get? b=some o->s.heap.get? b=some o/\H b=none:=fun b o e =>
 ⟨I.base.keep b o (I.ok.bs b o e).1 (I.ok.bs b o e).2 (I.ok.nofr e) (I.ok.noex b o e),I.base.free b o (I.ok.bs b o e).1 (I.ok.bs b o e).2 (I.ok.noex b o e)⟩
theorem Inv.bk(I:Inv X pins σ H s):∀ b o,X.base.get? b=some o->s.heap.get? b=some o:=fun b o e=>(I.bs b o e).1
theorem Inv.mod(I:Inv X pins σ H s):Mod X.K X.mg X.base:=I.ok.mod
theorem Inv.kIn(I:Inv X pins σ H s):X.K.In s.heap:=I.ok.mod.kin.keeps I.bk
theorem Inv.lt(I:Inv X pins σ H s):X.env.locals<s.heap.objs.size:=let ⟨_,hn,_⟩:=I.loc;hn.lt
theorem Inv.sz(I:Inv X pins σ H s):X.s₀.heap.objs.size<=s.heap.objs.size:=yi I.ok.above (Yh I.lt)
theorem Inv.nofs(I:Inv X pins σ H s)(h:s.heap.objs.size<=a):a∉X.fs:=fun hb=>by
 obtain⟨_,o,b,_⟩:=I.ok.funs.mem hb;show absurd (yj (yH b) (yi I.sz h)) (Yy _)
theorem Inv.cne(I:Inv X pins σ H s):∀ x c,X.env.cells.lookup x=some c->c≠X.env.locals:=fun x c e z=>by
 obtain⟨v,o,g,f⟩:=I.cell x c e;obtain⟨m,⟨h,es,ep,b,a,_⟩,_⟩:=I.loc;rw[z,b] at g;cases g;rw[a] at f;cases f
theorem Inv.funs(I:Inv X pins σ H s):s.heap.FunFrames X.base X.outer:=by
 have all:∀(l:List Env),(∀ b∈frs l,b∈X.fs)->X.s₀.heap.FunFrames X.base l->s.heap.FunFrames X.base l:=by
  intro l
  induction l with
  | nil=>intro _ _;trivial
  | cons env r ih =>
   intro f hl;obtain⟨h,⟨L,o,c,i,j,g⟩,m⟩:=hl;have a:L∈X.fs:=f L (by unfold frs;rw[Xz,c];show yI);obtain⟨n,e⟩:=I.base.slot L o j (I.ok.frf L a) a fun z=>I.ok.exfs L z a;show⟨h,⟨L,_,c,i,e,g⟩,ih (fun b hb=>f b (by unfold frs;rw[Xz,c];show yx _ hb)) m⟩
 show all X.outer (fun _ hb=>hb) I.ok.funs
theorem Inv.stack(I:Inv X pins σ H s):s.heap.FunFrames X.base X.stack:=by
 rcases I.ok.stk with e | ⟨e,hf⟩
 .rw [e];show I.funs
 .rw [e];obtain⟨m,a,_⟩:=I.loc;show .cons (by rw[I.ok.kind];decide) hf a ?_ I.funs;show Heap.get?_none_of_le (yi I.ok.bsz I.ok.above)
theorem Inv.stkSub(I:Inv X pins σ H s):∀ b∈frs X.stack,b∈X.env.locals::X.fs:=fun b hb=>by
 rcases I.ok.stk with e | ⟨e,hf⟩
 .rw [e] at hb;show yx _ hb
 .rw [e] at hb;unfold frs at hb;rw[Xz,hf] at hb;show hb
theorem Inv.stkFree(I:Inv X pins σ H s):∀ b∈frs X.stack,H b=none:=fun b hb=>by
 rcases yv.mp (I.stkSub b hb) with e | hb
 .rw [e];show I.free
 .obtain⟨_,o,a,_⟩:=I.ok.funs.mem hb;show I.base.free b o a (I.ok.frf b hb) fun z=>I.ok.exfs b z hb
theorem Inv.step(I:Inv X pins σ H s)
  (f:∀ b∈ch,(b∈X.ex\/X.s₀.heap.objs.size<=b)/\b≠X.env.locals/\(∀ x c,X.env.cells.lookup x=some c->c≠b)/\∀ p∈X.pn++pins,p.1≠b)
  (keep:∀ b o,b≠X.env.locals->b∉X.fs->b∉ch->s.heap.get? b=some o->H b=none->h'.get? b=some o)
  (t:∀ b o,b≠X.env.locals->b∈X.fs->b∉ch->s.heap.get? b=some o->H b=none->∃ M,h'.get? b=some { o with slots:=M }) (free:∀ b o,b∉ch->s.heap.get? b=some o->H b=none->H' b=none)
  (y:∀ b o,b∉ch->s.heap.get? b=some o->∃ F,h'.get? b=some F)
  (J:∀ b xs,H b=some (.tup xs)->H' b=some (.tup xs)) (C:∀ b o u,H b=some (.frz o u)->H' b=some (.frz o u)) (G:∀ b ps,H b=some (.tbl ps)->∃ D,H' b=some (.tbl (ps++D)))
  (ns:∀ m,s.heap.Ns X.env.locals m->h'.Ns X.env.locals m) (L:HOk X.prog X.w H' h') (S:AllBare g') :
  Inv X pins σ H' { s with heap:=h',gens:=g',drawn:=d',toks:=t' }:=by
 have E:∀ b o,X.s₀.heap.get? b=some o->b≠X.env.locals:=fun b o e=>yE (yj (yH e) I.ok.above)
 have j:∀ b o,X.s₀.heap.get? b=some o->b∉X.ex->b∉ch:=fun b o e a hb=>by
  rcases(f b hb).1 with z | z
  .show a z
  .show absurd (yj (yH e) z) (Yy _)
 have cellK:∀ x c,X.env.cells.lookup x=some c->∀ v,s.heap.IsCell c v->h'.IsCell c v:=fun x c e v ⟨o,A,K⟩=>by
  have g:c∉ch:=fun z=>(f c z).2.2.1 x c e rfl;by_cases hc:c∈X.fs
  .obtain⟨M,q⟩:=t c o (I.cne x c e) hc g A (I.freeC x c e);show⟨_,q,K⟩
  .show⟨o,keep c o (I.cne x c e) hc g A (I.freeC x c e),K⟩
 show⟨I.ok,I.os,S,⟨fun b o e n hb a=>?_,fun b o e n hb a=>?_,fun b o e n a=>?_,fun b o e a=>?_,fun b xs e=>J b xs (I.base.tups b xs e),fun b o xs e=>C b o xs (I.base.frzs b o xs e),fun b ps e=>?_⟩,?_,fun x c e=>?_,?_,fun x c e=>?_,fun p O=>?_,L,I.len⟩
 .show keep b o (E b o e) hb (j b o e a) (I.base.keep b o e n hb a) (I.base.free b o e n a)
 .obtain⟨M,h⟩:=I.base.slot b o e n hb a;obtain⟨N,B⟩:=t b _ (E b o e) hb (j b o e a) h (I.base.free b o e n a);show⟨N,B⟩
 .obtain⟨F,h⟩:=I.base.there b o e a;show free b F (j b o e a) h (I.base.free b o e n a)
 .obtain⟨F,h⟩:=I.base.there b o e a;show y b F (j b o e a) h
 .obtain⟨U,h⟩:=I.base.tbls b ps e;obtain⟨W,B⟩:=G b _ h;show⟨U++W,by rw[B,Array.append_assoc]⟩
 .obtain⟨m,T,hl⟩:=I.loc;show⟨m,ns m T,fun i x v h B R=>?_⟩;obtain⟨u,r,l⟩:=hl i x v h B R;show⟨u,r,?_⟩;rcases l with l | ⟨k,c,e,z⟩
  .show .inl l
  .show .inr ⟨k,c,e,cellK x c e _ z⟩
 .obtain⟨v,z⟩:=I.cell x c e;show⟨v,cellK x c e v z⟩
 .obtain⟨m,⟨o,_,_,A,_⟩,_⟩:=I.loc;show free _ o (fun z=>(f _ z).2.1 rfl) A I.free
 .obtain⟨v,o,A,K⟩:=I.cell x c e;show free c o (fun z=>(f c z).2.2.1 x c e rfl) A (I.freeC x c e)
 .obtain⟨e,n,ne,P,d⟩:=I.pin p O;have g:p.1∉ch:=fun z=>(f p.1 z).2.2.2 p O rfl;show⟨keep p.1 p.2 ne P g e n,free p.1 p.2 g e n,ne,P,d⟩
theorem Inv.un(I:Inv X pins σ H s)(u:Un X.fs [] H H' s.heap h')(g:HOk X.prog X.w H' h'):Inv X pins σ H' { s with heap:=h',toks:=t' }:=by
 obtain⟨m,⟨o,es,ep,h,r⟩,_⟩:=id I.loc;obtain⟨q,i⟩:=u.any h I.free (by simp)
 show I.step (g':=s.gens) (d':=s.drawn) (ch:=[]) (fun _ z=>nomatch z) (fun b o _ hb _ e n=>u.keep b o e n hb (by simp)) (fun b o _ hb _ e n=>u.slot b o e n hb (by simp)) (fun b o _ e n=>u.free b o e n (by simp)) (fun b o _ e=>u.there b o e (by simp)) u.tups u.frzs u.tbls (fun l j=>by
  obtain⟨p,f,c,a,r'⟩:=j;rw[h] at a;cases a;show⟨_,f,c,i,r'⟩) g I.bare
theorem Inv.call(I:Inv X pins σ H s)(u:Un (frs X.stack) ch H H' s.heap h')(j:HOk X.prog X.w H' h')(q:AllBare g')
  (a:∀ b∈ch,(b∈X.ex\/X.s₀.heap.objs.size<=b)/\b≠X.env.locals/\(∀ x c,X.env.cells.lookup x=some c->c≠b)/\∀ p∈X.pn++pins,p.1≠b) :
  Inv X pins σ H' { s with heap:=h',gens:=g',drawn:=d',toks:=t' }:=by
 obtain⟨m,⟨o,es,ep,l,r⟩,_⟩:=id I.loc;obtain⟨A,i⟩:=u.any l I.free fun z=>(a _ z).2.1 rfl
 show I.step (ch:=ch) a (fun b o i hb hc e n=>u.keep b o e n (fun z=>(yv.mp (I.stkSub b z)).elim i hb) hc) (fun b o _ _ hc e n=>u.any e n hc) (fun b o hc e n=>u.free b o e n hc) (fun b o hc e=>u.there b o e hc) u.tups u.frzs u.tbls (fun v t=>by
  obtain⟨y,h,g,f,r'⟩:=t;rw[l] at f;cases f;show⟨_,h,g,i,r'⟩) j q
theorem Inv.turned(I:Inv X pins σ H s)(k:∀ b o,b≠it->s.heap.get? b=some o->h'.get? b=some o)(j:H it=none)(f:it≠X.env.locals)
  (h1:it∈X.ex\/X.s₀.heap.objs.size<=it) (g:∀ x c,X.env.cells.lookup x=some c->c≠it) (h:∀ p∈X.pn++pins,p.1≠it):Inv X pins σ H { s with heap:=h',toks:=t' }:=by
 have a:∀ b u,H b=some u->b≠it:=fun b u e z=>by rw[z,j] at e;cases e
 show I.step (g':=s.gens) (d':=s.drawn) (ch:=[it]) (fun b hb=>?_) (fun b o _ _ hc e _=>k b o (fun z=>hc (by simp[z])) e) (fun b o _ _ hc e _=>⟨o.slots,k b o (fun z=>hc (by simp[z])) e⟩) (fun _ _ _ _ n=>n)
  (fun b o hc e=>⟨o,k b o (fun z=>hc (by simp[z])) e⟩) (fun _ _ e=>e) (fun _ _ _ e=>e) (fun b ps e=>⟨#[],by rw[e];simp⟩) (fun m i=>?_) (fun b u e=>?_) I.bare
 .have e:b=it:=by simpa using hb
  subst e;show⟨h1,f,g,h⟩
 .obtain⟨o,es,ep,l,r⟩:=i;show⟨o,es,ep,k _ o (Yi f) l,r⟩
 .show(I.hok b u e).stay (fun c v hc q=>k c v ?_ q) (fun _ q=>q) fun _ _ q=>q;rcases hc with z | z
  .rw [z];show a b u e
  .show a c _ z
theorem Inv.tok(I:Inv X pins σ H s)(t:Nat):Inv X pins σ H { s with toks:=t }:=I.un (h':=s.heap) (t':=t) Un.refl I.hok
theorem Inv.kept(I:Inv X pins σ H s)(k:∀ b u,s.heap.get? b=some u->h'.get? b=some u):Inv X pins σ H { s with heap:=h',toks:=t' }:=I.un (Un.kept k) (I.hok.kept k)
theorem Inv.laid(I:Inv X pins σ H s)(k:∀ b u,s.heap.get? b=some u->h'.get? b=some u)(c:s.heap.objs.size<=a)(new:ObjOk X.prog X.w (upd H a o) h' a o) :
  Inv X pins σ (upd H a o) { s with heap:=h',toks:=t' }:=I.un (Un.laid k c (I.hok.fresh c)) (I.hok.laid k c new)
theorem Inv.write{x e:Addr}(I:Inv X pins σ H s)(f:Mut (H x))(c:e=x\/H e=some (.own x))(k:∀ b u,b≠e->s.heap.get? b=some u->h'.get? b=some u)(a:∃ u,h'.get? e=some u)
  (new:ObjOk X.prog X.w (upd H x o) h' x o):Inv X pins σ (upd H x o) { s with heap:=h',toks:=t' }:=I.un (Un.write f c k a) (I.hok.write f c k a new)
theorem Inv.weak{a:List (Option V)}(I:Inv X pins σ H s)(hl:a.length=σ.length)(w:∀(i:Nat) v,a[i]?=some (some v)->σ[i]?=some (some v)):Inv X pins a H s:=
 ⟨I.ok,I.os,I.bare,I.base,let ⟨m,hn,hl'⟩:=I.loc;⟨m,hn,fun i x v b c e=>hl' i x v b (w i v c) e⟩,I.cell,I.free,I.freeC,I.pin,I.hok,hl.trans I.len⟩
theorem Inv.pins_of{pins':List (Addr×Obj)}(I:Inv X pins σ H s)(h:∀ p∈pins',s.heap.get? p.1=some p.2/\H p.1=none/\p.1≠X.env.locals/\p.1∉X.fs/\∀ v,p.2.data≠.cell v):Inv X pins' σ H s:=
 ⟨I.ok,I.os,I.bare,I.base,I.loc,I.cell,I.free,I.freeC,fun p a=>(yA.mp a).elim (fun z=>I.pin p (yO _ z)) (h p),I.hok,I.len⟩
theorem qbP(f:N.Nodup)(a:N[i]?=some x)(b:N[j]?=some x):i=j:=by
 obtain⟨h1,c⟩:=yc.mp a;obtain⟨g,e⟩:=yc.mp b;show(List.getElem_inj f).mp (c.trans e.symm)
theorem qci{Q:Unit->Shared->Prop}(I:Inv X pins σ H s)(hN:X.N.Nodup)(hi:X.N[i]?=some x)(t:Loc X.env.scope x)(r:RelV v u)
  (h:∀ s',Inv X pins (σ.set i (some v)) H s'->(∃ a,Heap.SameBut a s.heap s'.heap/\(a=X.env.locals\/X.env.cells.lookup x=some a))->Q () s') (hf:X.fn x=true\/X.env.scope.names.lookup x=some .local:=by first | show .inl rfl | show .inr rfl | assumption):wpAny M A (storeName X.env x u) Q E s:=by
 obtain⟨m,U,hl⟩:=id I.loc;have L:(X.env.scope.kind==.class||(X.env.scope.kind==.module&&X.env.locals != X.env.globals))=false:=by rw[I.ok.kind];rfl
 have D:i<σ.length:=by rw[I.len];show(yc.mp hi).1
 have cne:=I.cne
 have l:∀{a:Addr} {h':Heap},(∃ o,s.heap.get? a=some o/\H a=none)->Heap.SameBut a s.heap h'->HOk X.prog X.w H h':=fun{a h'} ha f b ob e=>by
  obtain⟨_,_,B⟩:=ha;show(I.hok b ob e).stay (fun c S hc q=>(f.2 c ?_).trans q) (fun _ q=>q) fun _ _ q=>q;rintro rfl;rcases hc with rfl | hc
  .rw [B] at e;cases e
  .rw [B] at hc;cases hc
 rcases t with hk | hk
 .show wpAny_storeName_local hk U (fun h' W f=>?_) L;obtain⟨oL,_,_,Y,_⟩:=id U;show h _ ⟨I.ok,I.os,I.bare,⟨fun b o e n hb t=>?_,fun b o e n hb t=>?_,I.base.free,fun b o e t=>?_,I.base.tups,I.base.frzs,I.base.tbls⟩,⟨_,W,fun j y v' g C T=>?_⟩,fun y c e=>?_,I.free,I.freeC,fun p Z=>?_,l ⟨oL,Y,I.free⟩ f,by simpa using I.len⟩ ⟨_,f,.inl rfl⟩
  .show(f.2 b (yE (yj (yH e) I.ok.above))).trans (I.base.keep b o e n hb t)
  .obtain⟨sl,g⟩:=I.base.slot b o e n hb t;show⟨sl,(f.2 b (yE (yj (yH e) I.ok.above))).trans g⟩
  .obtain⟨o',g⟩:=I.base.there b o e t;show⟨o',(f.2 b (yE (yj (yH e) I.ok.above))).trans g⟩
  .by_cases G:j=i
   .subst G;rw[hi] at g;cases g;rw[Xd D] at C;cases C;show⟨u,r,.inl ⟨hk,by simp⟩⟩
   .rw [xm (Yi G)] at C;obtain⟨u',r',q⟩:=hl j y v' g C T;show⟨u',r',?_⟩;rcases q with⟨k,e⟩ | ⟨k,c,e,z⟩
    .show .inl ⟨k,?_⟩;have:y≠x:=fun e=>G (qbP hN g (e ▸ hi));simp[this,e]
    .show .inr ⟨k,c,e,z.sameBut f (cne y c e)⟩
  .obtain⟨S,z⟩:=I.cell y c e;show⟨S,z.sameBut f (cne y c e)⟩
  .obtain⟨e,n,ne,nf,d⟩:=I.pin p Z;show⟨(f.2 p.1 ne).trans e,n,ne,nf,d⟩
 .have F:X.fn x=true:=by
   rcases hf with z | z
   .show z
   .rw [z] at hk;cases hk
  obtain⟨c,hc⟩:=I.ok.has x (.inl hk);obtain⟨S,z⟩:=I.cell x c hc;show wpAny_storeName_cell I.ok.kind hk hc z (fun h' J f=>?_);obtain⟨oc,O,P⟩:=id z;show h { s with heap:=h' } ⟨I.ok,I.os,I.bare,⟨fun b o e n hb t=>?_,fun b o e n hb t=>?_,I.base.free,fun b o e t=>?_,I.base.tups,I.base.frzs,I.base.tbls⟩,⟨m,U.sameBut f (Yi (cne x c hc)),fun j y v' g C T=>?_⟩,fun y R e=>?_,I.free,I.freeC,fun p Z=>?_,l ⟨oc,O,I.freeC x c hc⟩ f,by simpa using I.len⟩ ⟨c,f,.inr hc⟩
  .show(f.2 b (yE (yj (yH e) (I.ok.cab x c F hc)))).trans (I.base.keep b o e n hb t)
  .obtain⟨sl,g⟩:=I.base.slot b o e n hb t;show⟨sl,(f.2 b (yE (yj (yH e) (I.ok.cab x c F hc)))).trans g⟩
  .obtain⟨o',g⟩:=I.base.there b o e t;show⟨o',(f.2 b (yE (yj (yH e) (I.ok.cab x c F hc)))).trans g⟩
  .by_cases G:j=i
   .subst G;rw[hi] at g;cases g;rw[Xd D] at C;cases C;show⟨u,r,.inr ⟨.inl hk,c,hc,J⟩⟩
   .rw [xm (Yi G)] at C;obtain⟨u',r',q⟩:=hl j y v' g C T;show⟨u',r',?_⟩;rcases q with q | ⟨k,R,e,z'⟩
    .show .inl q
    .show .inr ⟨k,R,e,z'.sameBut f ?_⟩;rintro rfl;show G (qbP hN g (I.ok.inj _ _ _ e hc ▸ hi))
  .by_cases K:R=c
   .subst K;show⟨_,J⟩
   .obtain⟨w2,z2⟩:=I.cell y R e;show⟨w2,z2.sameBut f K⟩
  .obtain⟨e,n,ne,nf,d⟩:=I.pin p Z;show⟨(f.2 p.1 ?_).trans e,n,ne,nf,d⟩;intro q;rw[q,O] at e;have q':oc=p.2:=ym e;show d S (by rw[<- q'];show P)
theorem qaY{Q:Unit->Shared->Prop}(I:Inv X pins σ H s)(b:X.N.Nodup)(hi:X.N[i]?=some x)(e:Loc X.env.scope x)(r:RelV v u)
  (h:∀ s',Inv X pins (σ.set i (some v)) H s'->Q () s') (c:X.fn x=true\/X.env.scope.names.lookup x=some .local:=by first | show .inl rfl | show .inr rfl | assumption):wpAny M A (storeName X.env x u) Q E s:=
 qci I b hi e r (fun s' a _=>h s' a) c
theorem Inv.call'(I:Inv X pins σ H s)(h:s'.os=s.os)(u:Un (frs X.stack) ch H H' s.heap s'.heap)(f:HOk X.prog X.w H' s'.heap)(g:AllBare s'.gens)
  (a:∀ b∈ch,(b∈X.ex\/X.s₀.heap.objs.size<=b)/\b≠X.env.locals/\(∀ x c,X.env.cells.lookup x=some c->c≠b)/\∀ p∈X.pn++pins,p.1≠b):Inv X pins σ H' s':=by
 obtain⟨h',g',d',t',i⟩:=s';have e:i=s.os:=h;subst e;show I.call (g':=g') (t':=t') (d':=d') u f g a
end
abbrev XK:=Value->Option Addr->Hp->Prop
noncomputable abbrev St:=List (Option V)
abbrev VK:=V->Hp->Prop
abbrev TE:=St->Hp->VK->Prop
abbrev TT:=St->Hp->(Bool->Hp->Prop)->Prop
abbrev TA:=St->Hp->(List V->Hp->Prop)->Prop
structure Ends where
 nx:St->Hp->Prop
 rt:VK
 bk:St->Hp->Prop:=fun _ _=>False
 ct:St->Hp->Prop:=fun _ _=>False
abbrev TS:=Ends->St->Hp->Prop
def EP(X:Cx)(pins:List (Addr×Obj))(σ:St)(Q:VK)(u:Value)(s':Shared):Prop:=∃ v H',Inv X pins σ H' s'/\RelV v u/\Q v H'
def TP(X:Cx)(pins:List (Addr×Obj))(σ:St)(Q:Bool->Hp->Prop)(b:Bool)(s':Shared):Prop:=∃ H',Inv X pins σ H' s'/\Q b H'
def AP(X:Cx)(pins:List (Addr×Obj))(σ:St)(Q:List V->Hp->Prop)(us:List Value)(s':Shared):Prop:=∃ vs H',Inv X pins σ H' s'/\Vals vs us/\Q vs H'
def SP(X:Cx)(pins:List (Addr×Obj))(D:Ends)(f:Flow)(s':Shared):Prop:=
 match f with
 | .next=>∃ a H',Inv X pins a H' s'/\D.nx a H'
 | .brk=>∃ a H',Inv X pins a H' s'/\D.bk a H'
 | .cont=>∃ a H',Inv X pins a H' s'/\D.ct a H'
 | .ret u=>∃ v a H',Inv X pins a H' s'/\RelV v u/\D.rt v H'
def PE(X:Cx)(e:Expr)(t:TE):Prop:=
 ∀(pins:List (Addr×Obj)) (s:Shared) (σ:St) (H:Hp) (Q:VK),Inv X pins σ H s->t σ H Q->wpAny (model X.prog X.w) X.A (eval e X.env) (EP X pins σ Q) X.xe s
def PT(X:Cx)(e:Expr)(t:TT):Prop:=
 ∀(pins:List (Addr×Obj)) (s:Shared) (σ:St) (H:Hp) (Q:Bool->Hp->Prop),Inv X pins σ H s->t σ H Q->wpAny (model X.prog X.w) X.A (isTrue e X.env (eval e X.env)) (TP X pins σ Q) X.xe s
def PW(X:Cx)(e:Expr)(t:TT):Prop:=
 ∀(a:Sem Value) (pins:List (Addr×Obj)) (s:Shared) (σ:St) (H:Hp) (Q:Bool->Hp->Prop),Inv X pins σ H s->t σ H Q->wpAny (model X.prog X.w) X.A (isTrue e X.env a) (TP X pins σ Q) X.xe s
theorem PW.pt{t:TT}(h:PW X e t):PT X e t:=h _
def PA(X:Cx)(es:List Expr)(t:TA):Prop:=
 ∀(pos:Pos) (pins:List (Addr×Obj)) (s:Shared) (σ:St) (H:Hp) (Q:List V->Hp->Prop),Inv X pins σ H s->t σ H Q->wpAny (model X.prog X.w) X.A (spliced (backTo pos (starEach es X.env))) (AP X pins σ Q) X.xe s
def PS(X:Cx)(st:Stmt)(t:TS):Prop:=
 ∀(pins:List (Addr×Obj)) (s:Shared) (σ:St) (H:Hp) (D:Ends),Inv X pins σ H s->t D σ H->wpAny (model X.prog X.w) X.A (exec st X.env) (SP X pins D) X.xe s
def PSs(X:Cx)(st:List Stmt)(t:TS):Prop:=
 ∀(pins:List (Addr×Obj)) (s:Shared) (σ:St) (H:Hp) (D:Ends),Inv X pins σ H s->t D σ H->wpAny (model X.prog X.w) X.A (execs st X.env) (SP X pins D) X.xe s
theorem thn{t:Sem α}{Q b:α->Shared->Prop}(h:wpAny M A t Q E s)(c:∀ a s,Q a s->b a s):wpAny M A t b E s:=YB h c fun _ _ x=>x
section
variable{X:Cx}
def qge(i:Nat):TE:=fun σ H Q=>∃ v,σ[i]?=some (some v)/\Q v H
def tC(v:V):TE:=fun _ H Q=>Q v H
theorem pe_var(j:X.N[i]?=some x)(hv:Vis X.env.scope x)(g:(x==("__debug__":Str))=false:=by decide)(f:(x==("__classdict__":Str))=false:=by decide):PE X (.Name x pos) (qge i):=by
 intro pins s σ H Q I h;obtain⟨v,e,h⟩:=h;obtain⟨m,o,hl⟩:=I.loc;obtain⟨u,r,l⟩:=hl i x v j e hv;have b:EP X pins σ Q u s:=⟨v,H,I,r,h⟩;rcases l with⟨hk,n⟩ | ⟨hk,c,hc,a⟩
 .show wpAny_Name (wpAny_loadName_local I.ok.kind hk o n b) g
 .rcases hk with hk | hk
  .show wpAny_Name (wpAny_loadName_cell I.ok.kind hk hc a b) g
  .show wpAny_Name (wpAny_loadName_free I.ok.kind hk hc a b f) g
theorem qg{i j pos}:PE X (.Constant (.int i) j pos) (tC (.int i)):=fun _ _ _ H _ I h=>wpAny_Constant_int ⟨.int i,H,I.tok _,⟨_,rfl⟩,h⟩
theorem jl{b j pos}:PE X (.Constant (.bool b) j pos) (tC (.bl b)):=fun _ _ _ H _ I h=>Constant_bool ⟨.bl b,H,I,rfl,h⟩
theorem j8{j pos}:PE X (.Constant .none j pos) (tC .non):=fun _ _ _ H _ I h=>Constant_none ⟨.non,H,I,rfl,h⟩
theorem zu{x j pos}:PE X (.Constant (.str x) j pos) (tC (.str x)):=fun _ _ _ H _ I h=>Calls.Constant_str ⟨.str x,H,I.tok _,⟨_,rfl⟩,h⟩
def Gl(X:Cx)(x:Str):Prop:=X.env.kindOf x=some .globalImplicit
theorem zS{Q:Value->Shared->Prop}(I:Inv X pins σ H s)(b:Gl X x)(c:X.mg x=some u)(h:Q u s)
  (a:(x==("__debug__":Str))=false:=by decide):wpAny (model X.prog X.w) X.A (eval (.Name x pos) X.env) Q E s:=
 Calls.Name_function_global I.ok.kind b (Calls.loadGlobal_global (by rw[I.ok.glob];show I.mod.glob.keeps I.bk) c h) a
theorem qau{Q:Value->Shared->Prop}(I:Inv X pins σ H s)(c:Gl X x)(e:X.mg x=none)(hv:bootBuiltins x=some u)(h:Q u s)
  (f:x≠"__name__":=by decide) (b:(x==("__debug__":Str))=false:=by decide):wpAny (model X.prog X.w) X.A (eval (.Name x pos) X.env) Q E s:=by
 obtain⟨g,h1,a⟩:=I.mod.blt;show Calls.Name_function_global I.ok.kind c (Calls.loadGlobal_builtin (by rw[I.ok.glob];show I.mod.glob.keeps I.bk) e (by rw[I.ok.blt];show h1.keeps I.bk) ((a x f).trans hv) h) b
theorem qdM(b:Gl X x)(c:X.mg x=some u)(r:RelV v u)(a:(x==("__debug__":Str))=false:=by decide):PE X (.Name x pos) (tC v):=
 fun _ _ _ H _ I h=>zS I b c ⟨v,H,I,r,h⟩ a
theorem jx(b:Gl X x)(c:X.mg x=none)(hv:bootBuiltins x=some u)(r:RelV v u)(e:x≠"__name__":=by decide)(a:(x==("__debug__":Str))=false:=by decide):PE X (.Name x pos) (tC v):=
 fun _ _ _ H _ I h=>qau I b c hv ⟨v,H,I,r,h⟩ e a
variable{a b:Expr}{ta tb:TE}{pos:Pos}
def tB(t:TE):TT:=fun σ H Q=>t σ H fun x a=>∃ c,x=.bl c/\Q c a
theorem qW(h:PE X e t)(f:∀ a,isTrue e X.env a=(do let v <- a;standAt e.pos;holding [v] (truthy v)):=by intro _;rfl):PT X e (tB t):=by
 intro pins s σ H Q I hw;show isTrue_plain (thn (h pins s σ H _ I hw) fun v j ⟨x,b,c,i,g⟩=>?_) (f _);obtain⟨d,rfl,q⟩:=g;cases i;show xK ⟨b,c,q⟩
variable{tA tB':TT}{rest:List Expr}
def qgq(t u:TT):TT:=fun σ H Q=>t σ H fun c a=>if c=true then u σ a Q else Q false a
def tOr(t u:TT):TT:=fun σ H Q=>t σ H fun c a=>if c=true then Q true a else u σ a Q
def qgr(t:TT):TT:=fun σ H Q=>t σ H fun c a=>Q (!c) a
theorem qbg(b:PT X a tA):PW X (.BoolOp .And [a] pos) tA:=by
 intro g pins s σ H Q I h;show isTrue_and (thn (b pins s σ H Q I h) fun c f e=>?_)
 cases c with
 | true=>show isTrue_and_nil e
 | false=>show e
theorem zO(b:PT X a tA):PW X (.BoolOp .Or [a] pos) tA:=by
 intro g pins s σ H Q I h;show isTrue_or (thn (b pins s σ H Q I h) fun c f e=>?_)
 cases c with
 | false=>show isTrue_or_nil e
 | true=>show e
theorem qbh(i:PT X a tA)(hb:PW X (.BoolOp .And (b::rest) pos) tB'):PW X (.BoolOp .And (a::b::rest) pos) (qgq tA tB'):=by
 intro l pins s σ H Q I h;show isTrue_and (thn (i pins s σ H _ I h) fun c j ⟨e,f,g⟩=>?_)
 cases c with
 | true=>show hb l pins j σ e Q f g
 | false=>show⟨e,f,g⟩
theorem qak(i:PT X a tA)(hb:PW X (.BoolOp .Or (b::rest) pos) tB'):PW X (.BoolOp .Or (a::b::rest) pos) (tOr tA tB'):=by
 intro l pins s σ H Q I h;show isTrue_or (thn (i pins s σ H _ I h) fun c j ⟨e,f,g⟩=>?_)
 cases c with
 | true=>show⟨e,f,g⟩
 | false=>show hb l pins j σ e Q f g
theorem qX(e:PT X a tA):PT X (.UnaryOp .Not a pos) (qgr tA):=by
 intro pins s σ H Q I h;show isTrue_not (e pins s σ H (fun c b=>Q (!c) b) I h)
def qfz(ta tb:TE):TE:=fun σ H Q=>ta σ H fun x a=>∃ c,x=.bl c/\if c=true then tb σ a Q else Q (.bl false) a
def tOrV(ta tb:TE):TE:=fun σ H Q=>ta σ H fun x a=>∃ c,x=.bl c/\if c=true then Q (.bl true) a else tb σ a Q
def tNotV(ta:TE):TE:=fun σ H Q=>ta σ H fun x a=>∃ c,x=.bl c/\Q (.bl (!c)) a
theorem qbE{op}(h:PE X a t):PE X (.BoolOp op [a] pos) t:=fun pins s σ H Q I hw=>BoolOp_one (h pins s σ H Q I hw)
theorem qbF(i:PE X a ta)(hb:PE X (.BoolOp .And (b::rest) pos) tb):PE X (.BoolOp .And (a::b::rest) pos) (qfz ta tb):=by
 intro pins s σ H Q I h;show BoolOp_and (thn (i pins s σ H _ I h) fun v l ⟨x,f,g,j,e⟩=>?_);obtain⟨c,rfl,e⟩:=e;cases j;show xK ?_
 cases c with
 | true=>show hb pins l σ f Q g e
 | false=>show⟨.bl false,f,g,rfl,e⟩
def tIf(t:TT)(ta tb:TE):TE:=fun σ H Q=>t σ H fun c a=>if c=true then ta σ a Q else tb σ a Q
theorem qbQ(hc:PT X c tA)(j:PE X a ta)(hb:PE X b tb):PE X (.IfExp c a b pos) (tIf tA ta tb):=by
 intro pins s σ H Q I h;show wpAny_IfExp (thn (hc pins s σ H _ I h) fun d i ⟨e,f,g⟩=>?_)
 cases d with
 | true=>show j pins i σ e Q f g
 | false=>show hb pins i σ e Q f g
end
def SqL(K:yg)(H:Hp)(a:Addr)(xs:List V):Prop:=
 Rd H a (.lst xs) \/
  ∃(o:Obj) (b:Array Value) (n:Nat),K.lookup a=some o/\o.cls=.type "list"/\o.dict=none/\o.data=.seq b n/\b.size<=sizeLine/\Vals xs b.toList
def SqT(K:yg)(H:Hp)(a:Addr)(xs:List V):Prop:=
 Rd H a (.tup xs) \/
  ∃(o:Obj) (b:Array Value) (n:Nat),K.lookup a=some o/\o.cls=.type "tuple"/\o.data=.seq b n/\b.size<=sizeLine/\Vals xs b.toList
noncomputable def absV:Value->Option V
 | .none=>some .non
 | .bool b=>some (.bl b)
 | .int i _=>some (.int i)
 | .str x _=>some (.str x)
 | .bytes b _=>some (.byt b)
 | .float b _=>some (.flt b)
 | .ref a=>some (.ref a)
 | .type n=>some (.ty n)
 | _=>none
theorem RelV.abs{x:V}(r:RelV x u):absV u=some x:=by
 cases x with
 | non=>cases r;rfl
 | bl _=>cases r;rfl
 | int _=>obtain⟨t,rfl⟩:=r;rfl
 | str _=>obtain⟨t,rfl⟩:=r;rfl
 | byt _=>obtain⟨t,rfl⟩:=r;rfl
 | flt _=>obtain⟨t,rfl⟩:=r;rfl
 | ref _=>cases r;rfl
 | ty _=>cases r;rfl
theorem RelV.inj{x:V}(r:RelV x u)(q:RelV y u):x=y:=ym (r.abs.symm.trans q.abs)
theorem Vals.inj:∀{xs ys:List V} {us:List Value},Vals xs us->Vals ys us->xs=ys
 | _,_,_,.nil,.nil=>rfl
 | _,_,_,.cons r t,.cons r' t'=>by rw[r.inj r',Vals.inj t t']
section
variable{X:Cx}{pins:List (Addr×Obj)}{σ:St}{H:Hp}{s:Shared}{a:Addr}{xs ys:List V}
theorem SqL.of{K:yg}(h:H a=some (.lst xs)):SqL K H a xs:=.inl (.inl h)
theorem SqT.of{K:yg}(h:H a=some (.tup xs)):SqT K H a xs:=.inl (.inl h)
theorem Inv.list(I:Inv X pins σ H s)(h:SqL X.K H a xs):∃ b:List Value,Vals xs b/\PlainL s.heap a b.toArray/\xs.length<=sizeLine:=by
 rcases h with h | ⟨o,b,n,hk,hc,hd,hs,hz,r⟩
 .obtain⟨z,b,n,r,e⟩:=h.ok I.hok;show⟨b,r,⟨_,n,e,rfl,rfl,rfl⟩,z⟩
 .show⟨b.toList,r,⟨o,n,I.kIn a o hk,hc,hd,by simpa using hs⟩,?_⟩;have e:=r.length;simp only[xT] at e;omega
theorem Inv.tuple(I:Inv X pins σ H s)(h:SqT X.K H a xs):∃ b:List Value,Vals xs b/\IsTup s.heap a b.toArray/\xs.length<=sizeLine:=by
 rcases h with h | ⟨o,b,n,hk,hc,hs,hz,r⟩
 .obtain⟨z,b,r,p⟩:=h.ok I.hok;show⟨b,r,p,z⟩
 .show⟨b.toList,r,⟨o,I.kIn a o hk,hc,n,by simpa using hs⟩,?_⟩;have e:=r.length;simp only[xT] at e;omega
theorem Inv.list_inj(I:Inv X pins σ H s)(h:SqL X.K H a xs)(h':SqL X.K H a ys):xs=ys:=by
 obtain⟨b,r,⟨o,n,e,_,_,d⟩,_⟩:=I.list h;obtain⟨its',r',⟨g,f,c,_,_,d'⟩,_⟩:=I.list h';rw[e] at c;cases c;rw[d] at d'
 injection d' with d1 _
 have:b=its':=by simpa using congrArg Array.toList d1
 subst this;show r.inj r'
theorem Inv.tuple_inj(I:Inv X pins σ H s)(h:SqT X.K H a xs)(h':SqT X.K H a ys):xs=ys:=by
 obtain⟨b,r,⟨o,e,_,n,d⟩,_⟩:=I.tuple h;obtain⟨its',r',⟨g,c,_,f,d'⟩,_⟩:=I.tuple h';rw[e] at c;cases c;rw[d] at d'
 injection d' with d1 _
 have:b=its':=by simpa using congrArg Array.toList d1
 subst this;show r.inj r'
end
noncomputable abbrev Cx.wish(X:Cx)(E:Value->Shared->Prop):Cx:={ X with xe:=E }
noncomputable abbrev Cx.nox(X:Cx):Cx:=X.wish fun _ _=>False
theorem Cx.Ok.wish(ok:X.Ok)(E:Value->Shared->Prop):(X.wish E).Ok:=
 ⟨ok.mod,ok.kind,ok.glob,ok.blt,ok.above,ok.inj,ok.has,ok.cab,ok.hd,ok.frames,ok.stk,ok.exf,ok.bs,ok.bsz,ok.noex,ok.exfs,ok.funs,ok.frf⟩
theorem Cx.Ok.unwish(ok:(X.wish E).Ok):X.Ok:=
 ⟨ok.mod,ok.kind,ok.glob,ok.blt,ok.above,ok.inj,ok.has,ok.cab,ok.hd,ok.frames,ok.stk,ok.exf,ok.bs,ok.bsz,ok.noex,ok.exfs,ok.funs,ok.frf⟩
section
variable{X:Cx}{pins:List (Addr×Obj)}{σ:St}{H:Hp}{s:Shared}{E:Value->Shared->Prop}
theorem Inv.wish(I:Inv X pins σ H s)(E:Value->Shared->Prop):Inv (X.wish E) pins σ H s:=⟨I.ok.wish E,I.os,I.bare,I.base,I.loc,I.cell,I.free,I.freeC,I.pin,I.hok,I.len⟩
theorem Inv.unwish(I:Inv (X.wish E) pins σ H s):Inv X pins σ H s:=⟨I.ok.unwish,I.os,I.bare,I.base,I.loc,I.cell,I.free,I.freeC,I.pin,I.hok,I.len⟩
theorem SP.unwish{f:Flow}(h:SP (X.wish E) pins D f s'):SP X pins D f s':=by
 cases f with
 | next=>obtain⟨a,H',I,q⟩:=h;show⟨a,H',I.unwish,q⟩
 | brk=>obtain⟨a,H',I,q⟩:=h;show⟨a,H',I.unwish,q⟩
 | cont=>obtain⟨a,H',I,q⟩:=h;show⟨a,H',I.unwish,q⟩
 | ret u=>obtain⟨v,a,H',I,r,q⟩:=h;show⟨v,a,H',I.unwish,r,q⟩
theorem PSs.nox{st:List Stmt}{t:TS}(h:PSs X.nox st t):PSs X st t:=fun pins s σ H D I hw =>
 YB (h pins s σ H D (I.wish _) hw) (fun _ _ q=>q.unwish) fun _ _ z=>False.elim z
end
section
variable{X:Cx}{st:Stmt}{rest:List Stmt}{t u:TS}{e:Expr}{te:TE}{pos:Pos}
def qfA:TS:=fun D σ H=>D.nx σ H
def qgf(t u:TS):TS:=fun D σ H=>t { D with nx:=u D } σ H
theorem qx:PSs X [] qfA:=fun _ _ σ H _ I h=>ku ⟨σ,H,I,h⟩
theorem qc(h1:PS X st t)(c:PSs X rest u):PSs X (st::rest) (qgf t u):=by
 intro pins s σ H D I h;show wpAny_execs_cons (thn (h1 pins s σ H { D with nx:=u D } I h) fun f e q=>?_)
 cases f with
 | next =>
  obtain⟨a,H',b,q⟩:=q;show c pins e a H' D b q
 | ret v=>show q
 | brk=>show q
 | cont=>show q
theorem qe(h1:PS X st t):PSs X [st] t:=by
 intro pins s σ H D I h;show wpAny_execs_cons (thn (h1 pins s σ H D I h) fun f a q=>?_)
 cases f with
 | next=>show ku q
 | ret v=>show q
 | brk=>show q
 | cont=>show q
theorem Inv.quiet(I:Inv X pins σ H s):interactive X.env=false:=by simp[interactive,I.ok.kind]
def qfB(te:TE):TS:=fun D σ H=>te σ H fun _ a=>D.nx σ a
theorem qL(c:PE X e te)(f:swapsWith e none pos.line X.env=pure false:=by rfl):PS X (.Expr e pos) (qfB te):=by
 intro pins s σ H D I h;show wpAny_Expr_any (thn (c pins s σ H _ I h) fun v j ⟨x,a,b,i,g⟩=>⟨σ,a,b,g⟩) I.quiet f
def qgs(te:TE):TS:=fun D σ H=>te σ H D.rt
theorem qm(c:PE X e te):PS X (.Return (some e) pos) (qgs te):=by
 intro pins s σ H D I h;show wpAny_Return_some (thn (c pins s σ H _ I h) fun v i ⟨x,a,b,g,f⟩=>⟨x,σ,a,b,g,f⟩)
def qfC:TS:=fun D _ H=>D.rt .non H
theorem ps_retN:PS X (.Return none pos) qfC:=fun _ _ σ H _ I h=>wpAny_Return_none ⟨.non,σ,H,I,rfl,h⟩
def qgt(c:TT)(t u:TS):TS:=fun D σ H=>c σ H fun b a=>if b=true then t D σ a else u D σ a
theorem qM{a b:List Stmt}(hc:PT X c tc)(j:PSs X a t)(hb:PSs X b u):PS X (.If c a b pos) (qgt tc t u):=by
 intro pins s σ H D I h;show wpAny_If (thn (hc pins s σ H _ I h) fun d i ⟨e,f,g⟩=>?_)
 cases d with
 | true=>show j pins i σ e D f g
 | false=>show hb pins i σ e D f g
def tNever:TS:=fun _ _ _=>False
theorem ju:PS X st tNever:=fun _ _ _ _ _ _ h=>h.elim
end
abbrev TG:=V->St->Hp->(St->Hp->Prop)->Prop
abbrev TGs:=List V->St->Hp->(St->Hp->Prop)->Prop
def PG(X:Cx)(a:Expr)(t:TG):Prop:=
 ∀(pins:List (Addr×Obj)) (s:Shared) (σ:St) (H:Hp) (v:V) (u:Value) (Q:St->Hp->Prop),Inv X pins σ H s->RelV v u->t v σ H Q ->
  wpAny (model X.prog X.w) X.A (assign a X.env u) (fun _ s'=>∃ b H',Inv X pins b H' s'/\Q b H') X.xe s
def PGs(X:Cx)(b:List Expr)(t:TGs):Prop:=
 ∀(pins:List (Addr×Obj)) (s:Shared) (σ:St) (H:Hp) (vs:List V) (us:List Value) (Q:St->Hp->Prop),Inv X pins σ H s->Vals vs us->t vs σ H Q ->
  wpAny (model X.prog X.w) X.A (assignInOrder ((assignEach b X.env).map (·.2)) us) (fun _ s'=>∃ a H',Inv X pins a H' s'/\Q a H') X.xe s
abbrev qfD:=V->V->V->Hp->(Hp->Prop)->Prop
def qgg(X:Cx)(t:qfD):Prop:=
 ∀(pins:List (Addr×Obj)) (s:Shared) (σ:St) (H:Hp) (o i v:V) (b a u:Value) (Q:Hp->Prop),Inv X pins σ H s->RelV o b->RelV i a->RelV v u->t o i v H Q ->
  wpAny (model X.prog X.w) X.A (setItem b a u) (fun _ s'=>∃ H',Inv X pins σ H' s'/\Q H') X.xe s
section
variable{X:Cx}{pos:Pos}
def qbR(i:Nat):TG:=fun v σ H Q=>Q (σ.set i (some v)) H
theorem qu(b:X.N.Nodup)(hi:X.N[i]?=some x)(e:Loc X.env.scope x)(c:X.fn x=true\/X.env.scope.names.lookup x=some .local:=by first | show .inl rfl | show .inr rfl | assumption):PG X (.Name x pos) (qbR i):=by
 intro pins s σ H v u Q I r h;show wpAny_assign_Name (qaY I b hi e r (fun s' a=>⟨_,H,a,h⟩) c)
def qgu:TGs:=fun vs σ H Q=>vs=[]/\Q σ H
def qfh(t:TG)(u:TGs):TGs:=fun vs σ H Q=>∃ v r,vs=v::r/\t v σ H fun a H'=>u r a H' Q
theorem qbi:PGs X [] qgu:=by
 intro pins s σ H vs us Q I r h;obtain⟨e,h⟩:=h;subst e;cases r;show assignInOrder_nil ⟨σ,H,I,h⟩
theorem jP{t:TG}{u:TGs}(h1:PG X e t)(g:PGs X es u)
  (i:(assignEach (e::es) X.env).map (·.2)=assign e X.env::(assignEach es X.env).map (·.2):=by rfl):PGs X (e::es) (qfh t u):=by
 intro pins s σ H vs us Q I r h;obtain⟨v,m,f,h⟩:=h;subst f
 cases r with
 | cons r rr =>
  rw[i];show assignInOrder_cons (thn (h1 pins s σ H _ _ _ I r h) fun _ l ⟨a,b,c,j⟩=>?_);show g pins l a b _ _ Q c rr j
def qgv(K:yg)(n:Nat)(t:TGs):TG:=fun v σ H Q=>∃ a xs,v=.ref a/\SqT K H a xs/\xs.length=n/\t xs σ H Q
theorem qcj{k:Nat}{t:TGs}(hc:X.calm=true)(h:PGs X es t)
  (j:(assignEach es X.env).length=n:=by rfl) (c:(assignEach es X.env).findIdx? (·.1)=none:=by rfl):PG X (.Tuple es k pos) (qgv X.K n t):=by
 intro pins s σ H v u Q I r hw;obtain⟨a,xs,i,l,hl,hw⟩:=hw;subst i;cases r;obtain⟨q,f,m,hz⟩:=I.tuple l;show assign_Tuple_tuple (I.ok.hd hc) m (by simp[j,<- hl,f.length]) c fun h' p=>?_;have g:Inv X pins σ H { s with heap:=h' }:=I.kept (t':=s.toks) fun b o e=>p b o (yE (yH e)) e;show h pins _ σ H xs _ Q g (by simpa using f) hw
def qgw(to e:TE)(t:qfD):TG:=fun v σ H Q=>to σ H fun o a=>e σ a fun i b=>t o i v b fun c=>Q σ c
theorem jI{o i:Expr}{to c:TE}{t:qfD}(p:PE X o to)(hi:PE X i c)(q:qgg X t)
  (n:∀ v,assign (.Subscript o i pos) X.env v=(do
   let a <- holding [v] (eval o X.env);let b <- holding [v,a] (eval i X.env)
   standAt pos
   holding [v,a,b] (setItem a b v)
   release [v,a,b] []):=by intro _;rfl):PG X (.Subscript o i pos) (qgw to c t):=by
 intro pins s σ H v u Q I r h;rw[n];show yr (Ys (thn (p pins s σ H _ I h) fun a D ⟨x,e,j,B,w⟩=>?_));show yr (Ys (thn (hi pins D σ e _ j w) fun b E ⟨y,f,l,C,z⟩=>?_));show yr (XD (yr (Ys (thn (q pins E σ f x y v a b u _ l B C r z) fun _ F ⟨g,m,A⟩=>?_))));show wpAny_release ⟨σ,g,m,A⟩
def qfE(te:TE)(g:TG):TS:=fun D σ H=>te σ H fun x a=>g x σ a D.nx
theorem jJ(c:PE X e te)(f:PG X tg g)(i:swapsWithSole [tg] e pos.line X.env=pure false:=by rfl)(hw:swappedStores [tg] e X.env=pure none:=by rfl)
  (h1:(assignEach [tg] X.env).map (·.2)=[assign tg X.env]:=by rfl):PS X (.Assign [tg] e pos) (qfE te g):=by
 intro pins s σ H D I h;show wpAny_Assign_stores (thn (c pins s σ H _ I h) fun v m ⟨x,a,b,l,j⟩=>?_) i hw;rw[h1];show thn (f pins m σ a x v _ b l j) fun _ n q=>q
theorem qk{a:Pos}(g:X.N.Nodup)(hi:X.N[i]?=some x)(n:Loc X.env.scope x)(j:PE X e te)(m:swapsWith e (some (.Name x a)) pos.line X.env=pure false:=by rfl)(l:X.fn x=true\/X.env.scope.names.lookup x=some .local:=by first | show .inl rfl | show .inr rfl | assumption) :
  PS X (.Assign [.Name x a] e pos) (qfE te (qbR i)):=by
 intro pins s σ H D I h;show wpAny_Assign_Name (thn (j pins s σ H _ I h) fun v q ⟨y,b,c,p,o⟩=>?_) m;show qaY c g hi n p (fun r f=>⟨_,b,f,o⟩) l
end
section
variable{X:Cx}{pos:Pos}
def tWhile(c:TT)(tb:TS):TS:=fun D σ H=>∃ W:Nat->St->Hp->Prop,(∃ m,W m σ H)/\∀ m σ H,W m σ H ->
 c σ H fun b e=>if b=true then ∃ N:St->Hp->Prop,(∀ a H',N a H'->∃ f,f<m/\W f a H')/\tb { D with nx:=N,ct:=N,bk:=D.nx } σ e else D.nx σ e
theorem qaZ(y:PassesOwn (model X.prog X.w) X.A X.env X.xe)(hc:PT X c tc)(hb:PSs X body tb):PS X (.While c body [] pos) (tWhile tc tb):=by
 intro pins s σ H D I h;obtain⟨W,⟨B,F⟩,turn⟩:=h;show wpAny_While (codeAny_whileLoop (fun n s'=>∃ i H',Inv X pins i H' s'/\W n i H') ?_ B ⟨σ,H,I,F⟩);rintro n C ⟨e,r,z,G⟩;show xE y (thn (hc pins C e r _ z (turn n e r G)) fun b E ⟨t,u,j⟩=>?_)
 cases b with
 | true =>
  obtain⟨N,x,j⟩:=j;rw[yG rfl];show xE y (thn (hb pins E e t _ u j) fun f J l=>?_)
  cases f with
  | next =>
   obtain⟨a,g,m,q⟩:=l;obtain⟨p,o,w3⟩:=x a g q;show⟨p,o,a,g,m,w3⟩
  | cont =>
   obtain⟨a,g,m,q⟩:=l;obtain⟨p,o,w3⟩:=x a g q;show⟨p,o,a,g,m,w3⟩
  | brk=>show l
  | ret v=>show l
 | false =>
  rw[yD Yo];show ku ⟨e,t,u,j⟩
end
structure It where
 go:Nat->Hp->Prop
 yld:Nat->Hp->V->Hp->Prop
 stop:Nat->Hp->Prop
def qcS(X:Cx)(pins:List (Addr×Obj))(H:Hp)(b:Addr):Prop:=
 H b=none/\b≠X.env.locals/\b∉X.fs/\(b∈X.ex\/X.s₀.heap.objs.size<=b)/\(∀ x c,X.env.cells.lookup x=some c->c≠b)/\∀ p∈X.pn++pins,p.1≠b
theorem Inv.fpOk{H':Hp}(I:Inv X pins σ H s)(hb:s.heap.objs.size<=b)(a:H' b=none):qcS X pins H' b:=by
 show⟨a,Yl (yj I.lt hb),I.nofs hb,.inr (yi I.sz hb),fun x c e z=>?_,fun p f z=>?_⟩
 .obtain⟨v,q⟩:=I.cell x c e;show absurd (yj q.lt (by rw[z];show hb)) (Yy _)
 .show absurd (yj (yH (I.pin p f).1) (by rw[z];show hb)) (Yy _)
structure Turn(P:Program)(w:World)(K:yg)(tg:Expr)(J:It)(fp:List Addr)(it:Addr)(tn:Nat->Heap->Prop):Prop where
 mem:it∈fp
 obj:∀ i h,tn i h->∀ b∈fp,∃ o,h.get? b=some o/\∀ v,o.data≠.cell v
 keep:∀ i h h',tn i h->(∀ b∈fp,∀ o,h.get? b=some o->h'.get? b=some o)->tn i h'
 item:∀(X:Cx),X.prog=P->X.w=w->X.K=K->X.calm=true->∀(i:Nat) (pins:List (Addr×Obj)) (s:Shared) (σ:St) (H:Hp) (E:Value->Shared->Prop),Inv X pins σ H s->(∀ b∈fp,qcS X pins H b)->tn i s.heap->J.go i H ->
  wpAny (model P w) X.A (pyNext (.ref it)) (fun r s1=>∃ u,r=some u /\
   wpAny (model P w) X.A (letOwnedTupleGo tg (.ref it) u) (fun _ s2=>∃ x H',Inv X pins σ H' s2/\RelV x u/\J.yld i H x H'/\tn (i+1) s2.heap/\∀ b∈fp,H' b=none) E s1) E s
 done:∀(X:Cx),X.prog=P->X.w=w->X.K=K->X.calm=true->∀(i:Nat) (pins:List (Addr×Obj)) (s:Shared) (σ:St) (H:Hp) (E:Value->Shared->Prop),Inv X pins σ H s->(∀ b∈fp,qcS X pins H b)->tn i s.heap->J.stop i H ->
  wpAny (model P w) X.A (pyNext (.ref it)) (fun r s1=>r=none/\Inv X pins σ H s1) E s
 self:∀(A:Around) (i:Nat) (s:Shared) (Q:Value->Shared->Prop) (E:Value->Shared->Prop),tn i s.heap->Q (.ref it) s->wpAny (model P w) A (pyIter (.ref it)) Q E s
abbrev TI:=St->Hp->(It->Hp->Prop)->Prop
def PIE(X:Cx)(pins:List (Addr×Obj))(σ:St)(tg:Expr)(R:It->Hp->Prop)(a:Value)(c:Shared):Prop:=
 ∃(it:Addr) (fp:List Addr) (tn:Nat->Heap->Prop) (J:It) (H':Hp),a=.ref it/\Inv X pins σ H' c/\Turn X.prog X.w X.K tg J fp it tn/\tn 0 c.heap/\(∀ b∈fp,qcS X pins H' b)/\R J H'
def PI(X:Cx)(tg a:Expr)(c:TI):Prop:=
 ∀(pins:List (Addr×Obj)) (s:Shared) (σ:St) (H:Hp) (R:It->Hp->Prop),Inv X pins σ H s->c σ H R ->
  wpAny (model X.prog X.w) X.A (eval a X.env) (fun v b=>wpAny (model X.prog X.w) X.A (pyIter v) (PIE X pins σ tg R) X.xe b) X.xe s
theorem qfi{o:Obj}{n:String}{vs:Array Value}{Q:Unit->Shared->Prop}(e:s.heap.get? it=some o)(hc:o.cls=.type n)(b:o.data=.fields vs)
    (c:["enumerate","zip","dict_itemiterator","dict_reverseitemiterator","odict_iterator","itertools.zip_longest","itertools.pairwise"].contains n=false) (a:Q () s):wpAny M A (letOwnedTupleGo tg (.ref it) u) Q E s:=by
  unfold letOwnedTupleGo;cases tg<;>first
    | show yw a
    | (cases u<;>first
        | show yw a
        | (show yr (wpAny_load e ?_)
           rw[hc,b];show wpAny M A (if (["enumerate","zip","dict_itemiterator","dict_reverseitemiterator","odict_iterator","itertools.zip_longest","itertools.pairwise"].contains n&&vs[0]?==some (rawInt _))=true then _ else _) Q E s;rw[yD (by intro h;rw[c,Bool.false_and] at h;cases h)];show yw a))
noncomputable def Itl(K:yg)(a:Addr):It:=
 ⟨fun i H=>∃ xs x,SqL K H a xs/\xs[i]?=some x,fun i H x H'=>H'=H/\∀ xs,SqL K H a xs->xs[i]?=some x,fun i H=>∃ xs,SqL K H a xs/\xs.length<=i⟩
noncomputable def Itt(K:yg)(a:Addr):It:=
 ⟨fun i H=>∃ xs x,SqT K H a xs/\xs[i]?=some x,fun i H x H'=>H'=H/\∀ xs,SqT K H a xs->xs[i]?=some x,fun i H=>∃ xs,SqT K H a xs/\xs.length<=i⟩
noncomputable def Itr(lo:Int)(n:Nat):It:=⟨fun i _=>i<n,fun i H x H'=>H'=H/\x=.int (lo+i),fun i _=>n<=i⟩
theorem qck{K:yg}(a it:Addr):Turn P w K tg (Itl K a) [it] it (fun i h=>h.IsListIter it a i) where
 mem:=by simp
 obj:=fun i h st b hb=>by
  have e:b=it:=by simpa using hb
  subst e;obtain⟨o,e,c,d⟩:=st;show⟨o,e,fun v z=>by rw[d] at z;cases z⟩
 keep:=fun i h h' st k=>st.at fun o e=>k it (by simp) o e
 item:=by
  intro X y hw t hc i pins s σ H E I g st A;subst y hw t;obtain⟨xs,x,j,B⟩:=A;obtain⟨C,D,p,hz⟩:=I.list j;obtain⟨u,L,N⟩:=D.get B;obtain⟨l,m,J,n,q,r⟩:=g it (by simp);show wpAny_pyNext_list_item st p.isList (x:=u) (by simpa using L) fun h' f O=>?_;have F:Inv X pins σ H { s with heap:=h' }:=I.turned (t':=s.toks) (fun b o hb e=>(O.2 b hb).trans e) l m n q r;obtain⟨o,e,c,d⟩:=id f;show⟨u,rfl,qfi (s:={ s with heap:=h' }) e c d (by decide) ⟨x,H,F,N,⟨rfl,fun ys M=>by rw[I.list_inj M j];show B⟩,f,fun b hb=>(g b hb).1⟩⟩
 done:=by
  intro X y hw t hc i pins s σ H E I g st A;subst y hw t;obtain⟨xs,j,B⟩:=A;obtain⟨C,D,p,hz⟩:=I.list j;obtain⟨l,m,J,n,q,r⟩:=g it (by simp);have hl:=D.length;show wpAny_pyNext_list_end (I.ok.hd hc) st p.isList (by simp;omega) fun h' G=>⟨rfl,I.turned (t':=s.toks) (fun b o hb e=>G b o hb e) l m n q r⟩
 self:=fun _ _ _ _ _ st h=>wpAny_pyIter_listiter st h
theorem turn_tuple{K:yg}(a it:Addr):Turn P w K tg (Itt K a) [it] it (fun i h=>h.IsTupleIter it a i) where
 mem:=by simp
 obj:=fun i h st b hb=>by
  have e:b=it:=by simpa using hb
  subst e;obtain⟨o,e,c,d⟩:=st;show⟨o,e,fun v z=>by rw[d] at z;cases z⟩
 keep:=fun i h h' st k=>st.at fun o e=>k it (by simp) o e
 item:=by
  intro X A hw y hc i pins s σ H E I j st B;subst A hw y;obtain⟨xs,x,l,C⟩:=B;obtain⟨f,D,p,hz⟩:=I.tuple l;obtain⟨u,L,N⟩:=D.get C;obtain⟨m,n,J,q,r,t⟩:=j it (by simp);show wpAny_pyNext_tuple_item st (show s.heap.IsTuple a f.toArray from p) (x:=u) (by simpa using L) fun h' g O=>?_;have F:Inv X pins σ H { s with heap:=h' }:=I.turned (t':=s.toks) (fun b o hb e=>(O.2 b hb).trans e) m n q r t;obtain⟨o,e,c,d⟩:=id g;show⟨u,rfl,qfi (s:={ s with heap:=h' }) e c d (by decide) ⟨x,H,F,N,⟨rfl,fun ys M=>by rw[I.tuple_inj M l];show C⟩,g,fun b hb=>(j b hb).1⟩⟩
 done:=by
  intro X A hw y hc i pins s σ H E I j st B;subst A hw y;obtain⟨xs,l,C⟩:=B;obtain⟨f,D,p,hz⟩:=I.tuple l;obtain⟨m,n,J,q,r,t⟩:=j it (by simp);have hl:=D.length;show wpAny_pyNext_tuple_end (I.ok.hd hc) st (show s.heap.IsTuple a f.toArray from p) (by simp;omega) fun h' G=>⟨rfl,I.turned (t':=s.toks) (fun b o hb e=>G b o hb e) m n q r t⟩
 self:=fun _ _ _ _ _ st h=>wpAny_pyIter_tupleiter st h
theorem turn_range{K:yg}(it:Addr)(lo:Int)(n:Nat):Turn P w K tg (Itr lo n) [it] it (fun i h=>IsRangeIter h it (lo+(i:Nat)*1) ((n:Int)-(i:Nat)) 1) where
 mem:=by simp
 obj:=fun i h st b hb=>by
  have e:b=it:=by simpa using hb
  subst e
  show⟨_,st,fun v z=>by
   have B:Data.fields _=Data.cell v:=z;cases B⟩
 keep:=fun i h h' st k=>k it (by simp) _ st
 item:=by
  intro X q hw p hc i pins s σ H E I c st r;subst q hw p;obtain⟨f,g,y,j,l,m⟩:=c it (by simp);have W:=Walks.range (prog:=X.prog) (w:=X.w) (I.ok.hd hc) it lo 1 n;show W.item i s _ _ r st fun v h' tk hv a A=>?_;obtain⟨t,rfl⟩:=hv;have u:Inv X pins σ H { s with heap:=h',toks:=tk }:=I.turned (fun b o hb e=>A b o (by simpa using hb) e) f g j l m;show⟨_,rfl,qfi (s:={ s with heap:=h',toks:=tk }) (n:="range_iterator") a rfl rfl (by decide) ⟨.int (lo+i),H,u,⟨t,?_⟩,⟨rfl,rfl⟩,a,fun b hb=>(c b hb).1⟩⟩;rw[Int.mul_one]
 done:=by
  intro X q hw p hc i pins s σ H E I c st r;subst q hw p;obtain⟨f,g,y,j,l,m⟩:=c it (by simp);show wpAny_pyNext_range_end (I.ok.hd hc) st (by have:n<=i:=r;omega) fun h' x=>⟨rfl,I.turned (t':=s.toks) (fun b o hb e=>x b o hb e) f g j l m⟩
 self:=fun _ _ _ _ _ st h=>wpAny_pyIter_rangeiter st h
section
variable{X:Cx}{tg:Expr}
theorem qc6{R:It->Hp->Prop}{hi:Int}{t u v:Tok}{tk:Nat}(I:Inv X pins σ H s)(h1:-(2 ^ 62)<=lo)(g:lo<2 ^ 62)(h:-(2 ^ 62)<=hi)(i:hi<2 ^ 62)
  (q:R (Itr lo (hi-lo).toNat) H):wpAny (model X.prog X.w) X.A (pyIter (.ref s.heap.objs.size)) (PIE X pins σ tg R) E { s with heap:=s.heap.push { cls:=.type "range",data:=.fields #[.int lo t,.int hi u,.int 1 v] },toks:=tk }:=by
 show wpAny_pyIter_range (IsRange.new ..) (small_one h1 g h i) ?_;have a:Inv X pins σ H { s with heap:=s.heap.push { cls:=.type "range",data:=.fields #[.int lo t,.int hi u,.int 1 v] },toks:=tk }:=I.kept fun b o e=>yu _ e;show⟨(s.heap.push { cls:=.type "range",data:=.fields #[.int lo t,.int hi u,.int 1 v] }).objs.size,[(s.heap.push { cls:=.type "range",data:=.fields #[.int lo t,.int hi u,.int 1 v] }).objs.size],_,_,H,rfl,
  a.kept (t':=tk) fun b o e=>yu _ e,turn_range _ lo (hi-lo).toNat,?_,fun b hb=>?_,q⟩
 .have c:lo+((0:Nat):Int)*1=lo:=by simp
  have f:(((hi-lo).toNat:Nat):Int)-((0:Nat):Int)=Builtin.Range.rangeSize lo hi 1:=by rw[rangeSize_one];split<;>omega
  show IsRangeIter _ _ (lo+((0:Nat):Int)*1) ((((hi-lo).toNat:Nat):Int)-((0:Nat):Int)) 1;rw[c,f];show yS _ rfl
 .have e:b=(s.heap.push { cls:=.type "range",data:=.fields #[.int lo t,.int hi u,.int 1 v] }).objs.size:=by simpa using hb
  subst e;show a.fpOk (yh _) (a.hok.fresh (yh _))
def qfF(ta:TA):TI:=fun σ H R=>ta σ H fun vs a=>∃ j:Int,vs=[.int j]/\-(2 ^ 62)<=j/\j<2 ^ 62/\R (Itr 0 j.toNat) a
def qfG(ta:TA):TI:=fun σ H R=>ta σ H fun vs a=>∃ i j:Int,vs=[.int i,.int j]/\(-(2 ^ 62)<=i/\i<2 ^ 62/\-(2 ^ 62)<=j/\j<2 ^ 62)/\R (Itr i (j-i).toNat) a
theorem zv{a:Expr}(g:Gl X "range")(i:X.mg "range"=none)(f:PA X [a] ta)(l:starEach [a] X.env=[(false,eval a X.env)]:=by rfl):PI X tg (.Call (.Name "range" p) [a] [] pos) (qfF ta):=by
 intro pins s σ H R I h;show Call_ (qau I g i boot_range (YO (thn (f pos pins s σ H _ I h) fun us u ⟨vs,o,c,n,b⟩=>?_) l rfl));obtain⟨j,e,b,m,q⟩:=b;subst e
 cases n with
 | cons r rr =>
  cases rr;obtain⟨t,rfl⟩:=r;show call_range_1 (qc6 c (by omega) (by omega) b m (by simpa using q))
theorem qbj{a b:Expr}(m:Gl X "range")(n:X.mg "range"=none)(l:PA X [a,b] ta)(o:starEach [a,b] X.env=[(false,eval a X.env),(false,eval b X.env)]:=by rfl)(c:starEach [b] X.env=[(false,eval b X.env)]:=by rfl) :
  PI X tg (.Call (.Name "range" p) [a,b] [] pos) (qfG ta):=by
 intro pins s σ H R I h;show Call_ (qau I m n boot_range (YO (thn (l pos pins s σ H _ I h) fun us z ⟨vs,y,g,x,f⟩=>?_) (by rw[o,c]) (by rw[c];rfl)));obtain⟨i,j,e,⟨f,u,v,w⟩,q⟩:=f;subst e
 cases x with
 | cons r rr =>
  cases rr with
  | cons r' rr =>
   cases rr;obtain⟨t,rfl⟩:=r;obtain⟨t',rfl⟩:=r';show call_range_2 (qc6 g f u v w q)
def qgx(h:TI)(g:TG)(tb:TS):TS:=fun D σ H=>h σ H fun J e=>∃ W:Nat->Nat->St->Hp->Prop,(∃ m,W 0 m σ e)/\∀ i m σ H,W i m σ H ->
 (J.stop i H/\D.nx σ H)\/(J.go i H/\∃ N:St->Hp->Prop,(∀ a H',N a H'->∃ c,c<m/\W (i+1) c a H')/\∀ x H',J.yld i H x H'->g x σ H' fun b f=>tb { D with nx:=N,ct:=N,bk:=D.nx } b f)
noncomputable def qcl(fp:List Addr)(h:Heap):List (Addr×Obj):=fp.filterMap fun b=>(h.get? b).map fun o=>(b,o)
theorem zY{o:Obj}(hb:b∈fp)(e:h.get? b=some o):(b,o)∈qcl fp h:=List.mem_filterMap.mpr ⟨b,hb,by rw[e];rfl⟩
theorem of_pinsAt{p:Addr×Obj}(c:p∈qcl fp h):p.1∈fp/\h.get? p.1=some p.2:=by
 obtain⟨b,hb,e⟩:=List.mem_filterMap.mp c
 cases q:h.get? b with
 | none=>rw[q] at e;cases e
 | some o =>
  rw[q] at e;have a:(b,o)=p:=ym e;subst a;show⟨hb,q⟩
theorem Inv.pinned(I:Inv X pins σ H s)(h:∀ b∈fp,qcS X pins H b)(i:∀ b∈fp,∃ o,s.heap.get? b=some o/\∀ v,o.data≠.cell v):Inv X (pins++qcl fp s.heap) σ H s:=
 I.pins_of fun p j=>(yA.mp j).elim (fun z=>I.pin p (yN _ z)) fun z=>by
  obtain⟨hb,e⟩:=of_pinsAt z;obtain⟨c,f,g,_⟩:=h p.1 hb;obtain⟨o,a,d⟩:=i p.1 hb;rw[e] at a;cases a;show⟨e,c,f,g,d⟩
theorem Inv.unpinned{pl:List (Addr×Obj)}(I:Inv X (pins++pl) σ H s):Inv X pins σ H s:=I.pins_of fun p a=>I.pin p (yN _ (yO _ a))
theorem qZ{l:Expr}{wi:TI}(C:PassesOwn (model X.prog X.w) X.A X.env X.xe)(hc:X.calm=true)(hi:PI X tg l wi)(hg:PG X tg g)(hb:PSs X body tb)
  (hs:∀ x,foldedSetIterable l X.env x=pure x:=by intro _;rfl):PS X (.For tg l body [] pos) (qgx wi g tb):=by
 intro pins s σ H D I h;show wpAny_For (thn (hi pins s σ H _ I h) fun v s1 h1=>thn h1 fun aa s2 h2=>?_) hs;obtain⟨it,fp,tn,J,H2,e,I2,T,R,Z,W,⟨m0,w0⟩,turn⟩:=h2;subst e;have p:∀{H':Hp},(∀ b∈fp,H' b=none)->∀ b∈fp,qcS X pins H' b:=fun hn b hb=>⟨hn b hb,(Z b hb).2⟩;show codeAny_forLoop_any (fun n s'=>∃ i q H',Inv X pins q H' s'/\tn i s'.heap/\(∀ b∈fp,H' b=none)/\W i n q H') ?_ m0 ⟨0,σ,H2,I2,R,fun b hb=>(Z b hb).1,w0⟩;rintro n s3 ⟨i,t,K,Y,F,B,w3⟩;rcases turn i n t K w3 with⟨G,qn⟩ | ⟨go,N,hN,step⟩
 .show xE C (thn (T.done X rfl rfl rfl hc i pins s3 t K X.xe Y (p B) F G) fun r s4 ⟨O,I4⟩=>?_);subst O;show ku ⟨t,K,I4,qn⟩
 .show xE C (thn (T.item X rfl rfl rfl hc i pins s3 t K X.xe Y (p B) F go) fun r s4 ⟨u,O,h4⟩=>?_);subst O;show xE C (thn h4 fun _ s5 ⟨x,U,I5,r5,y5,z,M⟩=>?_);have L:=I5.pinned (p M) (T.obj _ _ z);show xE C (thn (hg _ s5 t U x u _ L r5 (step x U y5)) fun _ s6 ⟨S,H6,I6,q6⟩=>?_);show xE C (thn (hb _ s6 S H6 _ I6 q6) fun f P y=>?_)
  have again:∀{a:St} {c:Hp},Inv X (pins++qcl fp s5.heap) a c P->N a c->∃ m,m<n/\∃ i q H',Inv X pins q H' P/\tn i P.heap/\(∀ b∈fp,H' b=none)/\W i m q H':=fun{a c} j E=>by
   obtain⟨m',hm,w7⟩:=hN a c E;show⟨m',hm,i+1,a,c,j.unpinned,T.keep _ _ _ z fun b hb o e=>(j.pin (b,o) (yN _ (yN _ (zY hb e)))).1,fun b hb=>?_,w7⟩;obtain⟨o,e,d⟩:=T.obj _ _ z b hb;show(j.pin (b,o) (yN _ (yN _ (zY hb e)))).2.1
  cases f with
  | next=>obtain⟨a,c,j,E⟩:=y;show again j E
  | cont=>obtain⟨a,c,j,E⟩:=y;show again j E
  | brk=>obtain⟨a,c,j,y⟩:=y;show⟨a,c,j.unpinned,y⟩
  | ret v=>obtain⟨x7,a,c,j,r7,y⟩:=y;show⟨x7,a,c,j.unpinned,r7,y⟩
end
theorem qN{K:yg}(b:Nat->St->Hp->Prop)(n:b 0 σ H)(hl:∀ i σ H,i<=xs.length->b i σ H->SqL K H a xs)
  (r:∀ i x σ H,xs[i]?=some x->b i σ H->g x σ H fun f j=>tb { D with nx:=b (i+1),ct:=b (i+1),bk:=D.nx } f j) (o:∀ σ H,b xs.length σ H->D.nx σ H) :
  ∃ W:Nat->Nat->St->Hp->Prop,(∃ m,W 0 m σ H)/\∀ i m σ H,W i m σ H ->
   ((Itl K a).stop i H/\D.nx σ H)\/((Itl K a).go i H/\∃ N:St->Hp->Prop,(∀ c H',N c H'->∃ l,l<m/\W (i+1) l c H')/\∀ x H',(Itl K a).yld i H x H'->g x σ H' fun f j=>tb { D with nx:=N,ct:=N,bk:=D.nx } f j):=by
 show⟨fun i m σ H=>m=xs.length-i/\i<=xs.length/\b i σ H,⟨xs.length,by simp,YC _,n⟩,?_⟩;rintro i m σ H ⟨rfl,hi,p⟩;have q:=hl i σ H hi p;by_cases h:i<xs.length
 .show .inr ⟨⟨xs,xs[i],q,by simp[h]⟩,b (i+1),fun c H' s=>⟨xs.length-(i+1),by omega,rfl,h,s⟩,fun x H' y=>?_⟩;obtain⟨e,y⟩:=y;subst e;show r i x σ _ (y xs q) p
 .have e:i=xs.length:=by omega
  subst e;show .inl ⟨⟨xs,q,yh _⟩,o σ H p⟩
theorem j9(a:Nat->St->Hp->Prop)(l:a 0 σ H)
  (q:∀ i σ H,i<n->a i σ H->g (.int (lo+i)) σ H fun f h=>tb { D with nx:=a (i+1),ct:=a (i+1),bk:=D.nx } f h) (o:∀ σ H,a n σ H->D.nx σ H) :
  ∃ W:Nat->Nat->St->Hp->Prop,(∃ m,W 0 m σ H)/\∀ i m σ H,W i m σ H ->
   ((Itr lo n).stop i H/\D.nx σ H)\/((Itr lo n).go i H/\∃ N:St->Hp->Prop,(∀ c H',N c H'->∃ j,j<m/\W (i+1) j c H')/\∀ x H',(Itr lo n).yld i H x H'->g x σ H' fun f h=>tb { D with nx:=N,ct:=N,bk:=D.nx } f h):=by
 show⟨fun i m σ H=>m=n-i/\i<=n/\a i σ H,⟨n,by simp,YC _,l⟩,?_⟩;rintro i m σ H ⟨rfl,hi,p⟩;by_cases b:i<n
 .show .inr ⟨b,a (i+1),fun c H' r=>⟨n-(i+1),by omega,rfl,b,r⟩,fun x H' y=>?_⟩;obtain⟨e,y⟩:=y;subst e y;show q i σ _ b p
 .have e:i=n:=by omega
  subst e;show .inl ⟨yh _,o σ H p⟩
abbrev R2:=V->V->Hp->VK->Prop
def OpR(X:Cx)(f:Value->Value->Sem Value)(r:R2):Prop:=
 ∀(pins:List (Addr×Obj)) (s:Shared) (σ:St) (H:Hp) (x y:V) (v u:Value) (Q:VK),Inv X pins σ H s->RelV x v->RelV y u->r x y H Q ->
  wpAny (model X.prog X.w) X.A (f v u) (EP X pins σ Q) X.xe s
def UnR(X:Cx)(f:Value->Sem Value)(r:V->Hp->VK->Prop):Prop:=
 ∀(pins:List (Addr×Obj)) (s:Shared) (σ:St) (H:Hp) (x:V) (v:Value) (Q:VK),Inv X pins σ H s->RelV x v->r x H Q ->
  wpAny (model X.prog X.w) X.A (f v) (EP X pins σ Q) X.xe s
def zT(X:Cx)(f:Value)(r:List V->Hp->VK->Prop):Prop:=
 ∀(pins:List (Addr×Obj)) (s:Shared) (σ:St) (H:Hp) (xs:List V) (us:List Value) (Q:VK),Inv X pins σ H s->Vals xs us->r xs H Q ->
  wpAny (model X.prog X.w) X.A (call f us) (EP X pins σ Q) X.xe s
def tOp(r:R2)(ta tb:TE):TE:=fun σ H Q=>ta σ H fun x a=>tb σ a fun y b=>r x y b Q
def tUn(r:V->Hp->VK->Prop)(ta:TE):TE:=fun σ H Q=>ta σ H fun x a=>r x a Q
def rI(C:Int->Int->Prop)(g:Int->Int->V):R2:=fun x y H Q=>∃ i j,x=.int i/\y=.int j/\C i j/\Q (g i j) H
def rI0(g:Int->Int->V):R2:=fun x y H Q=>∃ i j,x=.int i/\y=.int j/\Q (g i j) H
def rU(g:Int->V):V->Hp->VK->Prop:=fun x H Q=>∃ i,x=.int i/\Q (g i) H
section
variable{X:Cx}{a b c:Expr}{ta tb tc:TE}{pos:Pos}
theorem qgh(n:PE X a ta)(hb:PE X b tb){R:V->V->Hp->Prop}(I:Inv X pins σ H s)
  (h:ta σ H fun x j=>tb σ j fun y c=>R x y c) {Q:Value->Shared->Prop}
  (o:∀ v u i x y c,Inv X pins σ c i->RelV x v->RelV y u->R x y c->wpAny (model X.prog X.w) X.A (f v u) Q X.xe i) :
  wpAny (model X.prog X.w) X.A (eval a X.env) (fun v e=>wpAny (model X.prog X.w) X.A (eval b X.env) (fun u g=>wpAny (model X.prog X.w) X.A (f v u) Q X.xe g) X.xe e) X.xe s:=by
 show thn (n pins s σ H _ I h) fun v z ⟨x,j,l,r,p⟩=>?_;show thn (hb pins z σ j _ l p) fun u i ⟨y,c,m,t,q⟩=>?_;show o v u i x y c m r t q
theorem qz{op:Operator}(g:OpR X (binaryOp op) r)(f:PE X a ta)(hb:PE X b tb):PE X (.BinOp a op b pos) (tOp r ta tb):=by
 intro pins s σ H Q I h;show wpAny_BinOp (qgh f hb I h fun v u l x y c e i j q=>g pins l σ c x y v u Q e i j q)
theorem qan{op:UnaryOp}{r:V->Hp->VK->Prop}(f:UnR X (unaryOp op) r)(e:PE X a ta):PE X (.UnaryOp op a pos) (tUn r ta):=by
 intro pins s σ H Q I h;show UnaryOp_ (thn (e pins s σ H _ I h) fun v j ⟨x,b,c,i,g⟩=>f pins j σ b x v Q c i g)
theorem opI{C:Int->Int->Prop}{g:Int->Int->Int}
  (a:∀(i j:Int) (t u:Tok) (s:Shared) (Q:Value->Shared->Prop) (E:Value->Shared->Prop),C i j->Q (.int (g i j) s.toks) { s with toks:=s.toks+1 }->wpAny (model X.prog X.w) X.A (f (.int i t) (.int j u)) Q E s) :
  OpR X f (rI C fun i j=>.int (g i j)):=by
 intro pins s σ H x y v u Q I b c h;obtain⟨i,j,rfl,rfl,hc,q⟩:=h;obtain⟨t,rfl⟩:=b;obtain⟨t',rfl⟩:=c;show a i j t t' s _ _ hc ⟨.int (g i j),H,I.tok _,⟨_,rfl⟩,q⟩
theorem qf7{g:Int->Int->Int}
  (a:∀(i j:Int) (t u:Tok) (s:Shared) (Q:Value->Shared->Prop) (E:Value->Shared->Prop),Q (.int (g i j) s.toks) { s with toks:=s.toks+1 }->wpAny (model X.prog X.w) X.A (f (.int i t) (.int j u)) Q E s) :
  OpR X f (rI0 fun i j=>.int (g i j)):=by
 intro pins s σ H x y v u Q I b c h;obtain⟨i,j,rfl,rfl,q⟩:=h;obtain⟨t,rfl⟩:=b;obtain⟨t',rfl⟩:=c;show a i j t t' s _ _ ⟨.int (g i j),H,I.tok _,⟨_,rfl⟩,q⟩
theorem qf8{g:Int->Int->Bool}
  (a:∀(i j:Int) (t u:Tok) (s:Shared) (Q:Value->Shared->Prop) (E:Value->Shared->Prop),Q (.bool (g i j)) s->wpAny (model X.prog X.w) X.A (f (.int i t) (.int j u)) Q E s) :
  OpR X f (rI0 fun i j=>.bl (g i j)):=by
 intro pins s σ H x y v u Q I b c h;obtain⟨i,j,rfl,rfl,q⟩:=h;obtain⟨t,rfl⟩:=b;obtain⟨t',rfl⟩:=c;show a i j t t' s _ _ ⟨.bl (g i j),H,I,rfl,q⟩
def CDiv(i j:Int):Prop:=0<j/\j<1073741824
def qgy(i j:Int):Prop:=0<=j/\j<=1000000/\i.natAbs<2 ^ 64
def CMul(i j:Int):Prop:=(-(2 ^ 64)<i/\i<2 ^ 64)\/(-(2 ^ 64)<j/\j<2 ^ 64)
theorem CMul.ok{i j:Int}(h:CMul i j):IntMulOk i j:=by
 rcases h with⟨h1,a⟩ | ⟨h1,a⟩
 .show .of_left (intBits_le_64 h1 a)
 .show .of_right (intBits_le_64 h1 a)
theorem two_pow_nn(k:Nat):(0:Int)<=2 ^ k:=by
 rw[two_pow_cast];show Int.natCast_nonneg _
theorem op_add:OpR X (binaryOp .Add) (rI0 fun i j=>.int (i+j)):=qf7 fun _ _ _ _ _ _ _ q=>add_int q
theorem qc7:OpR X (binaryOp .Sub) (rI0 fun i j=>.int (i-j)):=qf7 fun _ _ _ _ _ _ _ q=>sub_int q
theorem op_mul:OpR X (binaryOp .Mult) (rI CMul fun i j=>.int (i*j)):=opI fun _ _ _ _ _ _ _ hc q=>mul_int q hc.ok
theorem qdN:OpR X (binaryOp .FloorDiv) (rI CDiv fun i j=>.int (i / j)):=opI fun i j _ _ _ _ _ hc q=>by
 have h1:(0:Int)<j:=hc.1;have a:j<1073741824:=hc.2;show floordiv_int (by omega) (by rw[Int.fdiv_eq_ediv_of_nonneg i (by omega)];show q) (.inl (PyProof.noPylong_small (by omega)))
theorem zP:OpR X (binaryOp .Mod) (rI (fun _ j=>0<j) fun i j=>.int (i % j)):=opI fun i j _ _ _ _ _ hc q=>by
 have h1:(0:Int)<j:=hc;show mod_int' (by omega) (by rw[Int.fmod_eq_emod_of_nonneg i (by omega)];show q)
theorem op_pow:OpR X (binaryOp .Pow) (rI qgy fun i j=>.int (i ^ j.toNat)):=opI fun _ _ _ _ _ _ _ hc q=>pow_int_small hc.1 hc.2.1 hc.2.2 q
theorem qav:OpR X (binaryOp .LShift) (rI qgy fun i j=>.int (i*2 ^ j.toNat)):=opI fun _ _ _ _ _ _ _ hc q=>lshift_int_small hc.1 hc.2.1 hc.2.2 q
theorem qc8:OpR X (binaryOp .RShift) (rI (fun _ j=>0<=j) fun i j=>.int (i / 2 ^ j.toNat)):=opI fun i j _ _ _ _ _ hc q =>
 rshift_int hc (by rw[Int.fdiv_eq_ediv_of_nonneg i (two_pow_nn _)];show q)
theorem qaV:OpR X (binaryOp .BitAnd) (rI0 fun i j=>.int (Builtin.bitAnd i j)):=qf7 fun _ _ _ _ _ _ _ q=>and_int q
theorem qeE:OpR X (binaryOp .BitOr) (rI0 fun i j=>.int (Builtin.bitOr i j)):=qf7 fun _ _ _ _ _ _ _ q=>or_int q
theorem unI{f:Value->Sem Value}{g:Int->Int}
  (a:∀(i:Int) (t:Tok) (s:Shared) (Q:Value->Shared->Prop) (E:Value->Shared->Prop),Q (.int (g i) s.toks) { s with toks:=s.toks+1 }->wpAny (model X.prog X.w) X.A (f (.int i t)) Q E s) :
  UnR X f (rU fun i=>.int (g i)):=by
 intro pins s σ H x v Q I b h;obtain⟨i,rfl,q⟩:=h;obtain⟨t,rfl⟩:=b;show a i t s _ _ ⟨.int (g i),H,I.tok _,⟨_,rfl⟩,q⟩
theorem zQ:UnR X (unaryOp .USub) (rU fun i=>.int (-i)):=unI fun _ _ _ _ _ q=>neg_int q
theorem qdO:UnR X (unaryOp .Invert) (rU fun i=>.int (Builtin.bitNot i)):=unI fun _ _ _ _ _ q=>invert_int q
end
noncomputable def scal:V->V->Bool
 | .non,.non=>true | .non,.int _=>true | .int _,.non=>true | .non,.bl _=>true | .bl _,.non=>true | .non,.str _=>true | .str _,.non=>true
 | .int _,.int _=>true | .bl _,.bl _=>true | .str _,.str _=>true | .byt _,.byt _=>true
 | .int _,.str _=>true | .str _,.int _=>true | .bl _,.str _=>true | .str _,.bl _=>true
 | _,_=>false
def rEq:R2:=fun x y H Q=>scal x y=true/\Q (.bl (decide (x=y))) H
theorem dec_bl{i j:Bool}:decide (V.bl i=V.bl j)=(i==j):=by
 rw[YZ];simp
section
variable{X:Cx}{a b c:Expr}{ta tb tc:TE}{pos:Pos}
theorem qc9{Q:VK}{k k':Bool}(I:Inv X pins σ H s)(q:Q (.bl k) H)(e:k=k'):EP X pins σ Q (.bool k') s:=by
 subst e;show⟨.bl k,H,I,rfl,q⟩
theorem qdP:OpR X (compareOp .Lt) (rI0 fun i j=>.bl (decide (i<j))):=qf8 fun _ _ _ _ _ _ _ q=>lt_int q
theorem op_le:OpR X (compareOp .LtE) (rI0 fun i j=>.bl (decide (i<=j))):=qf8 fun _ _ _ _ _ _ _ q=>le_int q
theorem qdQ:OpR X (compareOp .Gt) (rI0 fun i j=>.bl (decide (j<i))):=qf8 fun _ _ _ _ _ _ _ q=>gt_int q
theorem op_ge:OpR X (compareOp .GtE) (rI0 fun i j=>.bl (decide (j<=i))):=qf8 fun _ _ _ _ _ _ _ q=>ge_int q
theorem op_isN:OpR X (compareOp .Is) (fun x y H Q=>y=.non/\Q (.bl (decide (x=.non))) H):=by
 intro pins s σ H x y v u Q I a b h;obtain⟨rfl,q⟩:=h;cases b;show is_none_gen (qc9 I q ?_);cases x<;>first
  | (cases a;rfl)
  | (obtain⟨t,rfl⟩:=a;rfl)
theorem qdR:OpR X (compareOp .IsNot) (fun x y H Q=>y=.non/\Q (.bl (!decide (x=.non))) H):=by
 intro pins s σ H x y v u Q I a b h;obtain⟨rfl,q⟩:=h;cases b;show isnot_none_gen (qc9 I q ?_);cases x<;>first
  | (cases a;rfl)
  | (obtain⟨t,rfl⟩:=a;rfl)
theorem qA(b:Expr)(h:op≠.In:=by decide)(e:op≠.NotIn:=by decide):behindInMarks op b=false:=by
 have a:(op==CmpOp.In)=false:=by cases op<;>first | rfl | show absurd rfl h
 have c:(op==CmpOp.NotIn)=false:=by cases op<;>first | rfl | show absurd rfl e
 cases b<;>simp[behindInMarks,a,c]
theorem jy(i:OpR X (compareOp op) r)(f:PE X a ta)(hb:PE X b tb)(g:behindInMarks op b=false):PE X (.Compare a [op] [b] pos) (tOp r ta tb):=by
 intro pins s σ H Q I h;show wpAny_Compare1 (qgh f hb I h fun v u m x y c e j l q=>i pins m σ c x y v u Q e j l q) g
def qfj(t:TE):TT:=fun σ H Q=>t σ H fun x H'=>∃ k,x=.bl k/\Q k H'
theorem qj(p:OpR X (compareOp op) r)(n:PE X a ta)(hb:PE X b tb)(o:behindInMarks op b=false):PT X (.Compare a [op] [b] pos) (qfj (tOp r ta tb)):=by
 intro pins s σ H Q I h
 show wpAny_isTrue_Compare1 (thn (n pins s σ H _ I h) fun v D ⟨x,f,j,A,q⟩=>thn (hb pins D σ f _ j q) fun u E ⟨y,g,l,B,t⟩ =>
  thn (p pins E σ g x y v u _ l A B t) fun c F ⟨z,i,m,C,k,e,w⟩=>?_) o
 subst e;cases C;show xK ⟨i,m,w⟩
def qdS(r r':R2)(ta tb tc:TE):TE:=fun σ H Q=>ta σ H fun x b=>tb σ b fun y c=>r x y c fun z a=>∃ k,z=.bl k /\
 (if k=true then tc σ a fun f e=>r' y f e Q else Q (.bl false) a)
theorem qda(B:OpR X (compareOp op) r)(f:OpR X (compareOp op') r')(w:PE X a ta)(hb:PE X b tb)(hc:PE X c tc)
  (A:lastMarks [op,op'] [b,c]=false:=by with_unfolding_all rfl):PE X (.Compare a [op,op'] [b,c] pos) (qdS r r' ta tb tc):=by
 intro pins s σ H Q I h
 show Compare_chain (thn (w pins s σ H _ I h) fun v K ⟨x,m,p,F,C⟩=>chain_link (thn (hb pins K σ m _ p C) fun u L ⟨y,n,q,l,D⟩ =>
  thn (B pins L σ n x y v u _ q F l D) fun d M ⟨z,g,i,G,k,e,j⟩=>?_)) A
 subst e;cases G;show xK ?_
 cases k with
 | false=>show ite_ff ⟨.bl false,g,i,rfl,j⟩
 | true=>show ite_tt (chain_last (thn (hc pins M σ g _ i j) fun O N ⟨P,o,t,J,E⟩=>f pins N σ o y P u O Q t l J E))
theorem qdb(F:OpR X (compareOp op) r)(f:OpR X (compareOp op') r')(D:PE X a ta)(hb:PE X b tb)(hc:PE X c tc)
  (E:lastMarks [op,op'] [b,c]=false:=by with_unfolding_all rfl):PT X (.Compare a [op,op'] [b,c] pos) (qfj (qdS r r' ta tb tc)):=by
 intro pins s σ H Q I h
 show isTrue_chain (thn (D pins s σ H _ I h) fun v S ⟨x,m,q,N,J⟩=>test_link (thn (hb pins S σ m _ q J) fun u T ⟨y,n,t,l,K⟩ =>
  thn (F pins T σ n x y v u _ t N l K) fun d U ⟨z,g,i,O,k,e,j⟩=>?_)) E
 subst e;cases O;show xK ?_
 cases k with
 | false =>
  obtain⟨k',B,G⟩:=j;cases B;show ite_ff ⟨g,i,G⟩
 | true =>
  show ite_tt (test_last (thn (hc pins U σ g _ i j) fun Y W ⟨Z,o,w,P,L⟩=>thn (f pins W σ o y Z u Y _ w l P L) fun d' s5 ⟨z2,p,A,R,k2,C,M⟩=>?_));subst C;cases R;show xK ⟨p,A,M⟩
theorem qbG:(sizeLine:Nat)<2 ^ 63:=by rw[YD];decide
theorem op_add_str:OpR X (binaryOp .Add) (fun x y H Q=>∃ i j,x=.str i/\y=.str j/\i.length+j.length<=sizeLine/\Q (.str (i++j)) H):=by
 intro pins s σ H x y v u Q I a b h;obtain⟨i,j,rfl,rfl,hz,q⟩:=h;obtain⟨t,rfl⟩:=a;obtain⟨t',rfl⟩:=b;show add_str (fun t' tk=>⟨.str (i++j),H,I.tok _,⟨_,rfl⟩,q⟩) hz
theorem qbk{x:V}(r:Vals [x] us):∃ u,us=[u]/\RelV x u:=by
 cases r with
 | cons r1 r2=>cases r2;show⟨_,rfl,r1⟩
theorem qeF{x:V}(r:Vals [x,y] us):∃ u a,us=[u,a]/\RelV x u/\RelV y a:=by
 cases r with
 | cons r1 r2 =>
  cases r2 with
  | cons r3 r4=>cases r4;show⟨_,_,rfl,r1,r3⟩
theorem qcm(hc:X.calm=true):zT X (.builtin "max") (fun xs H Q=>∃ i j,xs=[.int i,.int j]/\Q (.int (if j>i then j else i)) H):=by
 intro pins s σ H xs us Q I r h;obtain⟨i,j,rfl,q⟩:=h;obtain⟨u,b,rfl,⟨t,rfl⟩,⟨t',rfl⟩⟩:=qeF r;show max_two_ints (I.ok.hd hc) fun h' tk k=>⟨_,H,I.kept k,?_,q⟩;by_cases a:j>i
 .rw [yG a,yG a];show⟨_,rfl⟩
 .rw [yD a,yD a];show⟨_,rfl⟩
theorem call_int1:zT X (.type "int") (fun xs H Q=>(∃ i,xs=[.int i]/\Q (.int i) H)\/∃ k,xs=[.bl k]/\Q (.int (if k then 1 else 0)) H):=by
 intro pins s σ H xs us Q I r h;rcases h with⟨i,rfl,q⟩ | ⟨k,rfl,q⟩
 .obtain⟨u,rfl,t,rfl⟩:=qbk r;show call_int_int ⟨.int i,H,I,⟨_,rfl⟩,q⟩
 .obtain⟨u,rfl,a⟩:=qbk r;cases a;show call_int_bool ⟨.int (if k then 1 else 0),H,I.tok _,⟨_,rfl⟩,q⟩
end
structure ObjM(h:Heap)(x dx C:Addr)(mA:Str->Option Value):Prop where
 obj:h.get? x=some (PySem.W.instObj C dx)
 ns:h.Ns1 dx mA
 ne:dx≠x
theorem qcn(n:h.Ns1 dx mA):∃ od,h.get? dx=some od/\∀ name,PySem.W.lookIn name od=some (mA name):=by
 obtain⟨o,es,ep,j,f,g,_,i⟩:=n;show⟨o,j,fun name=>?_⟩;have e:=i name;unfold nsFind findBy at e;rw[<- Array.find?_toList] at e;unfold PySem.W.lookIn;rw[f];dsimp only;split
 .rename_i y q
  rw[q] at e;show congrArg some e
 .rename_i q
  rw[q] at e
  have a:es.toList.any (·.refKey)=false:=by
   rw[List.any_eq_false];intro y l;obtain⟨z,t,b⟩:=g y (Array.mem_toList_iff.mp l);simp[DictEntry.refKey,b]
  have c:¬ es.toList.any (·.refKey)=true:=by rw[a];show Yo
  rw[yD c];show congrArg some e
theorem ObjM.look{x:Addr}(I:ObjM h x dx C mA):∃ od,PySem.W.InstAt h x (PySem.W.instObj C dx) C (some od)/\∀ name,PySem.W.lookIn name od=some (mA name):=
 let ⟨od,ho,hl⟩:=qcn I.ns
 ⟨od,⟨I.obj,rfl,rfl,ho⟩,hl⟩
section
variable{prog:Program}{w:World}{A:Around}{E:Value->Shared->Prop}{s:Shared}{K:yg}{x dx C f:Addr}{mA:Str->Option Value}{name:Str}{v:Value}
theorem get_map{a:Bool}{Q:Value->Shared->Prop}(X:K.In s.heap)(I:ObjM s.heap x dx C mA)(e:PySem.W.plainGet K C name=true)(f:PySem.W.hasDictIn K C=true)
  (c:PySem.W.findIn K (.ref C) name=some none) (hv:mA name=some v) (b:PySem.W.handedIn v=true) (h:Q v { s with toks:=s.toks+1 }) :
  wpAny (model prog w) A (getAttr (.ref x) name a) Q E s:=by
 obtain⟨od,J,hl⟩:=I.look;show PySem.W.get_value X J (kE e).1 (PySem.W.findObj_own f c rfl (by rw[hl,hv])) b h
theorem get_meth{Q:Value×List Value->Shared->Prop}(X:K.In s.heap)(I:ObjM s.heap x dx C mA)(a:PySem.W.plainGet K C name=true)
  (b:PySem.W.findIn K (.ref C) name=some (some (.ref f))) (c:PySem.W.isFn K (.ref f)=true) (hv:mA name=none) (h:Q (.ref f,[.ref x]) s) :
  wpAny (model prog w) A (getMethod (.ref x) name pl) Q E s:=by
 obtain⟨od,J,hl⟩:=I.look;show PySem.W.method_fn X J (kE a).1 (kE a).2 b (Yn.mp c) (by show(PySem.W.lookIn name od).map (·.isSome)=some false;rw[hl,hv];rfl) h
theorem set_map{ns:List Str}{Q:Unit->Shared->Prop}(X:K.In s.heap)(I:ObjM s.heap x dx C mA)
  (p:PySem.W.findIn K (.ref C) "__setattr__"=some (some (.builtin "object.__setattr__"))) (o:PySem.W.plainOver K C=true) (q:PySem.W.takerIn K C name=some none) (n:PySem.W.hasDictIn K C=true)
  (hw:PySem.Within mA ns) (hsz:ns.length<=sizeLine)
  (h:∀ h',ObjM h' x dx C (fun y=>if y=name then some v else mA y)->Heap.SameBut dx s.heap h'->Q () { s with heap:=h',toks:=s.toks+2 }) :
  wpAny (model prog w) A (setAttr (.ref x) name v) Q E s:=by
 obtain⟨od,J,hl⟩:=I.look;show PySem.W.set_plain X J p (PySem.W.osa_open (s:={ s with toks:=s.toks+1 }) (r:=none) X J o q fun b=>?_);obtain⟨u,hc,g⟩:=xY n;have t:s.heap.get? x=some ⟨.ref C,some dx,.plain,#[]⟩:=I.obj;show yr (yw (yr (yr (wpAny_loadPart t (yr (PySem.W.Looks.here (s:={ s with toks:=s.toks+1 }) (kF X hc) ?_))))));rw[g];show yw (a:=some dx) (yr (yw (yr ?_)));show wpAny_nsSet1 (s:={ s with toks:=s.toks+1 }) I.ns fun h' c e=>?_;obtain⟨z,m,l,j,i,f⟩:=c.count (PySem.Within.cons name v hw);show yr (wpAny_lookBehind j (by rw[i];show pastItsLine_dict (yi f (by rw[yC];omega))) ?_);show yw (h _ ⟨(e.2 _ (Yi I.ne)).trans I.obj,c,I.ne⟩ e)
theorem make_map{R:Result->Shared->Prop}{vs:List Value}(X:K.In s.heap)(b:PySem.W.makesIn K C=true)
  (hi:PySem.W.findIn K (.ref C) "__init__"=some (some (.ref f))) (a:PySem.W.typeIn K (.ref f)=some (.type "function"))
  (h:codeAny (model prog w) (A.under (.builtin "type.__call__" ⟨.ref C::vs,kw⟩)) (.call (.ref f) ⟨.ref (s.heap.objs.size+1)::vs,kw⟩) (PySem.W.InitBack (s.heap.objs.size+1) R)
   { s with heap:=(s.heap.push PySem.W.emptyDict).push (PySem.W.instObj C s.heap.objs.size) }) :
  codeAny (model prog w) A (.call (.ref C) ⟨vs,kw⟩) R s:=by
 obtain⟨c,g,d,t,e⟩:=s;show PySem.W.make_core (PySem.W.makes_of X b) (YR X hi) (fun self=>PySem.W.bind_fn X self a) (.inl rfl) h
end
noncomputable def qH(f:Str)(v:V):List (Str×V)->List (Str×V)
 | []=>[(f,v)]
 | (g,x)::r=>if g=f then(g,v)::r else(g,x)::qH f v r
theorem qD(f g:Str)(v:V):∀ fs:List (Str×V),(qH f v fs).lookup g=if g=f then some v else fs.lookup g
 | []=>by
  show List.lookup g [(f,v)]=_;by_cases h:g=f
  .have hb:(g==f)=true:=Yn.mpr h;simp only[List.lookup,hb,yG h]
  .have hb:(g==f)=false:=Yx.mpr h;simp only[List.lookup,hb,yD h]
 | (k,x)::r=>by
  have b:=qD f g v r;rw[show qH f v ((k,x)::r)=(if k=f then(k,v)::r else(k,x)::qH f v r) from rfl];by_cases a:k=f
  .rw [yG a];by_cases h:g=k
   .have hb:(g==k)=true:=Yn.mpr h;simp only[List.lookup,hb,yG (h.trans a)]
   .have hb:(g==k)=false:=Yx.mpr h;simp only[List.lookup,hb,yD (fun e:g=f=>h (e.trans a.symm))]
  .rw [yD a];by_cases h:g=k
   .have hb:(g==k)=true:=Yn.mpr h;simp only[List.lookup,hb,yD (fun e:g=f=>a (h.symm.trans e))]
   .have hb:(g==k)=false:=Yx.mpr h;simp only[List.lookup,hb];show b
theorem qbl(f:Str)(v:V):∀ fs:List (Str×V),f∈(qH f v fs).map (·.1)/\∀ g,g∈fs.map (·.1)->g∈(qH f v fs).map (·.1)
 | []=>⟨by simp[qH],fun g h=>by simp at h⟩
 | (k,x)::r=>by
  obtain⟨b,c⟩:=qbl f v r;rw[show qH f v ((k,x)::r)=(if k=f then(k,v)::r else(k,x)::qH f v r) from rfl];by_cases a:k=f
  .rw [yG a];subst a;show⟨by simp,fun g h=>by simpa using h⟩
  .rw [yD a];show⟨?_,fun g h=>?_⟩
   .rw [YH];show yx _ b
   .rw [YH] at h ⊢;rcases yv.mp h with e | e
    .show yv.mpr (.inl e)
    .show yx _ (c g e)
theorem jz(f:Str)(v:V):∀ fs:List (Str×V),(qH f v fs).length<=fs.length+1
 | []=>by simp[qH]
 | (k,x)::r=>by
  have b:=jz f v r;rw[show qH f v ((k,x)::r)=(if k=f then(k,v)::r else(k,x)::qH f v r) from rfl];by_cases a:k=f
  .rw [yG a,yC,yC];omega
  .rw [yD a,yC,yC];omega
theorem RelO.some_of{o:Option Value}(r:RelO (some v) o):∃ u,o=some u/\RelV v u:=by
 cases o with
 | none=>show(show False from r).elim
 | some u=>show⟨u,rfl,r⟩
theorem RelO.none_of{o:Option Value}(r:RelO none o):o=none:=by
 cases o with
 | none=>rfl
 | some u=>show(show False from r).elim
theorem qco(r:RelV v u):PySem.W.handedIn u=true:=by
 cases v with
 | non=>cases (show u=Value.none from r);rfl
 | bl b=>cases (show u=Value.bool b from r);rfl
 | int i=>obtain⟨t,e⟩:=(show ∃ t,u=Value.int i t from r);cases e;rfl
 | str x=>obtain⟨t,e⟩:=(show ∃ t,u=Value.str x t from r);cases e;rfl
 | byt b=>obtain⟨t,e⟩:=(show ∃ t,u=Value.bytes b t from r);cases e;rfl
 | flt b=>obtain⟨t,e⟩:=(show ∃ t,u=Value.float b t from r);cases e;rfl
 | ref a=>cases (show u=Value.ref a from r);rfl
 | ty n=>cases (show u=Value.type n from r);rfl
section
variable{P:Program}{w:World}{H H':Hp}{h h':Heap}{a C dx:Addr}{fs fs':List (Str×V)}
theorem qaO(b:HOk P w H h)(e:H a=some (.ins C dx fs)):∃ mA,ObjM h a dx C mA/\(∀ f,RelO (fs.lookup f) (mA f))/\PySem.Within mA (fs.map (·.1))/\fs.length<=1000/\H dx=some (.own a):=by
 obtain⟨d,z,ne,c,mA,n,r,q⟩:=(show ObjOk P w H h a (.ins C dx fs) from b a _ e);show⟨mA,⟨c,n,ne⟩,r,q,z,d⟩
end
structure Cls(K:yg)(C:Addr):Prop where
 pg:PySem.W.plainGet K C Str.empty=true
 hd:PySem.W.hasDictIn K C=true
 po:PySem.W.plainOver K C=true
 sa:PySem.W.findIn K (.ref C) "__setattr__"=some (some (.builtin "object.__setattr__"))
theorem Cls.get{K:yg}(c:Cls K C)(f:Str):PySem.W.plainGet K C f=true:=c.pg
def NoAttr(K:yg)(C:Addr)(f:Str):Prop:=PySem.W.findIn K (.ref C) f=some none
theorem NoAttr.taker{K:yg}{f:Str}(n:NoAttr K C f):PySem.W.takerIn K C f=some none:=by
 unfold PySem.W.takerIn;rw[show PySem.W.findIn K (.ref C) f=some none from n];rfl
structure Con(K:yg)(C:Addr)(f:Str)(v:V)(u:Value):Prop where
 at_:PySem.W.findIn K (.ref C) f=some (some u)
 rel:RelV v u
 get:PySem.W.specialIn K u "__get__"=some none
 cp:PySem.W.copiedNames.contains f=false
structure Meth(K:yg)(C:Addr)(m:Str)(f:Addr):Prop where
 at_:PySem.W.findIn K (.ref C) m=some (some (.ref f))
 fn:PySem.W.isFn K (.ref f)=true
 kp:PySem.W.keepIn K (.ref f)=true
section
variable{X:Cx}{pins:List (Addr×Obj)}{σ:St}{H:Hp}{s:Shared}{a C dx:Addr}{fs:List (Str×V)}{f:Str}{v:V}{A:Around}{E:Value->Shared->Prop}
theorem getattr_ok{b:Bool}{Q:Value->Shared->Prop}(I:Inv X pins σ H s)(e:H a=some (.ins C dx fs))(c:Cls X.K C)(n:NoAttr X.K C f)(l:fs.lookup f=some v)
  (h:∀ u s',Inv X pins σ H s'->RelV v u->Q u s'):wpAny (model X.prog X.w) A (getAttr (.ref a) f b) Q E s:=by
 obtain⟨mA,O,r,_,_,_⟩:=qaO I.hok e;obtain⟨u,i,g⟩:=RelO.some_of (v:=v) (o:=mA f) (by rw[<- l];show r f);show get_map I.kIn O (c.get f) c.hd n i (qco g) (h u _ (I.tok _) g)
theorem qaP{m:Str}{g:Addr}{Q:Value×List Value->Shared->Prop}(I:Inv X pins σ H s)(e:H a=some (.ins C dx fs))(c:Cls X.K C)(k:Meth X.K C m g)(l:fs.lookup m=none)
  (h:Q (.ref g,[.ref a]) s):wpAny (model X.prog X.w) A (getMethod (.ref a) m pl) Q E s:=by
 obtain⟨mA,O,r,_,_,_⟩:=qaO I.hok e;have b:mA m=none:=RelO.none_of (by rw[<- l];show r m);show get_meth I.kIn O (c.get m) k.at_ k.fn b h
theorem setattr_ok{Q:Unit->Shared->Prop}(I:Inv X pins σ H s)(e:H a=some (.ins C dx fs))(c:Cls X.K C)(n:NoAttr X.K C f)(hl:fs.length<1000)(t:RelV y u)
  (h:∀ s',Inv X pins σ (upd H a (.ins C dx (qH f y fs))) s'->Q () s'):wpAny (model X.prog X.w) A (setAttr (.ref a) f u) Q E s:=by
 obtain⟨mA,O,r,l,_,j⟩:=qaO I.hok e;have hz:(fs.map (·.1)).length<=sizeLine:=by rw[ya,YD];omega
 show set_map I.kIn O c.sa c.po n.taker c.hd l hz fun h' i v=>h _ ?_;have m:∃ o,h'.get? dx=some o:=let ⟨o,_,_,e',_⟩:=i.ns;⟨o,e'⟩;show I.write (x:=a) (e:=dx) (by rw[e];show YS) (.inr j) (fun b q hb z=>(v.2 b hb).trans z) m ?_;show⟨by rw[qf O.ne];show j,?_,O.ne,i.obj,_,i.ns,fun g=>?_,fun g p=>?_⟩
 .have:=jz f y fs;omega
 .show RelO ((qH f y fs).lookup g) (if g=f then some u else mA g);rw[qD];by_cases q:g=f
  .rw [yG q,yG q];show t
  .rw [yD q,yD q];show r g
 .by_cases q:g=f
  .rw [q];show(qbl f y fs).1
  .show(qbl f y fs).2 g (l g fun z=>p ?_);show(if g=f then some u else mA g)=none;rw[yD q];show z
theorem Inv.made(I:Inv X pins σ H s):Inv X pins σ (upd (upd H s.heap.objs.size (.own (s.heap.objs.size+1))) (s.heap.objs.size+1) (.ins C s.heap.objs.size []))
  { s with heap:=(s.heap.push PySem.W.emptyDict).push (PySem.W.instObj C s.heap.objs.size) }:=by
 have c:(s.heap.push PySem.W.emptyDict).get? s.heap.objs.size=some PySem.W.emptyDict:=yS s.heap rfl
 have g:((s.heap.push PySem.W.emptyDict).push (PySem.W.instObj C s.heap.objs.size)).get? (s.heap.objs.size+1)=some (PySem.W.instObj C s.heap.objs.size):=by
  have:=yS (s.heap.push PySem.W.emptyDict) (o:=PySem.W.instObj C s.heap.objs.size) rfl
  rwa[YW] at this
 have h:(s.heap.push PySem.W.emptyDict).Ns s.heap.objs.size (fun _=>none):=⟨PySem.W.emptyDict,#[],_,c,rfl,(fun e i=>absurd i (by simp)),fun _=>rfl⟩;have f:=I.laid (a:=s.heap.objs.size) (o:=.own (s.heap.objs.size+1)) (h':=s.heap.push PySem.W.emptyDict) (t':=s.toks) (fun b u q=>yu _ q) (yh _) ⟨_,c⟩;show f.laid (a:=s.heap.objs.size+1) (o:=.ins C s.heap.objs.size []) (t':=s.toks) (fun b u q=>yu _ q) (XW (YW _ _)) ?_;have ne:s.heap.objs.size≠s.heap.objs.size+1:=yE (kf _);show⟨by rw[qf ne,qb],YC _,ne,g,fun _=>none,(Heap.Ns1.of_empty h).at fun o q=>yu _ q,fun _=>YS,fun y j=>absurd rfl j⟩
theorem attr_of{prog:Program}{env:Env}{f:Str}{Q:Value->Shared->Prop}(hb:attributeBase e f env (eval e env)=eval e env)
  (h:wpAny (model prog w) A (eval e env) (fun o a=>wpAny (model prog w) A (getAttr o f true) Q E a) E s):wpAny (model prog w) A (eval (.Attribute e f pos) env) Q E s:=
 Attribute_any_ h (by rw[arm_eval_Attribute,hb])
end
section
variable{X:Cx}{o e value:Expr}{f:Str}{pos pos' tpos:Pos}{ta tv:TE}
end
section
variable{X:Cx}{pins:List (Addr×Obj)}{σ:St}{H:Hp}{s:Shared}{A:Around}{E:Value->Shared->Prop}{Q:Value->Shared->Prop}{c:Value}{b:Bool}
inductive TyOf(K:yg)(H:Hp):V->Value->Prop where
 | non:TyOf K H .non (.type "NoneType")
 | bl (x:Bool):TyOf K H (.bl x) (.type "bool")
 | int (i:Int):TyOf K H (.int i) (.type "int")
 | str (x:Str):TyOf K H (.str x) (.type "str")
 | flt (x:UInt64):TyOf K H (.flt x) (.type "float")
 | lst {a:Addr} {xs:List V} (e:H a=some (.lst xs)):TyOf K H (.ref a) (.type "list")
 | frz {a:Addr} {o:Obj} {xs:List V} (e:H a=some (.frz o (.lst xs))):TyOf K H (.ref a) (.type "list")
 | tup {a:Addr} {xs:List V} (e:H a=some (.tup xs)):TyOf K H (.ref a) (.type "tuple")
 | dK {a:Addr} {kvs:List (Key×V)} (e:H a=some (.dK kvs)):TyOf K H (.ref a) (.type "dict")
 | dT {a:Addr} {kvs:List (List Key×V)} (e:H a=some (.dT kvs)):TyOf K H (.ref a) (.type "dict")
 | ins {a C dx:Addr} {fs:List (Str×V)} (e:H a=some (.ins C dx fs)) (cl:Cls K C) (ha:PySem.W.findIn K (.ref C) "__class__"=some (some (.builtin "object.__class__")))
   (hn:PySem.W.specialIn K (.builtin "object.__class__") "__get__"=some (some (.builtin "getset_descriptor.__get__"))) (htk:PySem.W.takesIn K (.builtin "object.__class__")=some true)
   (hm:PySem.W.mroIn K C (.type "object")=some true):TyOf K H (.ref a) (.ref C)
end
structure Room(k:Nat)(A:Around):Prop where
 hd:A.handled=none
 dp:A.depth+3*k+5<recursionLimit
 un:A.units+16*k+200<cLine
 gd:A.guards=some []
theorem Room.mono{k:Nat}(r:Room k A)(h:j<=k):Room j A:=⟨r.hd,by have:=r.dp;omega,by have:=r.un;omega,r.gd⟩
theorem Room.deeper{k:Nat}(r:Room (k+1) A)(env:Env):Room k (A.deeper env):=
 ⟨r.hd,by have:=r.dp;show A.depth+1+3*k+5<_;omega,by have:=r.un;show A.units+3+16*k+200<_;omega,r.gd⟩
theorem make_depth:(A.under (.builtin "type.__call__" ⟨.ref C::us,kw⟩)).depth=A.depth+1:=by
 first | rfl | simp[Around.under,Code.weight,Code.isCreation,Code.isGuard,Code.isCaller,Code.frames,Code.isFrame,guardIds]
theorem make_units:(A.under (.builtin "type.__call__" ⟨.ref C::us,kw⟩)).units=A.units+1:=by
 first | rfl | simp[Around.under,Code.cUnits,Code.frames,Code.isFrame]
theorem make_guards:(A.under (.builtin "type.__call__" ⟨.ref C::us,kw⟩)).guards=A.guards:=by
 first | rfl | simp[Around.under,Code.guards,Code.isGuard,guardIds,pushGuards]
theorem Room.make{k:Nat}(r:Room (k+1) A)(C:Addr)(us:List Value)(kw:List (Str×Value)):Room k (A.under (.builtin "type.__call__" ⟨.ref C::us,kw⟩)):=
 ⟨r.hd,by have:=r.dp;rw[make_depth];omega,by have:=r.un;rw[make_units];omega,by rw[make_guards];show r.gd⟩
theorem Room.depth{k:Nat}(r:Room k A):A.depth<recursionLimit:=by have:=r.dp;omega
def qf9:TA:=fun _ H Q=>Q [] H
def qfH(ta:TE)(c:TA):TA:=fun σ H Q=>ta σ H fun x a=>c σ a fun xs b=>Q (x::xs) b
section
variable{X:Cx}{e:Expr}{es:List Expr}{te:TE}{t:TA}{pos:Pos}
theorem qd:PA X [] qf9:=fun _ _ _ _ H Q I h=>kP ⟨[],H,I,.nil,h⟩
theorem qa(g:PE X e te)(i:PA X es t)(j:starEach (e::es) X.env=(false,eval e X.env)::starEach es X.env:=by rfl):PA X (e::es) (qfH te t):=by
 intro pos pins s σ H Q I h;rw[j];show wpAny _ _ (spliced ((false,eval e X.env)::backTo pos (starEach es X.env))) _ _ s;show kL (thn (g pins s σ H _ I h) fun u p ⟨x,a,c,n,l⟩=>?_);show thn (i pos pins p σ a _ c l) fun us q ⟨xs,b,f,o,m⟩=>⟨x::xs,b,f,.cons n o,m⟩
def qgz(t:TA):TE:=fun σ H Q=>t σ H fun xs a=>xs.length<=sizeLine/\∀ p,a p=none->Q (.ref p) (upd a p (.tup xs))
def qgA(t:TA):TE:=fun σ H Q=>t σ H fun xs a=>xs.length<=sizeLine/\∀ p,a p=none->Q (.ref p) (upd a p (.lst xs))
theorem jK{x1}(h:PA X es t):PE X (.Tuple es x1 pos) (qgz t):=by
 intro pins s σ H Q I i;show wpAny_Tuple_spliced (thn (h pos pins s σ H _ I i) fun us a ⟨xs,c,f,r,z,q⟩=>⟨by rw[<- r.length];show z,?_⟩);have g:c a.heap.objs.size=none:=f.hok.fresh (yh _);show⟨.ref a.heap.objs.size,upd c a.heap.objs.size (.tup xs),f.laid (t':=a.toks) (fun b u e=>yu _ e) (yh _) ?_,rfl,q _ g⟩;show⟨z,us,r,⟨_,yS _ rfl,rfl,_,rfl⟩⟩
theorem qG(h:PA X es t):PE X (.List es pos) (qgA t):=by
 intro pins s σ H Q I i;show wpAny_List_spliced (thn (h pos pins s σ H _ I i) fun us a ⟨xs,c,f,r,z,q⟩=>⟨by rw[<- r.length];show z,?_⟩);have g:c a.heap.objs.size=none:=f.hok.fresh (yh _);show⟨.ref a.heap.objs.size,upd c a.heap.objs.size (.lst xs),f.laid (t':=a.toks) (fun b u e=>yu _ e) (yh _) ?_,rfl,q _ g⟩;show⟨z,us,0,r,yS _ rfl⟩
end
abbrev Sp:=List V->Hp->VK->XK->Prop
abbrev CXT:=List Env->Hp->Shared->XK->Value->Shared->Prop
structure Env0(P:Program)(w:World)(K:yg)(mg:Str->Option Value)(base:Heap)(A:Around)(outer:List Env)(s:Shared)(H:Hp):Prop where
 frames:A.frames=some outer
 mod:Mod K mg base
 bs:∀ b o,base.get? b=some o->s.heap.get? b=some o/\H b=none
 bsz:base.objs.size<=s.heap.objs.size
 funs:s.heap.FunFrames base outer
 frf:∀ b∈frs outer,H b=none
 hok:HOk P w H s.heap
 bare:AllBare s.gens
def CE(outer:List Env)(P:Program)(w:World)(H:Hp)(s:Shared)(Q:VK)(u:Value)(s':Shared):Prop:=
 ∃ v H',s'.os=s.os/\AllBare s'.gens/\Un (frs outer) [] H H' s.heap s'.heap/\HOk P w H' s'.heap/\RelV v u/\Q v H'
def CR(CX:CXT)(outer:List Env)(P:Program)(w:World)(H:Hp)(s:Shared)(Q:VK)(E:XK)(r:Result)(s':Shared):Prop:=
 match r with
 | .ok (.ret u)=>CE outer P w H s Q u s'
 | .ok _=>False
 | .error e=>CX outer H s E e s'
structure FnOk(P:Program)(w:World)(K:yg)(mg:Str->Option Value)(base:Heap)(CX:CXT)(k:Nat)(f:Addr)(fd:FuncData)(ps:List Str)(sp:Sp):Prop where
 len:∀ vs H Q E,sp vs H Q E->vs.length=ps.length
 run:∀(A:Around) (outer:List Env) (s:Shared) (H:Hp) (args:Args) (us:List Value) (vs:List V) (Q:VK) (E:XK),Room k A->Env0 P w K mg base A outer s H->BindsTo s fd args (ps.zip us)->Vals vs us->sp vs H Q E ->
  codeAny (model P w) A (.call (.ref f) args) (CR CX outer P w H s Q E) s
theorem Env0.make{K:yg}(e:Env0 P w K mg base A outer s H)(C:Addr)(us:List Value)(kw:List (Str×Value)) :
  Env0 P w K mg base (A.under (.builtin "type.__call__" ⟨.ref C::us,kw⟩)) outer s H:=⟨by first | show e.frames | (simpa [Around.under,Code.envs,Code.isFrame,pushEnvs] using e.frames),e.mod,e.bs,e.bsz,e.funs,e.frf,e.hok,e.bare⟩
section
variable{X:Cx}{pins:List (Addr×Obj)}{σ:St}{H:Hp}{s s':Shared}
theorem Inv.env0(I:Inv X pins σ H s):Env0 X.prog X.w X.K X.mg X.base X.A X.stack s H:=
 ⟨I.ok.frames,I.ok.mod,I.bs,yi I.ok.bsz I.sz,I.stack,I.stkFree,I.hok,I.bare⟩
theorem Inv.after{Q:VK}(I:Inv X pins σ H s)(h:CE X.stack X.prog X.w H s Q u s'):EP X pins σ Q u s':=by
 obtain⟨v,H',i,a,un,c,r,q⟩:=h;obtain⟨f,g,d,t,e⟩:=s';obtain rfl:e=s.os:=i;show⟨v,H',I.call (h':=f) (g':=g) (d':=d) (t':=t) (ch:=[]) un c a (fun b z=>absurd z (by simp)),r,q⟩
end
def qdT(sp:Sp)(a:List V)(E:XK)(t:TA):TE:=fun σ H Q=>t σ H fun vs b=>sp (vs++a) b Q E
def qdU(C:Addr)(m:Str)(sp:Sp)(b:List V)(E:XK)(ta:TE)(t:TA):TE:=fun σ H Q=>ta σ H fun x c=>∃ a dx fs,x=.ref a/\c a=some (.ins C dx fs)/\fs.lookup m=none /\
 t σ c fun vs e=>sp (x::(vs++b)) e Q E
def qfk(C:Addr)(sp:Sp)(b:List V)(E:XK)(t:TA):TE:=fun σ H Q=>t σ H fun vs a=>∀ x dx,a x=none->a dx=none->dx≠x ->
 sp (.ref x::(vs++b)) (upd (upd a dx (.own x)) x (.ins C dx [])) (fun v c=>v=.non/\Q (.ref x) c) E
def Binds(K:yg)(b:FuncData)(ps:List Str)(a:List Value):Prop:=
 ∀(s:Shared) (us:List Value),K.In s.heap->(us++a).length=ps.length->BindsTo s b ⟨us,[]⟩ (ps.zip (us++a))
theorem Binds.all{K:yg}{a:FuncData}(h:∀ us:List Value,us.length=ps.length->bindArgs a ⟨us,[]⟩=pure (ps.zip us)):Binds K a ps []:=fun s us _ hl=>by
 rw[Yj] at hl ⊢;show .of_eq (h us hl)
def zU(CX:CXT)(X:Cx)(E:XK):Prop:=∀(pins:List (Addr×Obj)) (σ:St) (H:Hp) (s:Shared) (e:Value) (s':Shared),Inv X pins σ H s->CX X.stack H s E e s'->X.xe e s'
section
variable{X:Cx}{CX:CXT}{k:Nat}{f C:Addr}{fd:FuncData}{ps:List Str}{sp:Sp}{dvs:List V}{ds:List Value}{E:XK}{x m:Str}{p pos apos:Pos}{e o:Expr}{es:List Expr}{ta:TE}{t:TA}
theorem qdc{Q:VK}(F:FnOk X.prog X.w X.K X.mg X.base CX k f fd ps sp)(g:Room k X.A)(hb:Binds X.K fd ps ds)(c:Vals dvs ds)(i:zU CX X E)
  (I:Inv X pins σ H s) (r:Vals vs us) (h:sp (vs++dvs) H Q E):wpAny (model X.prog X.w) X.A (call (.ref f) us) (EP X pins σ Q) X.xe s:=by
 have b:Vals (vs++dvs) (us++ds):=r.append c;have hl:(us++ds).length=ps.length:=by rw[<- b.length];show F.len _ _ _ _ h
 show Xe (Xx (F.run X.A X.stack s H ⟨us,[]⟩ (us++ds) (vs++dvs) Q E g I.env0 (hb s us I.kIn hl) b h) fun r s' a=>?_)
 cases r with
 | error e=>show i pins σ H s e s' I a
 | ok fl =>
  cases fl with
  | ret u=>show I.after a
  | next=>show False.elim a
  | brk=>show False.elim a
  | cont=>show False.elim a
theorem pe_call(F:FnOk X.prog X.w X.K X.mg X.base CX k f fd ps sp)(o:Room k X.A)(l:Gl X x)(n:X.mg x=some (.ref f))(m:PySem.W.keepIn X.K (.ref f)=true)(hb:Binds X.K fd ps ds)(i:Vals dvs ds)(u:zU CX X E)
  (g:PA X (e::es) t) (a:(x==("__debug__":Str))=false:=by decide) (j:starEach (e::es) X.env=(false,eval e X.env)::starEach es X.env:=by rfl) (b:(backTo pos (starEach es X.env)).any (·.1)=false:=by rfl) :
  PE X (.Call (.Name x p) (e::es) [] pos) (qdT sp dvs E t):=by
 intro pins s σ H Q I h;show xA (zS I l n ?_ a);show Y8 (h₀:=X.base) I.ok.mod.kin m (thn (g pos pins s σ H _ I h) fun us y ⟨vs,v,c,r,q⟩=>⟨c.kIn,?_⟩) j b;show qdc F o hb i u c r q
theorem pe_meth(B:PE X o ta)(c:Cls X.K C)(n:Meth X.K C m f)(F:FnOk X.prog X.w X.K X.mg X.base CX k f fd ps sp)(D:Room k X.A)(hb:Binds X.K fd ps ds)(z:Vals dvs ds)(J:zU CX X E)(y:PA X (e::es) t)
  (g:starEach (e::es) X.env=(false,eval e X.env)::starEach es X.env:=by rfl) (b:(backTo pos (starEach es X.env)).any (·.1)=false:=by rfl)
  (G:eval (.Call (.Attribute o m apos) (e::es) [] pos) X.env=(do
   let ov <- eval o X.env
   standAt apos.atName
   let (f,first) <- holding [ov] (getMethod ov m pl)
   callWith pos f first (backTo pos (starEach (e::es) X.env)) (backToKw pos (keywordEach [] X.env))):=by rfl) :
  PE X (.Call (.Attribute o m apos) (e::es) [] pos) (qdU C m sp dvs E ta t):=by
 intro pins s σ H Q I h;show xC (pl:=pl) (thn (B pins s σ H _ I h) fun u N ⟨x,p,i,M,a,dx,fs,ex,v,l,q⟩=>?_) G;subst ex;obtain rfl:u=Value.ref a:=M;show qaP i v c n l ?_;show Y8 (first:=[.ref a]) (h₀:=X.base) I.ok.mod.kin n.kp (thn (y pos pins N σ p _ i q) fun us P ⟨vs,O,j,r,L⟩=>⟨j.kIn,?_⟩) g b;show qdc (us:=.ref a::us) (vs:=.ref a::vs) F D hb z J j (.cons rfl r) L
theorem pe_meth0(j:PE X o ta)(c:Cls X.K C)(e:Meth X.K C m f)(F:FnOk X.prog X.w X.K X.mg X.base CX k f fd ps sp)(n:Room k X.A)(hb:Binds X.K fd ps ds)(i:Vals dvs ds)(r:zU CX X E)
  (p:eval (.Call (.Attribute o m apos) [] [] pos) X.env=(do
   let ov <- eval o X.env
   standAt apos.atName
   let (f,first) <- holding [ov] (getMethod ov m pl)
   callWith pos f first (backTo pos (starEach [] X.env)) (backToKw pos (keywordEach [] X.env))):=by rfl) :
  PE X (.Call (.Attribute o m apos) [] [] pos) (qdU C m sp dvs E ta qf9):=by
 intro pins s σ H Q I h;show xC (pl:=pl) (thn (j pins s σ H _ I h) fun u y ⟨x,v,b,t,a,dx,fs,ex,g,l,q⟩=>?_) p;subst ex;obtain rfl:u=Value.ref a:=t;show qaP b g c e l ?_;show PySem.W.callWith_K0 (first:=[.ref a]) b.kIn e.kp (qdc (us:=[.ref a]) (vs:=[.ref a]) F n hb i r b (.cons rfl .nil) q)
structure Mk(K:yg)(C f:Addr):Prop where
 makes:PySem.W.makesIn K C=true
 init:PySem.W.findIn K (.ref C) "__init__"=some (some (.ref f))
 fn:PySem.W.isFn K (.ref f)=true
 kp:PySem.W.keepIn K (.ref C)=true
theorem run_make{Q:VK}(M:Mk X.K C f)(F:FnOk X.prog X.w X.K X.mg X.base CX k f fd ps sp)(n:Room (k+1) X.A)(hb:Binds X.K fd ps ds)(m:Vals dvs ds)
  (o:zU CX X E) (I:Inv X pins σ H s) (r:Vals vs us)
  (h:∀ x dx,H x=none->H dx=none->dx≠x->sp (.ref x::(vs++dvs)) (upd (upd H dx (.own x)) x (.ins C dx [])) (fun v i=>v=.non/\Q (.ref x) i) E) :
  wpAny (model X.prog X.w) X.A (call (.ref C) us) (EP X pins σ Q) X.xe s:=by
 have c:=h (s.heap.objs.size+1) s.heap.objs.size (I.hok.fresh (xL _)) (I.hok.fresh (yh _)) (yE (kf _));have b:=Inv.made (C:=C) I;have g:Vals (V.ref (s.heap.objs.size+1)::(vs++dvs)) (Value.ref (s.heap.objs.size+1)::(us++ds)):=.cons rfl (r.append m)
 have hl:(Value.ref (s.heap.objs.size+1)::us++ds).length=ps.length:=by
  have e:=g.length;rw[F.len _ _ _ _ c] at e;show e.symm
 show Xe (make_map (f:=f) I.kIn M.makes M.init (Yn.mp M.fn) (Xx (F.run _ X.stack _ _ ⟨Value.ref (s.heap.objs.size+1)::us,[]⟩ (Value.ref (s.heap.objs.size+1)::(us++ds)) _ _ E (n.make C us [])
  (b.env0.make C us []) (hb _ (Value.ref (s.heap.objs.size+1)::us) b.kIn hl) g c) fun r s' a=>?_))
 cases r with
 | error e=>show o pins σ _ _ e s' b a
 | ok fl =>
  cases fl with
  | ret u =>
   obtain⟨v,H',j,q,l,p⟩:=b.after a;subst l;show⟨q,⟨V.ref (s.heap.objs.size+1),H',j,rfl,p⟩⟩
  | next=>show False.elim a
  | brk=>show False.elim a
  | cont=>show False.elim a
theorem pe_make(M:Mk X.K C f)(F:FnOk X.prog X.w X.K X.mg X.base CX k f fd ps sp)(n:Room (k+1) X.A)(l:Gl X x)(m:X.mg x=some (.ref C))(hb:Binds X.K fd ps ds)(i:Vals dvs ds)(o:zU CX X E)
  (g:PA X (e::es) t) (a:(x==("__debug__":Str))=false:=by decide) (j:starEach (e::es) X.env=(false,eval e X.env)::starEach es X.env:=by rfl) (b:(backTo pos (starEach es X.env)).any (·.1)=false:=by rfl) :
  PE X (.Call (.Name x p) (e::es) [] pos) (qfk C sp dvs E t):=by
 intro pins s σ H Q I h;show xA (zS I l m ?_ a);show Y8 (h₀:=X.base) I.ok.mod.kin M.kp (thn (g pos pins s σ H _ I h) fun us v ⟨vs,u,c,r,q⟩=>⟨c.kIn,?_⟩) j b;show run_make M F n hb i o c r q
end
section
variable{X:Cx}{CX:CXT}{k:Nat}{f C:Addr}{fd:FuncData}{ps ks:List Str}{sp:Sp}{E:XK}{x m:Str}{p pos apos kpos:Pos}{e o:Expr}{es:List Expr}{kws:List Keyword}{te ta:TE}{t tk:TA}{nm:Option Str}
structure KBinds(K:yg)(fd:FuncData)(ps ks:List Str)(g:List Value->List Value->List Value)(gV:List V->List V->List V):Prop where
 to:∀(s:Shared) (us ws:List Value),K.In s.heap->(g us ws).length=ps.length->BindsTo s fd ⟨us,ks.zip ws⟩ (ps.zip (g us ws))
 rel:∀{vs:List V} {us:List Value} {zs:List V} {ws:List Value},Vals vs us->Vals zs ws->Vals (gV vs zs) (g us ws)
variable{g:List Value->List Value->List Value}{gV:List V->List V->List V}
end
structure FnScope(N P:List Str)(sc:Scope):Prop where
 kind:sc.kind=.function
 co:sc.isCoroutine=false
 gen:sc.isGenerator=false
 nd:N.Nodup
 pre:N.take P.length=P
 par:∀ x∈P,sc.names.lookup x=some .local\/sc.names.lookup x=some .cell
 nofree:∀ y∈sc.names,y.2≠.free
theorem fS{P:List Str}(a:sc.kind=.function:=by rfl)(b:sc.isCoroutine=false:=by rfl)(c:sc.isGenerator=false:=by rfl)(d:N.Nodup:=by decide +kernel)(e:N.take P.length=P:=by rfl)(f:∀ x∈P,sc.names.lookup x=some .local\/sc.names.lookup x=some .cell:=by decide +kernel)(g:∀ y∈sc.names,y.2≠.free:=by decide +kernel):FnScope N P sc:=⟨a,b,c,d,e,f,g⟩
theorem qcp:∀{binds:List (Str×Value)} {m:Str->Option Value},(∀ v,(x,v)∉binds)->bindL kindOf binds m x=m x
 | [],_,_=>rfl
 | (n,v)::r,m,h=>by
  unfold bindL;rw[qcp fun w hw=>h w (yx _ hw)];split
  .have:x≠n:=by rintro rfl;show h v yI
   simp[this]
  .rfl
theorem qcq:∀{binds:List (Str×Value)} {m:Str->Option Value},(∀ v,(x,v)∉binds)->bindC kindOf binds m x=m x
 | [],_,_=>rfl
 | (n,v)::r,m,h=>by
  unfold bindC;rw[qcq fun w hw=>h w (yx _ hw)];split
  .rfl
  .have:x≠n:=by rintro rfl;show h v yI
   simp[this]
theorem qcr{v:Value}:∀{P:List Str} {vs:List Value} {i:Nat} {m:Str->Option Value},P.Nodup->P[i]?=some x->vs[i]?=some v->kindOf x=some .local ->
  bindL kindOf (P.zip vs) m x=some v
 | [],_,_,_,_,h,_,_=>by simp at h
 | _::_,[],_,_,_,_,h,_=>by simp at h
 | p::P,w::vs,0,m,nd,h1,h2,hk=>by
  simp at h1 h2;subst h1;subst h2;show bindL kindOf ((p,w)::P.zip vs) m p=_;unfold bindL;rw[qcp fun v hv=>(yo.mp nd).1 (Kn hv).1,yG hk];simp
 | p::P,w::vs,i+1,m,nd,h1,h2,hk=>by
  show bindL kindOf ((p,w)::P.zip vs) m x=_;unfold bindL;show qcr (i:=i) (yo.mp nd).2 (by simpa using h1) (by simpa using h2) hk
theorem qcs{v:Value}:∀{P:List Str} {vs:List Value} {i:Nat} {m:Str->Option Value},P.Nodup->P[i]?=some x->vs[i]?=some v->kindOf x≠some .local ->
  bindC kindOf (P.zip vs) m x=some v
 | [],_,_,_,_,h,_,_=>by simp at h
 | _::_,[],_,_,_,_,h,_=>by simp at h
 | p::P,w::vs,0,m,nd,h1,h2,hk=>by
  simp at h1 h2;subst h1;subst h2;show bindC kindOf ((p,w)::P.zip vs) m p=_;unfold bindC;rw[qcq fun v hv=>(yo.mp nd).1 (Kn hv).1,yD hk];simp
 | p::P,w::vs,i+1,m,nd,h1,h2,hk=>by
  show bindC kindOf ((p,w)::P.zip vs) m x=_;unfold bindC;show qcs (i:=i) (yo.mp nd).2 (by simpa using h1) (by simpa using h2) hk
noncomputable def start(N:List Str)(vs:List V):St:=vs.map some++List.replicate (N.length-vs.length) none
noncomputable def qeO(CX:CXT)(P:Program)(w:World)(K:yg)(mg:Str->Option Value)(base:Heap)(N:List Str)(qual:Str)(scope:Scope)(f:Addr)(b:Value)(A:Around)(outer:List Env)(s:Shared)(H:Hp)(E:XK):Cx where
 prog:=P
 w:=w
 K:=K
 mg:=mg
 base:=base
 A:=A.deeper (envOfC qual scope s.heap.objs.size f b)
 N:=N
 s₀:=s
 H₀:=H
 env:=envOfC qual scope s.heap.objs.size f b
 outer:=outer
 stack:=envOfC qual scope s.heap.objs.size f b::outer
 ex:=[]
 calm:=true
 fn:=fun _=>true
 pn:=[]
 xe:=fun e s'=>wpAny (model P w) (A.deeper (envOfC qual scope s.heap.objs.size f b)) (leaving (envOfC qual scope s.heap.objs.size f b) e) (fun _ a=>CX outer H s E e a) (fun c a=>CX outer H s E c a) s'
theorem qdd(h:sc.names.lookup x=some .cell):∃ c,(cellsFrom n sc.names []).lookup x=some c:=by
 have q:=PySem.W.cellsFrom_some sc.names n [] (.inl h);show YX.mp q
theorem inv_start{K:yg}{f:Addr}{t:Value}{D:Shared}{E:XK}
  (S:FnScope N ps scope) (G:A.handled=none) (j:Env0 P w K mg base A outer s H) (hl:vs.length=ps.length) (r:Vals vs us)
  (x:InCallC s s.heap.objs.size (bindL (envOfC qual scope s.heap.objs.size f t).kindOf (ps.zip us) fun _=>none) (cellsFrom (s.heap.objs.size+1) scope.names []) (bindC (envOfC qual scope s.heap.objs.size f t).kindOf (ps.zip us) fun _=>none) D) :
  Inv (qeO CX P w K mg base N qual scope f t A outer s H E) [] (start N vs) H D:=by
 have I:ps.length<=N.length:=by have:=congrArg List.length S.pre;rw[yX] at this;omega
 obtain⟨h1,tk,rfl,B⟩:=x.done;have l:∀ b:Addr,b∉(qeO CX P w K mg base N qual scope f t A outer s H E).ex:=fun b z=>absurd (show b∈([]:List Addr) from z) (by simp);show⟨⟨j.mod,S.kind,rfl,rfl,yh _,fun y z c h1 g=>?_,fun y hy=>?_,fun y c _ h=>?_,fun _=>G,Around.frames_deeper j.frames,.inr ⟨rfl,rfl⟩,fun b z=>absurd z (l b),j.bs,j.bsz,fun b _ _=>l b,fun b z=>absurd z (l b),j.funs,j.frf⟩,
  rfl,j.bare,Un.kept B,⟨_,x.toInCall.ns,fun i y v h1 g L=>?_⟩,fun y c h=>⟨_,x.cell y c h⟩,j.hok.fresh (yh _),fun y c h=>?_,fun p m=>absurd (show p∈([]:List (Addr×Obj)) from m) (by simp),j.hok.kept B,?_⟩
 .show name_of_addr x.apart (xU h1) (xU g)
 .have hy:scope.names.lookup y=some .cell\/scope.names.lookup y=some .free:=hy;rcases hy with hy | hy
  .show qdd hy
  .show absurd rfl (S.nofree _ (xU hy))
 .show Yh (x.above y c (xU h))
 .have hi:i<vs.length:=by
   unfold start at g;by_cases hi:i<vs.length
   .show hi
   .rw [yJ (by simpa using hi)] at g;rw[xZ] at g;split at g<;>cases g
  have F:vs[i]?=some v:=by
   unfold start at g;rw[yV (by simpa using hi),yd] at g
   cases e:vs[i]? with
   | none=>rw[e] at g;cases g
   | some a=>rw[e] at g;cases g;rfl
  obtain⟨u,C,J⟩:=r.get F
  have m:ps[i]?=some y:=by
   rw[<- S.pre,List.getElem?_take_of_lt (by omega)];show h1
  have o:ps.Nodup:=by rw[<- S.pre];show S.nd.sublist (XY _ _)
  show⟨u,J,?_⟩;rcases S.par y (ye m) with k | k
  .show .inl ⟨k,qcr o m C k⟩
  .obtain⟨c,e⟩:=qdd (n:=s.heap.objs.size+1) k;show .inr ⟨.inl k,c,e,?_⟩;have q:=x.cell y c e;rw[qcs o m C (by show scope.names.lookup y≠_;rw[k];decide)] at q;show q
 .show j.hok.fresh (Yh (x.above y c (xU h)))
 .unfold start;show _=N.length;rw[yt,ya,YN];omega
theorem qfI{K:yg}{k:Nat}{f:Addr}{name:Str}{c:Arguments}{R kV l T a ct oc:Value}{O od:Option Addr}
  {G:Array (Option Value)} {sp:Sp} (lk:K.lookup f=some ⟨oc,od,.func (PySem.W.fnOf name qual c body scope R kV l T O a ct),G⟩) (C:PySem.W.codeIn K a qual=true) (S:FnScope N ps scope)
  (B:∀ vs H Q E,sp vs H Q E->vs.length=ps.length)
  (h:∀(A:Around) (outer:List Env) (s:Shared) (H:Hp) (vs:List V) (Q:VK) (E:XK),Room k (A.deeper (envOfC qual scope s.heap.objs.size f a))->sp vs H Q E ->
   ∃ t,PSs (qeO CX P w K mg base N qual scope f a A outer s H E) body t/\t { nx:=fun _ H'=>Q .non H',rt:=Q } (start N vs) H) :
  FnOk P w K mg base CX (k+1) f (PySem.W.fnOf name qual c body scope R kV l T O a ct) ps sp:=by
 show⟨B,fun A outer s H args us vs Q E D m hb r z=>?_⟩;have hl:=B _ _ _ _ z;have M:K.In s.heap:=m.mod.kin.keeps fun b o e=>(m.bs b o e).1;have F:s.heap.NoLimit:=m.mod.nolimit.keeps fun b o e=>(m.bs b o e).1
 have i:∀ y∈ps.zip us,scope.names.lookup y.1=some .local\/(scope.names.lookup y.1=some .cell/\((cellsFrom (s.heap.objs.size+1) scope.names []).lookup y.1).isSome=true):=fun⟨n,v⟩ hy=>by
  rcases S.par n (Kn hy).1 with q | q
  .show .inl q
  .show .inr ⟨q,PySem.W.cellsFrom_some _ _ _ (.inl q)⟩
 show codeAny_call_function D.depth (M _ _ lk) rfl S.co S.gen rfl (PySem.W.codeRec_of M C) (hb _ _ _ _ ?_);show wpAny_newFunctionEnv_cells S.kind i fun env Y U x=>?_;subst Y;show⟨F.keeps x.toInCall.keep,codeAny_func ?_⟩;obtain⟨t,ht,Z⟩:=h A outer s H vs Q E (D.deeper _) z;have I:Inv (qeO CX P w K mg base N qual scope f a A outer s H E) [] (start N vs) H U:=inv_start S D.hd m hl r x;show YB (ht [] U (start N vs) H _ I Z) (fun X s' j=>?_) fun e s' j=>j
 have p:∀{g:St} {H':Hp} {v:V} {u:Value},Inv (qeO CX P w K mg base N qual scope f a A outer s H E) [] g H' s'->RelV v u->Q v H'->CE outer P w H s Q u s':=
  fun{g H' v u} J L q=>⟨v,H',J.os,J.bare,J.base,J.hok,L,q⟩
 cases X with
 | ret u =>
  obtain⟨v,g,H',J,L,q⟩:=j;show p J L q
 | next =>
  obtain⟨g,H',J,q⟩:=j;show p (v:=V.non) (u:=Value.none) J rfl q
 | brk =>
  obtain⟨_,_,_,q⟩:=j;show False.elim q
 | cont =>
  obtain⟨_,_,_,q⟩:=j;show False.elim q
section
variable{X:Cx}{x:Str}{p pos:Pos}{e:Expr}{es:List Expr}{t:TA}{id T:String}{r:List V->Hp->VK->Prop}
def tCB(r:List V->Hp->VK->Prop)(t:TA):TE:=fun σ H Q=>t σ H fun vs a=>r vs a Q
theorem qv(hc:zT X (.builtin id) r)(j:Gl X x)(l:X.mg x=none)(hv:bootBuiltins x=some (.builtin id))(g:PA X (e::es) t)(m:x≠"__name__":=by decide)(a:(x==("__debug__":Str))=false:=by decide)
  (i:starEach (e::es) X.env=(false,eval e X.env)::starEach es X.env:=by rfl) (b:(backTo pos (starEach es X.env)).any (·.1)=false:=by rfl):PE X (.Call (.Name x p) (e::es) [] pos) (tCB r t):=by
 intro pins s σ H Q I h;show xA (qau I j l hv ?_ m a);show PyProof.Rows.callWith_builtin1 (thn (g pos pins s σ H _ I h) fun us q ⟨vs,c,f,o,n⟩=>hc pins q σ c vs us Q f o n) i b
theorem zw(hc:zT X (.type T) r)(j:Gl X x)(l:X.mg x=none)(hv:bootBuiltins x=some (.type T))(g:PA X (e::es) t)(m:x≠"__name__":=by decide)(a:(x==("__debug__":Str))=false:=by decide)
  (i:starEach (e::es) X.env=(false,eval e X.env)::starEach es X.env:=by rfl) (b:(backTo pos (starEach es X.env)).any (·.1)=false:=by rfl):PE X (.Call (.Name x p) (e::es) [] pos) (tCB r t):=by
 intro pins s σ H Q I h;show xA (qau I j l hv ?_ m a);show YO (thn (g pos pins s σ H _ I h) fun us q ⟨vs,c,f,o,n⟩=>hc pins q σ c vs us Q f o n) i b
end
end L2
namespace HT
open PySem PyProof.Rows
variable{hi lo:Option Int}{sl t:Addr}{vl vu:Value}
section
open PySem.SeqAt
open PySem.AutoSeq1 (wpAny_loadPart')
open PySem.MeetsSeq PySem.MeetsSeq2 PySem.MeetsSeq3
end
section
variable{prog:Program}{w:World}{A:Around}{E:Value->Shared->Prop}{s:Shared}
theorem cat_tup{b:Addr}{vs a:List Value}{Q:Value->Shared->Prop}(u:IsTup s.heap t vs.toArray)(hb:IsTup s.heap b a.toArray)(hv:vs≠[])
  (h1:a=[]->Q (.ref t) s) (r:a≠[]->Q (.ref s.heap.objs.size) { s with heap:=s.heap.push { cls:=.type "tuple",data:=.seq (vs++a).toArray } })
  (hsz:vs.length+a.length<=sizeLine):wpAny (model prog w) A (binaryOp .Add (.ref t) (.ref b)) Q E s:=by
 obtain⟨⟨cls,o,data,sl⟩,j,hc,n,p⟩:=id u;obtain⟨⟨m,f,l,i⟩,c,g,q,h⟩:=id hb;simp only at hc p g h;subst hc p g h;have e:vs.toArray++a.toArray=(vs++a).toArray:=by simp
 by_cases hw:a=[]
 .show concat_meets ⟨_,j,rfl⟩ ⟨_,c,rfl⟩ noFill_tuple_add seq_tuple_add PySem.F.slot_tuple_add PySem.F.entry_tuple_add (PySem.F.args_tuple_add_2 _ _)
   (tuple_addW1 t b vs.toArray a.toArray n q o f sl i (by simpa using hv) (by simp[hw])) ⟨j,c,h1 hw⟩
 .show concat_meets ⟨_,j,rfl⟩ ⟨_,c,rfl⟩ noFill_tuple_add seq_tuple_add PySem.F.slot_tuple_add PySem.F.entry_tuple_add (PySem.F.args_tuple_add_2 _ _)
   (tuple_addW2 t b vs.toArray a.toArray n q o f sl i (by simpa using hv) (by simpa using hw) (by rw[yz,yz];show hsz)) ⟨j,c,?_⟩
  rw[e];show r hw
noncomputable def sIx(n d:Nat):Option Int->Nat
 | none=>d
 | some v=>if v<0 then(v+(n:Int)).toNat else min v.toNat n
theorem sIx_none(n d:Nat):sIx n d none=d:=rfl
theorem sIx_nat(n d k:Nat):sIx n d (some (k:Int))=min k n:=by
 show(if (k:Int)<0 then((k:Int)+(n:Int)).toNat else min (k:Int).toNat n)=min k n;rw[yD (by omega),Yb]
theorem sIx_le(n d:Nat)(a:d<=n)(o:Option Int):sIx n d o<=n:=by
 cases o with
 | none=>show a
 | some v =>
  show(if v<0 then(v+(n:Int)).toNat else min v.toNat n)<=n;by_cases hv:v<0
  .rw [yG hv];omega
  .rw [yD hv];show k9 _ _
theorem qdV(v:Int)(n d:Nat):(if v<0 then max (v+(n:Int)) 0 else min v (n:Int))=((sIx n d (some v):Nat):Int):=by
 show(if v<0 then max (v+(n:Int)) 0 else min v (n:Int))=(((if v<0 then(v+(n:Int)).toNat else min v.toNat n):Nat):Int);by_cases hv:v<0
 .simp only[yG hv];omega
 .simp only[yD hv];omega
theorem adjust_gen(lo hi:Option Int)(n:Nat):Builtin.Slice.sliceAdjust lo hi 1 (n:Int)=(((sIx n 0 lo:Nat):Int),((sIx n n hi:Nat):Int)):=by
 have h1:¬ ((1:Int)<0):=by omega
 unfold Builtin.Slice.sliceAdjust;simp only[h1,Xj];show Xk ?_ ?_
 .cases lo with
  | none=>rfl
  | some v=>show qdV v n 0
 .cases hi with
  | none=>rfl
  | some v=>show qdV v n n
theorem places_gen(i j:Nat):Builtin.Slice.slicePlaces (i:Int) (j:Int) 1=j-i:=by
 unfold Builtin.Slice.slicePlaces;have h1:(1:Int)>0:=by omega
 simp only[h1,XH,Int.ediv_one];split<;>omega
theorem qbH{v:Value}{o:Option Int}{Q:Option Int->Shared->Prop}(p:IsPart v o)(h:Q o s):wpAny (model prog w) A (Builtin.Slice.slicePartIndex v) Q E s:=by
 cases p with
 | none=>show slicePart_none h
 | int i t=>show slicePart_int h
theorem sliceApplied_gen{n:Nat}{Q:Int×Int×Nat->Shared->Prop}(e:s.heap.IsSliceOf sl vl vu .none)(pl:IsPart vl lo)(f:IsPart vu hi)
  (h:Q (((sIx n 0 lo:Nat):Int),1,sIx n n hi-sIx n 0 lo) s):wpAny (model prog w) A (Builtin.Slice.sliceApplied (.ref sl) (pure (n:Int))) Q E s:=by
 obtain⟨g,b,c,a⟩:=id e;unfold Builtin.Slice.sliceApplied Builtin.Slice.sliceFields;show yr (yr (Y6 b a (x:=vl) rfl (yr (Y6 b a (x:=vu) rfl (yr (Y6 b a (x:=.none) rfl (yw ?_)))))));show yr (slicePart_none ?_);show wpAny _ _ (if ((1:Int)==0)=true then _ else _) _ _ s;rw[yD (by decide)];show yr (qbH pl (yr (qbH f (yr (yw ?_)))));show wpAny _ _ (match Builtin.Slice.sliceAdjust lo hi 1 (n:Int) with | (lo,hi)=>pure (lo,(1:Int),Builtin.Slice.slicePlaces lo hi 1)) _ _ s;rw[adjust_gen lo hi n];show wpAny _ _ (pure (((sIx n 0 lo:Nat):Int),(1:Int),Builtin.Slice.slicePlaces ((sIx n 0 lo:Nat):Int) ((sIx n n hi:Nat):Int) 1)) _ _ s;rw[places_gen];show yw h
theorem pick_gen(xs:Array Value)(i k:Nat):((List.range k).filterMap fun(m:Nat)=>xs[((i:Int)+(m:Int)*1).toNat]?).toArray=((xs.toList.drop i).take k).toArray:=by
 have e:(fun(m:Nat)=>xs[((i:Int)+(m:Int)*1).toNat]?)=fun m=>xs[i+m]?:=by
  funext m;have:((i:Int)+(m:Int)*1).toNat=i+m:=by omega
  rw[this]
 rw[e];have:=pick_run xs i k;rw[List.filterMap_map] at this;have a:((fun x=>xs[x]?) ∘ fun x=>i+x)=fun m=>xs[i+m]?:=rfl;rw[a] at this;rw[this]
theorem getItem_tuple_cut{a:Array Value}{Q:Value->Shared->Prop}(c:IsTup s.heap t a)(j:s.heap.IsSliceOf sl vl vu .none)(pl:IsPart vl lo)(o:IsPart vu hi)
  (hw:¬ (sIx a.size 0 lo=0/\sIx a.size a.size hi=a.size))
  (h:Q (.ref s.heap.objs.size) { s with heap:=s.heap.push { cls:=.type "tuple",data:=.seq ((a.toList.drop (sIx a.size 0 lo)).take (sIx a.size a.size hi-sIx a.size 0 lo)).toArray } })
  (hsz:a.size<=sizeLine):wpAny (model prog w) A (getItem (.ref t) (.ref sl)) Q E s:=by
 have b:sizeOk (.seq ((a.toList.drop (sIx a.size 0 lo)).take (sIx a.size a.size hi-sIx a.size 0 lo)).toArray):=by
  show((a.toList.drop (sIx a.size 0 lo)).take (sIx a.size a.size hi-sIx a.size 0 lo)).toArray.size<=sizeLine;rw[yz,yX,Ka,xT];omega
 have p:sIx a.size a.size hi<=a.size:=sIx_le _ _ (yh _) hi;obtain⟨n,i,f,l⟩:=id j;have e:s.TypeIs (.ref sl) "slice":=⟨n,i,f⟩;unfold getItem
 try with_reducible show Ys ?_
 first | show yr (yw ?_) | skip
 show yr (wpAny_sequenceKey c.typeIs (by decide) ?_);show yr (XT (name:=Str.ofString "__getitem__") c.typeIs xS
  (Xy xS c.typeIs entry_tuple_getitem ?_ (args_tuple_getitem _ _)))
 show wpAny _ _ (Builtin.Tuple.tupleItemsOf (.ref t)>>=_) _ _ s;show yr (tupleItemsOf_ c ?_);show yr (wpAny_typeOf e ?_);rw[yG (by decide)];show yr (sliceApplied_gen j pl o ?_)
 have g:¬ ((((sIx a.size 0 lo:Nat):Int)==0&&(1:Int)==1&&(sIx a.size a.size hi-sIx a.size 0 lo)==a.size)=true):=by
  intro q;rw[yY,yY] at q;have r:((sIx a.size 0 lo:Nat):Int)=0:=eq_of_beq q.1.1;have u:sIx a.size a.size hi-sIx a.size 0 lo=a.size:=eq_of_beq q.2;show hw ⟨by omega,by omega⟩
 show wpAny _ _ (if (((sIx a.size 0 lo:Nat):Int)==0&&(1:Int)==1&&(sIx a.size a.size hi-sIx a.size 0 lo)==a.size)=true then _ else _) _ _ s;rw[yD g,pick_gen]
 first
  | show yr (m:=Builtin.Tuple.tupleExact _) (xM (yw ⟨_,rfl,yw h⟩) b)
  | show yr (m:=Builtin.Tuple.tupleExact _) (xM (yr (yw (yw ⟨_,rfl,yw h⟩))) b)
  | show yr (yr (m:=Builtin.Tuple.tupleExact _) (xM (yw (yw ⟨_,rfl,yw h⟩)) b))
  | show yr (yr (m:=Builtin.Tuple.tupleExact _) (xM (yw ⟨_,rfl,yw h⟩) b))
end
end HT
namespace L2
open PySem PySem.Spec PyProof.Rows
variable{A:Around}{H H':Hp}{P:Program}{X:Cx}{a p:Addr}{h':Heap}{i:Int}{its its' us:List Value}{j n t':Nat}{kvs:List (List Key×V)}{o:Option V}{pins:List (Addr×Obj)}{r:R2}{s:Shared}{u v:Value}{w:World}{x y:V}{xs:List V}{α:Type}{σ:St}
abbrev TO:=St->Hp->(Option Int->Hp->Prop)->Prop
def PO(X:Cx)(e:Option Expr)(t:TO):Prop:=
 ∀(pins:List (Addr×Obj)) (s:Shared) (σ:St) (H:Hp) (Q:Option Int->Hp->Prop),Inv X pins σ H s->t σ H Q ->
  wpAny (model X.prog X.w) X.A (evalPart e X.env) (fun u s'=>∃ o H',Inv X pins σ H' s'/\IsPart u o/\Q o H') X.xe s
def qdW:TO:=fun _ H Q=>Q none H
def qfJ(t:TE):TO:=fun σ H Q=>t σ H fun x a=>∃ i,x=.int i/\Q (some i) a
section
variable{X:Cx}{e:Expr}{te:TE}{lo hi:Option Expr}{tl th:TO}{pos p2:Pos}
theorem jB:PO X none qdW:=by
 intro pins s σ H Q I h;rw[kY];show yw ⟨none,H,I,.none,h⟩
theorem jh(h:PE X e te):PO X (some e) (qfJ te):=by
 intro pins s σ H Q I hw;rw[evalPart_some];show thn (h pins s σ H _ I hw) fun u g ⟨x,a,b,f,c⟩=>?_;obtain⟨i,rfl,q⟩:=c;obtain⟨t,rfl⟩:=f;show⟨some i,a,b,.int i t,q⟩
def SlR(X:Cx)(r:V->Option Int->Option Int->Hp->VK->Prop):Prop:=
 ∀(pins:List (Addr×Obj)) (s:Shared) (σ:St) (H:Hp) (x:V) (v b c:Value) (lo hi:Option Int) (a:Addr) (Q:VK),Inv X pins σ H s->RelV x v->s.heap.IsSliceOf a b c .none->IsPart b lo->IsPart c hi->r x lo hi H Q ->
  ∃ T id,typeLookup (.type T) "__getitem__"=pure (some (.builtin id))/\s.TypeIs v T/\wpAny (model X.prog X.w) X.A (getItem v (.ref a)) (EP X pins σ Q) X.xe s
def tSl(r:V->Option Int->Option Int->Hp->VK->Prop)(te:TE)(tl th:TO):TE:=fun σ H Q=>te σ H fun x a=>tl σ a fun l b=>th σ b fun u c=>r x l u c Q
theorem jf{r:V->Option Int->Option Int->Hp->VK->Prop}(B:SlR X r)(y:PE X e te)(hl:PO X lo tl)(D:PO X hi th):PE X (.Subscript e (.Slice lo hi none p2) pos) (tSl r te tl th):=by
 intro pins s σ H Q I h;show Subscript_ (thn (y pins s σ H _ I h) fun v L ⟨x,i,m,K,F⟩=>?_);show wpAny_Slice (thn (hl pins L σ i _ m F) fun c M ⟨l,j,n,pl,G⟩=>thn (D pins M σ j _ n G) fun f a ⟨u,g,o,E,J⟩=>?_);rw[kY];show yw ?_;have p:Inv X pins σ g { a with heap:=a.heap.push { cls:=.type "slice",data:=.fields #[c,f,.none] } }:=o.kept (t':=a.toks) fun b N q=>yu _ q;obtain⟨T,id,t,C,z⟩:=B pins { a with heap:=a.heap.push { cls:=.type "slice",data:=.fields #[c,f,.none] } } σ g x v c f l u a.heap.objs.size Q p K (XR ..) pl E J;show wpAny (model X.prog X.w) X.A (subscriptTail e (.Slice lo hi none p2) v (.ref a.heap.objs.size)) (EP X pins σ Q) X.xe { a with heap:=a.heap.push { cls:=.type "slice",data:=.fields #[c,f,.none] } };show tail_any (ops:=[.ref a.heap.objs.size,v]) C t z (by with_unfolding_all rfl)
noncomputable def qbS(xs:List V)(lo hi:Option Int):List V:=(xs.drop (HT.sIx xs.length 0 lo)).take (HT.sIx xs.length xs.length hi-HT.sIx xs.length 0 lo)
theorem zB(xs:List V)(lo hi:Option Int):(qbS xs lo hi).length<=xs.length:=by
 unfold qbS;rw[yX,Ka];omega
def qgB(K:yg):V->Option Int->Option Int->Hp->VK->Prop:=fun x lo hi H Q=>∃ a xs,x=.ref a/\SqT K H a xs /\
 ¬ (HT.sIx xs.length 0 lo=0/\HT.sIx xs.length xs.length hi=xs.length)/\∀ p,H p=none->Q (.ref p) (upd H p (.tup (qbS xs lo hi)))
theorem sl_tup:SlR X (qgB X.K):=by
 intro pins s σ H x v n p lo hi m Q I j f pl i h;obtain⟨a,xs,rfl,g,hw,q⟩:=h;cases j;obtain⟨its,r,e,hz⟩:=I.tuple g;have c:its.toArray.size=xs.length:=by rw[yz];show r.length.symm
 show⟨"tuple",_,xS.lookup,e.typeIs,?_⟩;show HT.getItem_tuple_cut e f pl i (by rw[c];show hw) ?_ (by rw[c];show hz);rw[c];show⟨.ref s.heap.objs.size,_,I.laid (t':=s.toks) (o:=.tup (qbS xs lo hi)) (fun b l q=>yu _ q) (yh _) ?_,rfl,q _ (I.hok.fresh (yh _))⟩;show⟨yi (zB xs lo hi) hz,_,(r.drop (HT.sIx xs.length 0 lo)).take (HT.sIx xs.length xs.length hi-HT.sIx xs.length 0 lo),IsTup.new _ _⟩
def qfK(K:yg):R2:=fun x y H Q=>∃ a b xs ys,x=.ref a/\y=.ref b/\SqT K H a xs/\SqT K H b ys/\xs≠[]/\xs.length+ys.length<=sizeLine /\
 (ys=[]->Q (.ref a) H)/\(ys≠[]->∀ p,H p=none->Q (.ref p) (upd H p (.tup (xs++ys))))
theorem Vals.nil_iff(r:Vals xs us):us=[]↔xs=[]:=by
 cases r with
 | nil=>simp
 | cons _ _=>simp
theorem op_catT:OpR X (binaryOp .Add) (qfK X.K):=by
 intro pins s σ H x y v u Q I n p h;obtain⟨a,b,xs,ys,rfl,rfl,g,hb,i,hz,l,m⟩:=h;cases n;cases p;obtain⟨its,e,j,_⟩:=I.tuple g;obtain⟨f,c,p2,_⟩:=I.tuple hb;show HT.cat_tup j p2 (fun z=>i (e.nil_iff.mp z)) (fun z=>⟨.ref a,H,I,rfl,l (c.nil_iff.mp z)⟩) (fun z=>?_) (by rw[<- e.length,<- c.length];show hz);show⟨.ref s.heap.objs.size,_,I.laid (t':=s.toks) (o:=.tup (xs++ys)) (fun b r q=>yu _ q) (yh _) ?_,rfl,m (fun w=>z (c.nil_iff.mpr w)) _ (I.hok.fresh (yh _))⟩;show⟨by rw[yt];show hz,_,e.append c,IsTup.new _ _⟩
end
noncomputable def ixN(n:Nat)(i:Int):Option Nat:=if 0<=i then(if i<n then some i.toNat else none) else if -(n:Int)<=i then some (i+n).toNat else none
noncomputable def atI{α:Type}(xs:List α)(i:Int):Option α:=(ixN xs.length i).bind fun j=>xs[j]?
theorem qdX(h:ixN n i=some j):seqIndex? i n=some j/\j<n/\-(n:Int)<=i/\i<n:=by
 unfold ixN at h;by_cases a:0<=i
 .rw [yG a] at h;by_cases h1:i<n
  .rw [yG h1] at h;have e:i.toNat=j:=ym h;show⟨by rw[seqIndex_of a h1,e],by omega,by omega,h1⟩
  .rw [yD h1] at h;cases h
 .rw [yD a] at h;by_cases h1:-(n:Int)<=i
  .rw [yG h1] at h;have e:(i+n).toNat=j:=ym h;show⟨by rw[seqIndex_neg (by omega) h1,e],by omega,h1,by omega⟩
  .rw [yD h1] at h;cases h
theorem qcT{xs:List α}{v:α}(h:atI xs i=some v):∃ j,seqIndex? i xs.length=some j/\xs[j]?=some v/\j<xs.length/\-(xs.length:Int)<=i/\i<xs.length:=by
 unfold atI at h
 cases e:ixN xs.length i with
 | none=>rw[e] at h;cases h
 | some j =>
  rw[e] at h;obtain⟨h1,a,b,c⟩:=qdX e;show⟨j,h1,h,a,b,c⟩
theorem qo{xs:List α}{v:α}(h:xs[j]?=some v):atI xs (j:Int)=some v:=by
 have a:j<xs.length:=(yc.mp h).1
 have e:ixN xs.length (j:Int)=some j:=by
  unfold ixN;rw[yG (by omega),yG (by omega)];simp
 unfold atI;rw[e];show h
theorem atI_last(xs:List α)(v:α):atI (xs++[v]) (-1)=some v:=by
 have hl:(xs++[v]).length=xs.length+1:=by simp
 have e:ixN (xs++[v]).length (-1)=some xs.length:=by
  unfold ixN;rw[hl,yD (by decide),yG (by omega)]
  congr 1
  omega
 unfold atI;rw[e];show(xs++[v])[xs.length]?=some v;simp
def PlainIx(b:Expr):Prop:=∀ o i,subscripted b false o i=operate [o,i] (getItem o i)
def IxR(X:Cx)(r:R2):Prop:=
 ∀(b a:Expr) (pins:List (Addr×Obj)) (s:Shared) (σ:St) (H:Hp) (x y:V) (v u:Value) (Q:VK),Inv X pins σ H s->RelV x v->RelV y u->r x y H Q ->
  subscripted a false v u=operate [v,u] (getItem v u)->wpAny (model X.prog X.w) X.A (subscriptTail b a v u) (EP X pins σ Q) X.xe s
def MtR(X:Cx)(id:String)(r:V->List V->Hp->VK->Prop):Prop:=
 ∀(pins:List (Addr×Obj)) (s:Shared) (σ:St) (H:Hp) (x:V) (xs:List V) (v:Value) (us:List Value) (Q:VK),Inv X pins σ H s->RelV x v->Vals xs us->r x xs H Q ->
  wpAny (model X.prog X.w) X.A (call (.builtin id) (v::us)) (EP X pins σ Q) X.xe s
section
variable{X:Cx}{a b:Expr}{ta tb:TE}{pos:Pos}
theorem IxR.or{e:R2}(h:IxR X r)(h':IxR X e):IxR X (fun x y H Q=>r x y H Q\/e x y H Q):=by
 intro b a pins s σ H x y v u Q I f g q c;rcases q with q | q
 .show h b a pins s σ H x y v u Q I f g q c
 .show h' b a pins s σ H x y v u Q I f g q c
theorem qp(g:IxR X r)(f:PE X a ta)(hb:PE X b tb)(i:PlainIx b):PE X (.Subscript a b pos) (tOp r ta tb):=by
 intro pins s σ H Q I h;show Subscript_ (qgh f hb I h fun v u m x y c e j l q=>g a b pins m σ c x y v u Q e j l q (i _ _))
def qgC(K:yg):R2:=fun x y H Q=>∃ p xs i v,x=.ref p/\y=.int i/\SqL K H p xs/\atI xs i=some v/\Q v H
def qgD(K:yg):R2:=fun x y H Q=>∃ p xs i v,x=.ref p/\y=.int i/\SqT K H p xs/\atI xs i=some v/\Q v H
def qgE:R2:=fun x y H Q=>∃ z i c,x=.str z/\y=.int i/\z.length<=sizeLine/\atI z.cps.toList i=some c/\Q (.str ⟨#[c]⟩) H
theorem ix_list:IxR X (qgC X.K):=by
 intro f e pins s σ H x y v u Q I D E h m;obtain⟨p,xs,i,z,rfl,rfl,C,B,q⟩:=h;cases D;obtain⟨t,rfl⟩:=E;obtain⟨its,r,pl,hz⟩:=I.list C;obtain⟨j,h1,n,F,o,A⟩:=qcT B;obtain⟨w,g,c⟩:=r.get n;have hl:=r.length;have G:=qbG;have a:EP X pins σ Q w s:=⟨z,H,I,c,q⟩;by_cases l:0<=i
 .have b:i.toNat=j:=by
   rw[seqIndex_of l A] at h1;show ym h1
  show item_listR pl.isList l (by omega) (by rw[b];simpa using g) a m
 .have b:(i+(its.toArray.size:Int)).toNat=j:=by
   rw[seqIndex_neg (by omega) o] at h1;rw[yz,<- hl];show ym h1
  show subscriptTail_builtinR (x:=w) pl.isList.typeIs Xp.lookup
   (wpAny_getItem_list_neg (Q:=fun r s'=>r=w/\EP X pins σ Q r s') pl.isList (by omega) (by rw[yz]<;>omega) (by omega) (by rw[b];simpa using g) ⟨rfl,a⟩) m
theorem ix_tup:IxR X (qgD X.K):=by
 intro e c pins s σ H x y v u Q I o A h n;obtain⟨p,xs,i,z,rfl,rfl,m,l,q⟩:=h;cases o;obtain⟨t,rfl⟩:=A;obtain⟨its,r,pl,hz⟩:=I.tuple m;obtain⟨j,h1,g,B,C,D⟩:=qcT l;obtain⟨w,f,b⟩:=r.get g;have hl:=r.length;have E:=qbG;have a:EP X pins σ Q w s:=⟨z,H,I,b,q⟩;show subscriptTail_builtinR (x:=w) pl.typeIs slot_tuple_getitem.lookup
  (getItem_tuple (j:=j) (Q:=fun r s'=>r=w/\EP X pins σ Q r s') pl (by omega) (by omega) (by rw[yz,<- hl];show h1) (by simpa using f) ⟨rfl,a⟩) n
theorem ix_str:IxR X qgE:=by
 intro b a pins s σ H x y v u Q I p r h o;obtain⟨z,i,c,rfl,rfl,hz,n,q⟩:=h;obtain⟨t,rfl⟩:=p;obtain⟨t',rfl⟩:=r;obtain⟨j,h1,g,w,l,m⟩:=qcT n;have hl:z.cps.toList.length=z.length:=by simp[Str.length]
 rw[hl] at h1 l m;have A:=qbG
 show tail_any (typeIs_str s z t) slot_str_getitem.lookup (getItem_str (c:=c) (by
  have e:decide (i < -(2 ^ 63:Int))=false:=yl (by omega);have f:decide (i ≥ 2 ^ 63)=false:=yl (by omega);rw[e,f,kZ]) (by rw[h1];simpa using g) ⟨.str ⟨#[c]⟩,H,I.tok _,⟨_,rfl⟩,q⟩) o
def rIx(K:yg):R2:=fun x y H Q=>qgC K x y H Q\/qgD K x y H Q\/qgE x y H Q
theorem ix_seq:IxR X (rIx X.K):=ix_list.or (ix_tup.or ix_str)
theorem mapSeq_set(its:List Value)(n j:Nat)(u:Value):Obj.mapSeq (·.setIfInBounds j u) { cls:=.type "list",data:=.seq its.toArray n }={ cls:=.type "list",data:=.seq (its.set j u).toArray n }:=by
 simp[Obj.mapSeq]
theorem Inv.lst(I:Inv X pins σ H s)(h:H p=some (.lst xs)) :
  ∃(its:List Value) (n:Nat),Vals xs its/\s.heap.get? p=some { cls:=.type "list",data:=.seq its.toArray n }/\xs.length<=sizeLine:=by
 obtain⟨z,its,n,r,e⟩:=I.hok p _ h;show⟨its,n,r,e,z⟩
theorem Inv.lstUpd{ys:List V}{a:Nat}{f:Obj->Obj}(I:Inv X pins σ H s)(h:H p=some (.lst xs))
  (g:s.heap.get? p=some { cls:=.type "list",data:=.seq its.toArray n }) (c:f { cls:=.type "list",data:=.seq its.toArray n }={ cls:=.type "list",data:=.seq its'.toArray a }) (r:Vals ys its') (hz:ys.length<=sizeLine) (t:Nat) :
  Inv X pins σ (upd H p (.lst ys)) { s with heap:=s.heap.update p f,toks:=t }:=by
 have e:(s.heap.update p f).get? p=some { cls:=.type "list",data:=.seq its'.toArray a }:=by
  rw[YE f g (by rw[c]<;>rfl),c]
 show I.write (x:=p) (e:=p) (by rw[h];trivial) (.inl rfl) (fun b u hb q=>(YA _ _ (Yi hb)).trans q) ⟨_,e⟩ ?_;show⟨hz,its',a,r,e⟩
def qfl:V->V->V->Hp->(Hp->Prop)->Prop:=fun o i v H Q=>∃ p xs k j,o=.ref p/\i=.int k/\H p=some (.lst xs)/\ixN xs.length k=some j/\Q (upd H p (.lst (xs.set j v)))
theorem set_list:qgg X qfl:=by
 intro pins s σ H o i v C B u Q I x w y h;obtain⟨p,xs,k,j,rfl,rfl,l,m,q⟩:=h;cases x;obtain⟨t,rfl⟩:=w;obtain⟨its,n,r,b,hz⟩:=I.lst l;obtain⟨h1,z,f,g⟩:=qdX m;have hl:=r.length;have A:=qbG
 have c:Inv X pins σ (upd H p (.lst (xs.set j v))) { s with heap:=s.heap.update p (Obj.mapSeq (·.setIfInBounds j u)) }:=
  I.lstUpd l b (mapSeq_set its n j u) (r.set y j) (by rw[xF];show hz) s.toks
 by_cases e:0<=k
 .have a:k.toNat=j:=by
   rw[seqIndex_of e g] at h1;show ym h1
  show PySem.W.ki_setAt b e (by omega) (by rw[yz,<- hl];show g) (by rw[a];show⟨_,c,q⟩)
 .have a:(k+(its.toArray.size:Int)).toNat=j:=by
   rw[seqIndex_neg (by omega) f] at h1;rw[yz,<- hl];show ym h1
  show PySem.W.ki_setBack b (by omega) (by rw[yz,<- hl];show f) (by omega) (by rw[a];show⟨_,c,q⟩)
theorem slice_bounds(lo hi:Option Int)(n:Nat):(sliceBounds lo hi none n).1=((HT.sIx n 0 lo:Nat):Int)/\(sliceBounds lo hi none n).2.1=((HT.sIx n n hi:Nat):Int)/\(sliceBounds lo hi none n).2.2=1:=by
 show⟨?_,?_,rfl⟩
 .cases lo with
  | none=>simp[sliceBounds,HT.sIx]
  | some i =>
   simp only[sliceBounds,HT.sIx,Option.getD_none,show(1:Int)>0 by decide,XH];by_cases h:i<0
   .simp only[h,XH]<;>omega
   .simp only[h,Xj]<;>omega
 .cases hi with
  | none=>simp[sliceBounds,HT.sIx]
  | some i =>
   simp only[sliceBounds,HT.sIx,Option.getD_none,show(1:Int)>0 by decide,XH];by_cases h:i<0
   .simp only[h,XH]<;>omega
   .simp only[h,Xj]<;>omega
theorem qaw(its:List Value)(lo hi:Option Int):slicePick its.toArray lo hi none=((its.drop (HT.sIx its.length 0 lo)).take (HT.sIx its.length its.length hi-HT.sIx its.length 0 lo)).toArray:=by
 obtain⟨h1,a,b⟩:=slice_bounds lo hi its.toArray.size;unfold slicePick;rw[h1,a,b];simp only[sliceRange_one,pick_run,yz]<;>rfl
def qgF(K:yg):V->Option Int->Option Int->Hp->VK->Prop:=fun x lo hi H Q=>∃ a xs,x=.ref a/\SqL K H a xs/\∀ p,H p=none->Q (.ref p) (upd H p (.lst (qbS xs lo hi)))
theorem sl_list:SlR X (qgF X.K):=by
 intro pins s σ H x v n p lo hi m Q I j f pl i h;obtain⟨a,xs,rfl,g,q⟩:=h;cases j;obtain⟨its,r,e,hz⟩:=I.list g;have c:=r.length;show⟨"list",_,Xp.lookup,e.isList.typeIs,?_⟩;show xR e.isList f pl i .none (by simp) ?_ (by rw[yz]<;>omega);rw[qaw,<- c];show⟨.ref s.heap.objs.size,_,I.laid (t':=s.toks) (o:=.lst (qbS xs lo hi)) (fun b l q=>yu _ q) (yh _) ?_,rfl,q _ (I.hok.fresh (yh _))⟩;show⟨yi (zB xs lo hi) hz,_,0,(r.drop (HT.sIx xs.length 0 lo)).take (HT.sIx xs.length xs.length hi-HT.sIx xs.length 0 lo),yS _ rfl⟩
noncomputable def qal:V->Bool
 | .non=>true
 | .bl _=>true
 | .int _=>true
 | .str _=>true
 | _=>false
noncomputable def eqV:V->V->Bool
 | .non,.non=>true
 | .bl a,.bl b=>a==b
 | .bl a,.int b=>(if a then 1 else 0)==b
 | .int a,.bl b=>a==(if b then 1 else 0)
 | .int a,.int b=>a==b
 | .str a,.str b=>a==b
 | _,_=>false
theorem qdY(f:RelV y u)(c:RelV x v)(g:qal y=true)(e:qal x=true):SeqAt.EqAt A s u v (eqV y x):=by
 cases y with
 | non =>
  cases f
  cases x with
  | non=>cases c;show kx _
  | bl b=>cases c;show SeqAt.EqAt.none_bool b
  | int b=>obtain⟨t,rfl⟩:=c;show SeqAt.EqAt.none_int b t
  | str b=>obtain⟨t,rfl⟩:=c;show SeqAt.EqAt.none_str b t
  | _=>show absurd (show false=true from e) Yo
 | bl a =>
  cases f
  cases x with
  | non=>cases c;show SeqAt.EqAt.bool_none a
  | bl b=>cases c;show SeqAt.EqAt.bool_bool a b
  | int b=>obtain⟨t,rfl⟩:=c;show SeqAt.EqAt.bool_int a b t
  | str b=>obtain⟨t,rfl⟩:=c;show SeqAt.EqAt.bool_str a b t
  | _=>show absurd (show false=true from e) Yo
 | int a =>
  obtain⟨t',rfl⟩:=f
  cases x with
  | non=>cases c;show SeqAt.EqAt.int_none a t'
  | bl b=>cases c;show SeqAt.EqAt.int_bool a t' b
  | int b=>obtain⟨t,rfl⟩:=c;show SeqAt.EqAt.int_int a t' b t
  | str b=>obtain⟨t,rfl⟩:=c;show SeqAt.EqAt.int_str a t' b t
  | _=>show absurd (show false=true from e) Yo
 | str a =>
  obtain⟨t',rfl⟩:=f
  cases x with
  | non=>cases c;show SeqAt.EqAt.str_none a t'
  | bl b=>cases c;show SeqAt.EqAt.str_bool a t' b
  | int b=>obtain⟨t,rfl⟩:=c;show SeqAt.EqAt.str_int a t' b t
  | str b=>obtain⟨t,rfl⟩:=c;show SeqAt.EqAt.str_str a t' b t
  | _=>show absurd (show false=true from e) Yo
 | _=>show absurd (show false=true from g) Yo
noncomputable def eqU(x:V)(u:Value):Bool:=match u with
 | .none=>eqV .non x
 | .bool b=>eqV (.bl b) x
 | .int i _=>eqV (.int i) x
 | .str z _=>eqV (.str z) x
 | _=>false
theorem qdZ(r:RelV y u)(f:qal y=true):eqU x u=eqV y x:=by
 cases y with
 | non=>cases r;rfl
 | bl b=>cases r;rfl
 | int i=>obtain⟨t,rfl⟩:=r;rfl
 | str z=>obtain⟨t,rfl⟩:=r;rfl
 | _=>show absurd (show false=true from f) Yo
theorem qbm:∀{xs:List V} {us:List Value},Vals xs us->xs.all qal=true->us.any (eqU x)=xs.any fun y=>eqV y x
 | _,_,.nil,_=>rfl
 | y::xs,u::us,.cons r t,f=>by
  rw[kh,yY] at f;rw[ki,ki,qdZ r f.1,qbm t f.2]
theorem zZ(b:RelV x v)(a:qal x=true):∀{xs:List V} {us:List Value},Vals xs us->xs.all qal=true->∀ u∈us,SeqAt.EqAt A s u v (eqU x u)
 | _,_,.nil,_=>fun u hu=>by cases hu
 | y::xs,u::us,.cons r t,f=>fun c hu=>by
  rw[kh,yY] at f;rcases yv.mp hu with rfl | hu
  .rw [qdZ r f.1];show qdY r b f.1 a
  .show zZ b a t f.2 c hu
noncomputable def inV(x:V)(xs:List V):Bool:=xs.any fun y=>eqV y x
def rIn(K:yg)(a:Bool):R2:=fun x y H Q=>∃ p xs,y=.ref p/\(SqL K H p xs\/SqT K H p xs)/\qal x=true/\xs.all qal=true/\Q (.bl (if a then !inV x xs else inV x xs)) H
theorem op_in_seq:OpR X (compareOp .In) (rIn X.K false):=by
 intro pins s σ H x y v u Q I b c h;obtain⟨p,xs,rfl,hq,a,fs,q⟩:=h;cases c;rcases hq with hq | hq
 .obtain⟨its,r,pl,hz⟩:=I.list hq;show SeqAt.in_listAt (eqU x) pl.isList (fun w hw=>zZ b a r fs w (by simpa using hw)) ⟨.bl _,H,I,rfl,?_⟩;rw[show its.toArray.any (eqU x)=its.any (eqU x) by simp,qbm r fs];show q
 .obtain⟨its,r,pl,hz⟩:=I.tuple hq;show SeqAt.in_tupleAt (eqU x) pl (fun w hw=>zZ b a r fs w (by simpa using hw)) ⟨.bl _,H,I,rfl,?_⟩;rw[show its.toArray.any (eqU x)=its.any (eqU x) by simp,qbm r fs];show q
theorem op_notIn_seq:OpR X (compareOp .NotIn) (rIn X.K true):=by
 intro pins s σ H x y v u Q I b c h;obtain⟨p,xs,rfl,hq,a,fs,q⟩:=h;cases c;rcases hq with hq | hq
 .obtain⟨its,r,pl,hz⟩:=I.list hq;show SeqAt.notIn_listAt (eqU x) pl.isList (fun w hw=>zZ b a r fs w (by simpa using hw)) ⟨.bl _,H,I,rfl,?_⟩;rw[show its.toArray.any (eqU x)=its.any (eqU x) by simp,qbm r fs];show q
 .obtain⟨its,r,pl,hz⟩:=I.tuple hq;show SeqAt.notIn_tupleAt (eqU x) pl (fun w hw=>zZ b a r fs w (by simpa using hw)) ⟨.bl _,H,I,rfl,?_⟩;rw[show its.toArray.any (eqU x)=its.any (eqU x) by simp,qbm r fs];show q
theorem call_len_seq:zT X (.builtin "len") (fun xs H Q=>∃ p ys,xs=[.ref p]/\(SqL X.K H p ys\/SqT X.K H p ys)/\Q (.int ys.length) H):=by
 intro pins s σ H xs us Q I r h;obtain⟨p,ys,rfl,hq,q⟩:=h;obtain⟨u,rfl,c⟩:=qbk r;cases c;have e:=qbG;rcases hq with hq | hq
 .obtain⟨its,b,pl,hz⟩:=I.list hq;have a:=b.length;show Calls.call_len_list pl.isList (by simp only[yz]<;>omega) ⟨.int ys.length,H,I.tok _,⟨s.toks+1,by rw[yz,a]⟩,q⟩
 .obtain⟨its,b,pl,hz⟩:=I.tuple hq;have a:=b.length;show len_tuple pl (by simp only[yz]<;>omega) ⟨.int ys.length,H,I.tok _,⟨s.toks+1,by rw[yz,a]⟩,q⟩
theorem call_len_str:zT X (.builtin "len") (fun xs H Q=>∃ z,xs=[.str z]/\z.length<=sizeLine/\Q (.int z.length) H):=by
 intro pins s σ H xs us Q I r h;obtain⟨z,rfl,hz,q⟩:=h;obtain⟨u,rfl,t,rfl⟩:=qbk r;have a:=qbG;show len_str (by omega) ⟨.int z.length,H,I.tok _,⟨_,rfl⟩,q⟩
theorem call_list_of:zT X (.type "list") (fun xs H Q=>∃ p ys,xs=[.ref p]/\(SqL X.K H p ys\/SqT X.K H p ys)/\∀ l,H l=none->Q (.ref l) (upd H l (.lst ys))):=by
 intro pins s σ H xs us Q I r h;obtain⟨p,ys,rfl,hq,q⟩:=h;obtain⟨u,rfl,v⟩:=qbk r;cases v;have f:∀(its:List Value),Vals ys its->ys.length<=sizeLine->∀(h':Heap) (a:Nat),(∀ b t,s.heap.get? b=some t->h'.get? b=some t) ->
   h'.get? s.heap.objs.size=some { cls:=.type "list",dict:=none,data:=.seq its.toArray a,slots:=#[] }->EP X pins σ Q (.ref s.heap.objs.size) { s with heap:=h' }:=fun its c hz h' a i e =>
  ⟨.ref s.heap.objs.size,_,I.laid (t':=s.toks) i (yh _) (show ObjOk X.prog X.w _ h' _ (.lst ys) from⟨hz,its,a,c,e⟩),rfl,q _ (I.hok.fresh (yh _))⟩
 rcases hq with hq | hq
 .obtain⟨its,c,pl,hz⟩:=I.list hq;have g:=c.length;obtain⟨o,m,hc,n,j⟩:=pl.isList;show call_list_seq p (.inl rfl) m hc j (fun h' a i e=>f its c hz h' a i e) (by simp only[yz]<;>omega)
 .obtain⟨its,c,pl,hz⟩:=I.tuple hq;have g:=c.length;obtain⟨o,m,hc,n,j⟩:=pl;show call_list_seq p (.inr rfl) m hc j (fun h' a i e=>f its c hz h' a i e) (by simp only[yz]<;>omega)
def tyV(K:yg)(T:String)(x:V)(H:Hp):Prop:=match x with
 | .str _=>T="str"
 | .int _=>T="int"
 | .ref p=>(T="list"/\∃ xs,SqL K H p xs)\/(T="tuple"/\∃ o,K.lookup p=some o/\o.cls=.type "tuple"/\o.dict=none) \/
   (T="dict"/\((∃ kvs,H p=some (.dK kvs))\/∃ kvs,H p=some (.dT kvs)))\/(T="set"/\∃ S n,H p=some (.set S n))
 | _=>False
theorem tyV_is{T:String}(I:Inv X pins σ H s)(r:RelV x v)(ty:tyV X.K T x H) :
  s.TypeIs v T/\∀ a,v=.ref a->∃ h,s.heap.get? a=some h/\h.dict=none:=by
 cases x with
 | str z =>
  obtain⟨t,rfl⟩:=r;cases (show T="str" from ty);show⟨typeIs_str s z t,fun _ e=>nomatch e⟩
 | int i =>
  obtain⟨t,rfl⟩:=r;cases (show T="int" from ty);show⟨typeIs_int s i t,fun _ e=>nomatch e⟩
 | ref p =>
  cases r;rcases ty with⟨rfl,xs,j⟩ | ⟨rfl,o,b,hc,g⟩ | ⟨rfl,b⟩ | ⟨rfl,S,n,b⟩
  .obtain⟨its,_,pl,_⟩:=I.list j;show⟨pl.isList.typeIs,fun a e=>?_⟩;cases e;obtain⟨o,n,e,c,g,_⟩:=pl;show⟨o,e,g⟩
  .show⟨⟨o,I.kIn p o b,hc⟩,fun a e=>?_⟩;cases e;show⟨o,I.kIn _ o b,g⟩
  .have z:∃ o,s.heap.get? p=some o/\o.ExactDict:=by
    rcases b with⟨kvs,b⟩ | ⟨kvs,b⟩
    .obtain⟨_,_,_,_,o,_,_,e,ex,_⟩:=I.hok p _ b;show⟨o,e,ex⟩
    .obtain⟨_,_,_,_,o,_,_,e,ex,_⟩:=I.hok p _ b;show⟨o,e,ex⟩
   obtain⟨o,e,ex⟩:=z;show⟨⟨o,e,ex.1⟩,fun a f=>?_⟩;cases f;show⟨o,e,ex.2.1⟩
  .obtain⟨o,_,_,_,e,ex,_⟩:=I.hok p _ b;show⟨⟨o,e,ex.1⟩,fun a f=>?_⟩;cases f;show⟨o,e,ex.2.1⟩
 | _=>show False.elim ty
def tBM0(K:yg)(T:String)(r:V->List V->Hp->VK->Prop)(to:TE):TE:=fun σ H Q=>to σ H fun x a=>tyV K T x a/\r x [] a Q
def tBM(K:yg)(T:String)(r:V->List V->Hp->VK->Prop)(to:TE)(t:TA):TE:=fun σ H Q=>to σ H fun x a=>tyV K T x a/\t σ a fun xs b=>r x xs b Q
variable{o e:Expr}{es:List Expr}{to:TE}{t:TA}{name:Str}{apos cpos:Pos}{T id:String}{r:V->List V->Hp->VK->Prop}
theorem pe_bm(B:PlainAttrs T)(g:Slot T name id)(i:typeOf (.builtin id)=pure (.type "method_descriptor"))(y:MtR X id r)(z:PE X o to)(w:PA X (e::es) t)
  (b:attributeBase o name X.env (eval o X.env)=eval o X.env:=by rfl)
  (f:((backTo cpos (starEach (e::es) X.env)).all (fun x=>!x.1)&&(backToKw cpos (keywordEach [] X.env)).all (fun x=>x.1.isSome)
   && decide ((e::es).length+([]:List Keyword).length+(if ([]:List Keyword).isEmpty then 0 else 1)<30))=true:=by rfl)
  (c:(apos.endLine==cpos.line)=true:=by rfl) (A:starEach (e::es) X.env=(false,eval e X.env)::starEach es X.env:=by rfl) (a:(backTo cpos (starEach es X.env)).any (·.1)=false:=by rfl) :
  PE X (.Call (.Attribute o name apos) (e::es) [] cpos) (tBM X.K T r to t):=by
 intro pins s σ H Q I h;show wpAny_Call_method_late b f c rfl (thn (z pins s σ H _ I h) fun v F ⟨x,n,j,m,ty,C⟩=>?_);obtain⟨h1,u⟩:=tyV_is j m ty;show⟨T,id,B,g,i,h1,u,?_⟩;have l:=w cpos pins F σ n _ j C;rw[A] at l ⊢;show XZ (by show(false||(backTo cpos (starEach es X.env)).any (·.1))=false;rw[a]<;>rfl) (ko ?_);show thn l fun us G ⟨vs,p,q,E,D⟩=>y pins G σ p x vs v us Q q m E D
end
def MtM(X:Cx)(id:String)(r:V->List V->Hp->VK->Prop):Prop:=
 ∀(pins:List (Addr×Obj)) (s:Shared) (σ:St) (H:Hp) (x:V) (xs:List V) (v:Value) (us:List Value) (Q:VK),Inv X pins σ H s->RelV x v->Vals xs us->r x xs H Q ->
  wpAny (model X.prog X.w) X.A (call (.builtin id) (v::us)) (EP X pins σ Q) X.xe s
theorem Vals.one:∀{x:V} {us:List Value},Vals [x] us->∃ u,us=[u]/\RelV x u
 | _,_,.cons r .nil=>⟨_,rfl,r⟩
theorem Vals.eraseIdx:∀{xs:List V} {us:List Value} (i:Nat),Vals xs us->Vals (xs.eraseIdx i) (us.eraseIdx i)
 | _,_,_,.nil=>.nil
 | _,_,0,.cons _ t=>t
 | _,_,i+1,.cons r t=>.cons r (Vals.eraseIdx i t)
theorem Vals.rep(h:Vals xs us):∀ k:Nat,Vals (List.replicate k xs).flatten (List.replicate k us).flatten
 | 0=>.nil
 | k+1=>by
  rw[xt,xt,Xq,Xq];show Vals.append h (Vals.rep h k)
theorem qct:∀(l:List α) (i:Nat),(l.eraseIdx i).length<=l.length
 | [],_=>yh _
 | _::_,0=>xL _
 | _::r,i+1=>Nat.succ_le_succ (qct r i)
theorem qcu(its:List Value):∀(k:Nat) (acc:List Value),
  List.foldl (fun b c=>b++c) acc.toArray (List.replicate k its.toArray)=(acc++(List.replicate k its).flatten).toArray
 | 0,acc=>by simp
 | k+1,acc=>by
  have e:acc.toArray++its.toArray=(acc++its).toArray:=by simp
  have a:(acc++its)++(List.replicate k its).flatten=acc++(List.replicate (k+1) its).flatten:=by
   rw[xt,Xq,Yk]
  rw[<- a,<- qcu its k (acc++its),<- e,xt,List.foldl_cons]
section
variable{X:Cx}{pins:List (Addr×Obj)}{σ:St}{H:Hp}{s:Shared}{l b:Addr}{xs ys zs:List V}
theorem Inv.lset{f:Array Value->Array Value}(I:Inv X pins σ H s)(a:H l=some (.lst xs))
  (e:s.heap.get? l=some { cls:=.type "list",data:=.seq its.toArray n }) (b:f its.toArray=its'.toArray) (hv:Vals ys its') (hz:ys.length<=sizeLine) :
  Inv X pins σ (upd H l (.lst ys)) { s with heap:=s.heap.update l (Obj.mapSeq f),toks:=t' }:=by
 have q:=PySem.IsL.update e f;rw[b] at q;show I.write (x:=l) (e:=l) (by rw[a];show trivial) (.inl rfl) (fun g u hb c=>(YA s.heap (Obj.mapSeq f) (Yi hb)).trans c) ⟨_,q⟩ ?_;show⟨hz,its',_,hv,q⟩
theorem Inv.lnew(I:Inv X pins σ H s)(hv:Vals ys its)(hz:ys.length<=sizeLine) :
  Inv X pins σ (upd H s.heap.objs.size (.lst ys)) { s with heap:=s.heap.push { cls:=.type "list",data:=.seq its.toArray },toks:=t' }:=
 I.laid (fun _ _ q=>yu _ q) (yh _) ⟨hz,its,0,hv,yS _ rfl⟩
theorem Inv.fresh(I:Inv X pins σ H s):H s.heap.objs.size=none:=I.hok.fresh (yh _)
theorem Inv.lstM(I:Inv X pins σ H s)(a:H l=some (.lst xs)):xs.length<=sizeLine/\∃(its:List Value) (n:Nat),Vals xs its/\xs.length=its.length/\s.heap.get? l=some { cls:=.type "list",data:=.seq its.toArray n }:=by
 obtain⟨z,its,n,r,e⟩:=I.hok l _ a;show⟨z,its,n,r,r.length,e⟩
theorem qde(h:n<=sizeLine):Builtin.List.listTooLong n=false:=by
 unfold Builtin.List.listTooLong;show yl (by omega)
end
section
variable{X:Cx}
def qd0:V->List V->Hp->VK->Prop:=fun x vs H Q=>∃ l xs y,x=.ref l/\vs=[y]/\H l=some (.lst xs)/\xs.length<sizeLine/\Q .non (upd H l (.lst (xs++[y])))
theorem mt_append:MtM X "list.append" qd0:=by
 intro pins s σ H x vs v us Q I f c h;obtain⟨l,xs,y,rfl,rfl,a,hz,q⟩:=h;cases f;obtain⟨u,rfl,b⟩:=c.one;obtain⟨z,its,n,r,hl,e⟩:=I.lstM a;show kM F.slot_list_append ⟨_,e,rfl⟩ F.entry_list_append (F.args_list_append_2 _ _) (PySem.list_append l its.toArray n u (by rw[yz];omega)) ⟨e,?_⟩;show⟨.non,_,I.lset (its':=its++[u]) a e (by simp) (r.append (.cons b .nil)) ?_,rfl,q⟩;rw[yt,List.length_singleton];omega
def qd1:V->List V->Hp->VK->Prop:=fun x vs H Q=>∃ l b xs a,x=.ref l/\vs=[.ref b]/\H l=some (.lst xs)/\H b=some (.lst a)/\xs.length+a.length<=sizeLine/\Q .non (upd H l (.lst (xs++a)))
theorem mt_extend:MtM X "list.extend" qd1:=by
 intro pins s σ H x vs v us Q I w t h;obtain⟨l,b,xs,A,rfl,rfl,f,i,hz,q⟩:=h;cases w;obtain⟨u,rfl,p⟩:=t.one;cases p;obtain⟨z,its,n,r,hl,e⟩:=I.lstM f;obtain⟨y,a,m,o,j,g⟩:=I.lstM i;have hsz:its.toArray.size+a.toArray.size<=sizeLine:=by rw[yz,yz];omega
 have c:¬ (!its.toArray.isEmpty&&Builtin.List.listTooLong (its.toArray.size+a.toArray.size))=true:=by
  rw[qde hsz,Bool.and_false];show Yo
 show kM F.slot_list_extend ⟨_,e,rfl⟩ F.entry_list_extend (F.args_list_extend_2 _ _)
  (AutoSeq1.list_extend_list_list_0 l its.toArray n b a.toArray m c (by rw[yz];omega) (by omega)) ⟨e,g,?_⟩
 show⟨.non,_,I.lset (its':=its++a) f e (by simp) (r.append o) ?_,rfl,q⟩;rw[yt];omega
def qeP:V->List V->Hp->VK->Prop:=fun x vs H Q=>∃ l xs i k y,x=.ref l/\vs=[.int i]/\H l=some (.lst xs)/\-(2 ^ 63)<=i/\i<2 ^ 63/\seqIndex? i xs.length=some k/\xs[k]?=some y/\Q y (upd H l (.lst (xs.eraseIdx k)))
theorem mt_popAt:MtM X "list.pop" qeP:=by
 intro pins s σ H x vs v us Q I o m h;obtain⟨l,xs,i,k,y,rfl,rfl,b,h1,c,f,g,q⟩:=h;cases o;obtain⟨u,rfl,j⟩:=m.one;obtain⟨t,rfl⟩:=j;obtain⟨z,its,n,r,hl,e⟩:=I.lstM b;obtain⟨w,hw,a⟩:=r.get g;show kM F.slot_list_pop ⟨_,e,rfl⟩ F.entry_list_pop (F.args_list_pop_2 _ _)
  (MeetsSeq.list_pop_at l its.toArray n i t k w (fitsIndex_both h1 c) (by rw[yz,<- hl];show f) (by rw[<- Xn];show hw) (by rw[yz];omega)) ⟨e,?_⟩
 show⟨y,_,I.lset (its':=its.eraseIdx k) b e ?_ (r.eraseIdx k) ?_,a,q⟩
 .show its.toArray.eraseIdxIfInBounds k=(its.eraseIdx k).toArray;rw[List.eraseIdxIfInBounds_toArray]
 .have:=qct xs k;omega
def qgG:R2:=fun x y H Q=>∃ l b xs a,x=.ref l/\y=.ref b/\H l=some (.lst xs)/\H b=some (.lst a)/\xs.length+a.length<=sizeLine/\∀ p,H p=none->Q (.ref p) (upd H p (.lst (xs++a)))
theorem op_cat:OpR X (binaryOp .Add) qgG:=by
 intro pins s σ H x y v u Q I o p h;obtain⟨l,b,xs,A,rfl,rfl,i,g,hz,q⟩:=h;cases o;cases p;obtain⟨z,its,n,r,hl,e⟩:=I.lstM i;obtain⟨w,a,t,m,j,c⟩:=I.lstM g;show PySem.P.add_list e c ?_ (by rw[yz,yz];omega);have f:its.toArray++a.toArray=(its++a).toArray:=by simp
 rw[f];show⟨.ref _,_,I.lnew (t':=s.toks) (r.append m) (by rw[yt];omega),rfl,q _ I.fresh⟩
def qgH:R2:=fun x y H Q=>∃ l k xs,x=.ref l/\y=.int k/\H l=some (.lst xs)/\-(2 ^ 63)<=k/\k<2 ^ 63/\xs.length*k.toNat<=sizeLine /\
 ∀ p,H p=none->Q (.ref p) (upd H p (.lst (List.replicate k.toNat xs).flatten))
theorem len_rep(xs:List α)(k:Nat):(List.replicate k xs).flatten.length=k*xs.length:=by
 induction k with
 | zero=>simp
 | succ k ih=>rw[xt,Xq,yt,ih,Nat.succ_mul,Nat.add_comm]
theorem qd2:OpR X (binaryOp .Mult) qgH:=by
 intro pins s σ H x y v u Q I B C h;obtain⟨l,k,xs,rfl,rfl,A,h1,w,hz,q⟩:=h;cases B;obtain⟨t,rfl⟩:=C;obtain⟨z,its,n,r,hl,e⟩:=I.lstM A;have g:its.toArray.size*k.toNat<=sizeLine:=by rw[yz,<- hl];show hz
 have c:¬ its.toArray.size*k.toNat>(2 ^ 63-1) / 8:=by
  have:(sizeLine:Nat)<=(2 ^ 63-1) / 8:=by decide
  omega
 have f:¬ (!Builtin.List.listFitsIndex k)=true:=by
  rw[fitsIndex_both h1 w];show Yo
 have b:¬ Builtin.List.listTooLong (its.toArray.size*k.toNat)=true:=by
  rw[qde g];show Yo
 have i:List.foldl (fun j o=>j++o) #[] (List.replicate (if its.toArray.isEmpty=true then 0 else k.toNat) its.toArray)=(List.replicate k.toNat its).flatten.toArray:=by
  have p:∀ m:Nat,List.foldl (fun j o=>j++o) #[] (List.replicate m its.toArray)=(List.replicate m its).flatten.toArray:=fun m=>by
   have:=qcu its m [];rw[List.nil_append] at this;show this
  rw[p]
  cases its with
  | nil=>simp
  | cons a r'=>rw[yD (by simp)]
 show wpAny_binaryOp_repeat_ref (T:="list") (U:="int") (by decide) ⟨_,e,rfl⟩ (fun s'=>typeIs_int s' k t) noFill_list_mul F.fills_int_mul F.slot_int_rmul repeat_list F.slot_int_index.lookup
  (kM F.slot_int_rmul (typeIs_int s k t) F.entry_int_rmul (F.args_int_rmul_2 _ _) (int___rmul___int_list k t l its.toArray n)
   ⟨e,rfl,⟨_,e,rfl⟩,kM F.slot_list_mul ⟨_,e,rfl⟩ F.entry_list_mul (F.args_list_mul_2 _ _) (AutoListH.list___mul___list_int_3 l its.toArray n k t f c b) ⟨e,?_⟩⟩)
 rw[i];show⟨.ref _,_,I.lnew (t':=s.toks) (r.rep k.toNat) (by rw[len_rep,Nat.mul_comm];show hz),rfl,q _ I.fresh⟩
end
section
variable{prog:Program}{w:World}{A:Around}{E:Value->Shared->Prop}{s:Shared}
set_option maxRecDepth 100000 in
end
section
variable{X:Cx}
end
section
variable{κ:Type}[DecidableEq κ]
noncomputable def j7(kvs:List (κ×V))(k:κ):Option V:=(kvs.find? fun a=>decide (a.1=k)).map (·.2)
noncomputable def zC(kvs:List (κ×V))(k:κ)(v:V):List (κ×V):=
 if (kvs.any fun a=>decide (a.1=k))=true then kvs.map (fun a=>if a.1=k then(a.1,v) else a) else kvs++[(k,v)]
noncomputable def dropK(kvs:List (κ×V))(k:κ):List (κ×V):=kvs.filter fun a=>decide (a.1≠k)
theorem jg{p:κ×V}{r:List (κ×V)}{k:κ}(e:p.1=k):j7 (p::r) k=some p.2:=by simp[j7,xG,e]
theorem q8{p:κ×V}{r:List (κ×V)}{k:κ}(e:¬ p.1=k):j7 (p::r) k=j7 r k:=by simp[j7,xG,e]
theorem qaa(k:κ):∀ kvs:List (κ×V),(kvs.any fun a=>decide (a.1=k))=(j7 kvs k).isSome
 | []=>rfl
 | p::r=>by
  rw[ki];by_cases e:p.1=k
  .simp only[jg e,yB e,Bool.true_or,XS]
  .rw [q8 e,yl e,Bool.false_or];show qaa k r
theorem qdf(k j:κ)(y:V):∀ kvs:List (κ×V),j7 (kvs.map fun a=>if a.1=k then(a.1,y) else a) j=(j7 kvs j).map fun x=>if j=k then y else x
 | []=>rfl
 | p::r=>by
  have b:=qdf k j y r;rw[YH];by_cases h:p.1=k
  .rw [yG h];by_cases e:p.1=j
   .rw [jg (p:=(p.1,y)) e,jg e,ky,yG (e.symm.trans h)]
   .rw [q8 (p:=(p.1,y)) e,q8 e,b]
  .rw [yD h];by_cases e:p.1=j
   .rw [jg (p:=p) e,jg e,ky,yD (fun z=>h (e.trans z))]
   .rw [q8 (p:=p) e,q8 e,b]
theorem qcv(k j:κ)(y:V):∀ kvs:List (κ×V),j7 kvs k=none->j7 (kvs++[(k,y)]) j=if j=k then some y else j7 kvs j
 | [],_=>by
  by_cases e:k=j
  .rw [yG e.symm];show jg (p:=(k,y)) e
  .rw [yD (fun z=>e z.symm)];show q8 (p:=(k,y)) e
 | p::r,hn=>by
  rw[Kb];have a:¬ p.1=k:=fun z=>by rw[jg z] at hn;cases hn
  rw[q8 a] at hn;have b:=qcv k j y r hn;by_cases e:p.1=j
  .rw [jg e,jg e,yD (fun z=>a (e.trans z))]
  .rw [q8 e,q8 e,b]
theorem qax(kvs:List (κ×V))(k j:κ)(y:V):j7 (zC kvs k y) j=if j=k then some y else j7 kvs j:=by
 unfold zC;by_cases a:(kvs.any fun c=>decide (c.1=k))=true
 .rw [yG a,qdf];rw[qaa] at a;by_cases e:j=k
  .obtain⟨x,b⟩:=YX.mp a;rw[yG e,e,b,ky,yG rfl]
  .rw [yD e]
   cases j7 kvs j with
   | none=>rfl
   | some x=>rw[ky,yD e]
 .rw [yD a];show qcv k j y kvs ?_;rw[qaa] at a
  cases q:j7 kvs k with
  | none=>rfl
  | some x=>rw[q] at a;show(a rfl).elim
theorem ji(kvs:List (κ×V))(k:κ)(v:V):(zC kvs k v).length<=kvs.length+1:=by
 unfold zC;split
 .rw [ya];omega
 .rw [yt,yC,YU];omega
theorem qa0{kvs:List (κ×V)}{k:κ}(v:V)(h:j7 kvs k=none):zC kvs k v=kvs++[(k,v)]:=by
 unfold zC;rw[qaa,h];show yD (by decide)
theorem RelO.isSome_eq{u:Option Value}(r:RelO o u):o.isSome=u.isSome:=by
 cases o with
 | none=>cases u with
  | none=>rfl
  | some _=>show(show False from r).elim
 | some _=>cases u with
  | none=>show(show False from r).elim
  | some _=>rfl
theorem RelO.getD{u:Option Value}{d:V}{d':Value}(r:RelO o u)(rd:RelV d d'):RelV (o.getD d) (u.getD d'):=by
 cases o with
 | none=>cases u with
  | none=>show rd
  | some _=>show(show False from r).elim
 | some _=>cases u with
  | none=>show(show False from r).elim
  | some _=>show r
theorem KV.val{kvs:List (κ×V)}{vs:List (κ×Value)}(r:KV kvs vs)(k:κ):RelO (j7 kvs k) (valueAt vs k):=by
 unfold KV at r
 induction r with
 | nil=>show YS
 | @cons p q ps qs h t ih =>
  obtain⟨h1,c⟩:=h;by_cases e:p.1=k
  .have a:q.1=k:=h1.symm.trans e;have b:valueAt (q::qs) k=some q.2:=by simp[valueAt,xG,a]
   rw[jg e,b];show c
  .have a:¬ q.1=k:=fun z=>e (h1.trans z);have b:valueAt (q::qs) k=valueAt qs k:=by simp[valueAt,xG,a]
   rw[q8 e,b];show ih
theorem KV.any{kvs:List (κ×V)}{vs:List (κ×Value)}(r:KV kvs vs)(k:κ):(kvs.any fun a=>decide (a.1=k))=vs.any fun a=>decide (a.1=k):=by
 unfold KV at r
 induction r with
 | nil=>rfl
 | cons h t ih=>rw[ki,ki,ih,h.1]
theorem KV.repl{kvs:List (κ×V)}{vs:List (κ×Value)}(r:KV kvs vs)(k:κ)(c:RelV y u) :
  KV (kvs.map fun a=>if a.1=k then(a.1,y) else a) (vs.map fun a=>if a.1=k then(a.1,u) else a):=by
 unfold KV at r ⊢
 induction r with
 | nil=>show .nil
 | @cons p q ps qs h t ih =>
  rw[YH,YH];show .cons ?_ ih;obtain⟨h1,b⟩:=h;by_cases e:p.1=k
  .rw [yG e,yG (h1.symm.trans e)];show⟨h1,c⟩
  .rw [yD e,yD (fun z=>e (h1.trans z))];show⟨h1,b⟩
theorem KV.put{kvs:List (κ×V)}{vs:List (κ×Value)}(r:KV kvs vs)(k:κ)(a:RelV y u):KV (zC kvs k y) (stored vs k u):=by
 unfold zC stored;rw[r.any k];by_cases e:(vs.any fun b=>decide (b.1=k))=true
 .rw [yG e,yG e];show r.repl k a
 .rw [yD e,yD e];show Paired.snoc r ⟨rfl,a⟩
theorem KV.length{kvs:List (κ×V)}{vs:List (κ×Value)}(r:KV kvs vs):kvs.length=vs.length:=Paired.length r
end
theorem qdD{k:Key}(r:RelV (kV k) u):(jo P w).is k u=true:=by
 cases k with
 | inl i=>obtain⟨t,e⟩:=(show ∃ t,u=Value.int i t from r);subst e;show mixKind_int P w i t
 | inr x=>obtain⟨t,e⟩:=(show ∃ t,u=Value.str x t from r);subst e;show mixKind_str P w x t
theorem qcw:∀{ks:List Key} {us:List Value},Vals (ks.map kV) us->ItemsAre (jo P w) ks us
 | [],_,r=>by rw[List.map_nil] at r;cases r;show .nil
 | k::ks,_,r=>by
  rw[YH] at r
  cases r with
  | cons h t=>show .cons (qdD h) (qcw t)
abbrev KT(H:Hp):List (List Key×V)->List (List Key×Addr×Value)->Prop:=Paired fun p q=>p.1=q.1/\H q.2.1=some (.tup (p.1.map kV))/\RelV p.2 q.2.2
theorem KT.val{xs:List (List Key×Addr×Value)}(r:KT H kvs xs)(k:List Key):RelO (j7 kvs k) ((atKey xs k).map (·.2)):=by
 induction r with
 | nil=>show YS
 | @cons p q ps qs h t ih =>
  obtain⟨h1,_,c⟩:=h;by_cases e:p.1=k
  .have a:q.1=k:=h1.symm.trans e;have b:atKey (q::qs) k=some q.2:=by simp[atKey,xG,a]
   rw[jg e,b];show c
  .have a:¬ q.1=k:=fun z=>e (h1.trans z);have b:atKey (q::qs) k=atKey qs k:=by simp[atKey,xG,a]
   rw[q8 e,b];show ih
theorem KT.repl{xs:List (List Key×Addr×Value)}(r:KT H kvs xs)(k:List Key)(f:RelV y u) :
  KT H (kvs.map fun a=>if a.1=k then(a.1,y) else a) (xs.map (putAt k u)):=by
 induction r with
 | nil=>show .nil
 | @cons p q ps qs h t ih =>
  rw[YH,YH];show .cons ?_ ih;obtain⟨h1,b,c⟩:=h;unfold putAt;by_cases e:p.1=k
  .rw [yG e,yG (h1.symm.trans e)];show⟨h1,b,f⟩
  .rw [yD e,yD (fun z=>e (h1.trans z))];show⟨h1,b,c⟩
theorem KT.put{xs:List (List Key×Addr×Value)}(r:KT H kvs xs)(k:List Key){b:Addr}(hb:H b=some (.tup (k.map kV)))(a:RelV y u) :
  KT H (zC kvs k y) (storedH xs k b u):=by
 have e:(kvs.any fun c=>decide (c.1=k))=(atKey xs k).isSome:=by
  rw[qaa,(r.val k).isSome_eq,Xr]
 unfold zC storedH;rw[e];by_cases q:(atKey xs k).isSome=true
 .rw [yG q,yG q];show r.repl k a
 .rw [yD q,yD q];show Paired.snoc r ⟨rfl,hb,a⟩
theorem KT.keeps{xs:List (List Key×Addr×Value)}(r:KT H kvs xs)(a:∀ b ys,H b=some (.tup ys)->H' b=some (.tup ys)):KT H' kvs xs:=
 Paired.mapP r fun _ _ z=>⟨z.1,a _ _ z.2.1,z.2.2⟩
section
variable{P:Program}{w:World}{H:Hp}{h:Heap}{a:Addr}
theorem qfL{u:HO}(ok:HOk P w H h)(e:Rd H a u):ObjOk P w H h a u:=e.ok ok
theorem qcx{kvs:List (Key×V)}(ok:HOk P w H h)(e:Rd H a (.dK kvs)):kvs.length<=sizeLine/\(a==sysModules)=false/\∃ vs,KV kvs vs/\h.DictOf (jo P w) a vs:=
 show ObjOk P w H h a (.dK kvs) from qfL ok e
theorem qfM{kvs:List (Key×V)}(ok:HOk P w H h)(e:H a=some (.dK kvs)):kvs.length<=sizeLine/\(a==sysModules)=false/\∃ vs,KV kvs vs/\h.DictOf (jo P w) a vs:=qcx ok (.inl e)
theorem qbI{ks:List Key}(ok:HOk P w H h)(e:H a=some (.tup (ks.map kV))):(tupleKind (jo P w)).is h ks a:=by
 obtain⟨_,its,r,o,h1,b,n,c⟩:=(show ObjOk P w H h a (.tup (ks.map kV)) from ok a _ e);show⟨o,its.toArray,n,h1,b,c,by simpa using qcw r⟩
theorem qcU(ok:HOk P w H h)(e:Rd H a (.dT kvs)):kvs.length<=sizeLine/\(a==sysModules)=false /\
  ∃ xs,KT H kvs xs/\h.DictOfH (tupleKind (jo P w)) a xs:=by
 obtain⟨z,y,xs,r,o,b,ep,h1,c,f,g,i⟩:=(show ObjOk P w H h a (.dT kvs) from qfL ok e);show⟨z,y,xs,r,o,b,ep,h1,c,f,g,fun x hx=>?_,i⟩
 have all:∀{l:List (List Key×V)} {m:List (List Key×Addr×Value)},KT H l m->∀ x∈m,(tupleKind (jo P w)).is h x.1 x.2.1:=by
  intro l m q
  induction q with
  | nil=>intro x hx;show nomatch hx
  | @cons p q ps qs hq t ih =>
   intro x hx;rcases yv.mp hx with e | hx
   .subst e;show qbI ok (by rw[<- hq.1];show hq.2.1)
   .show ih x hx
 show all r x hx
theorem dt_of(ok:HOk P w H h)(e:H a=some (.dT kvs)):kvs.length<=sizeLine/\(a==sysModules)=false /\
  ∃ xs,KT H kvs xs/\h.DictOfH (tupleKind (jo P w)) a xs:=qcU ok (.inl e)
end
def DGet(H:Hp)(a:Addr)(y:V)(r:Option V):Prop:=
 (∃ kvs k,Rd H a (.dK kvs)/\y=kV k/\r=j7 kvs k)\/∃ kvs k b,Rd H a (.dT kvs)/\y=.ref b/\H b=some (.tup (k.map kV))/\r=j7 kvs k
def DPut(H:Hp)(a:Addr)(y v:V)(H':Hp):Prop:=
 (∃ kvs k,H a=some (.dK kvs)/\y=kV k/\kvs.length<sizeLine/\H'=upd H a (.dK (zC kvs k v))) \/
 ∃ kvs k b,H a=some (.dT kvs)/\y=.ref b/\H b=some (.tup (k.map kV))/\kvs.length<sizeLine/\H'=upd H a (.dT (zC kvs k v))
theorem DGet.k{kvs:List (Key×V)}{k:Key}(e:H a=some (.dK kvs)):DGet H a (kV k) (j7 kvs k):=.inl ⟨kvs,k,.inl e,rfl,rfl⟩
theorem DPut.k{kvs:List (Key×V)}{k:Key}{v:V}(e:H a=some (.dK kvs))(hl:kvs.length<sizeLine):DPut H a (kV k) v (upd H a (.dK (zC kvs k v))):=.inl ⟨kvs,k,e,rfl,hl,rfl⟩
section
variable{X:Cx}{pins:List (Addr×Obj)}{σ:St}{H:Hp}{s:Shared}{a:Addr}{y v:V}{u r:Value}{o:Option V}{A:Around}{E:Value->Shared->Prop}
theorem Inv.big(I:Inv X pins σ H s):sysModules<s.heap.objs.size:=by
 have h:mainGlobals<s.heap.objs.size:=(I.mod.glob.keeps I.bk).lt;show Kj (by decide) h
theorem d_getItem{Q:Value->Shared->Prop}(B:A.units+1<cLine)(I:Inv X pins σ H s)(g:DGet H a y (some v))(q:RelV y u)(h:∀ i s',Inv X pins σ H s'->RelV v i->Q i s') :
  wpAny (model X.prog X.w) A (getItem (.ref a) u) Q E s:=by
 rcases g with⟨kvs,k,e,m,l⟩ | ⟨kvs,k,b,e,m,r,l⟩
 .subst m;obtain⟨z,t,vs,c,j⟩:=qcx I.hok e;obtain⟨i,hw,f⟩:=RelO.some_of (v:=v) (o:=valueAt vs k) (by rw[l];show c.val k);show wpAny_getItem_of (qdD q) j.mapOf hw (h i _ (I.tok _) f)
 .subst m;cases (show u=Value.ref b from q);obtain⟨z,t,xs,c,j⟩:=qcU I.hok e;obtain⟨i,hw,f⟩:=RelO.some_of (v:=v) (o:=(atKey xs k).map (·.2)) (by rw[l];show c.val k);obtain⟨p,x,n⟩:=yn.mp hw;show wpAny_getItem_heap (Xf B) (qbI I.hok r) j x ?_;rw[n];show h i _ (I.tok _) f
theorem d_in{Q:Value->Shared->Prop}(p:A.units+1<cLine)(I:Inv X pins σ H s)(g:DGet H a y o)(m:RelV y u)(h:∀ s',Inv X pins σ H s'->Q (.bool o.isSome) s') :
  wpAny (model X.prog X.w) A (compareOp .In u (.ref a)) Q E s:=by
 rcases g with⟨kvs,k,e,i,l⟩ | ⟨kvs,k,b,e,i,n,l⟩
 .subst i;obtain⟨z,j,vs,c,f⟩:=qcx I.hok e;show wpAny_in_of (qdD m) j f.mapOf ?_;rw[<- (c.val k).isSome_eq,<- l];show h _ (I.tok _)
 .subst i;cases (show u=Value.ref b from m);obtain⟨z,j,xs,c,f⟩:=qcU I.hok e;show wpAny_in_heap (Xf p) (qbI I.hok n) j f ?_;have q:=(c.val k).isSome_eq;rw[Xr] at q;rw[<- q,<- l];show h _ (I.tok _)
theorem d_notIn{Q:Value->Shared->Prop}(p:A.units+1<cLine)(I:Inv X pins σ H s)(g:DGet H a y o)(m:RelV y u)(h:∀ s',Inv X pins σ H s'->Q (.bool (!o.isSome)) s') :
  wpAny (model X.prog X.w) A (compareOp .NotIn u (.ref a)) Q E s:=by
 rcases g with⟨kvs,k,e,i,l⟩ | ⟨kvs,k,b,e,i,n,l⟩
 .subst i;obtain⟨z,j,vs,c,f⟩:=qcx I.hok e;show wpAny_notIn_of (qdD m) j f.mapOf ?_;rw[<- (c.val k).isSome_eq,<- l];show h _ (I.tok _)
 .subst i;cases (show u=Value.ref b from m);obtain⟨z,j,xs,c,f⟩:=qcU I.hok e;show wpAny_notIn_heap (Xf p) (qbI I.hok n) j f ?_;have q:=(c.val k).isSome_eq;rw[Xr] at q;rw[<- q,<- l];show h _ (I.tok _)
theorem qd3{c:HO}(I:Inv X pins σ H s)(h:Mut (H a))(g:Heap.SameBut a s.heap h')(f:∃ q,h'.get? a=some q)(new:ObjOk X.prog X.w (upd H a c) h' a c) :
  Inv X pins σ (upd H a c) { s with heap:=h',toks:=t' }:=
 I.write (x:=a) (e:=a) h (.inl rfl) (fun b q hb z=>(g.2 b hb).trans z) f new
theorem dk_new{kvs:List (Key×V)}{vs:List (Key×Value)}(z:kvs.length<=sizeLine)(e:(a==sysModules)=false)(b:KV kvs vs)(c:h'.DictOf (jo P w) a vs) :
  ObjOk P w H' h' a (.dK kvs):=⟨z,e,vs,b,c⟩
theorem d_setItem{Q:Unit->Shared->Prop}(N:A.units+1<cLine)(I:Inv X pins σ H s)(g:DPut H a y v H')(D:RelV y u)(C:RelV v r)(h:∀ s',Inv X pins σ H' s'->Q () s') :
  wpAny (model X.prog X.w) A (setItem (.ref a) u r) Q E s:=by
 rcases g with⟨kvs,k,e,o,l,n⟩ | ⟨kvs,k,b,e,o,x,l,n⟩
 .subst o n;obtain⟨z,p,vs,f,m⟩:=qfM I.hok e;have hz:vs.length<=sizeLine:=by rw[<- f.length];show z
  have hl:(zC kvs k v).length<=sizeLine:=by have:=ji kvs k v;omega
  show wpAny_setItem_pairs (hsz:=hz) (qdD D) m fun h' i t=>h _ ?_;have M:∃ q,h'.get? a=some q:=let ⟨q,_,_,j,_⟩:=i;⟨q,j⟩;show qd3 I (by rw[e];show YS) t M (dk_new hl p (f.put k C) i)
 .subst o n;cases (show u=Value.ref b from D);obtain⟨z,p,xs,f,m⟩:=dt_of I.hok e;have hz:xs.length<=sizeLine:=by rw[<- Paired.length f];show z
  have hl:(zC kvs k v).length<=sizeLine:=by have:=ji kvs k v;omega
  show wpAny_setItem_heap (hsz:=hz) (Xf N) (qbI I.hok x) m fun h' i t=>h _ ?_;obtain⟨q,F,ep,j,G,J,K,_,L⟩:=i;show qd3 I (by rw[e];show YS) t ⟨q,j⟩ ⟨hl,p,_,(f.put k x C).keeps fun c ys B=>?_,q,F,ep,j,G,J,K,L⟩;rw[qf (qam B e (fun z=>nomatch z))];show B
end
section
variable{X:Cx}{pins:List (Addr×Obj)}{σ:St}{H:Hp}{s:Shared}{a:Addr}{kvs:List (Key×V)}{k:Key}{u:Value}{A:Around}{E:Value->Shared->Prop}
theorem d_len{Q:Value->Shared->Prop}(I:Inv X pins σ H s)(e:Rd H a (.dK kvs))(h:∀ t s',Inv X pins σ H s'->Q (.int kvs.length t) s'):wpAny (model X.prog X.w) A (call (.builtin "len") [.ref a]) Q E s:=by
 obtain⟨z,f,vs,b,c⟩:=qcx I.hok e;show call_len_dict f c (by rw[<- b.length];rw[YD] at z;omega) ?_;rw[<- b.length];show h _ _ (I.tok _)
end
theorem dict_typeIs(I:Inv X pins σ H s)(g:DGet H a y o):s.TypeIs (.ref a) "dict":=by
 rcases g with⟨kvs,k,e,_,_⟩ | ⟨kvs,k,b,e,_,_,_⟩
 .obtain⟨_,_,vs,_,c⟩:=qcx I.hok e;show c.typeIs
 .obtain⟨_,_,xs,_,c⟩:=qcU I.hok e;show c.typeIs
section
variable{X:Cx}{o i e value:Expr}{pos pos' tpos:Pos}{td ty tv:TE}
end
theorem dk_empty(h:Heap)(hb:sysModules<h.objs.size):ObjOk P w H (h.push { cls:=.type "dict",data:=.dict #[] }) h.objs.size (.dK []):=
 ⟨YC _,Yx.mpr (Yi (yE hb)),[],.nil,Heap.DictOf.new h⟩
def tDNewK:TE:=fun _ H Q=>∀ p,H p=none->Q (.ref p) (upd H p (.dK []))
section
variable{X:Cx}{pos:Pos}
theorem jQ:PE X (.Dict [] [] pos) tDNewK:=fun pins s σ H Q I h =>
 wpAny_Dict_empty ⟨.ref s.heap.objs.size,_,I.laid (a:=s.heap.objs.size) (o:=.dK []) (t':=s.toks) (fun _ _ q=>yu _ q) (yh _) (dk_empty s.heap I.big),rfl,h _ (I.hok.fresh (yh _))⟩
end
noncomputable def mergeK(kvs a:List (Key×V)):List (Key×V):=a.foldl (fun acc b=>zC acc b.1 b.2) kvs
structure M1(X:Cx)(o:Expr)(m:Str)(apos:Pos)(e:Expr)(cpos:Pos):Prop where
 base:attributeBase o m X.env (eval o X.env)=eval o X.env
 few:((backTo cpos (starEach [e] X.env)).all (fun x=>!x.1)&&(backToKw cpos (keywordEach [] X.env)).all (fun x=>x.1.isSome)
  && decide (([e]:List Expr).length+([]:List Keyword).length+(if ([]:List Keyword).isEmpty then 0 else 1)<30))=true
 line:(apos.endLine==cpos.line)=true
 trees:backTo cpos (starEach [e] X.env)=[(false,eval e X.env)]
structure M2(X:Cx)(o:Expr)(m:Str)(apos:Pos)(e f:Expr)(cpos:Pos):Prop where
 base:attributeBase o m X.env (eval o X.env)=eval o X.env
 few:((backTo cpos (starEach [e,f] X.env)).all (fun x=>!x.1)&&(backToKw cpos (keywordEach [] X.env)).all (fun x=>x.1.isSome)
  && decide (([e,f]:List Expr).length+([]:List Keyword).length+(if ([]:List Keyword).isEmpty then 0 else 1)<30))=true
 line:(apos.endLine==cpos.line)=true
 trees:backTo cpos (starEach [e,f] X.env)=[(false,eval e X.env),(false,eval f X.env)]
def IsD(H:Hp)(a:Addr):Prop:=(∃ kvs,Rd H a (.dK kvs))\/∃ kvs,Rd H a (.dT kvs)
theorem isD_at(I:Inv X pins σ H s)(d:IsD H a) :
  s.TypeIs (.ref a) "dict"/\(∀ b,Value.ref a=.ref b->∃ c,s.heap.get? b=some c/\c.dict=none)/\(a==sysModules)=false:=by
 rcases d with⟨kvs,e⟩ | ⟨kvs,e⟩
 .obtain⟨_,h,vs,_,f⟩:=qcx I.hok e;show⟨f.typeIs,fun b q=>?_,h⟩;cases q;obtain⟨c,_,_,h1,g,_⟩:=f;show⟨c,h1,g.2.1⟩
 .obtain⟨_,h,xs,_,f⟩:=qcU I.hok e;show⟨f.typeIs,fun b q=>?_,h⟩;cases q;obtain⟨c,_,_,h1,g,_⟩:=f;show⟨c,h1,g.2.1⟩
section
variable{X:Cx}{pins:List (Addr×Obj)}{σ:St}{H:Hp}{s:Shared}{a:Addr}{y d:V}{u r:Value}{o:Option V}{A:Around}{E:Value->Shared->Prop}
theorem d_get1{Q:Value->Shared->Prop}(q:A.units+1<cLine)(I:Inv X pins σ H s)(g:DGet H a y o)(m:RelV y u)(h:∀ n s',Inv X pins σ H s'->RelV (o.getD .non) n->Q n s') :
  wpAny (model X.prog X.w) A (call (.builtin "dict.get") [.ref a,u]) Q E s:=by
 rcases g with⟨kvs,k,e,i,l⟩ | ⟨kvs,k,b,e,i,p,l⟩
 .subst i;obtain⟨z,j,vs,c,f⟩:=qcx I.hok e;show call_meetsIn ke f.typeIs PySem.F.entry_dict_get (PySem.F.args_dict_get_2 _ _) (meets_dict_get (jo X.prog X.w) a (qdD m) j) ⟨_,f.mapOf,h _ _ (I.tok _) ?_⟩;rw[l];show(c.val k).getD rfl
 .subst i;cases (show u=Value.ref b from m);obtain⟨z,j,xs,c,f⟩:=qcU I.hok e;show call_meetsIn ke f.typeIs PySem.F.entry_dict_get (PySem.F.args_dict_get_2 _ _) (meetsH_dict_get (tupleKind (jo X.prog X.w)) a b j) ⟨Xf q,k,xs,qbI I.hok p,f,h _ _ (I.tok _) ?_⟩;rw[l];show(c.val k).getD rfl
end
def qeQ(e ty:TE):TE:=fun σ H Q=>e σ H fun x b=>∃ a,x=.ref a/\IsD b a/\ty σ b fun y c=>∃ o,DGet c a y o/\Q (o.getD .non) c
def tDGet2(f ty g:TE):TE:=fun σ H Q=>f σ H fun x b=>∃ a,x=.ref a/\IsD b a/\ty σ b fun y e=>g σ e fun z c=>∃ o,DGet c a y o/\Q (o.getD z) c
section
variable{X:Cx}{o e f:Expr}{apos cpos:Pos}{td ty tx:TE}
theorem qay(q:X.A.units+1<cLine)(p:PE X o td)(n:PE X e ty)(m:M1 X o "get" apos e cpos):PE X (.Call (.Attribute o "get" apos) [e] [] cpos) (qeQ td ty):=by
 intro pins s σ H Q I h;show wpAny_Call_method m.base m.few m.line PySem.F.plainAttrs_dict ke PySem.F.type_dict_get (thn (p pins s σ H _ I h) fun u z ⟨x,f,c,v,a,ex,d,r⟩=>?_);subst ex;obtain rfl:u=Value.ref a:=v;obtain⟨B,C,_⟩:=isD_at c d;show⟨B,C,?_⟩;rw[m.trees];show XZ rfl (ko (kL (thn (n pins z σ f _ c r) fun D G ⟨y,i,j,w,E,g,t⟩=>kP ?_)));show d_get1 q j g w fun K J l b=>⟨_,i,l,b,t⟩
end
section
variable{X:Cx}{pins:List (Addr×Obj)}{σ:St}{H:Hp}{s:Shared}{a:Addr}{kvs:List (Key×V)}{A:Around}{E:Value->Shared->Prop}
end
section
variable{X:Cx}{pins:List (Addr×Obj)}{σ:St}{H:Hp}{s:Shared}{a:Addr}{y:V}{u:Value}{A:Around}{E:Value->Shared->Prop}
end
end L2
namespace Att
open PySem PySem.W PySem.Calls PyProof.Rows
variable{P:Params}{h:Heap}{l:OpenLaw}{n:Nat}
theorem ints_of_wellAll:∀(ns:List Int) (vs:List Value),WellAll P h vs (ns.map WData.int)->IntsAre vs ns:=by
 intro ns
 induction ns with
 | nil =>
  intro vs w;rw[List.map_nil] at w;cases w;show .nil
 | cons n ns ih =>
  intro vs w;rw[YH] at w
  cases w with
  | cons a b =>
   cases a;show .cons _ _ (ih _ b)
theorem script_of(p:l.most=some n){args:List WData}{c:List Value}
  (b:l.row.toRowW.claim.pre args=true) (j:WellAll P h c args) :
  ∃ a vs ns,c=[Value.ref a]/\args=[WData.list (ns.map WData.int)]/\h.get? a=some { cls:=.type "list",data:=.seq vs.toArray }/\IntsAre vs ns/\ns.length<=n:=by
 have i:WShape.hasAll [] args [.list .int]=true:=(pre_splitW b).1;have hc:l.pre.holds [] { args:=args }=true:=(pre_splitW b).2;obtain⟨d,r,rfl,h1,m⟩:=hasAllW_cons i;obtain rfl:=hasAllW_nil m;obtain⟨xs,rfl,o⟩:=hasW_list h1;obtain⟨ns,rfl⟩:=items_int o
 have e:ns.length<=n:=by
  unfold OpenLaw.pre at hc
  have f:(WTm.not (.lt (.lit (.int (n:Int))) (.len (.arg 0)))).holds [] { args:=[.list (ns.map .int)] }=true:=by
   have f:=(holds_andW hc).1;rw[p] at f;show f
  have g:=condW_of f (w_not (w_lt w_lit (w_len_list (w_arg rfl))));rw[ya] at g;show Nat.le_of_not_lt fun q=>?_;have s:(n:Int)<((ns.length:Nat):Int):=by omega
  first
   | (rw[yB s] at g;show absurd g (by decide))
   | (simp at g;omega)
 cases j with
 | cons w1 w2 =>
  cases w2
  cases w1 with
  | list ho hall=>show⟨_,_,ns,rfl,rfl,ho,ints_of_wellAll ns _ hall,e⟩
theorem post_true(l:OpenLaw)(args:List WData):l.row.toRowW.claim.post args (.bool true) args=true:=
 postW_of (r:=l.row.toRowW) (X:=(true==true))
  (show WShape.has [] (.bool true) .bool=true by first | rfl | decide | simp[WShape.has,WShape.arms,WShape.armsAll])
  (show(WTm.eq .res (.lit (.bool true))).value [] { args:=args,res:=some (.bool true),after:=args }=some (.bool (true==true)) from w_eq_bool (w_res rfl) w_lit) rfl
theorem attach_call{q:Program}{loose:List Str}{XP:(Str->Option Value)->Heap->Prop}{YP:World->Heap->Prop}{d:DefRec}
  (M:l.most=some n) (u:d.params.defaults=[])
  (call:∀(w:World) (c b:Shared) (s y:Str->Option Value) (h:Addr) (o:Obj) (z p e:Value) (a:Addr) (vs:List Value) (ns:List Int),
   Ground q loose [] XP w c s y b.heap->YP w b.heap ->
   b.heap.get? h=some o->o.data=.func (docDef d.name d.params d.body d.scope z p e)->b.heap.CodeRec p d.name->s d.name=some (.ref h) ->
   b.heap.get? a=some { cls:=.type "list",data:=.seq vs.toArray }->IntsAre vs ns->ns.length<=n->b.gens=#[] ->
   codeAny (model l.prog w) callerA (.call (.ref h) ⟨[.ref a],[]⟩) (fun r s'=>r=.ok (.ret (.bool true))/\OldK b.heap s'.heap/\s'.os=b.os/\AllBare s'.gens) b) :
  WalkO q loose XP YP l.row.toRowW d [] (fun f vs=>PySem.call f vs):=by
 intro w c b s y G Y h o z p e D kV N I t A v J args C as m B P x K;obtain rfl:D=.none:=Dflts.none A u;obtain rfl:kV=.none:=Dflts.noKw A;obtain⟨a,vs,ns,rfl,rfl,j,g,i⟩:=script_of M m x;show enter_call (Xx (call w c b s y h o z p e a vs ns G Y N (fd_plain I) t v j g i J) fun r s' O=>?_);obtain⟨rfl,E,F,H⟩:=O;show⟨.inl ⟨.bool true,.bool true,[],rfl,fun _=>rfl,.bool true,post_true l _,fun _=>⟨List.Pairwise.nil,fun _ L=>(nomatch L)⟩⟩,E,F,H⟩
section
variable{prog:Program}{w:World}{A:Around}{E:Value->Shared->Prop}{s:Shared}{K:Frag}
noncomputable def ledger(h:Heap)(L d:Addr):List (Addr×Obj):=(List.range h.objs.size).filterMap fun a=>if a=L\/a=d then none else(h.get? a).map fun o=>(a,o)
end
end Att
namespace L2
open PySem PySem.Spec PyProof.Rows
variable{A B:Prop}{H H':Hp}{a f:Addr}{fd:FuncData}{n:Nat}{ps:List Str}{qual x:Str}{sp:Sp}{st:Stmt}
theorem qcy:∀{vs:List Value} {ns:List Int},IntsAre vs ns->Vals (ns.map V.int) vs
 | _,_,.nil=>.nil
 | _,_,.cons n t h=>.cons ⟨t,rfl⟩ (qcy h)
def qgi(H:Hp):Prop:=∀ b,H b=none\/∃ o xs,H b=some (.frz o (.lst xs))
theorem law_call{P:Program}{w:World}{K:yg}{D R:Str->Option Value}{CX:CXT}{k:Nat}{J:Addr}{c:Shared}{vs:List Value}{ns:List Int}
  (T:K.In c.heap) (y:c.heap.Ns mainGlobals D) (hb:c.heap.Ns builtinsNs R) (M:∀ x:Str,x≠"__name__"->R x=bootBuiltins x) (t:c.heap.NoLimit) (hg:c.gens=#[])
  (G:c.heap.get? a=some { cls:=.type "list",data:=.seq vs.toArray }) (hi:IntsAre vs ns) (hl:ns.length<=sizeLine) (hr:Room k callerA)
  (F:∀ base:Heap,K.In base->base.Ns mainGlobals D->FnOk P w K D base CX k J fd [x] sp) (i:∀(s:Shared) (u:Value),BindsTo s fd ⟨[u],[]⟩ [(x,u)])
  (O:∀ H:Hp,qgi H->SqL K H a (ns.map V.int)->sp [.ref a] H (fun v _=>v=.bl true) fun _ _ _=>False)
  (L:∀ H e s',CX [] H c (fun _ _ _=>False) e s'->False) :
  codeAny (model P w) callerA (.call (.ref J) ⟨[.ref a],[]⟩) (fun r s'=>r=.ok (.ret (.bool true))/\OldK c.heap s'.heap/\s'.os=c.os/\AllBare s'.gens) c:=by
 have Y:=qcy hi;have C:=hi.length;have g:∀ H:Hp,qgi H->SqL K H a (ns.map V.int)->HOk P w H c.heap->(∀ b,H b≠none->b=a)->(H a≠none->K.lookup a=none) ->
   codeAny (model P w) callerA (.call (.ref J) ⟨[.ref a],[]⟩) (fun r s'=>r=.ok (.ret (.bool true))/\OldK c.heap s'.heap/\s'.os=c.os/\AllBare s'.gens) c:=by
  intro H X hS A W hK;have base_of:∀{b:Addr} {o:Obj},c.heap.get? b=some o->H b=none->(qeD c.heap H).get? b=some o:=fun e n=>hidT_get e n
  have S:∀{b:Addr} {o:Obj} {l:Array DictEntry} {ep:Nat},c.heap.get? b=some o->o.data=.dict l ep->H b=none:=fun{b o l ep} e d=>by
   cases q:H b with
   | none=>rfl
   | some u =>
    have I:b=a:=W b (by rw[q];simp);subst I;rw[G] at e;cases e;have d':Data.seq vs.toArray _=Data.dict l ep:=d;cases d'
  have f:∀{b:Addr} {m:Str->Option Value},c.heap.Ns b m->(qeD c.heap H).Ns b m:=fun{b m} ⟨o,l,ep,e,d,r⟩=>⟨o,l,ep,base_of e (S e d),d,r⟩
  have p:K.In (qeD c.heap H):=fun b o e=>base_of (T b o e) (by
   cases q:H b with
   | none=>rfl
   | some u =>
    have I:b=a:=W b (by rw[q];simp);subst I;rw[hK (by rw[q];simp)] at e;cases e)
  have hM:Mod K D (qeD c.heap H):=⟨p,f y,⟨R,f hb,M⟩,let ⟨mc,h1,h2⟩:=t;⟨mc,f h1,h2⟩⟩;have Z:Env0 P w K D (qeD c.heap H) callerA [] c H:=⟨rfl,hM,fun b o e=>of_hidT e,XW (hidT_size _ _),trivial,fun b hb=>absurd (show b∈([]:List Addr) from hb) (by simp),A,.of_eq hg⟩;show Xx ((F _ p (f y)).run callerA [] c H ⟨[.ref a],[]⟩ [.ref a] [.ref a] _ _ hr Z (i c (.ref a)) (.cons rfl .nil) (O H X hS)) fun r s' h=>?_
  cases r with
  | error e=>show(L H e s' h).elim
  | ok fl =>
   cases fl with
   | next=>show False.elim h
   | brk=>show False.elim h
   | cont=>show False.elim h
   | ret u =>
    obtain⟨v,H',os,j,un,B,r',q⟩:=h;have q':v=.bl true:=q;subst q';obtain rfl:u=Value.bool true:=r';show⟨rfl,OldK.of_keep fun b o e=>?_,os,j⟩
    cases q:H b with
    | none=>show un.keep b o e q (by intro z;show absurd (show b∈([]:List Addr) from z) (by simp)) (by simp)
    | some u =>
     rcases X b with z | ⟨ob,xs,z⟩
     .rw [q] at z;cases z
     .have z2:=un.frzs b ob _ z;obtain⟨U,_⟩:=A b _ z;obtain⟨e2,_⟩:=B b _ z2;rw[e] at U;cases U;show e2
 cases N:K.lookup a with
 | some o =>
  have e:=T a o N;rw[G] at e;cases e;show g (fun _=>none) (fun _=>.inl rfl) (.inr ⟨_,vs.toArray,_,N,rfl,rfl,rfl,by rw[yz,C];show hl,by simpa using Y⟩) (fun b u z=>by have E:(none:Option HO)=some u:=z;cases E) (fun b z=>absurd rfl z) fun z=>absurd rfl z
 | none =>
  show g (fun b=>if b=a then some (.frz { cls:=.type "list",data:=.seq vs.toArray } (.lst (ns.map V.int))) else none) (fun b=>?_) (.inl (.inr ⟨{ cls:=.type "list",data:=.seq vs.toArray },yG rfl⟩)) (fun b u z=>?_) (fun b z=>?_) fun _=>N
  .by_cases hb:b=a
   .show .inr ⟨_,_,yG hb⟩
   .show .inl (yD hb)
  .by_cases hb:b=a
   .have E:=(yG hb).symm.trans z;cases E;subst hb;show⟨G,by rw[ya];show hl,vs,_,Y,G⟩
   .have E:=(yD hb).symm.trans z;cases E
  .by_cases hb:b=a
   .show hb
   .show absurd (yD hb) z
noncomputable abbrev KOf{K:yg}{h:Heap}(_:K.In h):yg:=K
theorem walk_of{l:PySem.W.OpenLaw}{k:Nat}{q:Program}{loose:List Str}{XP:(Str->Option Value)->Heap->Prop}{YP:World->Heap->Prop}{d:DefRec}{K:Params->yg}{CX:World->CXT}{sp:World->Sp}
  (P:l.most=some n) (A:n<=sizeLine) (y:d.params.defaults=[]) (R:Room k callerA)
  (M:∀(w:World) (h:Heap),YP w h->(K w.params).In h)
  (F:∀(w:World) (j:Str->Option Value) (r:Addr) (h:Heap),(K w.params).In h->h.Ns mainGlobals j->j d.name=some (.ref r) ->
   ∃ fd:FuncData,(∀(s:Shared) (u:Value),BindsTo s fd ⟨[u],[]⟩ [(x,u)]) /\
    ∀ base:Heap,(K w.params).In base->base.Ns mainGlobals j->FnOk l.prog w (K w.params) j base (CX w) k r fd [x] (sp w))
  (B:∀(w:World) (H:Hp) (a:Addr) (ns:List Int),ns.length<=n->qgi H->SqL (K w.params) H a (ns.map V.int)->sp w [.ref a] H (fun v _=>v=.bl true) fun _ _ _=>False)
  (t:∀(w:World) (H:Hp) (s:Shared) (e:Value) (s':Shared),CX w [] H s (fun _ _ _=>False) e s'->False) :
  PySem.W.WalkO q loose XP YP l.row.toRowW d [] (fun f vs=>PySem.call f vs):=by
 show Att.attach_call P y fun w D p j Z r o pm S E a vs ns G Y X U N z m i c O=>?_;have C:=M w _ Y;obtain⟨fd,hb,I⟩:=F w j r _ C G.T.g z;show law_call C G.T.g G.T.b G.T.builtins G.T.nolimit O m i (yi c A) R I hb (fun H J L=>B w H a ns c J L) fun H e s'=>t w H p e s'
abbrev CX0:CXT:=fun _ _ _ _ _ _=>False
abbrev E0:XK:=fun _ _ _=>False
theorem qC{X:Cx}:zU CX0 X E0:=fun _ _ _ _ _ _ _ h=>h.elim
structure Fun(K:yg)(x qual:Str)(st:Stmt)(f:Addr)(fd:FuncData):Prop where
 ex:∃(oc:Value) (od:Option Addr) (kV doc pm:Value) (an:Option Addr) (cdv ct:Value) (osl:Array (Option Value)),
  fd=PySem.W.fnOf x qual (qao st) (zD st) (qh st) .none kV doc pm an cdv ct/\K.lookup f=some ⟨oc,od,.func fd,osl⟩/\PySem.W.codeIn K cdv qual=true
 kp:PySem.W.keepIn K (.ref f)=true
section
variable{P:Program}{w:World}{K:yg}{mg:Str->Option Value}{base:Heap}
theorem Fun.ok{N:List Str}{k:Nat}(F:Fun K x qual st f fd)(S:FnScope N ps (qh st)) (c:∀(b:Value) (A:Around) (a:List Env) (s:Shared) (H:Hp) (vs:List V) (Q:VK) (E:XK),Room k (A.deeper (envOfC qual (qh st) s.heap.objs.size f b))->sp vs H Q E ->
   ∃ t,PSs (qeO CX0 P w K mg base N qual (qh st) f b A a s H E).nox (zD st) t/\t { nx:=fun _ H'=>Q .non H',rt:=Q } (start N vs) H) (i:∀ vs H Q E,sp vs H Q E->vs.length=ps.length:=by intro _ _ _ _ h;cases h;subst_vars;rfl):FnOk P w K mg base CX0 (k+1) f fd ps sp:=by
 obtain⟨p,od,kV,j,r,o,b,ct,n,rfl,m,e⟩:=F.ex;show qfI m e S i fun A a s H vs Q E l g=>?_;obtain⟨t,h,q⟩:=c b A a s H vs Q E l g;show⟨t,h.nox,q⟩
theorem Fun.binds(F:Fun K x qual st f fd)
  (h:∀(kV b e:Value) (c:Option Addr) (a ct:Value) (us:List Value),us.length=ps.length->bindArgs (PySem.W.fnOf x qual (qao st) (zD st) (qh st) .none kV b e c a ct) ⟨us,[]⟩=pure (ps.zip us)):Binds K fd ps []:=by
 obtain⟨l,od,kV,b,e,c,a,ct,i,rfl,j,g⟩:=F.ex;show .all (h kV b e c a ct)
theorem fun_mk{i:Value}{od g:Option Addr}{e:Array (Option Value)}{kV b h a ct:Value}(l:K.lookup f=some ⟨i,od,.func (PySem.W.fnOf x qual (qao st) (zD st) (qh st) .none kV b h g a ct),e⟩)
  (c:PySem.W.codeIn K a qual=true) (k:PySem.W.keepIn K (.ref f)=true):Fun K x qual st f (PySem.W.fnOf x qual (qao st) (zD st) (qh st) .none kV b h g a ct):=⟨⟨i,od,kV,b,h,g,a,ct,e,rfl,l,c⟩,k⟩
end
theorem qi(h:n<=1000):n<sizeLine:=Yp h (by decide)
section
variable{X:Cx}
theorem pv(i:Nat){b:Pos}(c:X.N[i]?=some x:=by rfl)(hv:Vis X.env.scope x:=by first | show yL rfl | show kN (yL rfl) | show kN (kN rfl))(e:(x==("__debug__":Str))=false:=by decide)
  (a:(x==("__classdict__":Str))=false:=by decide):PE X (.Name x b) (qge i):=pe_var c hv e a
theorem call_lenD:zT X (.builtin "len") (fun xs H Q=>∃ a kvs,xs=[V.ref a]/\H a=some (.dK kvs)/\Q (.int kvs.length) H):=by
 intro b s g H xs us Q I r h;obtain⟨a,kvs,rfl,e,q⟩:=h;obtain⟨u,rfl,f⟩:=qbk r;cases f;show d_len I (.inl e) fun t s' c=>⟨.int kvs.length,H,c,⟨t,rfl⟩,q⟩
end
theorem zE(h:A):if true=true then A else B:=by
 rw[yG rfl];show h
theorem qP{c:Prop}[Decidable c](h1:c->A)(a:¬ c->B):if c then A else B:=by
 by_cases h:c
 .rw [yG h];show h1 h
 .rw [yD h];show a h
def Same(H H':Hp):Prop:=∀ b o,H b=some o->H' b=some o
theorem Same.refl(H:Hp):Same H H:=fun _ _ h=>h
theorem Same.trans{e f:Hp}(a:Same H e)(b:Same e f):Same H f:=fun c o h=>b c o (a c o h)
theorem Same.free(e:Same H H'){l:Addr}(h:H' l=Option.none):H l=Option.none:=by
 cases q:H l with
 | none=>rfl
 | some o =>
  rw[e l o q] at h;cases h
theorem Same.seq{K:yg}{xs:List V}(e:Same H H')(h:SqL K H a xs):SqL K H' a xs:=by
 rcases h with(h | ⟨o,h⟩) | h
 .show .inl (.inl (e _ _ h))
 .show .inl (.inr ⟨o,e _ _ h⟩)
 .show .inr h
section
variable{κ:Type}[DecidableEq κ]
end
end L2
set_option maxHeartbeats 4000000
namespace L2
open PySem PySem.Spec PyProof.Rows
variable{A:Around}{C D a a0 c e f it p:Addr}{E:Value->Shared->Prop}{H H':Hp}{M:Model}{N ps:List Str}{P prog:Program}{QO:Option Int->Hp->Prop}{R:It->Hp->Prop}{T:String}{X:Cx}{acc:List (Str×Addr)}{b expr:Bool}{dx:Option Addr}{elt iter tg:Expr}{env:Env}{fd:FuncData}{fl t u:Value}{fp zs:List Addr}{g:TG}{h h':Heap}{i j:Int}{ifs:List Expr}{its l us:List Value}{ixs:List Nat}{n nl:Nat}{names:List (Str×NameKind)}{od:Option Obj}{ox:Obj}{pins:List (Addr×Obj)}{pl:Sem Bool}{pos:Pos}{qual x z:Str}{s:Shared}{sc scope:Scope}{sp:Sp}{tc:TT}{te:TE}{tk:Tok}{v y:V}{vs:Array Value}{w:World}{wi:TI}{xs ys:List V}{σ:St}
section
variable{prog:Program}{w:World}{A:Around}{R:Result->Shared->Prop}{s:Shared}
theorem compLoop_own{a:Expr}{it acc:Value}(I:Nat->Shared->Prop)
  (turn:∀ n s,I n s->wpAny (model prog w) A (pyNext it) (fun r f=>match r with
   | none=>R (.ok .next) f
   | some v=>wpAny (model prog w) A (letOwnedTupleGo a it v) (fun _ b=>wpAny (model prog w) A (assign a env v) (fun _ j =>
     wpAny (model prog w) A (forIn ifs true fun c r=>if r=true then do let ok <- isTrue c env (eval c env);pure (ForInStep.yield ok) else pure (ForInStep.yield r)) (fun ok g =>
      if ok=true then wpAny (model prog w) A (eval elt env) (fun x l =>
       wpAny (model prog w) A (call (.builtin "list.append") [acc,x]) (fun _ o=>∃ m,m<n/\I m o) (fun _ _=>False) l) (fun _ _=>False) g
      else ∃ m,m<n/\I m g) (fun _ _=>False) j) (fun _ _=>False) b) (fun _ _=>False) f) (fun _ _=>False) s)
  (n:Nat) (h:I n s) :
  codeAny (model prog w) A (.compLoop (.ListComp elt [⟨a,iter,ifs,0⟩] scope pos) 0 it acc env) R s:=by
 show codeAny_loop rfl I (fun n s u=>?_) n h;show wpAny _ A ((compTurn (.ListComp elt [⟨a,iter,ifs,0⟩] scope pos) 0 it acc env).onRaise (fun x=>do noteFrame x env;theTreesLotGoes x)) _ _ s;show wpAny_noted ?_;rw[compTurn_list];show yr (XD (yr (YB (turn n s u) (fun r f h1=>?_) fun _ _ h'=>h'.elim)))
 cases r with
 | none=>show yw h1
 | some v =>
  show yr (YB h1 (fun _ b e=>?_) fun _ _ h'=>h'.elim);show yr (YB e (fun _ j p=>yr (YB p (fun ok g i=>?_) fun _ _ h'=>h'.elim)) fun _ _ h'=>h'.elim)
  cases ok with
  | false=>show yw ⟨rfl,i⟩
  | true =>
   show yr (yr (YB i (fun x l q=>yr (YB q (fun _ o t=>yw (yw ⟨rfl,t⟩)) fun _ _ h'=>h'.elim)) fun _ _ h'=>h'.elim))
end
noncomputable def qO(env:Env):List (Str×NameKind)->List (Str×Addr)->List (Str×Addr)
 | [],acc=>acc
 | (n,k)::r,acc=>qO env r (if (k==.free)=true then(n,(env.cells.lookup n).getD 0)::acc else acc)
theorem zF:∀{names:List (Str×NameKind)} {acc:List (Str×Addr)} {x:Str} {c:Addr},(qO env names acc).lookup x=some c ->
  ((x,NameKind.free)∈names/\c=(env.cells.lookup x).getD 0)\/acc.lookup x=some c
 | [],_,_,_,h=>.inr h
 | (n,k)::r,acc,x,c,h=>by
  unfold qO at h;rcases zF h with⟨h1,g⟩ | h1
  .show .inl ⟨yx _ h1,g⟩
  .by_cases a:(k==NameKind.free)=true
   .rw [yG a,x0] at h1
    cases b:x==n with
    | true =>
     rw[b] at h1;have e:x=n:=Yn.mp b;have f:k=.free:=Yn.mp a;subst e f;show .inl ⟨yI,(ym h1).symm⟩
    | false =>
     rw[b] at h1;show .inr h1
   .rw [yD a] at h1;show .inr h1
theorem qaz:∀{names:List (Str×NameKind)} {acc:List (Str×Addr)} {x:Str},(∃ c,acc.lookup x=some c)->∃ c,(qO env names acc).lookup x=some c
 | [],_,_,h=>h
 | (n,k)::r,acc,x,h=>by
  unfold qO;apply qaz;by_cases a:(k==NameKind.free)=true
  .rw [yG a,x0]
   cases b:x==n with
   | true=>show⟨_,rfl⟩
   | false=>show h
  .rw [yD a];show h
theorem zG:∀{names:List (Str×NameKind)} {acc:List (Str×Addr)} {x:Str},(x,NameKind.free)∈names->∃ c,(qO env names acc).lookup x=some c
 | [],_,_,h=>by cases h
 | (n,k)::r,acc,x,h=>by
  unfold qO;rcases yv.mp h with e | e
  .cases e;apply qaz;rw[show(NameKind.free==NameKind.free)=true from rfl,yG rfl,x0,xz];show⟨_,rfl⟩
  .show zG e
theorem qaA(h:∀ n,(n,NameKind.free)∈scope.names->∃ c,env.cells.lookup n=some c):closureFor scope env=pure (qO env scope.names []):=by
 have g:∀(names:List (Str×NameKind)) (acc:List (Str×Addr)),(∀ n,(n,NameKind.free)∈names->∃ c,env.cells.lookup n=some c) ->
   (forIn names acc (fun(x:Str×NameKind) (r:List (Str×Addr))=>(if (x.2==NameKind.free)=true then(cellOf env x.1>>=fun c=>pure (ForInStep.yield ((x.1,c)::r))) else pure (ForInStep.yield r):Sem (ForInStep (List (Str×Addr))))))=(pure (qO env names acc):Sem (List (Str×Addr))):=by
  intro names
  induction names with
  | nil=>intro acc _;rfl
  | cons x r ih =>
   intro acc f;obtain⟨n,k⟩:=x;rw[Ko];unfold qO;by_cases a:(k==NameKind.free)=true
   .have i:k=.free:=Yn.mp a;subst i;obtain⟨c,hc⟩:=f n yI;have j:cellOf env n=pure c:=by unfold cellOf;rw[hc]
    simp only[a,XH,j,hc,Option.getD_some];show ih _ fun m b=>f m (yx _ b)
   .simp only[a,Xj];show ih _ fun m b=>f m (yx _ b)
 have e:=g scope.names [] h;unfold closureFor;show Eq.trans (congrArg (fun m=>m>>=pure) e) rfl
@[reducible] noncomputable def Cx.comp(X:Cx)(N:List Str)(scope:Scope)(C:Addr)(s0:Shared)(H0:Hp)(ex:List Addr):Cx where
 prog:=X.prog
 w:=X.w
 K:=X.K
 mg:=X.mg
 base:=X.base
 A:=X.A
 N:=N
 s₀:=s0
 H₀:=H0
 env:=compEnvC scope (cellsFrom (C+1) scope.names (qO X.env scope.names [])) C X.env
 outer:=X.stack
 stack:=X.stack
 ex:=ex
 fn:=fun x=>scope.names.lookup x==some NameKind.cell
 calm:=X.calm
 pn:=[]
 xe:=fun _ _=>False
theorem jq:∀(names:List (Str×NameKind)) (n:Nat) (acc:List (Str×Addr)),cellsFrom n names acc=cellsFrom n names []++acc
 | [],_,_=>rfl
 | (m,k)::r,n,acc=>by
  unfold cellsFrom;split
  .rw [jq r (n+1) ((m,n)::acc),jq r (n+1) [(m,n)],Yk];rfl
  .show jq r n acc
theorem qaB:∀{names:List (Str×NameKind)} {n:Nat} {x:Str},(x,NameKind.cell)∈names->∃ c,(cellsFrom n names []).lookup x=some c
 | (m,k)::r,n,x,h=>by
  unfold cellsFrom;rcases yv.mp h with e | e
  .cases e;rw[yG (show(NameKind.cell==NameKind.cell)=true from rfl),jq,xB]
   cases q:(cellsFrom (n+1) r []).lookup m with
   | some c=>show⟨c,rfl⟩
   | none=>show⟨n,by show List.lookup m [(m,n)]=some n;rw[x0,xz]⟩
  .split
   .rw [jq,xB];obtain⟨c,hc⟩:=qaB (n:=n+1) e;show⟨c,by rw[hc];rfl⟩
   .show qaB e
theorem qbn:∀{names:List (Str×NameKind)} {n:Nat} {x:Str} {c:Addr},(x,c)∈cellsFrom n names []->(x,NameKind.cell)∈names
 | (m,k)::r,n,x,c,h=>by
  unfold cellsFrom at h;split at h
  .rename_i hk
   rw[jq] at h;rcases yA.mp h with z | z
   .show yx _ (qbn z)
   .have e:(x,c)=(m,n):=yy.mp z;cases e;rw[Yn.mp hk];show yI
  .show yx _ (qbn h)
theorem qbo(h:(cellsFrom n names acc).lookup x=some c):(x,c)∈cellsFrom n names []\/acc.lookup x=some c:=by
 rw[jq,xB] at h
 cases e:(cellsFrom n names []).lookup x with
 | some d=>rw[e] at h;cases h;show .inl (mem_of_lookup e)
 | none=>rw[e] at h;show .inr h
theorem cells_some(h:(x,NameKind.cell)∈names\/∃ c,acc.lookup x=some c):∃ c,(cellsFrom n names acc).lookup x=some c:=by
 rw[jq,xB]
 cases e:(cellsFrom n names []).lookup x with
 | some d=>show⟨d,rfl⟩
 | none =>
  rcases h with z | ⟨c,hc⟩
  .obtain⟨d,a⟩:=qaB (n:=n) z;rw[e] at a;cases a
  .show⟨c,hc⟩
section
variable{M:Model}{A:Around}{E:Value->Shared->Prop}{s:Shared}
theorem newEnvK{c:Addr}{b:List (Str×Addr)}{g:Option Addr}{f:Value}{e:Env}{a:Addr}{Q:Env->Shared->Prop}
  (j:Q (newEnv scope s.heap.objs.size c (cellsFrom (s.heap.objs.size+1) scope.names b) qual g f (some e) a) { s with heap:=pushCells (s.heap.push { cls:=.type "dict",data:=.dict #[] }) scope.names }) :
  wpAny M A (newFunctionEnv scope c b [] qual g f (some e) a) Q E s:=by
 simp only[newFunctionEnv,XS,XH];show yr (wpAny_alloc ?_);show yr (wpAny_layCells _ (fun name kind h=>by cases i:kind==NameKind.cell<;>simp[i]) _ _ _ _ ?_);rw[show({ s with heap:=s.heap.push { cls:=.type "dict",data:=.dict #[] } }:Shared).heap.objs.size=s.heap.objs.size+1 from YW ..];rw[Ks];show yr (yw (yw j))
end
structure CompOk(sc scope:Scope):Prop where
 kind:scope.kind=.function
 cel:∀ y∈scope.names,y.2=.cell->scope.names.lookup y.1=some .cell
 loc:∀ y∈scope.names,y.2=.local->scope.names.lookup y.1=some .local
 free:∀ y∈scope.names,y.2=.free->sc.names.lookup y.1=some .cell\/sc.names.lookup y.1=some .free
 once:∀ y∈scope.names,y.2=.free->scope.names.lookup y.1=some .free
noncomputable def qeG(sc scope:Scope):Bool:=decide (scope.kind=.function)&&scope.names.all fun y=>match y.2 with
 | .local=>scope.names.lookup y.1==some .local
 | .free=>(sc.names.lookup y.1==some .cell||sc.names.lookup y.1==some .free)&&scope.names.lookup y.1==some .free
 | .cell=>scope.names.lookup y.1==some .cell
 | _=>true
theorem qdg(h:qeG sc scope=true):CompOk sc scope:=by
 unfold qeG at h;rw[yY] at h;have b:=YM.mp h.2;show⟨yk h.1,fun y a e=>?_,fun y a e=>?_,fun y a e=>?_,fun y a e=>?_⟩
 .have:=b y a;rw[e] at this;show Yn.mp this
 .have:=b y a;rw[e] at this;show Yn.mp this
 .have:=b y a;rw[e,yY,kz] at this;show this.1.imp Yn.mp Yn.mp
 .have:=b y a;rw[e,yY] at this;show Yn.mp this.2
noncomputable def qgj(nl:Nat)(ixs:List Nat)(N XN:List Str)(names:List (Str×NameKind)):Bool:=(List.range ixs.length).all fun k=>match ixs[k]?,N[nl+k]? with
 | some j,some x=>XN[j]?==some x&&names.any fun y=>y.1==x&&y.2==.free
 | _,_=>true
theorem qd4{XN:List Str}(h:qgj nl ixs N XN names=true)(k j:Nat)(x:Str)(h1:ixs[k]?=some j)(c:N[nl+k]?=some x):XN[j]?=some x/\(x,NameKind.free)∈names:=by
 have f:k<ixs.length:=(yc.mp h1).1;have:=YM.mp h k (xX.mpr f);rw[h1,c] at this;simp only[yY] at this;show⟨Yn.mp this.1,?_⟩;obtain⟨⟨n,i⟩,g,e⟩:=Y9.mp this.2;rw[yY] at e;have a:n=x:=Yn.mp e.1;have b:i=.free:=Yn.mp e.2;subst a b;show g
noncomputable def qdK(nl:Nat)(ixs:List Nat)(σ:St):St:=List.replicate nl none++ixs.map fun j=>(σ[j]?).getD none
theorem capS_len(nl:Nat)(ixs:List Nat)(σ:St):(qdK nl ixs σ).length=nl+ixs.length:=by
 unfold qdK;rw[yt,YN,ya]
theorem qdh{i:Nat}(h:(qdK nl ixs σ)[i]?=some (some v)):nl<=i/\∃ j,ixs[i-nl]?=some j/\σ[j]?=some (some v):=by
 unfold qdK at h;by_cases hi:i<nl
 .rw [yV (by rw[YN];show hi),xZ] at h;split at h<;>cases h
 .rw [yJ (by rw[YN];omega),YN,yd] at h;show⟨by omega,?_⟩
  cases e:ixs[i-nl]? with
  | none=>rw[e] at h;cases h
  | some j =>
   rw[e] at h;have h':(σ[j]?).getD none=some v:=ym h
   cases q:σ[j]? with
   | none=>rw[q] at h';cases h'
   | some u =>
    rw[q] at h';show⟨j,rfl,by rw[q];show congrArg some h'⟩
noncomputable def qeH(env:Env)(y:Str×NameKind):Str×NameKind:=if (y.2==NameKind.free&&env.scope.kind==.function&&env.kindOf y.1==some .cell)=true then(y.1,NameKind.cell) else(y.1,y.2)
theorem relF_fst(env:Env)(y:Str×NameKind):(qeH env y).1=y.1:=by unfold qeH;split<;>rfl
theorem relF_snd(env:Env)(y:Str×NameKind):(qeH env y).2=y.2\/((qeH env y).2=.cell/\y.2=.free):=by
 unfold qeH;split
 .rename_i h
  rw[yY,yY] at h;show .inr ⟨rfl,Yn.mp h.1.1⟩
 .show .inl rfl
theorem zh:∀{names:List (Str×NameKind)} {x:Str} {k:NameKind},(names.map (qeH env)).lookup x=some k->∃ b,names.lookup x=some b/\(x,b)∈names/\(k=b\/(k=.cell/\b=.free))
 | [],_,_,h=>by cases h
 | (n,k1)::r,x,k,h=>by
  rw[YH,show qeH env (n,k1)=((qeH env (n,k1)).1,(qeH env (n,k1)).2) from rfl,x0,relF_fst] at h;rw[x0]
  cases c:x==n with
  | true =>
   have e:x=n:=Yn.mp c;subst e;have a:(x==(x,k1).1)=true:=c;rw[a] at h;have h':=ym h;show⟨k1,rfl,yI,?_⟩;rcases relF_snd env (x,k1) with z | ⟨z1,z2⟩
   .show .inl (h'.symm.trans z)
   .show .inr ⟨h'.symm.trans z1,z2⟩
  | false =>
   have a:(x==(n,k1).1)=false:=c;rw[a] at h;obtain⟨b,f,g,i⟩:=zh h;show⟨b,f,yx _ g,i⟩
section
variable{X:Cx}{pins:List (Addr×Obj)}{σ:St}{H:Hp}{s:Shared}
theorem comp_free_of{b:List (Str×Addr)}(h:(compEnvC scope b C X.env).kindOf x=some .cell\/(compEnvC scope b C X.env).kindOf x=some .free):(x,NameKind.cell)∈scope.names\/(x,NameKind.free)∈scope.names:=by
 rcases h with h | h
 .obtain⟨c,_,a,e | ⟨_,e⟩⟩:=zh (env:=X.env) (names:=scope.names) h
  .rw [<- e] at a;show .inl a
  .rw [e] at a;show .inr a
 .obtain⟨c,_,a,e | ⟨e,_⟩⟩:=zh (env:=X.env) (names:=scope.names) h
  .rw [<- e] at a;show .inr a
  .cases e
theorem Inv.comp{S:Obj}{h1:Heap}{tk:Nat}(I:Inv X pins σ H s)(O:CompOk X.env.scope scope)
  (hN:N.length=nl+ixs.length) (G:∀(k j:Nat) (x:Str),ixs[k]?=some j->N[nl+k]?=some x->X.N[j]?=some x/\(x,NameKind.free)∈scope.names)
  (M:∀ b∈fp,qcS X pins H b) (J:∀ b∈fp,b<s.heap.objs.size) (L:s.heap.objs.size<=C) (W:s.heap.objs.size<=D) (Y:D≠C) (ac:h1.Ns C fun _=>none) (k:∀ b o,s.heap.get? b=some o->h1.get? b=some o)
  (ad:h1.get? D=some S) (aa:∀ v,S.data≠.cell v) (B:CellsOk h1 (C+1) (cellsFrom (C+1) scope.names [])):Inv (X.comp N scope C s H fp) [(D,S)] (qdK nl ixs σ) H { s with heap:=h1,toks:=tk }:=by
 have a:∀ x c,(qO X.env scope.names []).lookup x=some c->X.env.cells.lookup x=some c/\(x,NameKind.free)∈scope.names:=fun x c h=>by
  rcases zF h with⟨h1,K⟩ | h1
  .obtain⟨F,l⟩:=I.ok.has x (by
    rcases O.free _ h1 rfl with z | z
    .show .inl z
    .show .inr z)
   rw[l] at K;show⟨by rw[l,K];rfl,h1⟩
  .cases h1
 have big:∀ c:Addr,C+1<=c->s.heap.objs.size<=c:=fun c h=>yi L (Nat.le_of_succ_le h);have R:∀{P:Prop} {c:Addr},C+1<=c->c<s.heap.objs.size->P:=fun h g=>absurd (yj g (big _ h)) (Yy _)
 have all:∀ x c,(cellsFrom (C+1) scope.names (qO X.env scope.names [])).lookup x=some c->((x,c)∈cellsFrom (C+1) scope.names []/\C+1<=c/\h1.IsCell c none)\/(X.env.cells.lookup x=some c/\c<s.heap.objs.size):=fun x c h=>by
  rcases qbo h with z | z
  .show .inl ⟨z,(B.empty _ _ z).2,(B.empty _ _ z).1⟩
  .obtain⟨_,q⟩:=I.cell x c (a x c z).1;show .inr ⟨(a x c z).1,q.lt⟩
 show⟨⟨I.ok.mod,O.kind,I.ok.glob,I.ok.blt,L,fun x y c h1 K=>?inj,fun x hx=>cells_some ((comp_free_of hx).imp id zG),fun x c z h=>?cab,I.ok.hd,I.ok.frames,.inl rfl,
   fun b hb=>⟨yE (yj (J b hb) L),fun x c e=>?exf⟩,I.bs,yi I.ok.bsz I.sz,fun b o e hb=>?_,fun b hb z=>?_,I.stack,I.stkFree⟩,
  rfl,I.bare,Un.kept k,⟨_,ac,fun i x v e1 e2 e3=>?_⟩,fun x c e=>?_,I.hok.fresh L,fun x c e=>?fre,fun p hp=>?_,I.hok.kept k,?_⟩
 case inj =>
  rcases all x c h1 with⟨r,f,_⟩ | ⟨r,f⟩<;>rcases all y c K with⟨T,U,_⟩ | ⟨T,U⟩
  .show name_of_addr B.apart r T
  .show R f U
  .show R U f
  .show I.ok.inj x y c r T
 case cab =>
  rcases all x c h with⟨_,f,_⟩ | ⟨r,f⟩
  .show big _ f
  .exfalso;obtain⟨d,E⟩:=qaB (n:=C+1) (mem_of_lookup (Yn.mp z));have h:(cellsFrom (C+1) scope.names (qO X.env scope.names [])).lookup x=some c:=h;rw[jq,xB,E] at h;cases h;show R (B.empty _ _ (mem_of_lookup E)).2 f
 case exf =>
  rcases all x c e with⟨_,f,_⟩ | ⟨r,_⟩
  .show fun z=>R f (by rw[z];show J b hb)
  .show(M b hb).2.2.2.2.1 x c r
 case fre =>
  rcases all x c e with⟨_,f,_⟩ | ⟨r,_⟩
  .show I.hok.fresh (big _ f)
  .show I.freeC x c r
 .rcases(M b hb).2.2.2.1 with z | z
  .show I.ok.noex b o e z
  .have:=(I.ok.bs b o e).1;show absurd (yj (yH this) z) (Yy _)
 .rcases yv.mp (I.stkSub b z) with e | e
  .show(M b hb).2.1 e
  .show(M b hb).2.2.1 e
 .obtain⟨hi,j,hj,hv⟩:=qdh e2;obtain⟨hx,t⟩:=G (i-nl) j x hj (by rw[Nat.add_sub_cancel' hi];show e1);obtain⟨m,hn,hl⟩:=I.loc;have B:=O.free _ t rfl
  obtain⟨u,ru,lk⟩:=hl j x v hx hv (by
   rcases B with z | z
   .show .inr (.inl z)
   .show .inr (.inr z))
  show⟨u,ru,?_⟩;rcases lk with⟨ab,_⟩ | ⟨_,c,hc,A⟩
  .have w:X.env.scope.names.lookup x=some .local:=ab;rcases B with z | z<;>· rw[z] at w;cases w
  .obtain⟨F,l⟩:=zG (env:=X.env) (acc:=[]) t
   have e:F=c:=by
    have:=(a x F l).1;rw[hc] at this;show(ym this).symm
   subst e
   have Z:(cellsFrom (C+1) scope.names (qO X.env scope.names [])).lookup x=some F:=by
    rw[jq,xB]
    cases q:(cellsFrom (C+1) scope.names []).lookup x with
    | none=>show l
    | some d=>have:=O.cel _ (qbn (mem_of_lookup q)) rfl;rw[O.once _ t rfl] at this;cases this
   show .inr ⟨?_,F,Z,?_⟩
   .rcases e3 with z | z | z
    .obtain⟨k0,z3,_,e | ⟨e,_⟩⟩:=zh (env:=X.env) (names:=scope.names) z
     .rw [O.once _ t rfl] at z3;cases z3;cases e
     .cases e
    .show .inl z
    .show .inr z
   .obtain⟨o,ho,E⟩:=A;show⟨o,k _ _ ho,E⟩
 .rcases all x c e with⟨_,_,a3⟩ | ⟨r,_⟩
  .show⟨none,a3⟩
  .obtain⟨v,o,ho,E⟩:=I.cell x c r;show⟨v,o,k _ _ ho,E⟩
 .have e:p=(D,S):=by simpa using hp
  subst e;show⟨ad,I.hok.fresh W,Y,fun z=>?_,aa⟩;rcases yv.mp (I.stkSub D z) with e | e
  .show absurd (show X.env.locals<D from yj I.lt W) (by rw[e];show Yy _)
  .show I.nofs W e
 .show(qdK nl ixs σ).length=N.length;rw[capS_len,hN]
theorem Inv.compBack{s':Shared}{j:St}(I:Inv X pins σ H s)(h:∀ b∈fp,qcS X pins H b)(t:s.heap.objs.size<=C)(l:s.heap.objs.size<=D)
  (J:Inv (X.comp N scope C s H fp) [(D,{ cls:=.type "list",data:=.seq its.toArray n })] j H' s') (hv:Vals ys its) (hz:ys.length<=sizeLine):Inv X pins σ (upd H' D (.lst ys)) s':=by
 obtain⟨r,g,p,_,_⟩:=J.pin (D,{ cls:=.type "list",data:=.seq its.toArray n }) (yN _ (yy.mpr rfl));have i:∀ b o,s.heap.get? b=some o->b≠D:=fun b o e=>yE (yj (yH e) l);have a:=J.base;show I.call' (ch:=fp) J.os ⟨a.keep,a.slot,fun b o e n m=>?_,a.there,fun b xs e=>?_,fun b o u e=>?_,fun b ps e=>?_⟩ (fun b u e=>?_) J.bare fun b hb=>⟨(h b hb).2.2.2.1,(h b hb).2.1,(h b hb).2.2.2.2.1,(h b hb).2.2.2.2.2⟩
 .rw [qf (i b o e)];show a.free b o e n m
 .have q:=a.tups b xs e;rw[qf (qK q g)];show q
 .have q:=a.frzs b o u e;rw[qf (qK q g)];show q
 .obtain⟨f,q⟩:=a.tbls b ps e;show⟨f,by rw[qf (qK q g)];show q⟩
 .by_cases hb:b=D
  .subst hb;rw[qb] at e;cases e;show⟨hz,its,n,hv,r⟩
  .rw [qf hb] at e;show(J.hok b u e).stay (fun c v _ q=>q) (fun c q=>by rw[qf (qK q g)];show q) fun c xs q=>by rw[qf (qK q g)];show q
end
def qgI:TT:=fun _ H Q=>Q true H
def qfm(wi:TI)(g:TG)(tc:TT)(te:TE)(nl:Nat)(ixs:List Nat):TE:=fun σ H Q=>wi σ H fun J f =>
 ∃ W:Nat->Nat->List V->Hp->Prop,(∃ m,W 0 m [] f)/\∀ i m ys H,W i m ys H ->
  (J.stop i H/\ys.length<=sizeLine/\∀ p,H p=none->Q (.ref p) (upd H p (.lst ys))) \/
  (J.go i H/\∃ M:List V->Hp->Prop,(∀ ys' H',M ys' H'->∃ e,e<m/\W (i+1) e ys' H')/\∀ x H',J.yld i H x H'->g x (qdK nl ixs σ) H' fun a h=>tc a h fun b c =>
   if b=true then te a c fun v j=>ys.length<sizeLine/\M (ys++[v]) j else M ys c)
def qd5(nl:Nat)(g:TG):Prop:=∀ x σ H Q,g x σ H Q->g x σ H fun a b=>Q a b/\a.length=σ.length/\∀ i,nl<=i->a[i]?=σ[i]?
theorem jp{i:Nat}(h:i<nl:=by decide):qd5 nl (qbR i):=fun x σ H Q q=>⟨q,xF ..,fun j a=>xm (by omega)⟩
def qfN(X:Cx)(ifs:List Expr)(tc:TT):Prop:=
 ∀(pins:List (Addr×Obj)) (s:Shared) (σ:St) (H:Hp) (Q:Bool->Hp->Prop),Inv X pins σ H s->tc σ H Q ->
  wpAny (model X.prog X.w) X.A (forIn ifs true fun c r=>if r=true then do let ok <- isTrue c X.env (eval c X.env);pure (ForInStep.yield ok) else pure (ForInStep.yield r)) (TP X pins σ Q) X.xe s
theorem zi:qfN X [] qgI:=fun pins s σ H Q I h=>wpAny_tests_nil ⟨H,I,h⟩
theorem jC{c:Expr}(h:PT X c tc):qfN X [c] tc:=fun pins s σ H Q I q=>wpAny_tests_one (h pins s σ H Q I q)
section
variable{X:Cx}{pins:List (Addr×Obj)}{σ:St}{H:Hp}{s:Shared}
theorem qbJ{tn:Nat->Heap->Prop}{J:It}{Q:V->Hp->Prop}
  {RR:Value->Addr->Result->Shared->Prop} (I:Inv X pins σ H s) (hc:X.calm=true) (O:CompOk X.env.scope scope)
  (hN:N.length=nl+ixs.length) (ag:∀(k j:Nat) (x:Str),ixs[k]?=some j->N[nl+k]?=some x->X.N[j]?=some x/\(x,NameKind.free)∈scope.names)
  (T:Turn X.prog X.w X.K tg J fp it tn) (st:tn 0 s.heap) (hf:∀ b∈fp,qcS X pins H b)
  (hg:∀ C s0 H0 ex,PG (X.comp N scope C s0 H0 ex) tg g) (gk:qd5 nl g) (hi:∀ C s0 H0 ex,qfN (X.comp N scope C s0 H0 ex) ifs tc) (he:∀ C s0 H0 ex,PE (X.comp N scope C s0 H0 ex) elt te)
  (h:∃ W:Nat->Nat->List V->Hp->Prop,(∃ m,W 0 m [] H)/\∀ i m ys H,W i m ys H ->
   (J.stop i H/\ys.length<=sizeLine/\∀ p,H p=none->Q (.ref p) (upd H p (.lst ys))) \/
   (J.go i H/\∃ M:List V->Hp->Prop,(∀ ys' H',M ys' H'->∃ m',m'<m/\W (i+1) m' ys' H')/\∀ x H',J.yld i H x H'->g x (qdK nl ixs σ) H' fun am a=>tc am a fun b H3 =>
    if b=true then te am H3 fun v H4=>ys.length<sizeLine/\M (ys++[v]) H4 else M ys H3))
  (as:∀(D C:Addr) (s':Shared) (H':Hp) (P:St) (ys:List V) (its:List Value) (n:Nat),s.heap.objs.size<=C->s.heap.objs.size<=D->Inv (X.comp N scope C s H fp) [(D,{ cls:=.type "list",data:=.seq its.toArray n })] P H' s'->Vals ys its->ys.length<=sizeLine ->
   (∀ p,H' p=none->Q (.ref p) (upd H' p (.lst ys)))->RR (.ref D) C (.ok .next) s') :
  wpAny (model X.prog X.w) X.A (newList []) (fun acc s3=>wpAny (model X.prog X.w) X.A (newFunctionEnv scope X.env.globals (qO X.env scope.names []) [] X.env.qual none .none (some X.env)) (fun S s4 =>
   codeAny (model X.prog X.w) X.A (.compStart (.ListComp elt [⟨tg,iter,ifs,0⟩] scope pos) 0 (.ref it) acc { S with scope:=relabel scope X.env }) (RR acc S.locals) s4) E s3) E s:=by
 obtain⟨W,⟨m0,w0⟩,turn⟩:=h;show xM (newEnvK ?_);dsimp only;generalize aa:s.heap.push { cls:=.type "list",dict:=none,data:=.seq ([]:List Value).toArray }=a;have Y:(pushCells (a.push { cls:=.type "dict",data:=.dict #[] }) scope.names).Ns a.objs.size fun _=>none:=(Heap.Ns.new a (.type "dict")).keeps (pushCells_keeps _ _);have B:=cellsFrom_ok scope.names (a.push { cls:=.type "dict",data:=.dict #[] }) (a.objs.size+1) [] ⟨fun _ _ hm=>(nomatch hm),List.Pairwise.nil⟩ (by rw[YW];show yh _);rw[YW] at B;have ab:∀ b o,a.get? b=some o->(pushCells (a.push { cls:=.type "dict",data:=.dict #[] }) scope.names).get? b=some o:=fun b o e=>pushCells_keeps _ _ b o (yu _ e);generalize pushCells (a.push { cls:=.type "dict",data:=.dict #[] }) scope.names=h1 at Y B ab ⊢;have hC:a.objs.size=s.heap.objs.size+1:=by rw[<- aa,YW]
 have ar:s.heap.objs.size≠a.objs.size:=by rw[hC];show yE (kf _)
 have U:s.heap.objs.size<=a.objs.size:=by rw[hC];show xL _
 have f:∀ b,b<s.heap.objs.size->b≠a.objs.size/\b≠s.heap.objs.size:=fun b hb=>⟨by rw[hC];show yE (X3 hb),yE hb⟩;have old:∀ b o,s.heap.get? b=some o->h1.get? b=some o:=fun b o e=>ab b o (aa ▸ yu _ e);have ae:h1.get? s.heap.objs.size=some { cls:=.type "list",data:=.seq ([]:List Value).toArray }:=ab _ _ (aa ▸ yS _ rfl)
 have t:∀ b∈fp,b<s.heap.objs.size:=fun b hb=>by
  obtain⟨o,ho,_⟩:=T.obj 0 _ st b hb;show yH ho
 have Z:∀ s3:Shared,s3={ s with heap:=h1 } ->
   codeAny (model X.prog X.w) X.A (.compLoop (.ListComp elt [⟨tg,iter,ifs,0⟩] scope pos) 0 (.ref it) (.ref s.heap.objs.size) (compEnvC scope (cellsFrom (a.objs.size+1) scope.names (qO X.env scope.names [])) a.objs.size X.env)) (RR (.ref s.heap.objs.size) a.objs.size) s3:=by
  rintro s3 rfl;have I0:=I.comp (N:=N) (C:=a.objs.size) (D:=s.heap.objs.size) (h1:=h1) (tk:=s.toks) O hN ag hf t U (yh _) ar Y old ae (fun v z=>by cases z) B
  have l:∀{H':Hp} {P:St} {s':Shared} {pl:List (Addr×Obj)},Inv (X.comp N scope a.objs.size s H fp) pl P H' s'->(∀ p∈pl,p.1=s.heap.objs.size)->(∀ b∈fp,H' b=none)->∀ b∈fp,qcS (X.comp N scope a.objs.size s H fp) pl H' b:=fun{H' P s' pl} J av hn b hb =>
   ⟨hn b hb,(f b (t b hb)).1,fun z=>(by
     rcases yv.mp (I.stkSub b z) with e | e
     .show(hf b hb).2.1 e
     .show(hf b hb).2.2.1 e),.inl hb,J.ok.exf b hb |>.2,fun p G z=>by
    have e:=av p (by simpa using G);rw[e] at z;show(f b (t b hb)).2 z.symm⟩
  show compLoop_own (fun k s'=>∃ i H' ys its n,Inv (X.comp N scope a.objs.size s H fp) [(s.heap.objs.size,{ cls:=.type "list",data:=.seq its.toArray n })] (qdK nl ixs σ) H' s'/\tn i s'.heap/\(∀ b∈fp,H' b=none)/\Vals ys its/\W i k ys H') ?_ m0
   ⟨0,H,[],[],0,I0,T.keep _ _ _ st fun b _ o e=>old b o e,fun b hb=>(hf b hb).1,.nil,w0⟩
  rintro k s' ⟨i,H',ys,its,n,J1,ak,ad,v1,w1⟩
  have one:∀ p∈[((s.heap.objs.size,{ cls:=.type "list",data:=.seq its.toArray n }):Addr×Obj)],p.1=s.heap.objs.size:=fun p G=>by
   have e:p=_:=yy.mp G;rw[e]
  rcases turn i k ys H' w1 with⟨al,hz,q⟩ | ⟨go,M,hM,step⟩
  .show thn (T.done (X.comp N scope a.objs.size s H fp) rfl rfl rfl hc i _ s' _ H' _ J1 (l J1 one ad) ak al) fun r s4 ⟨hr,J4⟩=>?_;subst hr;show as _ _ s4 H' _ ys its n U (yh _) J4 v1 hz q
  .show thn (T.item (X.comp N scope a.objs.size s H fp) rfl rfl rfl hc i _ s' _ H' _ J1 (l J1 one ad) ak go) fun r s4 ⟨u,hr,h4⟩=>?_;subst hr;show thn h4 fun _ s5 ⟨x,H5,J5,r5,y5,ac,ao⟩=>?_;have an:=J5.pinned (l J5 one ao) (T.obj _ _ ac);show thn (hg _ _ _ _ _ s5 _ H5 x u _ an r5 (gk _ _ _ _ (step x H5 y5))) fun _ s6 ⟨R,H6,J6,q6,l6,k6⟩=>?_;show thn (hi _ _ _ _ _ s6 R H6 _ J6 q6) fun ok s7 ⟨H7,J7,q7⟩=>?_;have again:∀{L:Shared} {H8:Hp} {ys':List V} {k':Nat},Inv (X.comp N scope a.objs.size s H fp) ([((s.heap.objs.size,{ cls:=.type "list",data:=.seq its.toArray n }):Addr×Obj)]++qcl fp s5.heap) R H8 L ->
     (∀ b o,b≠s.heap.objs.size->L.heap.get? b=some o->L.heap.get? b=some o)->tn (i+1) L.heap/\∀ b∈fp,H8 b=none:=fun{L H8 ys' k'} J8 _=>by
    show⟨T.keep _ _ _ ac fun b hb o e=>(J8.pin (b,o) (yN _ (yN _ (zY hb e)))).1,fun b hb=>?_⟩;obtain⟨o,e,d⟩:=T.obj _ _ ac b hb;show(J8.pin (b,o) (yN _ (yN _ (zY hb e)))).2.1
   have wk:∀(j:Nat) v,(qdK nl ixs σ)[j]?=some (some v)->R[j]?=some (some v):=fun j v e=>by
    obtain⟨hj,_⟩:=qdh e;rw[k6 j hj];show e
   cases ok with
   | false =>
    rw[yD Yo] at q7 ⊢;obtain⟨m',hm,w7⟩:=hM _ _ q7;obtain⟨ax,ap⟩:=again (ys':=ys) (k':=0) J7 (fun _ _ _ e=>e);show⟨m',hm,i+1,H7,ys,its,n,J7.unpinned.weak l6.symm wk,ax,ap,v1,w7⟩
   | true =>
    rw[yG rfl] at q7 ⊢;show thn (he _ _ _ _ _ s7 R H7 _ J7 q7) fun y L ⟨v,H8,J8,r8,az,mq⟩=>?_;obtain⟨m',hm,w8⟩:=hM _ _ mq;obtain⟨ay,aq⟩:=again (ys':=ys) (k':=0) J8 (fun _ _ _ e=>e);have J9:=J8.unpinned;obtain⟨pD,nD,aj,aw,_⟩:=J9.pin (s.heap.objs.size,{ cls:=.type "list",data:=.seq its.toArray n }) (yN _ (yy.mpr rfl));show wpAny_list_append_plain (hsz:=by rw[yz,<- v1.length];omega) ⟨n,pD⟩ fun h9 F ai=>?_;obtain⟨n9,F⟩:=F;have e9:(its.toArray.push y)=(its++[y]).toArray:=by simp
    rw[e9] at F
    have Ja:Inv (X.comp N scope a.objs.size s H fp) [] (qdK nl ixs σ) H8 { L with heap:=h9,toks:=L.toks }:=
     ((J9.pins_of (pins':=[]) fun p G=>absurd G (by simp)).turned (it:=s.heap.objs.size) (h':=h9) (t':=L.toks) (fun b o hb e=>(ai.2 b hb).trans e) nD aj (.inr (yh _))
      (fun x c e z=>by
       rcases qbo e with w | e
       .have:=(B.empty _ _ w).2;rw[z,hC] at this;show absurd (yi (xL _) this) (Nat.not_succ_le_self _)
       have:=zF e;rcases this with⟨au,hcc⟩ | hcc
       .obtain⟨c',af⟩:=I.ok.has x (by
         rcases O.free _ au rfl with q | q
         .show .inl q
         .show .inr q)
        rw[af] at hcc;have ah:c=c':=hcc;obtain⟨_,q⟩:=I.cell x c' af;rw[<- ah,z] at q;show absurd q.lt (Yy _)
       .cases hcc) (fun p G=>absurd G (by simp))).weak l6.symm wk
    show⟨m',hm,i+1,H8,ys++[v],its++[y],n9,Ja.pins_of fun p G=>?_,?_,aq,v1.append (.cons r8 .nil),w8⟩
    .have e:p=_:=yy.mp G;subst e;show⟨F,nD,aj,aw,fun v z=>by cases z⟩
    .show T.keep _ _ _ ay fun b hb o e=>(ai.2 b (f b (t b hb)).2).trans e
 show codeAny_compStart_list (Z _ rfl) (T.self _ 0 _ _ _ (T.keep _ _ _ st fun b _ o e=>old b o e) (Z _ rfl))
end
section
variable{X:Cx}{tg elt iter:Expr}{ifs:List Expr}{scope:Scope}{pos:Pos}{N:List Str}{nl:Nat}{ixs:List Nat}{wi:TI}{g:TG}{tc:TT}{te:TE}
theorem jM{XN:List Str}(N:List Str)(nl:Nat)(ixs:List Nat)(G:X.env.scope=sc)(y:X.N=XN)(hc:X.calm=true)(P:qeG sc scope=true)(W:N.length=nl+ixs.length)(f:qgj nl ixs N XN scope.names=true)
  (hi:PI X tg iter wi) (hg:∀ C t j ex,PG (X.comp N scope C t j ex) tg g) (R:qd5 nl g) (ht:∀ C t j ex,qfN (X.comp N scope C t j ex) ifs tc) (Z:∀ C t j ex,PE (X.comp N scope C t j ex) elt te)
  (hs:∀ x,foldedSetIterable iter X.env x=pure x:=by intro _;rfl):PE X (.ListComp elt [⟨tg,iter,ifs,0⟩] scope pos) (qfm wi g tc te nl ixs):=by
 intro pins s σ H Q I h;subst G y;have O:=qdg P;have r:=qd4 f;rw[eval_ListComp]
 have E:=qaA (scope:=scope) (env:=X.env) fun n F=>I.ok.has n (by
  rcases O.free _ F rfl with z | z
  .show .inl z
  .show .inr z)
 show wpAny_comprehension_free (use:=none) rfl hs E O.kind O.loc (thn (hi pins s σ H _ I h) fun v s1 h1=>thn h1 fun aa s2 S=>?_);obtain⟨it,fp,tn,J,H2,e,i,T,L,M,Y⟩:=S;subst e;show qbJ (Q:=Q) (RR:=fun acc C=>compPost (model X.prog X.w) X.A X.xe none (EP X pins σ Q) acc C) i hc O W r T L M hg R ht Z Y ?_;intro D C s' H' ab ys its n l U u hv hz q;obtain⟨m,F,_⟩:=id u.loc;have B:=i.compBack M l U u hv hz;obtain⟨_,nD,K,_,_⟩:=u.pin (D,{ cls:=.type "list",data:=.seq its.toArray n }) (yN _ (yy.mpr rfl));show⟨m,F,fun h' sb=>⟨.ref D,_,?_,rfl,q D nD⟩⟩;show B.turned (it:=C) (h':=h') (t':=s'.toks) (fun b o hb e=>(sb.2 b hb).trans e) ((qf (H:=H') (a:=D) (b:=C) (o:=.lst ys) (Yi K)).trans u.free) (Yl (yj i.lt l)) (.inr (yi i.sz l)) (fun x c e z=>?_) (fun p hp z=>?_)
 .obtain⟨_,q⟩:=i.cell x c e;show absurd (yj q.lt (by rw[z];show l)) (Yy _)
 .show absurd (yj (yH (i.pin p hp).1) (by rw[z];show l)) (Yy _)
theorem qaQ{i:Nat}{y:Str}{t j:Pos}{XN:List Str}(N:List Str)(nl:Nat)(ixs:List Nat)(Y:X.env.scope=sc)(E:X.N=XN)(hc:X.calm=true)(O':qeG sc scope=true)(hN:N.length=nl+ixs.length)(r:qgj nl ixs N XN scope.names=true)
  (P:X.N.Nodup) (S:X.N[i]?=some y) (hy:X.env.scope.names.lookup y=some .local)
  (hi:PI X tg iter wi) (hg:∀ C G u ex,PG (X.comp N scope C G u ex) tg g) (gk:qd5 nl g) (ht:∀ C G u ex,qfN (X.comp N scope C G u ex) ifs tc) (he:∀ C G u ex,PE (X.comp N scope C G u ex) elt te)
  (Z:swapsWith (.ListComp elt [⟨tg,iter,ifs,0⟩] scope pos) (some (.Name y t)) j.line X.env=pure true:=by rfl)
  (hs:∀ x,foldedSetIterable iter X.env x=pure x:=by intro _;rfl):PS X (.Assign [.Name y t] (.ListComp elt [⟨tg,iter,ifs,0⟩] scope pos) j) (qfE (qfm wi g tc te nl ixs) (qbR i)):=by
 intro pins s σ H L I h;subst Y E;have O:=qdg O';have F:=qd4 r
 have R:=qaA (scope:=scope) (env:=X.env) fun n U=>I.ok.has n (by
  rcases O.free _ U rfl with z | z
  .show .inl z
  .show .inr z)
 rw[exec_Assign_Name_used _ _ _ _ Z];show yr (XD (yr ?_));show wpAny _ X.A (do let _ <- comprehension (.ListComp elt [⟨tg,iter,ifs,0⟩] scope pos) scope X.env _ (newList []) false (eval iter X.env) (some (assign (.Name y t) X.env))) _ _ s;show yr (YB (wpAny_comprehension_free (use:=some (assign (.Name y t) X.env)) (Q:=fun _ s'=>SP X pins L .next s') rfl hs R O.kind O.loc
  (thn (hi pins s σ H _ I h) fun v s1 h1=>thn h1 fun ad s2 h2=>?_)) (fun _ s' hq=>yw (yw hq)) fun _ _ e=>e)
 obtain⟨it,fp,tn,J,H2,e,f,T,ac,f2,hW⟩:=h2;subst e;show qbJ (Q:=fun v H'=>qbR i v σ H' L.nx) (RR:=fun acc C=>compPost (model X.prog X.w) X.A X.xe (some (assign (.Name y t) X.env)) (fun _ s'=>SP X pins L .next s') acc C) f hc O hN F T ac f2 hg gk ht he hW ?_;intro D C s' H' ae ys its n l hD K hv hz q;obtain⟨m,U,_⟩:=id K.loc;have B:=f.compBack f2 l hD K hv hz;obtain⟨_,nD,aa,_,_⟩:=K.pin (D,{ cls:=.type "list",data:=.seq its.toArray n }) (yN _ (yy.mpr rfl));show wpAny _ X.A (assign (.Name y t) X.env (.ref D)) _ _ _;show wpAny_assign_Name (qci (i:=i) (x:=y) (v:=.ref D) B P S (.inl hy) rfl (fun ab B' W=>?_) (.inr hy));obtain⟨a,sa,ha⟩:=W
 have M:C≠a:=by
  rintro rfl;rcases ha with z | z
  .show absurd (show X.env.locals<C from yj f.lt l) (by rw[z];show Yy _)
  .obtain⟨_,q⟩:=f.cell y C z;show absurd (yj q.lt l) (Yy _)
 show⟨m,U.sameBut sa M,fun h' sb=>⟨_,_,?_,q D nD⟩⟩;show B'.turned (it:=C) (h':=h') (t':=ab.toks) (fun b o hb e=>(sb.2 b hb).trans e) ((qf (H:=H') (a:=D) (b:=C) (o:=.lst ys) (Yi aa)).trans K.free) (Yl (yj f.lt l)) (.inr (yi f.sz l)) (fun x c e z=>?_) (fun p hp z=>?_)
 .obtain⟨_,q⟩:=f.cell x c e;show absurd (yj q.lt (by rw[z];show l)) (Yy _)
 .show absurd (yj (yH (f.pin p hp).1) (by rw[z];show l)) (Yy _)
end
noncomputable def Its(x:Str):It:=⟨fun i _=>i<x.cps.size,fun i H v H'=>H'=H/\∃ c,x.cps[i]?=some c/\v=.str ⟨#[c]⟩,fun i _=>i=x.cps.size⟩
theorem qdi{K:yg}{t:Tok}(W:∀ A:Around,A.handled=none->Walks P w A it [it] [it] x.cps.size (SignAt x) fun i h=>h.IsStrIter it T x t i)
  (J:∀(A:Around) (i:Nat) (s:Shared) (Q:Value->Shared->Prop) (E:Value->Shared->Prop),s.heap.IsStrIter it T x t i->Q (.ref it) s->wpAny (model P w) A (pyIter (.ref it)) Q E s)
  (B:∀ v,letOwnedTupleGo tg (.ref it) v=pure ()):Turn P w K tg (Its x) [it] it (fun i h=>h.IsStrIter it T x t i) where
 mem:=by simp
 obj:=fun i h st b hb=>by
  have e:b=it:=by simpa using hb
  subst e;obtain⟨o,e,c,d⟩:=st;show⟨o,e,fun v z=>by rw[d] at z;cases z⟩
 keep:=fun i h h' st k=>by
  obtain⟨o,e,r⟩:=st;show⟨o,k it (by simp) o e,r⟩
 item:=by
  intro X p hw n hc i pins s σ H E I a st y;subst p hw n;obtain⟨f,g,G,j,l,m⟩:=a it (by simp);show(W X.A (I.ok.hd hc)).item i s _ _ y st fun v h' tk hv D C=>?_;obtain⟨c,u,q,rfl⟩:=hv;have F:Inv X pins σ H { s with heap:=h',toks:=tk }:=I.turned (fun b o hb e=>C b o (by simpa using hb) e) f g j l m;show⟨_,rfl,Y7 (B _) ⟨.str ⟨#[c]⟩,H,F,⟨u,rfl⟩,⟨rfl,c,q,rfl⟩,D,fun b hb=>(a b hb).1⟩⟩
 done:=by
  intro X p hw n hc i pins s σ H E I a st y;subst p hw n;obtain⟨f,g,G,j,l,m⟩:=a it (by simp);have e:i=x.cps.size:=y;subst e;show(W X.A (I.ok.hd hc)).done s _ _ st fun h' tk C=>⟨rfl,I.turned (fun b o hb e=>C b o (by simpa using hb) e) f g j l m⟩
 self:=J
section
variable{X:Cx}{tg:Expr}
end
section
variable{K:yg}{a:Addr}{xs:List V}{g:TG}{tc:TT}{te:TE}{σ':St}{H1:Hp}{Q:V->Hp->Prop}
def qd6(J:It)(g:TG)(tc:TT)(te:TE)(σ':St)(H1:Hp)(Q:V->Hp->Prop):Prop:=
 ∃ W:Nat->Nat->List V->Hp->Prop,(∃ m,W 0 m [] H1)/\∀ i m ys H,W i m ys H ->
   (J.stop i H/\ys.length<=sizeLine/\∀ p,H p=none->Q (.ref p) (upd H p (.lst ys))) \/
   (J.go i H/\∃ M:List V->Hp->Prop,(∀ ys' H',M ys' H'->∃ e,e<m/\W (i+1) e ys' H')/\∀ x H',J.yld i H x H'->g x σ' H' fun a f=>tc a f fun b c =>
    if b=true then te a c fun v h=>ys.length<sizeLine/\M (ys++[v]) h else M ys c)
theorem je(c:Nat->List V->Hp->Prop)(o:c 0 [] H1)(hl:∀ i ys H,i<=xs.length->c i ys H->SqL K H a xs)
  (s:∀ i x ys H,xs[i]?=some x->c i ys H->g x σ' H fun h l=>tc h l fun b j=>if b=true then te h j fun v n=>ys.length<sizeLine/\c (i+1) (ys++[v]) n else c (i+1) ys j)
  (r:∀ ys H,c xs.length ys H->ys.length<=sizeLine/\∀ p,H p=none->Q (.ref p) (upd H p (.lst ys))):qd6 (Itl K a) g tc te σ' H1 Q:=by
 show⟨fun i m ys H=>m=xs.length-i/\i<=xs.length/\c i ys H,⟨xs.length,by simp,YC _,o⟩,?_⟩;rintro i m ys H ⟨rfl,hi,p⟩;have q:=hl i ys H hi p;by_cases f:i<xs.length
 .show .inr ⟨⟨xs,xs[i],q,by simp[f]⟩,c (i+1),fun ys' H' t=>⟨xs.length-(i+1),by omega,rfl,f,t⟩,fun x H' y=>?_⟩;obtain⟨e,y⟩:=y;subst e;show s i x ys _ (y xs q) p
 .have e:i=xs.length:=by omega
  subst e;show .inl ⟨⟨xs,q,yh _⟩,r ys H p⟩
theorem qbK{lo:Int}(a:Nat->List V->Hp->Prop)(o:a 0 [] H1)
  (r:∀ i ys H,i<n->a i ys H->g (.int (lo+i)) σ' H fun f j=>tc f j fun b h=>if b=true then te f h fun v l=>ys.length<sizeLine/\a (i+1) (ys++[v]) l else a (i+1) ys h)
  (q:∀ ys H,a n ys H->ys.length<=sizeLine/\∀ p,H p=none->Q (.ref p) (upd H p (.lst ys))):qd6 (Itr lo n) g tc te σ' H1 Q:=by
 show⟨fun i m ys H=>m=n-i/\i<=n/\a i ys H,⟨n,by simp,YC _,o⟩,?_⟩;rintro i m ys H ⟨rfl,hi,p⟩;by_cases c:i<n
 .show .inr ⟨c,a (i+1),fun ys' H' s=>⟨n-(i+1),by omega,rfl,c,s⟩,fun x H' y=>?_⟩;obtain⟨e,y⟩:=y;subst e y;show r i ys _ c p
 .have e:i=n:=by omega
  subst e;show .inl ⟨yh _,q ys H p⟩
theorem comp_str(a:Nat->List V->Hp->Prop)(o:a 0 [] H1)
  (r:∀ i c ys H,x.cps[i]?=some c->a i ys H->g (.str ⟨#[c]⟩) σ' H fun h l=>tc h l fun b j=>if b=true then te h j fun v n=>ys.length<sizeLine/\a (i+1) (ys++[v]) n else a (i+1) ys j)
  (q:∀ ys H,a x.cps.size ys H->ys.length<=sizeLine/\∀ p,H p=none->Q (.ref p) (upd H p (.lst ys))):qd6 (Its x) g tc te σ' H1 Q:=by
 show⟨fun i m ys H=>m=x.cps.size-i/\i<=x.cps.size/\a i ys H,⟨x.cps.size,by simp,YC _,o⟩,?_⟩;rintro i m ys H ⟨rfl,hi,p⟩;by_cases f:i<x.cps.size
 .show .inr ⟨f,a (i+1),fun ys' H' s=>⟨x.cps.size-(i+1),by omega,rfl,f,s⟩,fun v H' y=>?_⟩;obtain⟨e,c,hc,y⟩:=y;subst e y;show r i c ys _ hc p
 .have e:i=x.cps.size:=by omega
  subst e;show .inl ⟨rfl,q ys H p⟩
end
noncomputable def qcz:V->Option Value
 | .ty n=>some (.type n)
 | .ref a=>some (.ref a)
 | _=>none
theorem qbL{c:Value}(h:qcz y=some c)(r:RelV y u):u=c:=by
 cases y with
 | ty n=>cases h;show r
 | ref a=>cases h;show r
 | _=>cases h
section
variable{X:Cx}{pins:List (Addr×Obj)}{σ:St}{H:Hp}{s:Shared}
theorem TyOf.kit{x:V}(I:Inv X pins σ H s)(b:RelV x u)(ty:TyOf X.K H x t):∃ P:Heap->Prop,PySem.W.KitX X.K u t P/\P s.heap/\u≠.builtin "__main__.__loader__#opaque":=by
 cases ty with
 | non=>cases (show u=Value.none from b);show⟨_,PySem.W.kitx_none,YS,(fun z=>nomatch z)⟩
 | bl y=>cases (show u=Value.bool y from b);show⟨_,PySem.W.kitx_bool,YS,(fun z=>nomatch z)⟩
 | int i=>obtain⟨t,q⟩:=(show ∃ t,u=Value.int i t from b);cases q;show⟨_,PySem.W.kitx_int,YS,(fun z=>nomatch z)⟩
 | str y=>obtain⟨t,q⟩:=(show ∃ t,u=Value.str y t from b);cases q;show⟨_,PySem.W.kitx_str,YS,(fun z=>nomatch z)⟩
 | flt y=>obtain⟨t,q⟩:=(show ∃ t,u=Value.float y t from b);cases q;show⟨_,PySem.W.kitx_float,YS,(fun z=>nomatch z)⟩
 | @lst a xs ea =>
  cases (show u=Value.ref a from b);obtain⟨_,_,n,_,h1⟩:=(show ObjOk X.prog X.w H s.heap a (.lst xs) from I.hok a _ ea);show⟨_,PySem.W.kitx_list,⟨_,h1,rfl⟩,(fun z=>nomatch z)⟩
 | @frz a ob xs ea =>
  cases (show u=Value.ref a from b);obtain⟨_,_,_,n,_,h1⟩:=(show ObjOk X.prog X.w H s.heap a (.frz ob (.lst xs)) from I.hok a _ ea);show⟨_,PySem.W.kitx_list,⟨_,h1,rfl⟩,(fun z=>nomatch z)⟩
 | @tup a xs ea =>
  cases (show u=Value.ref a from b);obtain⟨_,_,_,p⟩:=(show ObjOk X.prog X.w H s.heap a (.tup xs) from I.hok a _ ea);obtain⟨o,h1,c,_⟩:=p;show⟨_,PySem.W.kitx_tuple,⟨o,h1,c⟩,(fun z=>nomatch z)⟩
 | @dK a kvs ea =>
  cases (show u=Value.ref a from b);obtain⟨_,_,vs,_,p⟩:=(show ObjOk X.prog X.w H s.heap a (.dK kvs) from I.hok a _ ea);obtain⟨o,e,ep,h1,c,_⟩:=p;show⟨_,PySem.W.kitx_dict,⟨o,h1,c.1⟩,(fun z=>nomatch z)⟩
 | @dT a kvs ea =>
  cases (show u=Value.ref a from b);obtain⟨_,_,xs,_,o,e,ep,h1,c,_⟩:=(show ObjOk X.prog X.w H s.heap a (.dT kvs) from I.hok a _ ea);show⟨_,PySem.W.kitx_dict,⟨o,h1,c.1⟩,(fun z=>nomatch z)⟩
 | @ins a C dx fs ea cl ha hn htk hm =>
  cases (show u=Value.ref a from b);obtain⟨f,O,_⟩:=qaO I.hok ea;obtain⟨od,J,_⟩:=O.look;show⟨_,PySem.W.kitx_own (cl.get _) cl.hd ha hn htk hm,J,(fun z=>nomatch z)⟩
end
section
variable{X:Cx}
theorem qbp:∀{ys:List V} {a us:List Value},ys.map qcz=a.map some->Vals ys us->us=a
 | [],[],_,_,.nil=>rfl
 | [],_::_,_,h,_=>by cases h
 | y::ys,[],_,h,_=>by cases h
 | y::ys,c::a,_,h,.cons r t=>by
  rw[YH,YH] at h
  injection h with h1 h2
  rw[qbL h1 r,qbp h2 t]
theorem qdj:∀{bs:List Bool} {us:List Value},Vals (bs.map V.bl) us->us=bs.map Value.bool
 | [],_,.nil=>rfl
 | b::bs,_,.cons r t=>by
  have e:=qdj t;rw[e];cases r;rfl
def qgJ(K:yg):List V->Hp->VK->Prop:=fun xs H Q=>∃(p:Addr) (bs:List Bool),xs=[.ref p]/\SqL K H p (bs.map V.bl)/\Q (.bl (bs.all id)) H
theorem call_all(hc:X.calm=true):zT X (.builtin "all") (qgJ X.K):=by
 intro pins s σ H xs us Q I r h;obtain⟨p,bs,rfl,w,q⟩:=h;obtain⟨u,rfl,y⟩:=qbk r;cases y;obtain⟨its,z,pl,hz⟩:=I.list w;have e:=qdj z;subst e;have m:X.A.in1.handled=none:=I.ok.hd hc;show call_all_walk (kQ pl.isList ?_)
 have g:p≠s.heap.objs.size:=by
  obtain⟨o,t,_⟩:=pl.isList;show yE (yH t)
 show⟨s.heap.objs.size,_,_,_,_,_,fun i=>(bs[i]?).getD false,rfl,Walks.list m s.heap.objs.size p g (bs.map Value.bool).toArray,⟨⟨_,yS _ rfl,rfl,rfl⟩,pl.isList.at fun o e=>yu _ e⟩,fun i v s Q E hv x=>?_,fun h' tk n=>?_⟩
 .have a:(bs.map Value.bool)[i]?=some v:=by simpa using hv
  rw[yd] at a
  cases e:bs[i]? with
  | none=>rw[e] at a;cases a
  | some b =>
   rw[e] at a;cases a;have c:Q ((bs[i]?).getD false) s:=x;rw[e] at c;show yw c
 .have e:((List.range (bs.map Value.bool).toArray.size).all fun i=>(bs[i]?).getD false)=bs.all id:=by
   rw[yz,ya]
   have j:∀ bs:List Bool,((List.range bs.length).all fun i=>(bs[i]?).getD false)=bs.all id:=by
    intro bs
    induction bs with
    | nil=>rfl
    | cons b r ih =>
     rw[yC,List.range_succ_eq_map,kh,Kk,kh,<- ih];rfl
   show j bs
  rw[e];show⟨.bl _,H,?_,rfl,q⟩;have l:Inv X pins σ H { s with heap:=s.heap.push { cls:=.type "list_iterator",data:=.fields #[.ref p,.int 0 0] } }:=I.kept (t':=s.toks) fun b o e=>yu _ e;have f:=I.fpOk (b:=s.heap.objs.size) (yh _) (I.hok.fresh (yh _));show l.turned (it:=s.heap.objs.size) (h':=h') (t':=tk) (fun b o hb e=>n b o (by simpa using hb) e) f.1 f.2.1 f.2.2.2.1 f.2.2.2.2.1 f.2.2.2.2.2
theorem op_le_str:OpR X (compareOp .LtE) (fun x y H Q=>∃ i j,x=.str i/\y=.str j/\Q (.bl (!decide (j.cps.toList<i.cps.toList))) H):=by
 intro pins s σ H x y v u Q I a b h;obtain⟨i,j,rfl,rfl,q⟩:=h;obtain⟨t,rfl⟩:=a;obtain⟨t',rfl⟩:=b;show PySem.P.le_str (qc9 I q (by rfl))
def qgk:R2:=fun x y H Q=>match x,y with
 | .int i,.int j=>Q (.bl (decide (i<=j))) H
 | .str i,.str j=>Q (.bl (!decide (j.cps.toList<i.cps.toList))) H
 | _,_=>False
theorem qeR:OpR X (compareOp .LtE) qgk:=by
 intro pins s σ H x y v u Q I a b h
 cases x with
 | int i=>cases y with
  | int j=>show op_le pins s σ H _ _ v u Q I a b ⟨i,j,rfl,rfl,h⟩
  | _=>show False.elim h
 | str i=>cases y with
  | str j=>show op_le_str pins s σ H _ _ v u Q I a b ⟨i,j,rfl,rfl,h⟩
  | _=>show False.elim h
 | _=>show False.elim h
theorem op_is_bl:OpR X (compareOp .Is) (fun x y H Q=>∃ i j,x=.bl i/\y=.bl j/\Q (.bl (i==j)) H):=by
 intro pins s σ H x y v u Q I a b h;obtain⟨i,j,rfl,rfl,q⟩:=h;cases a;cases b;show wpAny_is_plain (by cases i<;>cases j<;>rfl) (qc9 I q (by cases i<;>cases j<;>rfl))
def qgl:R2:=fun x y H Q=>match x,y with
 | .bl i,.bl j=>Q (.bl (i==j)) H
 | x,.non=>Q (.bl (decide (x=.non))) H
 | _,_=>False
theorem qga:OpR X (compareOp .Is) qgl:=by
 intro pins s σ H x y v u Q I a b h
 cases y with
 | non=>show op_isN pins s σ H x _ v u Q I a b ⟨rfl,by cases x<;>show h⟩
 | bl j=>cases x with
  | bl i=>show op_is_bl pins s σ H _ _ v u Q I a b ⟨i,j,rfl,rfl,h⟩
  | _=>show False.elim h
 | _=>cases x<;>show False.elim h
theorem op_rep_str:OpR X (binaryOp .Mult) (fun x y H Q=>∃ z k,x=.str z/\y=.int k/\MulOk z k/\Q (.str (Txt.mul z k)) H):=by
 intro pins s σ H x y v u Q I b c h;obtain⟨z,k,rfl,rfl,a,q⟩:=h;obtain⟨t,rfl⟩:=b;obtain⟨t',rfl⟩:=c;show SB.mul a fun t' k'=>⟨.str _,H,I.tok _,⟨_,rfl⟩,q⟩
def qfO:R2:=fun x y H Q=>match x,y with
 | .int i,.int j=>CMul i j/\Q (.int (i*j)) H
 | .str z,.int k=>MulOk z k/\Q (.str (Txt.mul z k)) H
 | .ref a,.int k=>qgH (.ref a) (.int k) H Q
 | _,_=>False
theorem qbT:OpR X (binaryOp .Mult) qfO:=by
 intro pins s σ H x y v u Q I b c h
 cases y with
 | int j=>cases x with
  | int i=>show op_mul pins s σ H _ _ v u Q I b c ⟨i,j,rfl,rfl,h.1,h.2⟩
  | str i=>show op_rep_str pins s σ H _ _ v u Q I b c ⟨i,j,rfl,rfl,h.1,h.2⟩
  | ref a=>show qd2 pins s σ H _ _ v u Q I b c h
  | _=>show False.elim h
 | _=>cases x<;>show False.elim h
def qdE(K:yg):R2:=fun x y H Q=>match x,y with
 | .int i,.int j=>Q (.int (i+j)) H
 | .str i,.str j=>i.length+j.length<=sizeLine/\Q (.str (i++j)) H
 | .ref a,.ref b=>qgG (.ref a) (.ref b) H Q\/qfK K (.ref a) (.ref b) H Q
 | _,_=>False
theorem u_add:OpR X (binaryOp .Add) (qdE X.K):=by
 intro pins s σ H x y v u Q I c e h
 cases x with
 | int i=>cases y with
  | int j=>show op_add pins s σ H _ _ v u Q I c e ⟨i,j,rfl,rfl,h⟩
  | _=>show False.elim h
 | str i=>cases y with
  | str j=>show op_add_str pins s σ H _ _ v u Q I c e ⟨i,j,rfl,rfl,h.1,h.2⟩
  | _=>show False.elim h
 | ref a=>cases y with
  | ref b=>show h.elim (fun h=>op_cat pins s σ H _ _ v u Q I c e h) fun h=>op_catT pins s σ H _ _ v u Q I c e h
  | _=>show False.elim h
 | _=>show False.elim h
def qdF(K:yg):List V->Hp->VK->Prop:=fun xs H Q=>match xs with
 | [.str z]=>z.length<=sizeLine/\Q (.int z.length) H
 | [.ref p]=>(∃ ys,(SqL K H p ys\/SqT K H p ys)/\Q (.int ys.length) H)\/∃ kvs,H p=some (.dK kvs)/\Q (.int kvs.length) H
 | _=>False
theorem call_lenU:zT X (.builtin "len") (qdF X.K):=by
 intro pins s σ H xs us Q I r h
 match xs,h with
 | [.str z],h=>show call_len_str pins s σ H _ us Q I r ⟨z,rfl,h.1,h.2⟩
 | [.ref p],.inl ⟨ys,h,q⟩=>show call_len_seq pins s σ H _ us Q I r ⟨p,ys,rfl,h,q⟩
 | [.ref p],.inr ⟨kvs,h,q⟩=>show call_lenD pins s σ H _ us Q I r ⟨p,kvs,rfl,h,q⟩
theorem sl_str:SlR X (fun x lo hi H Q=>∃ z,x=.str z/\z.length<=sizeLine/\Q (.str (Txt.slice z lo hi)) H):=by
 intro pins s σ H x v f g lo hi e Q I c a pl b h;obtain⟨z,rfl,hz,q⟩:=h;obtain⟨t,rfl⟩:=c;show⟨"str",_,F.slot_str_getitem.lookup,typeIs_str _ _ _,?_⟩
 cases pl with
 | none =>
  cases b with
  | none=>show Xa (l:=none) (u:=none) (st:=none) a rfl (kA ⟨yi (Kl z _ _) hz,fun t' k=>⟨.str _,H,I.tok _,⟨_,rfl⟩,q⟩⟩)
  | int j uj=>show Xa (l:=none) (u:=some (j,uj)) (st:=none) a rfl (kA ⟨yi (Kl z _ _) hz,fun t' k=>⟨.str _,H,I.tok _,⟨_,rfl⟩,q⟩⟩)
 | int i ui =>
  cases b with
  | none=>show Xa (l:=some (i,ui)) (u:=none) (st:=none) a rfl (kA ⟨yi (Kl z _ _) hz,fun t' k=>⟨.str _,H,I.tok _,⟨_,rfl⟩,q⟩⟩)
  | int j uj=>show Xa (l:=some (i,ui)) (u:=some (j,uj)) (st:=none) a rfl (kA ⟨yi (Kl z _ _) hz,fun t' k=>⟨.str _,H,I.tok _,⟨_,rfl⟩,q⟩⟩)
def qgm(K:yg):V->Option Int->Option Int->Hp->VK->Prop:=fun x lo hi H Q=>match x with
 | .str z=>z.length<=sizeLine/\Q (.str (Txt.slice z lo hi)) H
 | .ref a=>qgF K (.ref a) lo hi H Q\/qgB K (.ref a) lo hi H Q
 | _=>False
theorem u_sl:SlR X (qgm X.K):=by
 intro pins s σ H x v g i lo hi f Q I e b pl c h
 cases x with
 | str z=>show sl_str pins s σ H _ v g i lo hi f Q I e b pl c ⟨z,rfl,h.1,h.2⟩
 | ref a=>show h.elim (fun h=>sl_list pins s σ H _ v g i lo hi f Q I e b pl c h) fun h=>sl_tup pins s σ H _ v g i lo hi f Q I e b pl c h
 | _=>show False.elim h
theorem qd7:∀{ys:List Str} {us:List Value},Vals (ys.map V.str) us->StrsAre us ys
 | [],_,.nil=>.nil
 | y::ys,_,.cons r t=>by
  obtain⟨tk,rfl⟩:=r;show .cons y tk (qd7 t)
def qfP(K:yg):V->List V->Hp->VK->Prop:=fun x vs H Q=>∃(z:Str) (p:Addr) (ys:List Str),x=.str z/\vs=[.ref p]/\SqL K H p (ys.map V.str)/\(ys.map (·.length)).sum+ys.length*z.length<=16777216/\Q (.str (Txt.join z ys)) H
theorem mt_join:MtR X "str.join" (qfP X.K):=by
 intro pins s σ H x vs v us Q I e c h;obtain⟨z,p,ys,rfl,rfl,a,hz,q⟩:=h;obtain⟨t,rfl⟩:=e;obtain⟨u,rfl,b⟩:=c.one;cases b;obtain⟨its,r,pl,_⟩:=I.list a;show join_list pl.isList (by simpa using qd7 r) hz fun t' k=>⟨.str _,H,I.tok _,⟨_,rfl⟩,q⟩
def qgn(K:yg)(te:TE):TI:=fun σ H R=>te σ H fun v b=>match v with
 | .str x=>R (Its x) b
 | .ref a=>((∃ xs,SqL K b a xs)/\R (Itl K a) b)\/((∃ xs,SqT K b a xs)/\R (Itt K a) b)
 | _=>False
theorem pi_any{e:Expr}(w:PE X e te)(j:∀ it v,letOwnedTupleGo tg it v=pure ():=by intro _ _;rfl):PI X tg e (qgn X.K te):=by
 intro pins s σ H R I h;show thn (w pins s σ H _ I h) fun v c ⟨y,g,f,u,l⟩=>?_
 cases y with
 | str x =>
  obtain⟨t,rfl⟩:=u
  have fp:∀ b∈[c.heap.objs.size],qcS X pins g b:=fun b hb=>by
   have e:b=c.heap.objs.size:=by simpa using hb
   subst e;show f.fpOk (yh _) (f.hok.fresh (yh _))
  cases r:x.cps.all (· < 128)
  .show wpAny_pyIter_wide r ⟨c.heap.objs.size,[c.heap.objs.size],_,_,g,rfl,f.kept (t':=c.toks) fun b o e=>yu _ e,
    qdi (T:="str_iterator") (fun A m=>Walks.strWide m _ x t) (fun A i s Q E st h=>wpAny_pyIter_striter_wide st h) (j _),⟨_,yS _ rfl,rfl,rfl⟩,fp,l⟩
  .show wpAny_pyIter_ascii r ⟨c.heap.objs.size,[c.heap.objs.size],_,_,g,rfl,f.kept (t':=c.toks) fun b o e=>yu _ e,
    qdi (T:="str_ascii_iterator") (fun A m=>Walks.strAscii m _ x t) (fun A i s Q E st h=>wpAny_pyIter_striter_ascii st h) (j _),⟨_,yS _ rfl,rfl,rfl⟩,fp,l⟩
 | ref a =>
  cases u
  have fp:∀ b∈[c.heap.objs.size],qcS X pins g b:=fun b hb=>by
   have e:b=c.heap.objs.size:=by simpa using hb
   subst e;show f.fpOk (yh _) (f.hok.fresh (yh _))
  rcases l with⟨⟨xs,n⟩,q⟩ | ⟨⟨xs,n⟩,q⟩
  .obtain⟨its,z,p,hz⟩:=f.list n;show kQ p.isList ⟨c.heap.objs.size,[c.heap.objs.size],_,_,g,rfl,f.kept (t':=c.toks) fun b o e=>yu _ e,qck a _,⟨_,yS _ rfl,rfl,rfl⟩,fp,q⟩
  .obtain⟨its,z,p,hz⟩:=f.tuple n;show wpAny_pyIter_tuple (show c.heap.IsTuple a its.toArray from p) ⟨c.heap.objs.size,[c.heap.objs.size],_,_,g,rfl,f.kept (t':=c.toks) fun b o e=>yu _ e,turn_tuple a _,⟨_,yS _ rfl,rfl,rfl⟩,fp,q⟩
 | _=>show False.elim l
end
section
variable{D:Ends}{σ:St}{H:Hp}{Q:VK}{QT:Bool->Hp->Prop}{QA:List V->Hp->Prop}{t u:TS}{te ta tb tc:TE}{c c':TT}{tr tas:TA}{r r':R2}{K:yg}
theorem vSeq(h:t { D with nx:=u D } σ H):qgf t u D σ H:=h
theorem vAsg{i:Nat}(h:te σ H fun x a=>D.nx (σ.set i (some x)) a):qfE te (qbR i) D σ H:=h
theorem vAsgS{to a:TE}{s:qfD}(h:te σ H fun x b=>to σ b fun o c=>a σ c fun i e=>s o i x e fun f=>D.nx σ f):qfE te (qgw to a s) D σ H:=h
theorem vIfS(h:c σ H fun b a=>if b=true then t D σ a else u D σ a):qgt c t u D σ H:=h
theorem vRet(h:te σ H D.rt):qgs te D σ H:=h
theorem vRetN(h:D.rt .non H):qfC D σ H:=h
theorem vDrop(h:te σ H fun _ a=>D.nx σ a):qfB te D σ H:=h
theorem vNext(h:D.nx σ H):qfA D σ H:=h
theorem vC(h:Q v H):tC v σ H Q:=h
theorem vVar{i:Nat}(e:σ[i]?=some (some v))(h:Q v H):qge i σ H Q:=⟨v,e,h⟩
theorem vOp(h:ta σ H fun x a=>tb σ a fun y b=>r x y b Q):tOp r ta tb σ H Q:=h
theorem vUn{f:V->Hp->VK->Prop}(h:ta σ H fun x a=>f x a Q):tUn f ta σ H Q:=h
theorem vChain(h:ta σ H fun x b=>tb σ b fun y c=>r x y c fun z a=>∃ k,z=.bl k/\if k=true then tc σ a fun f e=>r' y f e Q else Q (.bl false) a):qdS r r' ta tb tc σ H Q:=h
theorem vNil(h:QA [] H):qf9 σ H QA:=h
theorem vCons(h:ta σ H fun x a=>tr σ a fun xs b=>QA (x::xs) b):qfH ta tr σ H QA:=h
theorem vCB{f:List V->Hp->VK->Prop}(h:tas σ H fun vs a=>f vs a Q):tCB f tas σ H Q:=h
theorem vCall{E:XK}(h:tas σ H fun vs a=>sp (vs++[]) a Q E):qdT sp [] E tas σ H Q:=h
theorem vLst(h:tas σ H fun xs a=>xs.length<=sizeLine/\∀ p,a p=none->Q (.ref p) (upd a p (.lst xs))):qgA tas σ H Q:=h
theorem vTup(h:tas σ H fun xs a=>xs.length<=sizeLine/\∀ p,a p=none->Q (.ref p) (upd a p (.tup xs))):qgz tas σ H Q:=h
theorem vTest(h:te σ H fun x H'=>∃ k,x=.bl k/\QT k H'):qfj te σ H QT:=h
theorem vB(h:te σ H fun x H'=>∃ k,x=.bl k/\QT k H'):tB te σ H QT:=h
theorem vNot(h:c σ H fun b a=>QT (!b) a):qgr c σ H QT:=h
theorem vAnd(h:c σ H fun b a=>if b=true then c' σ a QT else QT false a):qgq c c' σ H QT:=h
theorem vOr(h:c σ H fun b a=>if b=true then QT true a else c' σ a QT):tOr c c' σ H QT:=h
theorem vAndV(h:ta σ H fun x a=>∃ k,x=.bl k/\if k=true then tb σ a Q else Q (.bl false) a):qfz ta tb σ H Q:=h
theorem vOrV(h:ta σ H fun x a=>∃ k,x=.bl k/\if k=true then Q (.bl true) a else tb σ a Q):tOrV ta tb σ H Q:=h
theorem vNotV(h:ta σ H fun x a=>∃ k,x=.bl k/\Q (.bl (!k)) a):tNotV ta σ H Q:=h
theorem vIf(h:c σ H fun b a=>if b=true then ta σ a Q else tb σ a Q):tIf c ta tb σ H Q:=h
theorem vYes(h:QT true H):qgI σ H QT:=h
theorem vI0{g:Int->Int->V}(h:Q (g i j) H):rI0 g (.int i) (.int j) H Q:=⟨i,j,rfl,rfl,h⟩
theorem vI{C:Int->Int->Prop}{g:Int->Int->V}(hc:C i j)(h:Q (g i j) H):rI C g (.int i) (.int j) H Q:=⟨i,j,rfl,rfl,hc,h⟩
theorem vU{g:Int->V}(h:Q (g i) H):rU g (.int i) H Q:=⟨i,rfl,h⟩
theorem vEqI(h:Q (.bl (decide (i=j))) H):rEq (.int i) (.int j) H Q:=⟨rfl,by
 have e:decide (V.int i=V.int j)=decide (i=j):=by
  by_cases h:i=j
  .subst h;simp
  .rw [yl h,yl (fun e=>h (V.int.inj e))]
 rw[e];show h⟩
theorem vEqB{i j:Bool}(h:Q (.bl (i==j)) H):rEq (.bl i) (.bl j) H Q:=⟨rfl,by rw[dec_bl];show h⟩
theorem zq(b:H p=some (.lst xs))(a:atI xs i=some v)(h:Q v H):rIx K (.ref p) (.int i) H Q:=.inl ⟨p,xs,i,v,rfl,rfl,SqL.of b,a,h⟩
theorem vIxLs(b:SqL K H p xs)(a:atI xs i=some v)(h:Q v H):rIx K (.ref p) (.int i) H Q:=.inl ⟨p,xs,i,v,rfl,rfl,b,a,h⟩
theorem qap(b:H p=some (.tup xs))(a:atI xs i=some v)(h:Q v H):rIx K (.ref p) (.int i) H Q:=.inr (.inl ⟨p,xs,i,v,rfl,rfl,SqT.of b,a,h⟩)
theorem qgK{ch:Nat}(hz:z.length<=sizeLine)(a:atI z.cps.toList i=some ch)(h:Q (.str ⟨#[ch]⟩) H):rIx K (.str z) (.int i) H Q:=.inr (.inr ⟨z,i,ch,rfl,rfl,hz,a,h⟩)
theorem qdG{k:Int}{j:Nat}{a:Hp->Prop}(c:H p=some (.lst xs))(b:ixN xs.length k=some j)(h:a (upd H p (.lst (xs.set j v)))):qfl (.ref p) (.int k) v H a:=⟨p,xs,k,j,rfl,rfl,c,b,h⟩
theorem vEx{k:Bool}{P:Bool->Prop}(h:P k):∃ k',V.bl k=.bl k'/\P k':=⟨k,rfl,h⟩
theorem vLeI(h:Q (.bl (decide (i<=j))) H):qgk (.int i) (.int j) H Q:=h
theorem vLeS{i j:Str}(h:Q (.bl (!decide (j.cps.toList<i.cps.toList))) H):qgk (.str i) (.str j) H Q:=h
theorem vIsB{i j:Bool}(h:Q (.bl (i==j)) H):qgl (.bl i) (.bl j) H Q:=h
theorem vAddI(h:Q (.int (i+j)) H):qdE K (.int i) (.int j) H Q:=h
theorem qfn{i j:Str}(hz:i.length+j.length<=sizeLine)(h:Q (.str (i++j)) H):qdE K (.str i) (.str j) H Q:=⟨hz,h⟩
theorem qbU(hc:CMul i j)(h:Q (.int (i*j)) H):qfO (.int i) (.int j) H Q:=⟨hc,h⟩
theorem qfQ(hz:z.length<=sizeLine)(h:Q (.int z.length) H):qdF K [.str z] H Q:=⟨hz,h⟩
theorem qbC(a:H p=some (.lst ys))(h:Q (.int ys.length) H):qdF K [.ref p] H Q:=.inl ⟨ys,.inl (SqL.of a),h⟩
theorem vLenLs(a:SqL K H p ys)(h:Q (.int ys.length) H):qdF K [.ref p] H Q:=.inl ⟨ys,.inl a,h⟩
theorem qfR(a:H p=some (.tup ys))(h:Q (.int ys.length) H):qdF K [.ref p] H Q:=.inl ⟨ys,.inr (SqT.of a),h⟩
theorem qgo{lo hi:Option Int}(hz:z.length<=sizeLine)(h:Q (.str (Txt.slice z lo hi)) H):qgm K (.str z) lo hi H Q:=⟨hz,h⟩
theorem vSl{f:V->Option Int->Option Int->Hp->VK->Prop}{tl a:TO}(h:te σ H fun x b=>tl σ b fun l c=>a σ c fun u e=>f x l u e Q):tSl f te tl a σ H Q:=h
theorem vNoPart(h:QO none H):qdW σ H QO:=h
theorem vPart(h:te σ H fun x a=>∃ i,x=.int i/\QO (some i) a):qfJ te σ H QO:=h
theorem vExI{P:Int->Prop}(h:P i):∃ j,V.int i=.int j/\P j:=⟨i,rfl,h⟩
theorem vBM{f:V->List V->Hp->VK->Prop}(h:te σ H fun x a=>tyV K T x a/\tas σ a fun xs b=>f x xs b Q):tBM K T f te tas σ H Q:=h
theorem vBM0{f:V->List V->Hp->VK->Prop}(h:te σ H fun x a=>tyV K T x a/\f x [] a Q):tBM0 K T f te σ H Q:=h
theorem vComp(h:wi σ H fun J a=>qd6 J g c te (qdK nl ixs σ) a Q):qfm wi g c te nl ixs σ H Q:=h
theorem vFor (h:wi σ H fun J e=>∃ W:Nat->Nat->St->Hp->Prop,(∃ m,W 0 m σ e)/\∀ i m σ H,W i m σ H ->
 (J.stop i H/\D.nx σ H)\/(J.go i H/\∃ N:St->Hp->Prop,(∀ a H',N a H'->∃ c,c<m/\W (i+1) c a H')/\∀ x H',J.yld i H x H'->g x σ H' fun b f=>t { D with nx:=N,ct:=N,bk:=D.nx } b f)):qgx wi g t D σ H:=h
theorem vRng1(h:tas σ H fun vs a=>∃ j:Int,vs=[.int j]/\-(2 ^ 62)<=j/\j<2 ^ 62/\R (Itr 0 j.toNat) a):qfF tas σ H R:=h
theorem vAny (h:te σ H fun v b=>match v with
 | .str x=>R (Its x) b
 | .ref a=>((∃ xs,SqL K b a xs)/\R (Itl K a) b)\/((∃ xs,SqT K b a xs)/\R (Itt K a) b)
 | _=>False):qgn K te σ H R:=h
theorem vGN{i:Nat}{a:St->Hp->Prop}(h:a (σ.set i (some v)) H):qbR i v σ H a:=h
end
section
variable{X:Cx}{K:yg}{o e:Expr}{es:List Expr}{to ta:TE}{t:TA}{name f:Str}{apos cpos pos:Pos}{T id:String}{r:V->List V->Hp->VK->Prop}{tg:Expr}
theorem zR(a:X.K=K):zT X (.builtin "len") (qdF K):=by subst a;show call_lenU
theorem qeI(a:X.K=K)(hc:X.calm=true):zT X (.builtin "all") (qgJ K):=by subst a;show call_all hc
theorem qdk(a:X.K=K):SlR X (qgm K):=by subst a;show u_sl
theorem jV(a:X.K=K):OpR X (binaryOp .Add) (qdE K):=by subst a;show u_add
theorem k_join(a:X.K=K):MtR X "str.join" (qfP K):=by subst a;show mt_join
theorem qS(b:X.K=K)(c:PE X e ta)(a:∀ it v,letOwnedTupleGo tg it v=pure ():=by intro _ _;rfl):PI X tg e (qgn K ta):=by subst b;show pi_any c a
theorem qaW(i:X.K=K)(p:PlainAttrs T)(g:Slot T name id)(h:typeOf (.builtin id)=pure (.type "method_descriptor"))(l:MtR X id r)(m:PE X o to)(j:PA X (e::es) t)
  (b:attributeBase o name X.env (eval o X.env)=eval o X.env:=by rfl)
  (f:((backTo cpos (starEach (e::es) X.env)).all (fun x=>!x.1)&&(backToKw cpos (keywordEach [] X.env)).all (fun x=>x.1.isSome)
   && decide ((e::es).length+([]:List Keyword).length+(if ([]:List Keyword).isEmpty then 0 else 1)<30))=true:=by rfl)
  (c:(apos.endLine==cpos.line)=true:=by rfl) (n:starEach (e::es) X.env=(false,eval e X.env)::starEach es X.env:=by rfl) (a:(backTo cpos (starEach es X.env)).any (·.1)=false:=by rfl) :
  PE X (.Call (.Attribute o name apos) (e::es) [] cpos) (tBM K T r to t):=by
 subst i;show pe_bm p g h l m j b f c n a
end
structure DefOk(P:Program)(w:World)(K:yg)(mg:Str->Option Value)(base:Heap)(CX:CXT)(k:Nat)(x:Str)(ps:List Str)(sp:Sp):Prop where
 ex:∃ f fd,FnOk P w K mg base CX k f fd ps sp/\mg x=some (.ref f)/\PySem.W.keepIn K (.ref f)=true/\Binds K fd ps []
section
variable{X:Cx}{CX:CXT}{k:Nat}{ps:List Str}{sp:Sp}{E:XK}{x:Str}{p pos:Pos}{e:Expr}{es:List Expr}{t:TA}
theorem qt(D:DefOk X.prog X.w X.K X.mg X.base CX k x ps sp)(l:Room k X.A)(m:zU CX X E)(c:PA X (e::es) t)(h:Gl X x:=by rfl)(a:(x==("__debug__":Str))=false:=by decide)
  (g:starEach (e::es) X.env=(false,eval e X.env)::starEach es X.env:=by rfl) (b:(backTo pos (starEach es X.env)).any (·.1)=false:=by rfl):PE X (.Call (.Name x p) (e::es) [] pos) (qdT sp [] E t):=by
 obtain⟨f,fd,F,j,i,hb⟩:=D.ex;show pe_call F l h j i hb .nil m c a g b
theorem qa1(c:Gl X x)(a:∃ tk,X.mg x=some (.int i tk))(b:(x==("__debug__":Str))=false:=by decide):PE X (.Name x pos) (tC (.int i)):=by
 obtain⟨tk,a⟩:=a;show qdM c a ⟨tk,rfl⟩ b
end
noncomputable def qgL(t c:String):Bool:=t==c||(t=="bool"&&c=="int")
theorem zV(K:yg):∀ t∈["NoneType","bool","int","str","list","tuple","dict"],∀ c∈["bool","int","str","list","tuple","dict"],PySem.W.kitOne K (.type t) (.type c)=some (qgL t c):=by
 intro t a c hc;simp only[yv,yM,Yt] at a hc;rcases a with rfl | rfl | rfl | rfl | rfl | rfl | rfl<;>rcases hc with rfl | rfl | rfl | rfl | rfl | rfl<;>rfl
noncomputable def qch:List Value->Bool
 | [.type a,.type b,.type c,.type d]=>a=="ValueError"&&b=="Exception"&&c=="BaseException"&&d=="object"
 | .ref _::r=>qch r
 | _=>false
noncomputable def qgb(K:yg)(C:Addr):Bool:=match K.lookup C with
 | some ⟨.type "type",_,.cls cd,sl⟩=>(match cd.mro,sl.toList with
  | .ref D::bm,[_,_,_,_,some (.builtin n),_]=>D==C&&!cd.hasDel&&qch bm&&n=="ValueError.__new__"
  | _,_=>false)
 | _=>false
theorem qdl{K:yg}(X:K.In h)(q:qgb K C=true):∃ p r N bs c b sn sub e a f g i j m o,
  h.get? C=some (excClassObj p r C N bs c b sn sub e a f g i j m o "ValueError.__new__")/\qch c=true:=by
 unfold qgb at q;split at q
 .rename_i f cd sl ho
  split at q
  .rename_i D c g i j m n o hm hs
   simp only[yY,Yn,X4] at q;obtain⟨⟨⟨t,s⟩,u⟩,v⟩:=q;subst t v;obtain⟨p,bs,mro,ns,r,w,sn,sub,e,a,del⟩:=cd;dsimp only at hm s;subst hm s;obtain⟨l⟩:=sl;dsimp only at hs;subst hs;show⟨p,r,ns,bs,c,w,sn,sub,e,a,f,g,i,j,m,o,X _ _ ho,u⟩
  .cases q
 .cases q
structure XAt(K:yg)(C:Addr):Prop where
 ga:PySem.W.findIn K (.ref C) "__getattribute__"=some (some (.builtin "BaseException.__getattribute__"))
 gn:PySem.W.findIn K (.ref C) "__getattr__"=some none
 bx:PySem.W.mroIn K C (.type "BaseException")=some true
 ob:PySem.W.mroIn K C (.type "object")=some true
 hd:PySem.W.hasDictIn K C=true
 cl:PySem.W.findIn K (.ref C) "__class__"=some (some (.builtin "object.__class__"))
 cg:PySem.W.specialIn K (.builtin "object.__class__") "__get__"=some (some (.builtin "getset_descriptor.__get__"))
 ct:PySem.W.takesIn K (.builtin "object.__class__")=some true
 sa:PySem.W.findIn K (.ref C) "__setattr__"=some (some (.builtin "object.__setattr__"))
 mr:(PySem.W.clsIn K C).any (fun cd=>qch cd.mro)=true
 xc:qgb K C=true
theorem bexc_ga_slot:Slot "ValueError" "__getattribute__" "BaseException.__getattribute__":=PySem.F.attr_ValueError.ga
section
variable{prog:Program}{w:World}{A:Around}{E:Value->Shared->Prop}{s:Shared}{K:yg}{x C:Addr}{ox:Obj}{od:Option Obj}{name:Str}{v:Value}
theorem xga_value{Q:Fin->Shared->Prop}(X:K.In s.heap)(I:PySem.W.InstAt s.heap x ox C od)(a:PySem.W.findObj K C od name=some (.value v))(h:Q (.done (.ret v)) s) :
  wpAny (model prog w) A (Builtin.«object.__getattribute__» ⟨[.ref x,.str name tk],[]⟩) Q E s:=by
 have F:=PySem.W.looks_find (M:=model prog w) X I a;show yr (yw (yr (yw (yr (I.type.here (yr (F.here ?_)))))));show yw h
theorem xga_call{R:Result->Shared->Prop}(X:K.In s.heap)(I:PySem.W.InstAt s.heap x ox C od)(hb:PySem.W.mroIn K C (.type "BaseException")=some true)
  (h:wpAny (model prog w) A.in1 (Builtin.«object.__getattribute__» ⟨[.ref x,.str name tk],[]⟩) (fun a s'=>match a with | .done f=>R (.ok f) s' | .again c'=>c'.quiet=true/\codeAny (model prog w) A c' R s') (fun e s'=>R (.error e) s') s) :
  codeAny (model prog w) A (.call (.builtin "BaseException.__getattribute__") ⟨[.ref x,.str name tk],[]⟩) R s:=by
 show xN bexc_ga_slot.plain PySem.F.entry_bexc_ga ?_;show @PySem.W.check_slot (model prog w) _ _ s "BaseException.__getattribute__" "BaseException" "__getattribute__" (.ref x) [.str name tk] [] _ (by decide +kernel) (by decide +kernel) (I.type.andThen (xu X hb)) (PySem.F.args_bexc_ga _ _) h
theorem qd8{b:Bool}{Q:Value->Shared->Prop}(X:K.In s.heap)(I:PySem.W.InstAt s.heap x ox C od)(c:XAt K C)
  (h:wpAny (model prog w) A.in1 (Builtin.«object.__getattribute__» ⟨[.ref x,.str name tk],[]⟩) (fun a s'=>match a with | .done (.ret v)=>wpAny (model prog w) A (handedOut v) Q E s' | _=>False) (fun _ _=>False) s) :
  wpAny (model prog w) A (getAttrBy (.ref x) (.str name tk) b expr) Q E s:=by
 unfold getAttrBy;show Ys (yr (I.type.here (yr ((YR X c.ga).here ?_))))
 have e:(onTheHeap (Value.ref C)&&Value.builtin "BaseException.__getattribute__"==Value.builtin "object.__getattribute__")=false:=by
  rw[show(Value.builtin "BaseException.__getattribute__"==Value.builtin "object.__getattribute__")=false by decide +kernel];rfl
 dsimp only;rw[e,yD (by decide)];unfold getAttrByItsOwn hookBefore;rw[yG (show onTheHeap (Value.ref C)=true from rfl)];show yr ((YR X c.gn).here (yr (kj (Ys ?_))));have f:(expr&&onTheHeap (Value.builtin "BaseException.__getattribute__"))=false:=by cases expr<;>rfl
 unfold callGetattribute;rw[f,yD (by decide)];unfold boundAndCalled;rw[bexc_ga_slot.bind];show yr (yw ?_);show wpAny _ _ (call (.builtin "BaseException.__getattribute__") [.ref x,.str name tk]) _ _ _;show Xe (xga_call X I c.bx (YB h (fun a s' z=>?_) fun _ _ z=>z.elim));rcases a with(_ | _ | _ | _) | _<;>first | show z | show z.elim
theorem xget{Q:Value->Shared->Prop}(X:K.In s.heap)(I:PySem.W.InstAt s.heap x ox C od)(c:XAt K C)(a:PySem.W.findObj K C od name=some (.value v))(b:PySem.W.handedIn v=true)
  (h:Q v { s with toks:=s.toks+1 }):wpAny (model prog w) A (getAttr (.ref x) name expr) Q E s:=by
 unfold getAttr;show yr (wpAny_mkText (qd8 (s:={ s with toks:=s.toks+1 }) X I c (xga_value (s:={ s with toks:=s.toks+1 }) X I a ?_)));show wpAny _ _ (handedOut v) _ _ _;rw[PySem.W.handedOut_of b];show yw h
theorem xclass{Q:Option Value->Shared->Prop}(X:K.In s.heap)(I:PySem.W.InstAt s.heap x ox C od)(c:XAt K C)(a:PySem.W.findObj K C od "__class__"=some (.bind (.builtin "getset_descriptor.__get__") (.builtin "object.__class__")))
  (h:Q (some (.ref C)) { s with toks:=s.toks+1 }):wpAny (model prog w) A (getAttr? (.ref x) "__class__") Q E s:=by
 unfold getAttr? getAttrBy?;show yr (wpAny_mkText (yr (kj (qd8 (s:={ s with toks:=s.toks+1 }) X I c ?_))));have F:=PySem.W.looks_find (M:=model prog w) X I a;show yr (yw (yr (yw (yr (I.type.here (s:={ s with toks:=s.toks+1 }) (yr (F.here (s:={ s with toks:=s.toks+1 }) ?_)))))));show wpAny _ _ (holding [Value.builtin "object.__class__"] (call (.builtin "getset_descriptor.__get__") [.builtin "object.__class__",.ref x,.ref C])>>=ret) _ _ _;show yr (Ys (Xe (PySem.W.class_get (s:={ s with toks:=s.toks+1 }) X I c.ob ?_)));show yw ?_;show wpAny _ _ (handedOut (.ref C)) _ _ _;show yw (yw h)
theorem findObj_class(c:XAt K C):PySem.W.findObj K C od "__class__"=some (.bind (.builtin "getset_descriptor.__get__") (.builtin "object.__class__")):=by
 obtain⟨a,hc,_⟩:=xY c.hd;unfold PySem.W.findObj;rw[hc,Option.bind_some,c.cl,Option.bind_some];simp[c.cg,c.ct]
theorem qdm(c:XAt K C):PySem.W.KitX K (.ref x) (.ref C) (fun h=>PySem.W.InstAt h x ox C od) where
 ty:=fun _ _ _ I=>I.type
 it:=fun _ _ X _=>by
  obtain⟨b,hc,_⟩:=xY c.hd;unfold PySem.W.clsIn at hc;split at hc
  .rename_i c1 d1 cd1 sl1 ho
   intro g j i s' k q;unfold isType loadHead;show yr (wpAny_loadPart (k _ _ (X _ _ ho)) (yw q))
  .cases hc
 ne:=fun h f l its n m X a=>by
  obtain⟨b,hc,_⟩:=xY c.hd;show Bool.eq_false_iff.mpr fun q=>?_;have e:C=f:=kn (Yn.mp q);subst e;unfold PySem.W.clsIn at hc;split at hc
  .rename_i c1 d1 cd1 sl1 ho
   have z:=(X _ _ ho).symm.trans a;cases z
  .cases hc
 ca:=fun X I k=>xclass X I c (findObj_class c) k
end
theorem qcA{r:List Value}(e:qch (.ref c::r)=true):qch r=true:=by
 cases r with
 | nil=>cases e
 | cons a r=>show e
theorem qaC:∀{l:List Value},qch l=true->∃ f:List Addr,l=f.map Value.ref++[.type "ValueError",.type "Exception",.type "BaseException",.type "object"]
 | [],e=>by cases e
 | .ref c::r,e=>by
  obtain⟨f,q⟩:=qaC (qcA e);show⟨c::f,by rw[q];rfl⟩
 | .type a::r,e=>by
  match r,e with
  | [.type b,.type c,.type d],e =>
   simp only[qch,yY,Yn] at e;obtain⟨⟨⟨rfl,rfl⟩,rfl⟩,rfl⟩:=e;show⟨[],rfl⟩
theorem refuse_exc(self:Value)(e:qch l=true):refuseLoop self "__setattr__" l=pure ():=by
 obtain⟨a,rfl⟩:=qaC e
 induction a with
 | nil=>show PySem.F.store_ValueError.passes self
 | cons c a ih=>rw[YH,Kb,refuseLoop_ref];show ih (qcA e)
theorem qaD(e:qch l=true)(h:T∈["ValueError","Exception","BaseException","object"]):l.contains (.type T)=true:=by
 obtain⟨a,rfl⟩:=qaC e;rw[List.contains_iff_mem];show yN _ ?_;simp only[yv,yM,Yt] at h ⊢;rcases h with rfl | rfl | rfl | rfl<;>simp
section
variable{prog:Program}{w:World}{A:Around}{E:Value->Shared->Prop}{s:Shared}{K:yg}{x C:Addr}{name:Str}{v:Value}{R:Result->Shared->Prop}
theorem xosa(X:K.In s.heap)(I:PySem.W.InstAt s.heap x ox C od)(c:XAt K C)(n:NoAttr K C name)
  (h:wpAny (model prog w) A.in1 (Builtin.ObjectAttr.storeInOwnDict (.ref x) (.ref C) (.str name tk) name v false)
   (fun b s'=>match b with | .done f=>R (.ok f) s' | .again c'=>c'.quiet=true/\codeAny (model prog w) A c' R s') (fun e s'=>R (.error e) s') s) :
  codeAny (model prog w) A (.call (.builtin "object.__setattr__") ⟨[.ref x,.str name tk,v],[]⟩) R s:=by
 have a:=PySem.F.store_object;obtain⟨g,hc,j⟩:=xY c.mr;have i:PySem.W.Looks (model prog w) s.heap (mroOf (.ref C)) g.mro:=(kF X hc).andThen .now;show xN a.slot.plain a.entry (@PySem.W.check_slot (model prog w) _ _ s "object.__setattr__" "object" "__setattr__" (.ref x) [.str name tk,v] [] _ a.kind a.split (I.type.andThen (xu X c.ob)) (a.args (.ref x) (.str name tk) v) ?_);rw[PySem.W.osa_eq,refuse_eq];show yr (yr (I.type.here (yr (i.here ?_))));rw[refuse_exc _ j];show yw (yr (I.type.here (yr ((YR X n).here (yr (yw ?_))))));show h
theorem xset(X:K.In s.heap)(m:s.heap.get? x=some ⟨.ref C,none,.fields vs,#[]⟩)(c:XAt K C)(n:NoAttr K C name){Q:Unit->Shared->Prop}
  (h:∀ h',h'.get? x=some ⟨.ref C,some s.heap.objs.size,.fields vs,#[]⟩->h'.Ns1 s.heap.objs.size (fun y=>if y=name then some v else none)->(∀ b o,b≠x->s.heap.get? b=some o->h'.get? b=some o) ->
   Q () { s with heap:=h',toks:=s.toks+2 }):wpAny (model prog w) A (setAttr (.ref x) name v) Q E s:=by
 have I:PySem.W.InstAt s.heap x ⟨.ref C,none,.fields vs,#[]⟩ C none:=⟨m,rfl,rfl,YS⟩;obtain⟨H,hc,D⟩:=xY c.hd;show PySem.W.set_plain X I c.sa (xosa (s:={ s with toks:=s.toks+1 }) X I c n ?_);show yr (yw (yr (yr (wpAny_loadPart m (yr ((kF X hc).here (s:={ s with toks:=s.toks+1 }) ?_))))));rw[D];obtain⟨a,g,J,tk,M⟩:=s;show wpAny _ _ (alloc { cls:=.type "dict",data:=.dict #[] }>>=fun d=>update x (fun o=>{ cls:=o.cls,dict:=some d,data:=o.data,slots:=o.slots })>>=fun _=>pure (some d)) _ _ _;have l:x≠a.objs.size:=yE (yH m);have i:=yu { cls:=.type "dict",data:=.dict #[] } m;show yr (wpAny_alloc' (yr (wpAny_update' i (yw ?_))));have j:=YE (fun o:Obj=>{ cls:=o.cls,dict:=some a.objs.size,data:=o.data,slots:=o.slots }) i rfl;have f:=(XA (a.push { cls:=.type "dict",data:=.dict #[] }) a.objs.size x (fun o:Obj=>{ cls:=o.cls,dict:=some a.objs.size,data:=o.data,slots:=o.slots }) l.symm).trans (kR rfl rfl);generalize G:(a.push { cls:=.type "dict",data:=.dict #[] }).update x (fun o:Obj=>{ cls:=o.cls,dict:=some a.objs.size,data:=o.data,slots:=o.slots })=h2 at j f ⊢;have nd:h2.Ns a.objs.size (fun _=>none):=⟨_,#[],_,f,rfl,fun e F=>absurd F (by simp),fun _=>rfl⟩;show wpAny _ _ (Builtin.ObjectAttr.storeInDict a.objs.size (.str name tk) name v) _ _ _;unfold Builtin.ObjectAttr.storeInDict Builtin.ObjectAttr.newKeyGuard;show yr (yw (yr (wpAny_nsSet1 (Heap.Ns1.of_empty nd) fun h' u z=>?_)));obtain⟨L,p,B,t,r,q⟩:=u.count (PySem.Within.cons name v PySem.Within.nil);have hz:p.size<=sizeLine:=yi q (by rw[yC,YU,YD];omega);show yr (wpAny_lookBehind t (by rw[r];show pastItsLine_dict (kS hz)) ?_);show yw (h h' ((z.2 x l).trans j) u fun b o hb e=>(z.2 b (yE (yH e))).trans ?_);rw[<- G];show(XA _ _ _ _ hb).trans (yu _ e)
theorem ve_check{Q:Unit->Shared->Prop}(X:K.In s.heap)(c:XAt K C)(m:s.heap.get? x=some ox)(a:ox.cls=.ref C)(q:Q () s) :
  wpAny M A (checkBuiltinCall "ValueError.__init__" ⟨[.ref x,u],[]⟩) Q E s:=by
 have F:=Y3;have b:=F.noStar;obtain⟨B,G,N,bs,i,h,sn,sub,n,j,o,t,v,w,y,z,f,l⟩:=qdl X c.xc;have e:(Value.ref C::i).contains (.type "ValueError")=true:=by rw[Yu,qaD l (by simp),kJ]
 obtain⟨r,g,p,tk,D⟩:=s;simp only[checkBuiltinCall,F.initKind,F.initSplit,F.initRow]
 repeat (first | (with_reducible show YI m ?_;rw[a]) | with_reducible show YI f ?_ | (with_reducible show xv f ?_;rw[e]) | wp_step)
 show q
noncomputable abbrev xfs(a0:Addr):Array Value:=#[.ref a0,.none,.none,.none,.bool false,.none]
theorem xbase_init(X:K.In s.heap)(a:s.heap.get? x=some ⟨.ref C,none,.fields (xfs a0),#[]⟩)(c:XAt K C){Q:Value->Shared->Prop}
  (h:∀ h' f,h'.get? x=some ⟨.ref C,none,.fields (xfs f),#[]⟩->(∀ b o,b≠x->s.heap.get? b=some o->h'.get? b=some o)->Q .none { s with heap:=h' }) :
  wpAny (model prog w) A (call (.builtin "ValueError.__init__") [.ref x,u]) Q E s:=by
 have F:=Y3;show Xe (xN F.init.plain F.initEntry (ve_check X c a rfl ?_));obtain⟨i,g,j,tk,l⟩:=s
 wp_walk
 show h _ i.objs.size ?_ fun b o hb e=>?_
 .rw [YE _ (yu _ a) rfl];rfl
 .rw [YA _ _ (Yi hb)];show yu _ e
end
theorem qdn(e:qch l=true)(h:T∉["ValueError","Exception","BaseException","object"]):l.contains (.type T)=false:=by
 obtain⟨b,rfl⟩:=qaC e;show Bool.eq_false_iff.mpr fun q=>?_;rcases yA.mp (List.contains_iff_mem.mp q) with z | z
 .obtain⟨a,_,q⟩:=yQ.mp z;cases q
 .simp only[yv,yM,Yt,Value.type.injEq] at z h;show h z
section
variable{prog:Program}{w:World}{A:Around}{R:Result->Shared->Prop}{E:Value->Shared->Prop}{h:Heap}{g:Array GenState}{d:Drawn}{t:Nat}{os:OsState}
variable{nm q:Str}{C N:Addr}{bs bm:List Value}{hdct:Bool}{sn:List Str}{sub:List Value}{ab:Bool}{col:Option Bool}{dd:Option Addr}{k0 k1 k2 k3 k5:Option Value}
theorem xnew_check{rest:List Value}{Q:Unit->Shared->Prop}(b:h.get? C=some (excClassObj nm q C N bs bm hdct sn sub ab col dd k0 k1 k2 k3 k5 "ValueError.__new__"))(e:qch bm=true)(f:Q () ⟨h,g,d,t,os⟩) :
  wpAny M A (checkBuiltinCall "ValueError.__new__" ⟨.ref C::rest,[]⟩) Q E ⟨h,g,d,t,os⟩:=by
 have F:=Y3;have a:(Value.ref C::bm).contains (.type "ValueError")=true:=by rw[Yu,qaD e (by simp),kJ]
 have c:=F.noStar;simp only[checkBuiltinCall,F.newKind,F.newSplit,F.newRow]
 repeat (first | show YI b ?_ | (show xv b ?_;rw[a]) | show wpAny_staticBase_exc b ?_ | show wpAny_madeBy_exc b ?_ | simp only[kT,YT,Xj] | wp_step)
 show f
theorem xnew{rest:List Value}(b:h.get? C=some (excClassObj nm q C N bs bm hdct sn sub ab col dd k0 k1 k2 k3 k5 "ValueError.__new__"))(j:qch bm=true)(l:rest.length<=sizeLine)
  (m:R (.ok (.ret (.ref (h.objs.size+1)))) ⟨(h.push { cls:=.type "tuple",data:=.seq rest.toArray }).push { cls:=.ref C,data:=.fields (xfs h.objs.size) },g,d,t,os⟩) :
  codeAny (model prog w) A (.builtin "ValueError.__new__" ⟨.ref C::rest,[]⟩) R ⟨h,g,d,t,os⟩:=by
 have F:=Y3;have i:=F.ends;have e:(Value.ref C::bm).contains (.type "ValueError")=true:=by rw[Yu,qaD j (by simp),kJ]
 have c:(Value.ref C::bm).contains (.type "AttributeError")=false:=by rw[Yu,qdn j (by simp)];rfl
 have f:(Value.ref C::bm).contains (.type "NameError")=false:=by rw[Yu,qdn j (by simp)];rfl
 show codeAny_builtinAt F.entry ?_;unfold Builtin.«BaseException.__new__»;show PySem.wpAt_bind ?_;show PySem.wpAt _ _ _ (stack>>=_) _ _ _;show PySem.wpAt_bind (PySem.wpAt_stack fun n a=>PySem.wpAt_of_wpAny ?_)
 wp_walk
 show PySem.wpAt_of_wpAny ?_;rw[F.owner]
 repeat (first | with_reducible show wpAny_madeHere_exc F.canon b ?_ | with_reducible show YI b ?_ | (with_reducible show xv b ?_;first | rw[e] | rw[c] | rw[f]) | wp_step)
 show R _ _;rw[YW];show m
theorem xtype_call{K:yg}{rest:List Value}{Q:Fin->Shared->Prop}(X:K.In h)(c:h.get? C=some (excClassObj nm q C N bs bm hdct sn sub ab col dd k0 k1 k2 k3 k5 "ValueError.__new__"))(m:qch bm=true)
  (hi:PySem.W.findIn K (.ref C) "__init__"=some (some (.ref f))) (p:PySem.W.isFn K (.ref f)=true) (a:rest.length<=sizeLine)
  (s:wpAny (model prog w) A (call (.ref f) (.ref (h.objs.size+1)::rest)) (fun r s'=>r=.none/\Q (.done (.ret (.ref (h.objs.size+1)))) s') E
   ⟨(h.push { cls:=.type "tuple",data:=.seq rest.toArray }).push { cls:=.ref C,data:=.fields (xfs h.objs.size) },g,d,t,os⟩) :
  wpAny (model prog w) A (Builtin.«type.__call__» ⟨.ref C::rest,[]⟩) Q E ⟨h,g,d,t,os⟩:=by
 have F:=Y3
 repeat (first | with_reducible show YI c ?_ | with_reducible show wpAny_madeBy_exc c ?_ | wp_step)
 show codeAny_call_builtin_code (Code.quiet_builtin _ F.quiet) (xnew_check c m (xnew c m a ?_));show wpAny _ _ _ _ _ _;have up:∀ b o,h.get? b=some o->((h.push { cls:=.type "tuple",data:=.seq rest.toArray }).push { cls:=.ref C,data:=.fields (xfs h.objs.size) }).get? b=some o:=fun b o e=>yu _ (yu _ e);have hC1:=up _ _ c;have i:((h.push { cls:=.type "tuple",data:=.seq rest.toArray }).push { cls:=.ref C,data:=.fields (xfs h.objs.size) }).get? (h.objs.size+1)=some { cls:=.ref C,data:=.fields (xfs h.objs.size) }:=kR (by rw[YW]) rfl;have l:K.In ((h.push { cls:=.type "tuple",data:=.seq rest.toArray }).push { cls:=.ref C,data:=.fields (xfs h.objs.size) }):=X.keeps up;have j:(Value.ref C::bm).contains (.ref C)=true:=by simp
 unfold isInstance
 repeat (first | with_reducible show YI i ?_ | (with_reducible show xv hC1 ?_;rw[j]) | wp_step)
 show wpAny _ _ (typeLookup (.ref C) _) _ _ _;show(YR l hi).at (Ys (yr ((PySem.W.bind_fn l _ (Yn.mp p)).at (yr (YB s (fun r s' u=>?_) fun _ _ z=>z)))));obtain⟨rfl,n⟩:=u
 wp_walk
 show n
theorem xcall{K:yg}{rest:List Value}{Q:Value->Shared->Prop}(X:K.In s.heap)(c:XAt K C)(hi:PySem.W.findIn K (.ref C) "__init__"=some (some (.ref f)))(e:PySem.W.isFn K (.ref f)=true)(a:rest.length<=sizeLine)
  (j:wpAny (model prog w) (A.under (.builtin "type.__call__" ⟨.ref C::rest,[]⟩)) (call (.ref f) (.ref (s.heap.objs.size+1)::rest)) (fun r s'=>r=.none/\Q (.ref (s.heap.objs.size+1)) s') E
   { s with heap:=(s.heap.push { cls:=.type "tuple",data:=.seq rest.toArray }).push { cls:=.ref C,data:=.fields (xfs s.heap.objs.size) } }) :
  wpAny (model prog w) A (call (.ref C) rest) Q E s:=by
 obtain⟨nm,o,N,bs,bm,hdct,sn,sub,ab,col,dd,k0,k1,k2,k3,k5,b,i⟩:=qdl X c.xc;obtain⟨h,g,d,t,os⟩:=s;have l:=tc_lookup;have m:=tc_bind (.ref C);have n:(⟨h,g,d,t,os⟩:Shared).TypeIs (.ref C) "type":=⟨_,b,rfl⟩;show Xe (codeAny_of_tree ?_);show wpAny _ _ (callAny (.ref C) _) _ _ _
 repeat (any_goals (first | assumption | with_reducible show YI b ?_ | wp_step))
 show⟨rfl,?_⟩;show codeAny_call_builtin_at (Code.quiet_builtin _ (by decide +kernel)) entry_typeCall (wpAny_check_type_call_sub b (xtype_call X b i hi e a j))
end
noncomputable def XN(e C:Addr)(dx:Option Addr):HO:=.ext fun h=>∃ a0,h.get? e=some ⟨.ref C,dx,.fields (xfs a0),#[]⟩
noncomputable def XO(e C:Addr)(dx:Option Addr):HO:=.ext fun h=>∃ vs,h.get? e=some ⟨.ref C,dx,.fields vs,#[]⟩
theorem XN.ok(q:h.get? e=some ⟨.ref C,dx,.fields (xfs a0),#[]⟩):ObjOk P w H h e (XN e C dx):=
 ⟨⟨a0,q⟩,⟨_,q⟩,fun _ _ ⟨a,x⟩ k=>⟨a,k _ x⟩⟩
theorem XO.ok(q:h.get? e=some ⟨.ref C,dx,.fields vs,#[]⟩):ObjOk P w H h e (XO e C dx):=
 ⟨⟨vs,q⟩,⟨_,q⟩,fun _ _ ⟨a,x⟩ k=>⟨a,k _ x⟩⟩
def IsX(H:Hp)(e C:Addr)(dx:Option Addr):Prop:=H e=some (XN e C dx)\/H e=some (XO e C dx)
theorem IsX.get(q:IsX H e C dx)(b:HOk P w H h):∃ vs,h.get? e=some ⟨.ref C,dx,.fields vs,#[]⟩:=by
 rcases q with q | q
 .obtain⟨⟨a,x⟩,_⟩:=(show ObjOk P w H h e (XN e C dx) from b e _ q);show⟨_,x⟩
 .obtain⟨⟨a,x⟩,_⟩:=(show ObjOk P w H h e (XO e C dx) from b e _ q);show⟨_,x⟩
theorem upd_id{o:HO}(h:H a=some o):upd H a o=H:=by
 funext b;unfold upd;split
 .rename_i e;subst e;show h.symm
 .rfl
section
variable{X:Cx}{pins:List (Addr×Obj)}{σ:St}{H:Hp}{s:Shared}{e C:Addr}{dx:Option Addr}
theorem qeS(I:Inv X pins σ H s){d:Addr}{fs:List (Str×V)}(h:H d=some (.xd fs)):∃(od:Obj) (a:Str->Option Value),s.heap.get? d=some od/\(∀ name,PySem.W.lookIn name od=some (a name))/\∀ f,RelO (fs.lookup f) (a f):=by
 obtain⟨a,n,r⟩:=(show ObjOk X.prog X.w H s.heap d (.xd fs) from I.hok d _ h);obtain⟨od,h1,b⟩:=qcn n;show⟨od,a,h1,b,r⟩
end
section
variable{X:Cx}{pins:List (Addr×Obj)}{σ:St}{H:Hp}{s:Shared}{a d:Addr}{h':Heap}{o u:HO}{t':Nat}
theorem Inv.both(I:Inv X pins σ H s)(h:Mut (H a))(j:s.heap.objs.size<=d)(k:∀ b v,b≠a->s.heap.get? b=some v->h'.get? b=some v)(l:∃ v,h'.get? a=some v)
  (m:ObjOk X.prog X.w (upd (upd H d u) a o) h' a o) (p:ObjOk X.prog X.w (upd (upd H d u) a o) h' d u) (ne:d≠a):Inv X pins σ (upd (upd H d u) a o) { s with heap:=h',toks:=t' }:=by
 have nd:H d=none:=I.hok.fresh j;have f:∀ b q,H b=some q->¬ Mut (some q)->b≠a:=fun b q e t z=>by subst z;rw[e] at h;show t h
 have i:∀ b,H b=none->b≠a:=fun b e z=>by subst z;rw[e] at h;show h
 have big:∀ b v,s.heap.get? b=some v->b≠d:=fun b v e=>yE (yj (yH e) j);have up:∀ b q,H b=some q->b≠a->upd (upd H d u) a o b=some q:=fun b q e n=>by rw[qf n,qf (qK e nd)];show e
 show I.un ⟨fun b v e n _ _=>k b v (i b n) e,fun b v e n _ _=>⟨v.slots,k b v (i b n) e⟩,fun b v e n _=>by rw[qf (i b n),qf (big b v e)];show n,fun b v e _=>?_,fun b xs e=>up b _ e (f b _ e fun z=>z),fun b q xs e=>up b _ e (f b _ e fun z=>z),
  fun b ps e=>⟨#[],by rw[up b _ e (f b _ e fun z=>z)];simp⟩⟩ fun b q e=>?_
 .by_cases hb:b=a
  .subst hb;show l
  .show⟨v,k b v hb e⟩
 .by_cases hb:b=a
  .subst hb;rw[qb] at e;cases e;show m
  .rw [qf hb] at e;by_cases g:b=d
   .subst g;rw[qb] at e;cases e;show p
   .rw [qf g] at e;show(I.hok b q e).stay (fun c v hc r=>k c v ?_ r) (fun c r=>up c _ r (f c _ r fun z=>z)) fun c xs r=>up c _ r (f c _ r fun z=>z);rcases hc with rfl | hc
    .show hb
    .show f c _ hc fun z=>z
end
def qfS(K:yg)(c:TE)(f:Str):TE:=fun σ H Q=>c σ H fun x b=>(∃ a C dx fs v,x=.ref a/\b a=some (.ins C dx fs)/\Cls K C/\NoAttr K C f/\fs.lookup f=some v/\Q v b) \/
 (∃ a C dx fs v,x=.ref a/\IsX b a C (some dx)/\XAt K C/\NoAttr K C f/\b dx=some (.xd fs)/\fs.lookup f=some v/\Q v b)
def qfT(K:yg)(e g:TE)(f:Str):TS:=fun D σ H=>g σ H fun y c=>e σ c fun x b=>(∃ a C dx fs,x=.ref a/\b a=some (.ins C dx fs)/\Cls K C/\NoAttr K C f/\fs.length<1000 /\
  D.nx σ (upd b a (.ins C dx (qH f y fs)))) \/
 (∃ a C,x=.ref a/\b a=some (XN a C none)/\XAt K C/\NoAttr K C f/\∀ dx,b dx=none->D.nx σ (upd (upd b dx (.xd [(f,y)])) a (XN a C (some dx))))
section
variable{X:Cx}{o e value:Expr}{f:Str}{pos pos':Pos}{ta tv:TE}{K:yg}
theorem qB(y:X.K=K)(A:PE X e ta)(hb:attributeBase e f X.env (eval e X.env)=eval e X.env):PE X (.Attribute e f pos) (qfS K ta f):=by
 subst y;intro pins s σ H Q I h;show attr_of hb (thn (A pins s σ H _ I h) fun u F ⟨x,m,b,p,j⟩=>?_);rcases j with⟨a,C,dx,fs,v,rfl,i,c,n,l,q⟩ | ⟨a,C,dx,fs,v,rfl,i,c,n,z,l,q⟩
 .obtain rfl:u=Value.ref a:=p;show getattr_ok b i c n l fun E G t g=>⟨v,m,t,g,q⟩
 .obtain rfl:u=Value.ref a:=p;obtain⟨vs,j⟩:=i.get b.hok;obtain⟨od,D,h1,w,r⟩:=qeS b z;obtain⟨E,B,g⟩:=RelO.some_of (v:=v) (o:=D f) (by rw[<- l];show r f);show xget b.kIn (od:=some od) ⟨j,rfl,rfl,h1⟩ c (PySem.W.findObj_own c.hd n rfl (by rw[w,B])) (qco g) ⟨v,m,b.tok _,g,q⟩
theorem jN(L:X.K=K)(M:PE X o ta)(hv:PE X value tv)(N:swapsWith value (some (.Attribute o f pos')) pos.line X.env=pure false):PS X (.Assign [.Attribute o f pos'] value pos) (qfT K ta tv f):=by
 subst L;intro pins s σ H D I h;show plainObj_wpAny_Assign_Attribute (thn (hv pins s σ H _ I h) fun u O ⟨y,B,E,A,q⟩=>thn (M pins O σ B _ E q) fun v j ⟨x,r,b,z,i⟩=>?_) N;rcases i with⟨a,C,dx,fs,rfl,e,c,n,l,p⟩ | ⟨a,C,rfl,e,c,n,p⟩
 .obtain rfl:v=Value.ref a:=z;show setattr_ok b e c n l A fun P F=>⟨σ,_,F,p⟩
 .obtain rfl:v=Value.ref a:=z;obtain⟨⟨a0,i⟩,_⟩:=(show ObjOk X.prog X.w r j.heap a (XN a C none) from b.hok a _ e);show xset b.kIn i c n fun h' t G J=>?_;have nd:r j.heap.objs.size=none:=b.hok.fresh (yh _);have ne:j.heap.objs.size≠a:=Yl (yH i);show⟨σ,_,b.both (o:=XN a C (some j.heap.objs.size)) (u:=.xd [(f,y)]) (by rw[e];show YS) (yh _) J ⟨_,t⟩ (XN.ok t) ⟨_,G,fun g=>?_⟩ ne,p _ nd⟩;by_cases m:g=f
  .subst m;simp only[List.lookup,xz,XH];show A
  .have hb:(g==f)=false:=Yx.mpr m;simp only[List.lookup,hb,yD m];show YS
end
def qd9(C:Addr)(sp:Sp)(E:XK)(t:TA):TE:=fun σ H Q=>t σ H fun vs a=>vs.length<=1000/\∀ x,a x=none->sp (.ref x::vs) (upd a x (XN x C none)) (fun v b=>v=.non/\Q (.ref x) b) E
structure XMk(K:yg)(C f:Addr):Prop where
 at_:XAt K C
 init:PySem.W.findIn K (.ref C) "__init__"=some (some (.ref f))
 fn:PySem.W.isFn K (.ref f)=true
 kp:PySem.W.keepIn K (.ref C)=true
section
variable{X:Cx}{CX:CXT}{k:Nat}{f C:Addr}{fd:FuncData}{ps:List Str}{sp:Sp}{E:XK}{x m:Str}{p pos apos:Pos}{e o:Expr}{es:List Expr}{ta:TE}{t:TA}
theorem run_xmake{Q:VK}{vs:List V}(M:XMk X.K C f)(F:FnOk X.prog X.w X.K X.mg X.base CX k f fd ps sp)(B:Room (k+1) X.A)(hb:Binds X.K fd ps [])
  (D:zU CX X E) (I:Inv X pins σ H s) (r:Vals vs us) (j:vs.length<=1000) (h:∀ x,H x=none->sp (.ref x::vs) (upd H x (XN x C none)) (fun v p=>v=.non/\Q (.ref x) p) E) :
  wpAny (model X.prog X.w) X.A (call (.ref C) us) (EP X pins σ Q) X.xe s:=by
 have m:=h (s.heap.objs.size+1) (I.hok.fresh (xL _));have up:∀ b o,s.heap.get? b=some o->((s.heap.push { cls:=.type "tuple",data:=.seq us.toArray }).push { cls:=.ref C,data:=.fields (xfs s.heap.objs.size) }).get? b=some o:=fun b o q=>yu _ (yu _ q);have g:((s.heap.push { cls:=.type "tuple",data:=.seq us.toArray }).push { cls:=.ref C,data:=.fields (xfs s.heap.objs.size) }).get? (s.heap.objs.size+1)=some ⟨.ref C,none,.fields (xfs s.heap.objs.size),#[]⟩:=kR (by rw[YW]) rfl;have i:=I.laid (a:=s.heap.objs.size+1) (o:=XN (s.heap.objs.size+1) C none) (t':=s.toks) up (xL _) (XN.ok g);have n:Vals (V.ref (s.heap.objs.size+1)::vs) (Value.ref (s.heap.objs.size+1)::us):=.cons rfl r
 have hl:(Value.ref (s.heap.objs.size+1)::us++[]).length=ps.length:=by
  have q:=n.length;rw[F.len _ _ _ _ m] at q;rw[Yj];show q.symm
 have l:us.length<=sizeLine:=by rw[<- r.length];show Yh (qi j)
 show xcall I.kIn M.at_ M.init M.fn l (Xe (Xx (F.run _ X.stack _ _ ⟨Value.ref (s.heap.objs.size+1)::us,[]⟩ (Value.ref (s.heap.objs.size+1)::us) _ _ E (B.make C us [])
  (i.env0.make C us []) (by have z:=hb _ (Value.ref (s.heap.objs.size+1)::us) i.kIn hl;rw[Yj] at z;show z) n m) fun r s' c=>?_))
 cases r with
 | error e=>show D pins σ _ _ e s' i c
 | ok fl =>
  cases fl with
  | ret u =>
   obtain⟨v,H',t,J,y,G⟩:=i.after c;subst y;show⟨J,⟨V.ref (s.heap.objs.size+1),H',t,rfl,G⟩⟩
  | next=>show False.elim c
  | brk=>show False.elim c
  | cont=>show False.elim c
theorem pe_xmake(M:XMk X.K C f)(F:FnOk X.prog X.w X.K X.mg X.base CX k f fd ps sp)(m:Room (k+1) X.A)(j:Gl X x)(l:X.mg x=some (.ref C))(hb:Binds X.K fd ps [])(n:zU CX X E)
  (g:PA X (e::es) t) (a:(x==("__debug__":Str))=false:=by decide) (i:starEach (e::es) X.env=(false,eval e X.env)::starEach es X.env:=by rfl) (b:(backTo pos (starEach es X.env)).any (·.1)=false:=by rfl) :
  PE X (.Call (.Name x p) (e::es) [] pos) (qd9 C sp E t):=by
 intro pins s σ H Q I h;show xA (zS I j l ?_ a);show Y8 (h₀:=X.base) I.ok.mod.kin M.kp (thn (g pos pins s σ H _ I h) fun us u ⟨vs,o,c,r,z,q⟩=>⟨c.kIn,?_⟩) i b;show run_xmake M F m hb n c r z q
structure CMeth(K:yg)(C:Addr)(m:Str)(f:Addr):Prop where
 rd:PySem.W.readsIn K C (.type "type")=true
 at_:PySem.W.findCls K (.ref C) (.type "type") m=some (.val (.ref f))
 ga:PySem.W.specialIn K (.ref C) "__getattribute__"=some (some (.builtin "type.__getattribute__"))
 kp:PySem.W.keepIn K (.ref f)=true
theorem pe_clsm(M:CMeth X.K C m f)(F:FnOk X.prog X.w X.K X.mg X.base CX k f fd ps sp)(n:Room k X.A)(j:Gl X x)(l:X.mg x=some (.ref C))(hb:Binds X.K fd ps [])(q:zU CX X E)(i:PA X (e::es) t)
  (a:(x==("__debug__":Str))=false:=by decide) (c:starEach (e::es) X.env=(false,eval e X.env)::starEach es X.env:=by rfl) (b:(backTo pos (starEach es X.env)).any (·.1)=false:=by rfl)
  (o:eval (.Call (.Attribute (.Name x p) m apos) (e::es) [] pos) X.env=(do
   let ov <- eval (.Name x p) X.env
   standAt apos.atName
   let (f,first) <- holding [ov] (getMethod ov m pl)
   callWith pos f first (backTo pos (starEach (e::es) X.env)) (backToKw pos (keywordEach [] X.env))):=by rfl) :
  PE X (.Call (.Attribute (.Name x p) m apos) (e::es) [] pos) (qdT sp [] E t):=by
 intro pins s σ H Q I h;show xC (pl:=pl) (zS I j l ?_ a) o;show PySem.W.method_cls I.kIn M.ga (PySem.W.cls_value I.kIn M.rd M.at_ rfl ?_);show Y8 (first:=[]) (h₀:=X.base) I.ok.mod.kin M.kp (thn (i pos pins _ σ H _ (I.tok (s.toks+1)) h) fun us y ⟨vs,v,g,r,u⟩=>⟨g.kIn,?_⟩) c b;show qdc F n hb .nil q g r u
end
def qeT(K:yg)(t:TA):TE:=fun σ H Q=>t σ H fun vs b=>∃ a C y,vs=[.ref a,y]/\b a=some (XN a C none)/\XAt K C/\Q .non b
theorem ve_type:PySem.W.Looks M h (typeOf (.type "ValueError")) (.type "type"):=PySem.W.Looks.of_pure (by kernel_rfl)
theorem ve_opaque:PySem.W.Looks M h (opaqueClassAbove (.type "ValueError")) none:=PySem.W.Looks.of_pure (by kernel_rfl)
structure VInit(K:yg):Prop where
 ga:PySem.W.findIn K (.type "type") "__getattribute__"=some (some (.builtin "type.__getattribute__"))
 su:PySem.W.subIn K (.type "type") (.type "type")=some true
 at_:PySem.W.findCls K (.type "ValueError") (.type "type") "__init__"=some (.val (.builtin "ValueError.__init__"))
section
variable{X:Cx}{p pos apos:Pos}{e:Expr}{es:List Expr}{t:TA}{K:yg}
theorem k_vinit(F:X.K=K)(V:VInit K)(L:Gl X "ValueError")(M:X.mg "ValueError"=none)(hv:bootBuiltins "ValueError"=some (.type "ValueError"))(G:PA X (e::es) t)
  (m:starEach (e::es) X.env=(false,eval e X.env)::starEach es X.env:=by rfl) (l:(backTo pos (starEach es X.env)).any (·.1)=false:=by rfl)
  (N:eval (.Call (.Attribute (.Name "ValueError" p) "__init__" apos) (e::es) [] pos) X.env=(do
   let ov <- eval (.Name "ValueError" p) X.env
   standAt apos.atName
   let (f,first) <- holding [ov] (getMethod ov "__init__" pl)
   callWith pos f first (backTo pos (starEach (e::es) X.env)) (backToKw pos (keywordEach [] X.env))):=by rfl) :
  PE X (.Call (.Attribute (.Name "ValueError" p) "__init__" apos) (e::es) [] pos) (qeT K t):=by
 subst F;intro pins s σ H Q I h;show xC (pl:=pl) (qau I L M hv ?_) N
 have j:∀{g:Value×List Value->Shared->Prop},g (.builtin "ValueError.__init__",[]) { s with toks:=s.toks+1 }->wpAny (model X.prog X.w) X.A (getMethod (.type "ValueError") "__init__" pl) g X.xe s:=fun{g} q=>by
  unfold getMethod;show yr ((ve_type.andThen (YR I.kIn V.ga)).here ?_);dsimp only;rw[yG PySem.W.canon_tga];show yr (PySem.W.cls_open (hook:=none) I.kIn ve_opaque ve_type V.ga (PySem.W.Looks.now) V.su V.at_ (yw ?_));show wpAny _ _ (handedOut _) _ _ _;show PySem.W.handed_on rfl (yw q)
 show j ?_;have z:=G pos pins _ σ H _ (I.tok (s.toks+1)) h;rw[m] at z ⊢;show XZ (by show(false||(backTo pos (starEach es X.env)).any (·.1))=false;rw[l]<;>rfl) (ko ?_);show thn z fun us B ⟨vs,n,b,P,a,C,y,D,i,c,q⟩=>?_;subst D;obtain⟨u,v,rfl,R,T⟩:=qeF P;cases R;obtain⟨⟨a0,O⟩,_⟩:=(show ObjOk X.prog X.w n B.heap a (XN a C none) from b.hok a _ i);show xbase_init b.kIn O c fun h' S r E=>?_;have J:=b.write (x:=a) (e:=a) (o:=XN a C none) (t':=B.toks) (by rw[i];show YS) (.inl rfl) E ⟨_,r⟩ (XN.ok r);rw[upd_id i] at J;show⟨.non,n,J,rfl,q⟩
end
structure Keep(fs zs:List Addr)(h h':Heap):Prop where
 keep:∀ b o,h.get? b=some o->b∉zs->b∉fs->h'.get? b=some o
 slot:∀ b o,h.get? b=some o->b∉zs->b∈fs->∃ sl,h'.get? b=some { o with slots:=sl }
structure Trc(h:Heap)(e:Addr)(C:Value)(dx:Option Addr)(T:Addr)(fl:Value):Prop where
 ex:∃ vs,h.get? e=some ⟨C,dx,.fields vs,#[]⟩/\vs[1]?=some (.ref T)/\vs[2]?=some .none
 tb:∃ ts,h.get? T=some ⟨.type "traceback",none,.fields ts,#[]⟩/\ts[3]?=some fl
 ne:T≠e
section
variable{M:Model}{A:Around}{E:Value->Shared->Prop}{s:Shared}{base:Heap}{env:Env}{outer:List Env}{L e:Addr}{C:Value}{dx:Option Addr}{vs:Array Value}
theorem qeU{f:Value}{r:Bool}{Q:Unit->Shared->Prop}(t:A.frames=some (env::outer))(hl:s.heap.FunFrames base (env::outer))(G:env.frame=some L)(x:s.heap.get? e=some ⟨C,dx,.fields vs,#[]⟩)(hsz:1<vs.size)(D:vs[2]?=some .none)
  (h:∀ h' T,s.heap.objs.size<=T->Trc h' e C dx T (rawInt L)->Keep (frs (env::outer)) [e] s.heap h'->Q () { s with heap:=h' }) :
  wpAny M A (do let a <- frameOf env;let pl <- entryPlaceOf L r;let b <- EntryCells.newEntry f a .none (rawInt L) .none pl;setField (.ref e) 1 b) Q E s:=by
 have m:e∉frs (env::outer):=fun H=>by
  obtain⟨_,o,B,u⟩:=hl.mem H;rw[x] at B;cases B;show u vs rfl
 show yr (wpAny_frameOf_fun t hl G fun c p=>yr (wpAny_entryPlaceOf fun pl n=>?_));unfold EntryCells.newEntry newFields;show yr (xM ?_ (n.sizeOk5 _ _ _ _ _));have j:c.get? e=some ⟨C,dx,.fields vs,#[]⟩:=(p.2.1 e m).trans x;generalize v:([f,.ref L,.none,rawInt L,.none]++(if pl.isEmpty then List.replicate 6 Value.none else pl)).toArray=w;have F:w[3]?=some (rawInt L):=by rw[<- v];first | (simp;done) | (rcases n with rfl | ⟨_,_,_,_,_,_,_,rfl⟩<;>simp)
 have l:=yu (h:=c) { cls:=.type "traceback",dict:=none,data:=.fields w } j;have i:c.objs.size≠e:=Yl (yH j);show wpAny_setField l rfl hsz (h _ c.objs.size (XW p.1.symm) ⟨⟨vs.setIfInBounds 1 (.ref c.objs.size),?_,by simp[hsz],by rw[Array.getElem?_setIfInBounds_ne (by decide)];show D⟩,⟨w,?_,F⟩,i⟩ ⟨fun b o q hb y=>?_,fun b o q hb y=>?_⟩)
 .rw [YE _ l rfl];rfl
 .rw [YA _ _ (Yi i)];show yS c rfl
 .have g:b≠e:=fun z=>hb (by simp[z]);rw[YA _ _ (Yi g)];show yu _ ((p.2.1 b y).trans q)
 .have g:b≠e:=fun z=>hb (by simp[z]);obtain⟨I,z⟩:=p.2.2 b o q;show⟨I,by rw[YA _ _ (Yi g)];show yu _ z⟩
theorem qcB{Q:Unit->Shared->Prop}(a:A.frames=some (env::outer))(hl:s.heap.FunFrames base (env::outer))(c:env.frame=some L)(b:s.heap.get? e=some ⟨C,dx,.fields vs,#[]⟩)(h1:vs[1]?=some .none)(f:vs[2]?=some .none)
  (h:∀ h' T,s.heap.objs.size<=T->Trc h' e C dx T (rawInt L)->Keep (frs (env::outer)) [e] s.heap h'->Q () { s with heap:=h' }):wpAny M A (noteFrame (.ref e) env) Q E s:=by
 unfold noteFrame;simp only[c];show yr (Y6 b rfl h1 ?_);rw[yD (by decide)];show qeU a hl c b (Y4.mp h1).1 f h
theorem qdo{T:Addr}{Q:Unit->Shared->Prop}(i:A.frames=some (env::outer))(hl:s.heap.FunFrames base (env::outer))(u:env.frame=some L)(t:Trc s.heap e C dx T .none)
  (h:∀ h' f,s.heap.objs.size<=f->Trc h' e C dx f (rawInt L)->Keep (frs (env::outer)) [e,T] s.heap h'->Q () { s with heap:=h' }):wpAny M A (noteFrame (.ref e) env) Q E s:=by
 obtain⟨⟨vs,r,h1,v⟩,⟨x,g,p⟩,l⟩:=t;unfold noteFrame;simp only[u];show yr (Y6 r rfl h1 ?_);rw[yG (show(Value.ref T != Value.none)=true from by simp)];show yr (Y6 g rfl p ?_);rw[yD (show ¬ ((Value.none==rawInt L)=true) from by simp[rawInt])];show yr (wpAny_setField g rfl (Y4.mp p).1 ?_);have a:∀ b,b≠T->(s.heap.update T (Obj.mapFields (·.setIfInBounds 3 Value.none))).get? b=s.heap.get? b:=fun b hb=>YA _ _ (Yi hb);have n:(s.heap.update T (Obj.mapFields (·.setIfInBounds 3 Value.none))).objs.size=s.heap.objs.size:=Heap.size_after_update ..;show qeU (s:={ s with heap:=s.heap.update T (Obj.mapFields (·.setIfInBounds 3 Value.none)) }) i (hl.of_keeps fun b o hb m=>?_) u ((a e (Yi l)).trans r) (Y4.mp h1).1 v fun h' f w t' k=>?_
 .have c:b≠T:=fun q=>by rw[q,g] at hb;cases hb;show m x rfl
  show⟨o,(a b c).trans hb,rfl⟩
 .show h h' f (by rw[<- n];show w) t' ⟨fun b o q hb j=>?_,fun b o q hb j=>?_⟩
  .have c:b≠T:=fun z=>hb (by simp[z]);show k.keep b o ((a b c).trans q) (fun z=>hb (by simp only[yy] at z;simp[z])) j
  .have c:b≠T:=fun z=>hb (by simp[z]);show k.slot b o ((a b c).trans q) (fun z=>hb (by simp only[yy] at z;simp[z])) j
theorem qbq{T:Addr}{Q:Unit->Shared->Prop}(t:Trc s.heap e C dx T fl)(h:∀ h',Trc h' e C dx T .none->(∀ b o,b≠T->s.heap.get? b=some o->h'.get? b=some o)->h'.objs.size=s.heap.objs.size->Q () { s with heap:=h' }) :
  wpAny M A (setFlight (.ref e) none) Q E s:=by
 obtain⟨⟨vs,g,h1,j⟩,⟨i,f,l⟩,c⟩:=t;have a:3<i.size:=(Y4.mp l).1;unfold setFlight;show yr (Y6 g rfl h1 ?_);rw[yG (show(Value.ref T != Value.none)=true from by simp)];show wpAny_setField f rfl a (h _ ⟨⟨vs,?_,h1,j⟩,⟨i.setIfInBounds 3 .none,?_,by simp[a]⟩,c⟩ (fun b o hb q=>?_) (Heap.size_after_update ..))
 .rw [YA _ _ c];show g
 .rw [YE _ f rfl];rfl
 .rw [YA _ _ (Yi hb)];show q
end
def CX1(P:Program)(w:World):CXT:=fun b H s E c s'=>∃(a C:Addr) (dx:Option Addr) (T:Addr) (H':Hp),c=.ref a/\s'.os=s.os/\AllBare s'.gens/\Un (frs b) [] H H' s.heap s'.heap/\HOk P w H' s'.heap /\
 H' a=some (XO a C dx)/\Trc s'.heap a (.ref C) dx T .none/\s.heap.objs.size<=T/\H' T=none/\E (.ref C) dx H'
section
variable{X:Cx}{pins:List (Addr×Obj)}{σ:St}{H:Hp}{s:Shared}
theorem qbV{T:Addr}(I:Inv X pins σ H s)(g:H a=some (XO a C dx))(k:Keep (frs X.stack) zs s.heap h')(hz:∀ b∈zs,b=a\/H b=none)(t:Trc h' a (.ref C) dx T fl):HOk X.prog X.w H h':=fun b u e=>by
 by_cases hb:b=a
 .subst hb;rw[g] at e;cases e;obtain⟨vs,q,_⟩:=t.ex;show XO.ok q
 .have f:∀ c o,H c=some o->c≠a->c∉zs/\c∉frs X.stack:=fun c o q n=>⟨fun z=>(hz c z).elim n fun y=>(by rw[y] at q;cases q),fun z=>(by have y:=I.stkFree c z;rw[y] at q;cases q)⟩;show(I.hok b u e).stay (fun c v hc r=>?_) (fun _ q=>q) fun _ _ q=>q;rcases hc with rfl | hc
  .show k.keep c v r (f c _ e hb).1 (f c _ e hb).2
  .have n:c≠a:=fun z=>by rw[z,g] at hc;cases hc
   show k.keep c v r (f c _ hc n).1 (f c _ hc n).2
theorem qeV{T:Addr}(I:Inv X pins σ H s)(i:X.ex=[])(u:H a=some (XO a C dx))(k:Keep (frs X.stack) zs s.heap h')(hz:∀ b∈zs,b=a\/X.s₀.heap.objs.size<=b)(t:Trc h' a (.ref C) dx T fl) :
  Un X.fs [] X.H₀ H X.s₀.heap h':=by
 have B:=I.base;rw[i] at B;have j:∀ b o,X.s₀.heap.get? b=some o->b≠X.env.locals:=fun b o e=>yE (yj (yH e) I.ok.above);have m:∀ b o,X.s₀.heap.get? b=some o->b≠a->b∉zs:=fun b o e n z=>(hz b z).elim n fun y=>absurd (yj (yH e) y) (Yy _);have r:∀ b,H b=none->b≠a:=fun b n z=>by rw[z,u] at n;cases n
 have l:∀ b o,X.s₀.heap.get? b=some o->b∉X.fs->b∉frs X.stack:=fun b o e n z=>(yv.mp (I.stkSub b z)).elim (j b o e) n;show⟨fun b o e n hb c=>?_,fun b o e n hb c=>?_,B.free,fun b o e c=>?_,B.tups,B.frzs,B.tbls⟩
 .show k.keep b o (B.keep b o e n hb c) (m b o e (r b (B.free b o e n c))) (l b o e hb)
 .obtain⟨w,q⟩:=B.slot b o e n hb c;have h:=m b o e (r b (B.free b o e n c));by_cases f:b∈frs X.stack
  .obtain⟨g,p⟩:=k.slot b _ q h f;show⟨g,p⟩
  .show⟨w,k.keep b _ q h f⟩
 .obtain⟨v,q⟩:=B.there b o e c;by_cases hb:b=a
  .subst hb;obtain⟨vs,z,_⟩:=t.ex;show⟨_,z⟩
  .have h:=m b o e hb;by_cases f:b∈frs X.stack
   .obtain⟨g,p⟩:=k.slot b _ q h f;show⟨_,p⟩
   .show⟨v,k.keep b _ q h f⟩
end
structure XOk(X:Cx)(EK:St->XK):Prop where
 pass:∀(pins:List (Addr×Obj)) (σ:St) (H:Hp) (s:Shared) (e:Value) (s':Shared),Inv X pins σ H s->CX1 X.prog X.w X.stack H s (EK σ) e s'->X.xe e s'
 rais:∀(pins:List (Addr×Obj)) (σ:St) (H:Hp) (s:Shared) (a C:Addr) (dx:Option Addr),Inv X pins σ H s->H a=some (XN a C dx)->EK σ (.ref C) dx (upd H a (XO a C dx))->X.xe (.ref a) s
 calm:X.calm=true
section
variable{P:Program}{w:World}{K:yg}{mg:Str->Option Value}{base:Heap}{N:List Str}{qual:Str}{scope:Scope}{f:Addr}{cd:Value}{A:Around}{outer:List Env}{s0:Shared}{H0:Hp}{E:XK}
theorem qaE:XOk (qeO (CX1 P w) P w K mg base N qual scope f cd A outer s0 H0 E) fun _=>E where
 calm:=rfl
 pass:=by
  intro pins σ H s R s' I p;obtain⟨a,C,dx,T,H',rfl,F,m,un,D,h,t,O,B,q⟩:=p;have J:=I.call' (s':=s') (H':=H') (ch:=[]) F un D m (fun b z=>absurd z (by simp));show wpAny _ _ (leaving _ _) _ _ _;unfold leaving;show yr (qdo (base:=base) J.ok.frames J.stack rfl t fun h' g i t' k=>?_);show qbq (s:={ s' with heap:=h' }) t' fun v j r M=>?_;have G:s0.heap.objs.size<=s.heap.objs.size:=I.sz;have l:=J.sz
  have u:Keep (frs (envOfC qual scope s0.heap.objs.size f cd::outer)) [a,T,g] s'.heap v:=by
   show⟨fun b o e z n=>?_,fun b o e z n=>?_⟩
   .simp only[yv,yM,Yt,Kx] at z;show r b o z.2.2 (k.keep b o e (by simp[z.1,z.2.1]) n)
   .simp only[yv,yM,Yt,Kx] at z;obtain⟨L,y⟩:=k.slot b o e (by simp[z.1,z.2.1]) n;show⟨L,r b _ z.2.2 y⟩
  have c:H' g=none:=J.hok.fresh i;show⟨a,C,dx,g,H',rfl,J.os,m,qeV J rfl h u (fun b hb=>?_) j,qbV J h u (fun b hb=>?_) j,h,j,yi l i,c,q⟩
  .simp only[yv,yM,Yt] at hb;rcases hb with rfl | rfl | rfl
   .show .inl rfl
   .show .inr (yi G O)
   .show .inr (yi l i)
  .simp only[yv,yM,Yt] at hb;rcases hb with rfl | rfl | rfl
   .show .inl rfl
   .show .inr B
   .show .inr c
 rais:=by
  intro pins σ H s a C dx I e q;obtain⟨⟨a0,p⟩,_⟩:=(show ObjOk _ _ H s.heap a (XN a C dx) from I.hok a _ e);have J:Inv _ pins σ (upd H a (XO a C dx)) s:=I.write (x:=a) (e:=a) (o:=XO a C dx) (h':=s.heap) (t':=s.toks) (by rw[e];show YS) (.inl rfl) (fun _ _ _ q=>q) ⟨_,p⟩ (XO.ok p);show wpAny _ _ (leaving _ _) _ _ _;unfold leaving;show yr (qcB (base:=base) J.ok.frames J.stack rfl p rfl rfl fun h' g i t' k=>?_);show qbq (s:={ s with heap:=h' }) t' fun v j r M=>?_;have l:=J.sz;have h:upd H a (XO a C dx) a=some (XO a C dx):=qb
  have u:Keep (frs (envOfC qual scope s0.heap.objs.size f cd::outer)) [a,g] s.heap v:=by
   show⟨fun b o e z n=>?_,fun b o e z n=>?_⟩
   .simp only[yv,yM,Yt,Kx] at z;show r b o z.2 (k.keep b o e (by simp[z.1]) n)
   .simp only[yv,yM,Yt,Kx] at z;obtain⟨L,y⟩:=k.slot b o e (by simp[z.1]) n;show⟨L,r b _ z.2 y⟩
  have c:upd H a (XO a C dx) g=none:=J.hok.fresh i;show⟨a,C,dx,g,_,rfl,J.os,J.bare,qeV J rfl h u (fun b hb=>?_) j,qbV J h u (fun b hb=>?_) j,h,j,yi l i,c,q⟩
  .simp only[yv,yM,Yt] at hb;rcases hb with rfl | rfl
   .show .inl rfl
   .show .inr (yi l i)
  .simp only[yv,yM,Yt] at hb;rcases hb with rfl | rfl
   .show .inl rfl
   .show .inr c
end
def qeW(K:yg)(c:St->XK)(te:TE):TS:=fun _ σ H=>te σ H fun x b=>∃ a C dx,x=.ref a/\b a=some (XN a C dx)/\XAt K C/\c σ (.ref C) dx (upd b a (XO a C dx))
section
variable{X:Cx}{EK:St->XK}{e:Expr}{te:TE}{pos:Pos}{K:yg}
theorem xraise{x:Sem Value}{Q:Flow->Shared->Prop}(p:A.handled=none)
  (h:wpAny M A x (fun v b=>∃ a C dx a0,v=.ref a/\K.In b.heap/\XAt K C/\b.heap.get? a=some ⟨.ref C,dx,.fields (xfs a0),#[]⟩/\E (.ref a) b) E s):wpAny M A (raiseStmt env (some x) none) Q E s:=by
 unfold raiseStmt;show yr (YB h (fun v b h1=>?_) fun _ _ z=>z);obtain⟨a,C,dx,a0,rfl,f,c,o,n⟩:=h1;obtain⟨G,I,N,bs,l,j,sn,sub,r,m,t,w,y,B,D,F,i,q⟩:=qdl f c.xc;have e:(Value.ref C::l).contains (.type "BaseException")=true:=by rw[Yu,qaD q (by simp),kJ]
 obtain⟨u,g,d,tk,H⟩:=b
 repeat (first | with_reducible show YI o ?_ | with_reducible show YI i ?_ | (with_reducible show xv i ?_;rw[e]) | wp_step)
 show wpAny_raiseNew_none p n
theorem qea(l:X.K=K)(g:XOk X EK)(m:PE X e te):PS X (.Raise (some e) none pos) (qeW K EK te):=by
 subst l;intro pins s σ H D I h;rw[arm_exec_Raise];show yr (XD (xraise (K:=X.K) (I.ok.hd g.calm) ?_));show yr (thn (m pins s σ H _ I h) fun v j ⟨x,f,b,o,a,C,dx,ex,i,c,q⟩=>yr (XD (yw ?_)));subst ex;cases o;obtain⟨⟨a0,n⟩,_⟩:=(show ObjOk _ _ f j.heap a (XN a C dx) from b.hok a _ i);show⟨a,C,dx,a0,rfl,b.kIn,c,n,g.rais pins σ f j a C dx b i q⟩
end
def qeX(sp:Sp)(a:St->XK)(t:TA):TE:=fun σ H Q=>t σ H fun vs b=>sp vs b Q (a σ)
def qeY(C:Addr)(m:Str)(sp:Sp)(c:St->XK)(f:TE)(t:TA):TE:=fun σ H Q=>f σ H fun x b=>∃ a dx fs,x=.ref a/\b a=some (.ins C dx fs)/\fs.lookup m=none/\t σ b fun vs e=>sp (x::vs) e Q (c σ)
def tMakeS(C:Addr)(sp:Sp)(b:St->XK)(t:TA):TE:=fun σ H Q=>t σ H fun vs a=>∀ x dx,a x=none->a dx=none->dx≠x ->
 sp (.ref x::vs) (upd (upd a dx (.own x)) x (.ins C dx [])) (fun v c=>v=.non/\Q (.ref x) c) (b σ)
theorem FnOk.any{K:yg}{b:Str->Option Value}{base:Heap}{k:Nat}{CX:CXT}(F:FnOk P w K b base CX0 k f fd ps sp):FnOk P w K b base CX k f fd ps sp:=by
 show⟨F.len,fun A a s H args us vs Q E g c hb hv h=>Xx (F.run A a s H args us vs Q E g c hb hv h) fun r s' q=>?_⟩
 cases r with
 | ok fl=>cases fl<;>show q
 | error e=>show q.elim
structure MethOk(P:Program)(w:World)(K:yg)(mg:Str->Option Value)(base:Heap)(CX:CXT)(k:Nat)(C:Addr)(m:Str)(ps:List Str)(sp:Sp):Prop where
 ex:∃ f fd,FnOk P w K mg base CX k f fd ps sp/\Meth K C m f/\Binds K fd ps []
 cl:Cls K C
structure MakeOk(P:Program)(w:World)(K:yg)(mg:Str->Option Value)(base:Heap)(CX:CXT)(k:Nat)(C:Addr)(x:Str)(ps:List Str)(sp:Sp):Prop where
 ex:∃ f fd,FnOk P w K mg base CX k f fd ps sp/\Mk K C f/\Binds K fd ps []
 mg_:mg x=some (.ref C)
structure XMakeOk(P:Program)(w:World)(K:yg)(mg:Str->Option Value)(base:Heap)(k:Nat)(C:Addr)(x:Str)(ps:List Str)(sp:Sp):Prop where
 ex:∃ f fd,FnOk P w K mg base CX0 k f fd ps sp/\XMk K C f/\Binds K fd ps []
 mg_:mg x=some (.ref C)
section
variable{X:Cx}{EK:St->XK}{k:Nat}{f C:Addr}{fd:FuncData}{ps:List Str}{sp:Sp}{x m:Str}{p pos apos:Pos}{e o:Expr}{es:List Expr}{ta:TE}{t:TA}
theorem qeb{Q:VK}{vs:List V}(F:FnOk X.prog X.w X.K X.mg X.base (CX1 X.prog X.w) k f fd ps sp)(g:Room k X.A)(hb:Binds X.K fd ps [])(c:XOk X EK)
  (I:Inv X pins σ H s) (r:Vals vs us) (h:sp vs H Q (EK σ)):wpAny (model X.prog X.w) X.A (call (.ref f) us) (EP X pins σ Q) X.xe s:=by
 have hl:(us++[]).length=ps.length:=by rw[Yj,<- r.length];show F.len _ _ _ _ h
 have b:=hb s us I.kIn hl;rw[Yj] at b;show Xe (Xx (F.run X.A X.stack s H ⟨us,[]⟩ us vs Q (EK σ) g I.env0 b r h) fun r s' a=>?_)
 cases r with
 | error e=>show c.pass pins σ H s e s' I a
 | ok fl =>
  cases fl with
  | ret u=>show I.after a
  | _=>show False.elim a
theorem qbW(D:DefOk X.prog X.w X.K X.mg X.base (CX1 X.prog X.w) k x ps sp)(o:Room k X.A)(g:XOk X EK)(i:PA X (e::es) t)(l:Gl X x:=by rfl)(a:(x==("__debug__":Str))=false:=by decide)
  (j:starEach (e::es) X.env=(false,eval e X.env)::starEach es X.env:=by rfl) (b:(backTo pos (starEach es X.env)).any (·.1)=false:=by rfl):PE X (.Call (.Name x p) (e::es) [] pos) (qeX sp EK t):=by
 obtain⟨f,fd,F,n,m,hb⟩:=D.ex;intro pins s σ H Q I h;show xA (zS I l n ?_ a);show Y8 (h₀:=X.base) I.ok.mod.kin m (thn (i pos pins s σ H _ I h) fun us v ⟨vs,u,c,r,q⟩=>⟨c.kIn,?_⟩) j b;show qeb F o hb g c r q
theorem qdp(D:MethOk X.prog X.w X.K X.mg X.base (CX1 X.prog X.w) k C m ps sp)(B:Room k X.A)(p:XOk X EK)(z:PE X o ta)(y:PA X (e::es) t)
  (c:starEach (e::es) X.env=(false,eval e X.env)::starEach es X.env:=by rfl) (b:(backTo pos (starEach es X.env)).any (·.1)=false:=by rfl)
  (E:eval (.Call (.Attribute o m apos) (e::es) [] pos) X.env=(do
   let ov <- eval o X.env
   standAt apos.atName
   let (f,first) <- holding [ov] (getMethod ov m pl)
   callWith pos f first (backTo pos (starEach (e::es) X.env)) (backToKw pos (keywordEach [] X.env))):=by rfl) :
  PE X (.Call (.Attribute o m apos) (e::es) [] pos) (qeY C m sp EK ta t):=by
 obtain⟨f,fd,F,j,hb⟩:=D.ex;intro pins s σ H Q I h;show xC (pl:=pl) (thn (z pins s σ H _ I h) fun u L ⟨x,n,g,J,a,dx,fs,ex,v,l,q⟩=>?_) E;subst ex;obtain rfl:u=Value.ref a:=J;show qaP g v D.cl j l ?_;show Y8 (first:=[.ref a]) (h₀:=X.base) I.ok.mod.kin j.kp (thn (y pos pins L σ n _ g q) fun us N ⟨vs,M,i,r,G⟩=>⟨i.kIn,?_⟩) c b;show qeb (us:=.ref a::us) (vs:=.ref a::vs) F B hb p i (.cons rfl r) G
theorem qfU(D:XMakeOk X.prog X.w X.K X.mg X.base k C x ps sp)(i:Room (k+1) X.A)(c:PA X (e::es) t)(h:Gl X x:=by rfl)(a:(x==("__debug__":Str))=false:=by decide)
  (g:starEach (e::es) X.env=(false,eval e X.env)::starEach es X.env:=by rfl) (b:(backTo pos (starEach es X.env)).any (·.1)=false:=by rfl):PE X (.Call (.Name x p) (e::es) [] pos) (qd9 C sp E0 t):=by
 obtain⟨f,fd,F,M,hb⟩:=D.ex;show pe_xmake M F i h D.mg_ hb qC c a g b
theorem qF(D:MethOk X.prog X.w X.K X.mg X.base CX0 k C m ps sp)(i:Room k X.A)(g:PE X o ta)(c:PA X (e::es) t)
  (b:starEach (e::es) X.env=(false,eval e X.env)::starEach es X.env:=by rfl) (a:(backTo pos (starEach es X.env)).any (·.1)=false:=by rfl)
  (j:eval (.Call (.Attribute o m apos) (e::es) [] pos) X.env=(do
   let ov <- eval o X.env
   standAt apos.atName
   let (f,first) <- holding [ov] (getMethod ov m pl)
   callWith pos f first (backTo pos (starEach (e::es) X.env)) (backToKw pos (keywordEach [] X.env))):=by rfl) :
  PE X (.Call (.Attribute o m apos) (e::es) [] pos) (qdU C m sp [] E0 ta t):=by
 obtain⟨f,fd,F,h,hb⟩:=D.ex;show pe_meth (pl:=pl) g D.cl h F i hb .nil qC c b a j
theorem jD(D:MethOk X.prog X.w X.K X.mg X.base CX0 k C m ps sp)(c:Room k X.A)(a:PE X o ta)
  (e:eval (.Call (.Attribute o m apos) [] [] pos) X.env=(do
   let ov <- eval o X.env
   standAt apos.atName
   let (f,first) <- holding [ov] (getMethod ov m pl)
   callWith pos f first (backTo pos (starEach [] X.env)) (backToKw pos (keywordEach [] X.env))):=by rfl) :
  PE X (.Call (.Attribute o m apos) [] [] pos) (qdU C m sp [] E0 ta qf9):=by
 obtain⟨f,fd,F,b,hb⟩:=D.ex;show pe_meth0 (pl:=pl) a D.cl b F c hb .nil qC e
end
section
variable{P:Program}{w:World}{K:yg}{mg:Str->Option Value}{base:Heap}
theorem Fun.ok1{st:Stmt}{k:Nat}(F:Fun K x qual st f fd)(S:FnScope N ps (qh st))(h:∀ vs H Q E,sp vs H Q E->vs.length=ps.length)
  (c:∀(b:Value) (A:Around) (a:List Env) (s:Shared) (H:Hp) (vs:List V) (Q:VK) (E:XK),Room k (A.deeper (envOfC qual (qh st) s.heap.objs.size f b))->sp vs H Q E ->
   ∃ t,PSs (qeO (CX1 P w) P w K mg base N qual (qh st) f b A a s H E) (zD st) t/\t { nx:=fun _ H'=>Q .non H',rt:=Q } (start N vs) H):FnOk P w K mg base (CX1 P w) (k+1) f fd ps sp:=by
 obtain⟨o,od,kV,i,p,n,b,ct,m,rfl,l,e⟩:=F.ex;show qfI l e S h fun A a s H vs Q E j g=>c b A a s H vs Q E j g
end
noncomputable abbrev Cx.tried(X:Cx)(pn:List (Addr×Obj))(E:Value->Shared->Prop):Cx:={ X with pn:=pn,xe:=E }
noncomputable abbrev Cx.hand(X:Cx)(a:Addr):Cx:={ X with A:=X.A.mark (some (.ref a)),calm:=false,xe:=fun _ _=>False }
section
variable{X:Cx}{pins pins':List (Addr×Obj)}{σ:St}{H:Hp}{s:Shared}{E:Value->Shared->Prop}{a:Addr}
theorem Inv.tried(I:Inv X pins σ H s)(E:Value->Shared->Prop):Inv (X.tried (X.pn++pins) E) [] σ H s:=
 ⟨⟨I.ok.mod,I.ok.kind,I.ok.glob,I.ok.blt,I.ok.above,I.ok.inj,I.ok.has,I.ok.cab,I.ok.hd,I.ok.frames,I.ok.stk,I.ok.exf,I.ok.bs,I.ok.bsz,I.ok.noex,I.ok.exfs,I.ok.funs,I.ok.frf⟩,I.os,I.bare,I.base,I.loc,I.cell,I.free,I.freeC,
  fun p a=>I.pin p (by have a:p∈(X.pn++pins)++[]:=a;rw[Yj] at a;show a),I.hok,I.len⟩
theorem Inv.untried(I:Inv (X.tried (X.pn++pins) E) pins' σ H s):Inv X pins σ H s:=
 ⟨⟨I.ok.mod,I.ok.kind,I.ok.glob,I.ok.blt,I.ok.above,I.ok.inj,I.ok.has,I.ok.cab,I.ok.hd,I.ok.frames,I.ok.stk,I.ok.exf,I.ok.bs,I.ok.bsz,I.ok.noex,I.ok.exfs,I.ok.funs,I.ok.frf⟩,I.os,I.bare,I.base,I.loc,I.cell,I.free,I.freeC,
  fun p a=>I.pin p (yO _ a),I.hok,I.len⟩
theorem Inv.hand(I:Inv X pins σ H s)(a:Addr):Inv (X.hand a) pins σ H s:=
 ⟨⟨I.ok.mod,I.ok.kind,I.ok.glob,I.ok.blt,I.ok.above,I.ok.inj,I.ok.has,I.ok.cab,(fun h=>nomatch h),I.ok.frames,I.ok.stk,I.ok.exf,I.ok.bs,I.ok.bsz,I.ok.noex,I.ok.exfs,I.ok.funs,I.ok.frf⟩,I.os,I.bare,I.base,I.loc,I.cell,I.free,I.freeC,I.pin,I.hok,I.len⟩
theorem Inv.unhand(hc:X.calm=true->X.A.handled=none)(I:Inv (X.hand a) pins σ H s):Inv X pins σ H s:=
 ⟨⟨I.ok.mod,I.ok.kind,I.ok.glob,I.ok.blt,I.ok.above,I.ok.inj,I.ok.has,I.ok.cab,hc,I.ok.frames,I.ok.stk,I.ok.exf,I.ok.bs,I.ok.bsz,I.ok.noex,I.ok.exfs,I.ok.funs,I.ok.frf⟩,I.os,I.bare,I.base,I.loc,I.cell,I.free,I.freeC,I.pin,I.hok,I.len⟩
structure Loose(X:Cx)(pins:List (Addr×Obj))(H:Hp)(T:Addr):Prop where
 hn:H T=none
 lo:X.s₀.heap.objs.size<=T
 nl:T≠X.env.locals
 nf:T∉X.fs
 nc:∀ x c,X.env.cells.lookup x=some c->c≠T
 np:∀ p∈X.pn++pins,p.1≠T
theorem Inv.loose(I:Inv X pins σ H s){T:Addr}(a:s.heap.objs.size<=T)(hn:H' T=none):Loose X pins H' T where
 hn:=hn
 lo:=yi I.sz a
 nl:=Yl (yj I.lt a)
 nf:=I.nofs a
 nc:=fun x c e=>by
  obtain⟨v,o,b,_⟩:=I.cell x c e;show yE (yj (yH b) a)
 np:=fun p f=>yE (yj (yH (I.pin p f).1) a)
theorem Inv.noted{T:Addr}(I:Inv X pins σ H s)(g:H a=some (XO a C dx))(k:Keep (frs X.stack) zs s.heap h')(hz:∀ b∈zs,b=a\/Loose X pins H b)(t:Trc h' a (.ref C) dx T fl) :
  Inv X pins σ H { s with heap:=h' }:=by
 have j:=qbV I g k (fun b hb=>(hz b hb).imp (fun e=>e) fun l=>l.hn) t;have i:∀ b,H b=none->b∉zs.filter (fun b=>decide (b≠a))->b∉zs:=fun b n z y=>z (yp.mpr ⟨y,yB fun e=>by rw[e,g] at n;cases n⟩);show I.call (g':=s.gens) (t':=s.toks) (d':=s.drawn) (ch:=zs.filter fun b=>decide (b≠a)) ⟨fun b o e n hb f=>k.keep b o e (i b n f) hb,fun b o e n hb f=>k.slot b o e (i b n f) hb,fun _ _ _ n _=>n,fun b o e f=>?_,fun _ _ e=>e,fun _ _ _ e=>e,
  fun b ps e=>⟨#[],by rw[e];simp⟩⟩ j I.bare fun b hb=>?_
 .by_cases c:b=a
  .subst c;obtain⟨vs,q,_⟩:=t.ex;show⟨_,q⟩
  .have z:b∉zs:=fun y=>f (yp.mpr ⟨y,yB c⟩);by_cases h:b∈frs X.stack
   .obtain⟨m,q⟩:=k.slot b o e z h;show⟨_,q⟩
   .show⟨o,k.keep b o e z h⟩
 .obtain⟨y,q⟩:=yp.mp hb;rcases hz b y with e | l
  .show absurd e (yk q)
  .show⟨.inr l.lo,l.nl,l.nc,l.np⟩
theorem unbind_ok{i:Nat}{Q:Unit->Shared->Prop}(I:Inv X pins σ H s)(G:X.N.Nodup)(hi:X.N[i]?=some x)(f:X.env.scope.names.lookup x=some .local)(hv:σ[i]?=some (some v))
  (h:∀ s',Inv X pins (σ.set i none) H s'->Q () s'):wpAny M A (unbindName X.env x) Q E s:=by
 obtain⟨m,K,hl⟩:=id I.loc;obtain⟨u,Z,O⟩:=hl i x v hi hv (.inl f)
 have J:m x=some u:=by
  rcases O with⟨_,e⟩ | ⟨k,_⟩
  .show e
  .have k':X.env.scope.names.lookup x=some .cell\/X.env.scope.names.lookup x=some .free:=k;rw[f] at k';rcases k' with z | z<;>cases z
 have r:(X.env.scope.kind==.class||(X.env.scope.kind==.module&&X.env.locals != X.env.globals))=false:=by rw[I.ok.kind];rfl
 show wpAny_unbindName_local f K J r fun h' u' D g=>?_;have a:∀ b o,X.s₀.heap.get? b=some o->b≠X.env.locals:=fun b o e=>yE (yj (yH e) I.ok.above);show h _ ⟨I.ok,I.os,I.bare,⟨fun b o e n hb f=>?_,fun b o e n hb f=>?_,I.base.free,fun b o e f=>?_,I.base.tups,I.base.frzs,I.base.tbls⟩,⟨_,D,fun j y Y l t F=>?_⟩,fun y c e=>?_,I.free,I.freeC,fun p L=>?_,fun b T e=>?_,by simpa using I.len⟩
 .show(g.2 b (a b o e)).trans (I.base.keep b o e n hb f)
 .obtain⟨W,l⟩:=I.base.slot b o e n hb f;show⟨W,(g.2 b (a b o e)).trans l⟩
 .obtain⟨S,l⟩:=I.base.there b o e f;show⟨S,(g.2 b (a b o e)).trans l⟩
 .by_cases B:j=i
  .subst B;have C:j<σ.length:=by rw[I.len];show(yc.mp hi).1
   rw[Xd C] at t;cases t
  .rw [xm (Yi B)] at t;obtain⟨w,U,q⟩:=hl j y Y l t F;show⟨w,U,?_⟩;rcases q with⟨k,e⟩ | ⟨k,c,e,z⟩
   .have R:y≠x:=fun e=>B (qbP G l (e ▸ hi));show .inl ⟨k,by simp[R,e]⟩
   .show .inr ⟨k,c,e,z.sameBut g (I.cne y c e)⟩
 .obtain⟨w,z⟩:=I.cell y c e;show⟨w,z.sameBut g (I.cne y c e)⟩
 .obtain⟨e,n,ne,P,d⟩:=I.pin p L;show⟨(g.2 p.1 ne).trans e,n,ne,P,d⟩
 .show(I.hok b T e).stay (fun c w hc q=>(g.2 c ?_).trans q) (fun _ q=>q) fun _ _ q=>q;rintro rfl;rcases hc with rfl | hc
  .rw [I.free] at e;cases e
  .rw [I.free] at hc;cases hc
end
structure Held(X:Cx)(pins:List (Addr×Obj))(H:Hp)(h:Heap)(a C:Addr)(dx:Option Addr):Prop where
 at_:H a=some (XO a C dx)
 tr:∃ T,Trc h a (.ref C) dx T .none/\Loose X pins H T
def PH(X:Cx)(a C:Addr)(dx:Option Addr)(b:List ExceptHandler)(c:TS):Prop:=
 ∀(pins:List (Addr×Obj)) (s:Shared) (σ:St) (H:Hp) (D:Ends),Inv X pins σ H s->Held X pins H s.heap a C dx->c D σ H->wpAny (model X.prog X.w) X.A (handleBy (.ref a) X.env b) (SP X pins D) X.xe s
def thNil:TS:=fun _ _ _=>False
def thAs(K:yg)(a C D:Addr)(i:Nat)(e rest:TS):TS:=fun Z σ H=>∃ b,PySem.W.mroIn K C (.ref D)=some b/\XAt K D/\XAt K C /\
 if b=true then e { nx:=fun c H'=>Z.nx (c.set i none) H',rt:=Z.rt,bk:=fun c H'=>Z.bk (c.set i none) H',ct:=fun c H'=>Z.ct (c.set i none) H' } (σ.set i (some (.ref a))) H else rest Z σ H
def thNo(K:yg)(C D:Addr)(a rest:TS):TS:=fun Z σ H=>∃ b,PySem.W.mroIn K C (.ref D)=some b/\XAt K D/\XAt K C/\if b=true then a Z σ H else rest Z σ H
theorem qeZ{K:yg}{o:Obj}{Q:Bool->Shared->Prop}(X:K.In s.heap)(m:s.heap.get? a=some o)(hc:o.cls=.ref C)(d:XAt K D)(hb:PySem.W.mroIn K C (.ref D)=some b)(q:Q b s) :
  wpAny M A (excMatches (.ref a) (.ref D)) Q E s:=by
 obtain⟨z,F,N,bs,i,h,sn,sub,n,j,p,u,v,w,x,y,e,l⟩:=qdl X d.xc;have c:(Value.ref D::i).contains (.type "BaseException")=true:=by rw[Yu,qaD l (by simp),kJ]
 have f:=tc_notTuple;have L:=xu (M:=M) X hb;obtain⟨t,g,r,tk,B⟩:=s;unfold excMatches
 repeat (first | with_reducible show YI e ?_ | (with_reducible show YI m ?_;rw[hc]) | (with_reducible show xv e ?_;rw[c]) | with_reducible show L.at ?_ | wp_step)
 cases b<;>(wp_walk;show q)
section
variable{X:Cx}{a C D:Addr}{dx:Option Addr}{c n:Str}{cp pos:Pos}{b0:Stmt}{body:List Stmt}{rest:List ExceptHandler}{tb tr:TS}{i:Nat}{K:yg}
theorem ph_nil:PH X a C dx [] thNil:=fun _ _ _ _ _ _ _ h=>h.elim
theorem suite_as{R:Result->Shared->Prop}{e:Value}
  (h:wpAny (model prog w) A (setFlight e none) (fun _ a=>wpAny (model prog w) A (bindName env n e) (fun _ b=>wpAny (model prog w) A (execs (b0::body) env) (fun f c=>R (.ok f) c) (fun _ _=>False) b) (fun _ _=>False) a) (fun _ _=>False) s) :
  codeAny (model prog w) A (.handlers e [.ExceptHandler none (some n) (b0::body) pos] env) R s:=by
 show codeAny_of_tree ?_;show wpAny _ A (do return Fin.done (<- (handleWith e env [.ExceptHandler none (some n) (b0::body) pos]).onRaise (fun x=>do noteFrame x env;theTreesLotGoes x))) _ _ s;show yr (wpAny_noted ?_);unfold handleWith;show yr (XD (yr (YB h (fun _ a h1=>yr (YB h1 (fun _ b g=>yr (kj (YB g (fun f c i=>yw (yw i)) fun _ _ z=>z.elim))) fun _ _ z=>z.elim)) fun _ _ z=>z.elim)))
theorem ph_as(W:X.K=K)(y:X.N.Nodup)(hi:X.N[i]?=some n)(p:X.env.scope.names.lookup n=some .local)(hg:Gl X c)(hm:X.mg c=some (.ref D))(hb:PSs (X.hand a) (b0::body) tb)(hr:PH X a C dx rest tr)
  (E:(c==("__debug__":Str))=false:=by decide):PH X a C dx (.ExceptHandler (some (.Name c cp)) (some n) (b0::body) pos::rest) (thAs K a C D i tb tr):=by
 subst W;intro pins s σ H Z I hl h;obtain⟨b,B,xd,xc,q⟩:=h;obtain⟨vs,Y⟩:=(show IsX H a C dx from .inr hl.at_).get I.hok;show wpAny_handleBy_cons (codeAny_handlers_test ?_) (by intro q;cases q);have U:=I.hand a;show zS (X:=X.hand a) U hg hm (qeZ I.kIn Y rfl xd B ?_) E
 cases b with
 | false=>show hr pins s σ H Z I hl q
 | true =>
  obtain⟨T,t,lo⟩:=hl.tr;show suite_as (qbq t fun h1 t1 M aa=>?_);have kk:Keep (frs X.stack) [T] s.heap h1:=⟨fun b o e z _=>M b o (by simpa using z) e,fun b o e z _=>⟨o.slots,M b o (by simpa using z) e⟩⟩;have P:=I.noted hl.at_ kk (fun b hb=>.inr (by rw[yy.mp hb];show lo)) t1;have R:=P.hand a;show wpAny_bindName (qaY (X:=X.hand a) R y hi (.inl p) (v:=.ref a) rfl (fun s2 S=>?_) (.inr p));have q':tb { nx:=fun g H'=>Z.nx (g.set i none) H',rt:=Z.rt,bk:=fun g H'=>Z.bk (g.set i none) H',ct:=fun g H'=>Z.ct (g.set i none) H' } (σ.set i (some (.ref a))) H:=q;show thn (hb pins s2 _ H _ S q') fun f O x=>?_
  have l:∀{g:St} {H':Hp} {Q:Unit->Shared->Prop},Inv (X.hand a) pins g H' O->(∀ m,Inv X pins (g.set i none) H' m->Q () m)->wpAny (model X.prog X.w) X.A (do bindName X.env n .none;unbindBehindTheSuite X.env n pos) Q X.xe O:=fun{g H' Q} J k=>by
   have G:=Inv.unhand I.ok.hd J;have F:i<g.length:=by rw[G.len];show(yc.mp hi).1
   show yr (wpAny_bindName (qaY G y hi (.inl p) (v:=.non) rfl (fun m j=>?_) (.inr p)));show wpAny_onRaise (unbind_ok j y hi p (v:=.non) (by rw[Xd F]) fun s5 L=>k s5 ?_);rw[List.set_set] at L;show L
  cases f with
  | next=>obtain⟨g,H',J,z⟩:=x;show l J fun m j=>⟨_,H',j,z⟩
  | brk=>obtain⟨g,H',J,z⟩:=x;show l J fun m j=>⟨_,H',j,z⟩
  | cont=>obtain⟨g,H',J,z⟩:=x;show l J fun m j=>⟨_,H',j,z⟩
  | ret u=>obtain⟨v,g,H',J,r,z⟩:=x;show l J fun m j=>⟨v,_,H',j,r,z⟩
theorem ph_no(p:X.K=K)(x:Gl X c)(y:X.mg c=some (.ref D))(hb:PSs (X.hand a) (b0::body) tb)(A:PH X a C dx rest tr)(l:(c==("__debug__":Str))=false:=by decide) :
  PH X a C dx (.ExceptHandler (some (.Name c cp)) none (b0::body) pos::rest) (thNo K C D tb tr):=by
 subst p;intro pins s σ H Z I hl h;obtain⟨b,j,xd,M,q⟩:=h;obtain⟨vs,w⟩:=(show IsX H a C dx from .inr hl.at_).get I.hok;show wpAny_handleBy_cons (codeAny_handlers_test ?_) (by intro q;cases q);show zS (X:=X.hand a) (I.hand a) x y (qeZ I.kIn w rfl xd j ?_) l
 cases b with
 | false=>show A pins s σ H Z I hl q
 | true =>
  obtain⟨T,t,lo⟩:=hl.tr;show codeAny_handlers_suite (qbq t fun h1 G m F=>?_);have B:Keep (frs X.stack) [T] s.heap h1:=⟨fun b o e z _=>m b o (by simpa using z) e,fun b o e z _=>⟨o.slots,m b o (by simpa using z) e⟩⟩;have n:=I.noted hl.at_ B (fun b hb=>.inr (by rw[yy.mp hb];show lo)) G;have E:tb Z σ H:=q;show YB (hb pins _ σ H Z (n.hand a) E) (fun f L i=>?_) fun _ _ z=>z.elim
  cases f with
  | next=>obtain⟨g,H',J,z⟩:=i;show⟨g,H',Inv.unhand I.ok.hd J,z⟩
  | brk=>obtain⟨g,H',J,z⟩:=i;show⟨g,H',Inv.unhand I.ok.hd J,z⟩
  | cont=>obtain⟨g,H',J,z⟩:=i;show⟨g,H',Inv.unhand I.ok.hd J,z⟩
  | ret u=>obtain⟨v,g,H',J,r,z⟩:=i;show⟨v,g,H',Inv.unhand I.ok.hd J,r,z⟩
end
def tTry(X:Cx)(b:List Stmt)(h:List ExceptHandler)(te:TS):TS:=fun D σ H=>∃(e:St->XK) (f:TS),(∀ pn xe,XOk (X.tried pn xe) e->PSs (X.tried pn xe) b f) /\
 f { nx:=te D,rt:=D.rt,bk:=D.bk,ct:=D.ct } σ H/\∀(a C:Addr) (dx:Option Addr) (c:St) (H':Hp),e c (.ref C) dx H'->H' a=some (XO a C dx)->∃ g,PH X a C dx h g/\g D c H'
section
variable{X:Cx}{body orelse:List Stmt}{h0:ExceptHandler}{hs:List ExceptHandler}{pos:Pos}{te:TS}
theorem ps_try(hc:X.calm=true)(l:X.stack=X.env::X.outer)(E:X.env.frame=some X.env.locals)(ho:PSs X orelse te):PS X (.Try body (h0::hs) orelse [] pos) (tTry X body (h0::hs) te):=by
 intro pins s σ H D I h;obtain⟨S,tb,hb,q,hh⟩:=h;have F:X.A.frames=some (X.env::X.outer):=by rw[<- l];show I.ok.frames
 let n:Value->Shared->Prop:=fun e g=>∃(a C:Addr) (dx:Option Addr) (c:St) (H':Hp),e=.ref a/\Inv X pins c H' g/\H' a=some (XO a C dx)/\S c (.ref C) dx H' /\
  ((∃ T,Trc g.heap a (.ref C) dx T .none/\Loose X pins H' T)\/∃ a0,g.heap.get? a=some ⟨.ref C,dx,.fields (xfs a0),#[]⟩)
 have XX:XOk (X.tried (X.pn++pins) n) S:=by
  show⟨fun pins' c M g e s2 J m=>?_,fun pins' c M g a C dx J e z=>?_,hc⟩
  .obtain⟨a,C,dx,T,H',rfl,R,O,un,P,p,t,hT,N,z⟩:=m;have y:=J.call' (s':=s2) (H':=H') (ch:=[]) R un P O (fun b z=>absurd z (by simp));have K:=Inv.untried J;show⟨a,C,dx,c,H',rfl,Inv.untried y,p,z,.inl ⟨T,t,K.loose hT N⟩⟩
  .have K:=Inv.untried J;obtain⟨⟨a0,m⟩,_⟩:=(show ObjOk _ _ M g.heap a (XN a C dx) from K.hok a _ e);have y:Inv X pins c (upd M a (XO a C dx)) g:=K.write (x:=a) (e:=a) (o:=XO a C dx) (h':=g.heap) (t':=g.toks) (by rw[e];show YS) (.inl rfl) (fun _ _ _ q=>q) ⟨_,m⟩ (XO.ok m);show⟨a,C,dx,c,_,rfl,y,qb,z,.inr ⟨a0,m⟩⟩
 have B:=hb (X.pn++pins) n XX [] s σ H _ (I.tried n) q;show wpAny_Try_except (YB B (fun f g L=>?_) fun e g he=>?_)
 .cases f with
  | next=>obtain⟨c,H',J,z⟩:=L;show ho pins g c H' D (Inv.untried J) z
  | brk=>obtain⟨c,H',J,z⟩:=L;show⟨c,H',Inv.untried J,z⟩
  | cont=>obtain⟨c,H',J,z⟩:=L;show⟨c,H',Inv.untried J,z⟩
  | ret u=>obtain⟨v,c,H',J,r,z⟩:=L;show⟨v,c,H',Inv.untried J,r,z⟩
 .obtain⟨a,C,dx,c,H',rfl,J,p,z,tt⟩:=he;obtain⟨th,hp,hq⟩:=hh a C dx c H' z p;have G:g.heap.FunFrames X.base (X.env::X.outer):=by rw[<- l];show J.stack
  have U:∀(h':Heap) (j:Addr) (zs:List Addr),g.heap.objs.size<=j->Trc h' a (.ref C) dx j (rawInt X.env.locals)->Keep (frs (X.env::X.outer)) zs g.heap h'->(∀ b∈zs,b=a\/Loose X pins H' b) ->
    wpAny (model X.prog X.w) X.A (setFlight (.ref a) none) (fun _ s3=>wpAny (model X.prog X.w) X.A (handleBy (.ref a) X.env (h0::hs)) (SP X pins D) X.xe s3) X.xe { g with heap:=h' }:=fun h' j zs i t' k hz=>by
   have lo:=J.loose i (J.hok.fresh i);have y:=J.noted p (by rw[l];show k) hz t';show qbq (s:={ g with heap:=h' }) t' fun h2 Y W aa=>?_;have kk:Keep (frs X.stack) [j] h' h2:=⟨fun b o e z _=>W b o (by simpa using z) e,fun b o e z _=>⟨o.slots,W b o (by simpa using z) e⟩⟩;have Z:=y.noted p kk (fun b hb=>.inr (by rw[yy.mp hb];show lo)) Y;show hp pins _ c H' D Z ⟨p,j,Y,lo⟩ hq
  rcases tt with⟨T,t,lo⟩ | ⟨a0,m⟩
  .show qdo (base:=X.base) F G E t fun h' j i t' k=>U h' j _ i t' k fun b hb=>?_;simp only[yv,yM,Yt] at hb;rcases hb with rfl | rfl
   .show .inl rfl
   .show .inr lo
  .show qcB (base:=X.base) F G E m rfl rfl fun h' j i t' k=>U h' j _ i t' k fun b hb=>?_;show .inl (yy.mp hb)
end
def TyX(K:yg)(H:Hp)(x:V)(t:Value):Prop:=TyOf K H x t\/∃ a C dx,x=.ref a/\t=.ref C/\IsX H a C dx/\XAt K C/\∀ d,dx=some d->∃ fs,H d=some (.xd fs)
theorem TyX.kit{x:V}(I:Inv X pins σ H s)(e:RelV x u)(ty:TyX X.K H x t):∃ P:Heap->Prop,PySem.W.KitX X.K u t P/\P s.heap/\u≠.builtin "__main__.__loader__#opaque":=by
 rcases ty with ty | ⟨a,C,dx,rfl,rfl,hx,c,hd⟩
 .show ty.kit I e
 .cases e;obtain⟨vs,b⟩:=hx.get I.hok
  cases dx with
  | none=>show⟨_,qdm (od:=none) c,⟨b,rfl,rfl,YS⟩,fun z=>nomatch z⟩
  | some d =>
   obtain⟨fs,f⟩:=hd d rfl;obtain⟨od,g,h1,_⟩:=qeS I f;show⟨_,qdm (od:=some od) c,⟨b,rfl,rfl,h1⟩,fun z=>nomatch z⟩
def qfV(K:yg):List V->Hp->VK->Prop:=fun xs H Q=>∃ x y t c b,xs=[x,y]/\TyX K H x t/\qcz y=some c/\PySem.W.kitOne K t c=some b/\Q (.bl b) H
def qe0(K:yg):List V->Hp->VK->Prop:=fun xs H Q=>∃ x p ys t a b,xs=[x,.ref p]/\TyX K H x t/\H p=some (.tup ys)/\ys.map qcz=a.map some/\PySem.W.kitAny K t a=some b/\Q (.bl b) H
section
variable{X:Cx}{K:yg}
theorem qaX(a:X.K=K):zT X (.builtin "isinstance") (qfV K):=by
 subst a;intro pins s σ H xs us Q I r h;obtain⟨x,y,t,c,b,rfl,ty,f,hb,q⟩:=h;obtain⟨u,v,rfl,g,i⟩:=qeF r;have e:=qbL f i;subst e;obtain⟨P,Z,p,ne⟩:=ty.kit I g;show PySem.W.kia_one Z I.kIn p hb ne fun tk=>⟨.bl b,H,I.tok tk,rfl,q⟩
theorem qbX(j:X.K=K):zT X (.builtin "isinstance") (qe0 K):=by
 subst j;intro pins s σ H xs us Q I r h;obtain⟨x,p,ys,t,C,b,rfl,ty,y,z,hb,q⟩:=h;obtain⟨u,v,rfl,B,g⟩:=qeF r;cases g;obtain⟨P,Z,A,ne⟩:=ty.kit I B;obtain⟨_,its,g,o,m,hc,n,l⟩:=(show ObjOk X.prog X.w H s.heap p (.tup ys) from I.hok p _ y);have e:=qbp z g;subst e;obtain⟨c,D,i,E⟩:=o;have a:c=.type "tuple":=hc;have f:i=.seq its.toArray n:=l;subst a f;show PySem.W.kia_tup Z I.kIn A m hb ne fun tk=>⟨.bl b,H,I.tok tk,rfl,q⟩
end
mutual
inductive EqD(K:yg)(H:Hp):Nat->V->V->Bool->Prop
 | flat {n:Nat} {x y:V} (fx:qal x=true) (fy:qal y=true):EqD K H n x y (eqV x y)
 | self {n:Nat} {a:Addr}:EqD K H n (.ref a) (.ref a) true
 | deep {n:Nat} {a b:Addr} {k:Bool} (h:EqT K H n a b k) (ne:a≠b):EqD K H n (.ref a) (.ref b) k
inductive EqT(K:yg)(H:Hp):Nat->Addr->Addr->Bool->Prop
 | lst {n:Nat} {a b:Addr} {xs ys:List V} {e:Nat->Bool} (ha:SqL K H a xs) (hb:SqL K H b ys) (hl:xs.length=ys.length) (he:∀ j x y,xs[j]?=some x->ys[j]?=some y->EqD K H n x y (e j)):EqT K H (n+1) a b ((List.range xs.length).all e)
 | lstL {n:Nat} {a b:Addr} {xs ys:List V} (ha:SqL K H a xs) (hb:SqL K H b ys) (hl:xs.length≠ys.length):EqT K H (n+1) a b false
 | tup {n:Nat} {a b:Addr} {xs ys:List V} {e:Nat->Bool} (ha:SqT K H a xs) (hb:SqT K H b ys) (he:∀ j x y,xs[j]?=some x->ys[j]?=some y->EqD K H n x y (e j)):EqT K H (n+1) a b ((List.range (min xs.length ys.length)).all e&&xs.length==ys.length)
 | lt {n:Nat} {a b:Addr} {xs ys:List V} (ha:SqL K H a xs) (hb:SqT K H b ys):EqT K H (n+1) a b false
 | tl {n:Nat} {a b:Addr} {xs ys:List V} (ha:SqT K H a xs) (hb:SqL K H b ys):EqT K H (n+1) a b false
end
theorem jr:∀{xs:List V} {us:List Value} {j:Nat} {u:Value},Vals xs us->us[j]?=some u->∃ x,xs[j]?=some x/\RelV x u
 | _,_,_,_,.nil,e=>by simp at e
 | _,_,0,_,.cons r _,e=>by simp at e;subst e;show⟨_,rfl,r⟩
 | _,_,j+1,u,.cons _ t,e=>by
  obtain⟨x,h1,a⟩:=jr (j:=j) (u:=u) t (by simpa using e);show⟨x,by simpa using h1,a⟩
section
variable{X:Cx}{pins:List (Addr×Obj)}{σ:St}{H:Hp}{s:Shared}
theorem qcV(I:Inv X pins σ H s):∀ n,(∀(A:Around) (x y:V) (k:Bool) (u v:Value),EqD X.K H n x y k->RelV x u->RelV y v->A.units+n<cLine->SeqAt.EqAt A s u v k)/\(∀(A:Around) (a b:Addr) (k:Bool),EqT X.K H n a b k->A.units+n<cLine->SeqAt.RcAt A s (.ref a) (.ref b) k):=by
 intro n
 induction n with
 | zero =>
  have G:∀(A:Around) (a b:Addr) (k:Bool),EqT X.K H 0 a b k->A.units+0<cLine->SeqAt.RcAt A s (.ref a) (.ref b) k:=fun A a b k h=>by cases h
  show⟨fun A x y k u v h i l B=>?_,G⟩
  cases h with
  | flat fx fy=>show qdY i l fx fy
  | self=>cases i;cases l;show kx _
  | deep h ne=>cases h
 | succ n ih =>
  have E:∀(A:Around) (a b:Addr) (k:Bool),EqT X.K H (n+1) a b k->A.units+(n+1)<cLine->SeqAt.RcAt A s (.ref a) (.ref b) k:=fun A a b k h B=>by
   have g:A.units<cLine:=by omega
   have p:A.in1.units+n<cLine:=by show A.units+1+n<cLine;omega
   cases h with
   | @lst _ _ _ xs ys e ha hb hl he =>
    obtain⟨its,r,pl,hz⟩:=I.list ha;obtain⟨c,o,f,m⟩:=I.list hb;have q:xs.length=its.toArray.size:=by rw[yz];show r.length
    have t:ys.length=c.toArray.size:=by rw[yz];show o.length
    rw[q];show SeqAt.RcAt.lists pl.isList f.isList (by rw[<- q,<- t,hl]) g fun j h1 F=>?_;have w:its[j]?=some its.toArray[j]:=by simp
    have z:c[j]?=some c.toArray[j]:=by simp
    obtain⟨x,C,i⟩:=jr r w;obtain⟨y,D,l⟩:=jr o z;show ih.1 A.in1 x y (e j) _ _ (he j x y C D) i l p
   | @lstL _ _ _ xs ys ha hb hl =>
    obtain⟨its,r,pl,hz⟩:=I.list ha;obtain⟨c,o,f,m⟩:=I.list hb;show SeqAt.RcAt.lists_lengths pl.isList f.isList ?_ g;rw[yz,yz,<- r.length,<- o.length];simp[hl]
   | @tup _ _ _ xs ys e ha hb he =>
    obtain⟨its,r,pl,hz⟩:=I.tuple ha;obtain⟨c,o,f,m⟩:=I.tuple hb;have q:xs.length=its.toArray.size:=by rw[yz];show r.length
    have t:ys.length=c.toArray.size:=by rw[yz];show o.length
    rw[q,t];show SeqAt.RcAt.tuples pl f g fun j h1 F=>?_;have w:its[j]?=some its.toArray[j]:=by simp
    have z:c[j]?=some c.toArray[j]:=by simp
    obtain⟨x,C,i⟩:=jr r w;obtain⟨y,D,l⟩:=jr o z;show ih.1 A.in1 x y (e j) _ _ (he j x y C D) i l p
   | lt ha hb =>
    obtain⟨its,r,pl,hz⟩:=I.list ha;obtain⟨c,o,f,m⟩:=I.tuple hb;show SeqAt.RcAt.list_tuple pl.isList f g
   | tl ha hb =>
    obtain⟨its,r,pl,hz⟩:=I.tuple ha;obtain⟨c,o,f,m⟩:=I.list hb;show SeqAt.RcAt.tuple_list pl f.isList g
  show⟨fun A x y k u v h i l B=>?_,E⟩
  cases h with
  | flat fx fy=>show qdY i l fx fy
  | self=>cases i;cases l;show kx _
  | deep h ne=>cases i;cases l;show SeqAt.EqAt.of_refs ne (E A _ _ k h B)
theorem ne_refs(I:Inv X pins σ H s){n:Nat}{A:Around}{a b:Addr}{k:Bool}(h:EqT X.K H n a b k)(B:A.units+n<cLine):SeqAt.RcNeAt A s (.ref a) (.ref b) (!k):=by
 cases n with
 | zero=>cases h
 | succ n =>
  have w:=qcV I n;have g:A.units<cLine:=by omega
  have m:A.in1.units+n<cLine:=by show A.units+1+n<cLine;omega
  cases h with
  | @lst _ _ _ xs ys e ha hb hl he =>
   obtain⟨its,r,pl,hz⟩:=I.list ha;obtain⟨c,l,f,i⟩:=I.list hb;have o:xs.length=its.toArray.size:=by rw[yz];show r.length
   have p:ys.length=c.toArray.size:=by rw[yz];show l.length
   rw[o];show SeqAt.RcNeAt.lists pl.isList f.isList (by rw[<- o,<- p,hl]) g fun j h1 z=>?_;obtain⟨x,q,u⟩:=jr r (show its[j]?=some its.toArray[j] by simp);obtain⟨y,t,v⟩:=jr l (show c[j]?=some c.toArray[j] by simp);show w.1 A.in1 x y (e j) _ _ (he j x y q t) u v m
  | @lstL _ _ _ xs ys ha hb hl =>
   obtain⟨its,r,pl,hz⟩:=I.list ha;obtain⟨c,l,f,i⟩:=I.list hb;show SeqAt.RcNeAt.lists_lengths pl.isList f.isList ?_ g;rw[yz,yz,<- r.length,<- l.length];simp[hl]
  | @tup _ _ _ xs ys e ha hb he =>
   obtain⟨its,r,pl,hz⟩:=I.tuple ha;obtain⟨c,l,f,i⟩:=I.tuple hb;have o:xs.length=its.toArray.size:=by rw[yz];show r.length
   have p:ys.length=c.toArray.size:=by rw[yz];show l.length
   rw[o,p];show SeqAt.RcNeAt.tuples pl f g fun j h1 z=>?_;obtain⟨x,q,u⟩:=jr r (show its[j]?=some its.toArray[j] by simp);obtain⟨y,t,v⟩:=jr l (show c[j]?=some c.toArray[j] by simp);show w.1 A.in1 x y (e j) _ _ (he j x y q t) u v m
  | lt ha hb =>
   obtain⟨its,r,pl,hz⟩:=I.list ha;obtain⟨c,l,f,i⟩:=I.tuple hb;show SeqAt.RcNeAt.list_tuple pl.isList f g
  | tl ha hb =>
   obtain⟨its,r,pl,hz⟩:=I.tuple ha;obtain⟨c,l,f,i⟩:=I.list hb;show SeqAt.RcNeAt.tuple_list pl f.isList g
theorem qe1{A:Around}{x y:V}{u v:Value}(f:RelV x u)(c:RelV y v)(g:qal x=true)(e:qal y=true):SeqAt.RcAt A s u v (eqV x y)/\SeqAt.RcNeAt A s u v (!eqV x y):=by
 cases x with
 | non =>
  cases f
  cases y with
  | non=>cases c;show⟨SeqAt.RcAt.none_none,SeqAt.RcNeAt.none_none⟩
  | bl b=>cases c;show⟨SeqAt.RcAt.none_bool b,SeqAt.RcNeAt.none_bool b⟩
  | int b=>obtain⟨t,rfl⟩:=c;show⟨SeqAt.RcAt.none_int b t,SeqAt.RcNeAt.none_int b t⟩
  | str b=>obtain⟨t,rfl⟩:=c;show⟨SeqAt.RcAt.none_str b t,SeqAt.RcNeAt.none_str b t⟩
  | _=>cases e
 | bl a =>
  cases f
  cases y with
  | non=>cases c;show⟨SeqAt.RcAt.bool_none a,SeqAt.RcNeAt.bool_none a⟩
  | bl b=>cases c;show⟨SeqAt.RcAt.bool_bool a b,SeqAt.RcNeAt.bool_bool a b⟩
  | int b=>obtain⟨t,rfl⟩:=c;show⟨SeqAt.RcAt.bool_int a b t,SeqAt.RcNeAt.bool_int a b t⟩
  | str b=>obtain⟨t,rfl⟩:=c;show⟨SeqAt.RcAt.bool_str a b t,SeqAt.RcNeAt.bool_str a b t⟩
  | _=>cases e
 | int a =>
  obtain⟨t',rfl⟩:=f
  cases y with
  | non=>cases c;show⟨SeqAt.RcAt.int_none a t',SeqAt.RcNeAt.int_none a t'⟩
  | bl b=>cases c;show⟨SeqAt.RcAt.int_bool a t' b,SeqAt.RcNeAt.int_bool a t' b⟩
  | int b=>obtain⟨t,rfl⟩:=c;show⟨SeqAt.RcAt.int_int a t' b t,SeqAt.RcNeAt.int_int a t' b t⟩
  | str b=>obtain⟨t,rfl⟩:=c;show⟨SeqAt.RcAt.int_str a t' b t,SeqAt.RcNeAt.int_str a t' b t⟩
  | _=>cases e
 | str a =>
  obtain⟨t',rfl⟩:=f
  cases y with
  | non=>cases c;show⟨SeqAt.RcAt.str_none a t',SeqAt.RcNeAt.str_none a t'⟩
  | bl b=>cases c;show⟨SeqAt.RcAt.str_bool a t' b,SeqAt.RcNeAt.str_bool a t' b⟩
  | int b=>obtain⟨t,rfl⟩:=c;show⟨SeqAt.RcAt.str_int a t' b t,SeqAt.RcNeAt.str_int a t' b t⟩
  | str b=>obtain⟨t,rfl⟩:=c;show⟨SeqAt.RcAt.str_str a t' b t,SeqAt.RcNeAt.str_str a t' b t⟩
  | _=>cases e
 | _=>cases g
end
def qfw(K:yg)(c:Bool):R2:=fun x y H Q=>(qal x=true/\qal y=true/\Q (.bl (if c then !eqV x y else eqV x y)) H) \/
 (∃ a b k n,x=.ref a/\y=.ref b/\n<=60/\EqT K H n a b k/\Q (.bl (if c then !k else k)) H) \/
 (∃ a kvs,x=.ref a/\y=.ref a/\H a=some (.dK kvs)/\Q (.bl (!c)) H)
theorem qbr{b:Type}[DecidableEq b]:∀{a:List (b×Value)} {k:b} {v:Value},(a.map (·.1)).Nodup->(k,v)∈a->valueAt a k=some v
 | [],_,_,_,h=>by cases h
 | (k',v')::r,k,v,hn,h=>by
  obtain⟨h1,c⟩:=yo.mp (show(k'::r.map (·.1)).Nodup from hn);unfold valueAt;rw[xG];by_cases e:k'=k
  .subst e;simp only[decide_true];rcases yv.mp h with z | z
   .cases z;rfl
   .show absurd (yQ.mpr ⟨(k',v),z,rfl⟩) h1
  .simp only[e,Kv];rcases yv.mp h with z | z
   .cases z;show absurd rfl e
   .show qbr c z
theorem qcW{A:Around}{s:Shared}{c:Type}[DecidableEq c](a:List (c×Value))(f:(a.map (·.1)).Nodup):∀ g:List (c×Value),(∀ p∈g,p∈a)->PySem.W.KeqHits A s a g true
 | [],_=>.nil
 | (k,v)::r,h=>by
  have hv:valueAt a k=some v:=qbr f (h (k,v) yI);show .hit (e:=true) (b:=true) hv (kx v) (qcW a f r fun p i=>h p (yx _ i))
section
variable{X:Cx}{K:yg}
theorem k_eqU(m:X.K=K)(p:X.A.units+100<cLine):OpR X (compareOp .Eq) (qfw K false):=by
 subst m;intro pins s σ H x y u v Q I c f h;rcases h with⟨j,l,q⟩ | ⟨a,b,k,n,rfl,rfl,o,e,q⟩ | ⟨a,kvs,rfl,rfl,i,q⟩
 .show(qe1 c f j l).1 _ _ _ _ ⟨.bl _,H,I,rfl,q⟩
 .cases c;cases f;show(qcV I n).2 X.A a b k e (by omega) _ _ _ _ ⟨.bl _,H,I,rfl,q⟩
 .cases c;cases f;obtain⟨_,g,vs,r,d⟩:=(show ObjOk X.prog X.w H s.heap a (.dK kvs) from I.hok a _ i);obtain⟨_,_,_,_,_,_,_,_,nd⟩:=id d;show PySem.W.keq_eq g g d d (by omega) (fun _=>qcW vs nd vs fun _ h=>h) ?_;rw[xz];show⟨.bl true,H,I,rfl,q⟩
theorem qaq(m:X.K=K)(p:X.A.units+100<cLine):OpR X (compareOp .NotEq) (qfw K true):=by
 subst m;intro pins s σ H x y u v Q I c f h;rcases h with⟨j,l,q⟩ | ⟨a,b,k,n,rfl,rfl,o,e,q⟩ | ⟨a,kvs,rfl,rfl,i,q⟩
 .show(qe1 c f j l).2 _ _ _ _ ⟨.bl _,H,I,rfl,q⟩
 .cases c;cases f;show ne_refs I e (by omega) _ _ _ _ ⟨.bl _,H,I,rfl,q⟩
 .cases c;cases f;obtain⟨_,g,vs,r,d⟩:=(show ObjOk X.prog X.w H s.heap a (.dK kvs) from I.hok a _ i);obtain⟨_,_,_,_,_,_,_,_,nd⟩:=id d;show PySem.W.keq_ne g g d d (by omega) (fun _=>qcW vs nd vs fun _ h=>h) ?_;rw[xz];show⟨.bl false,H,I,rfl,q⟩
end
section
variable{X:Cx}{K:yg}
def qgc(K:yg):R2:=fun x y H Q=>rIx K x y H Q\/∃ a v,x=.ref a/\DGet H a y (some v)/\Q v H
theorem qr(i:X.K=K)(n:X.A.units+100<cLine):IxR X (qgc K):=by
 subst i;show IxR.or ix_seq ?_;intro e c pins s σ H x y v u Q I l m h j;obtain⟨a,z,rfl,g,q⟩:=h;cases l;show tail_any (dict_typeIs I g) PySem.F.slot_dict_getitem.lookup (d_getItem (by omega) I g m fun p o f b=>⟨z,H,f,b,q⟩) j
def rSetU:qfD:=fun o i v H Q=>qfl o i v H Q\/∃ a H',o=.ref a/\DPut H a i v H'/\Q H'
theorem jL(m:X.A.units+100<cLine):qgg X rSetU:=by
 intro pins s σ H o i v l j u Q I c b e h;rcases h with h | ⟨a,H',rfl,g,q⟩
 .show set_list pins s σ H o i v l j u Q I c b e h
 .cases c;show d_setItem (by omega) I g b e fun s' f=>⟨H',f,q⟩
def qec(K:yg)(b:Bool):R2:=fun x y H Q=>rIn K b x y H Q\/(∃ a o,y=.ref a/\DGet H a x o/\Q (.bl (if b then !o.isSome else o.isSome)) H) \/
 (∃ p xs e n,y=.ref p/\SqL K H p xs/\n<=60/\(∀ z∈xs,EqD K H n z x (e z))/\Q (.bl (if b then !xs.any e else xs.any e)) H)
theorem qe2{pins:List (Addr×Obj)}{σ:St}{H:Hp}{s:Shared}{xs:List V}{its:List Value}{x:V}{u:Value}{e:V->Bool}{n:Nat}{A:Around}(I:Inv X pins σ H s)(r:Vals xs its)(t:RelV x u)(p:A.units+n<cLine)(o:∀ z∈xs,EqD X.K H n z x (e z)) :
  ∃ i:Value->Bool,(∀ w,w∈its.toArray->SeqAt.EqAt A s w u (i w))/\its.toArray.any i=xs.any e:=by
 classical
 show⟨fun w=>decide (∃ z∈xs,RelV z w/\e z=true),fun w hw=>?_,?_⟩
 .have f:w∈its:=by simpa using hw
  obtain⟨j,c⟩:=Xo.mp f;obtain⟨z,hz,a⟩:=jr r c;have l:=ye hz
  have eq:decide (∃ z∈xs,RelV z w/\e z=true)=e z:=by
   cases q:e z with
   | true=>show yB ⟨z,l,a,q⟩
   | false =>
    show yl fun⟨v,_,g,m⟩=>?_;rw[RelV.inj g a,q] at m;cases m
  show SeqAt.EqAt A s w u (decide (∃ z∈xs,RelV z w/\e z=true));rw[eq];show(qcV I n).1 A z x (e z) w u (o z l) a t p
 .rw [YZ,Y9];constructor
  .intro h;have h':its.any (fun w=>decide (∃ z∈xs,RelV z w/\e z=true))=true:=by simpa using h
   obtain⟨w,_,q⟩:=Y9.mp h';obtain⟨z,hz,_,b⟩:=yk q;show⟨z,hz,b⟩
  .rintro ⟨z,hz,b⟩;obtain⟨j,c⟩:=Xo.mp hz;obtain⟨w,hw,a⟩:=r.get c;have:its.any (fun w=>decide (∃ z∈xs,RelV z w/\e z=true))=true:=Y9.mpr ⟨w,ye hw,yB ⟨z,hz,a,b⟩⟩;simpa using this
theorem zr(l:X.K=K)(m:X.A.units+100<cLine):OpR X (compareOp .In) (qec K false):=by
 subst l;intro pins s σ H x y u v Q I b c h;rcases h with h | ⟨a,o,rfl,g,q⟩ | ⟨p,xs,e,n,rfl,hl,hn,he,q⟩
 .show op_in_seq pins s σ H x y u v Q I b c h
 .cases c;show d_in (by omega) I g b fun s' f=>⟨.bl _,H,f,rfl,q⟩
 .cases c;obtain⟨its,r,pl,hz⟩:=I.list hl;obtain⟨i,h1,j⟩:=qe2 (A:=X.A.in1) I r b (by show X.A.units+1+n<cLine;omega) he;show SeqAt.in_listAt i pl.isList h1 (by rw[j];show⟨.bl _,H,I,rfl,q⟩)
theorem zH(l:X.K=K)(m:X.A.units+100<cLine):OpR X (compareOp .NotIn) (qec K true):=by
 subst l;intro pins s σ H x y u v Q I b c h;rcases h with h | ⟨a,o,rfl,g,q⟩ | ⟨p,xs,e,n,rfl,hl,hn,he,q⟩
 .show op_notIn_seq pins s σ H x y u v Q I b c h
 .cases c;show d_notIn (by omega) I g b fun s' f=>⟨.bl _,H,f,rfl,q⟩
 .cases c;obtain⟨its,r,pl,hz⟩:=I.list hl;obtain⟨i,h1,j⟩:=qe2 (A:=X.A.in1) I r b (by show X.A.units+1+n<cLine;omega) he;show SeqAt.notIn_listAt i pl.isList h1 (by rw[j];show⟨.bl _,H,I,rfl,q⟩)
def rListU(K:yg):List V->Hp->VK->Prop:=fun xs H Q=>(∃ p ys,xs=[.ref p]/\(SqL K H p ys\/SqT K H p ys)/\∀ l,H l=none->Q (.ref l) (upd H l (.lst ys))) \/
 (∃ p kvs,xs=[.ref p]/\H p=some (.dK kvs)/\∀ l,H l=none->Q (.ref l) (upd H l (.lst (kvs.map fun a=>kV a.1)))) \/
 (∃ x,xs=[.str x]/\x.length<=1000/\∀ l,H l=none->Q (.ref l) (upd H l (.lst (x.cps.toList.map fun c=>.str ⟨#[c]⟩))))
theorem qbM{c f:Type}{F:c->f->Prop}:∀{l:List c} {m:List f} {j:Nat} {a:c},Paired F l m->l[j]?=some a->∃ b,m[j]?=some b/\F a b
 | _,_,_,_,.nil,e=>by simp at e
 | _,_,0,_,.cons r _,e=>by simp at e;subst e;show⟨_,rfl,r⟩
 | _,_,j+1,a,.cons _ t,e=>by
  obtain⟨b,h1,g⟩:=qbM (j:=j) (a:=a) t (by simpa using e);show⟨b,by simpa using h1,g⟩
theorem qab:∀{ys:List V} {us:List Value},ys.length=us.length->(∀(j:Nat) y u,ys[j]?=some y->us[j]?=some u->RelV y u)->Vals ys us
 | [],[],_,_=>.nil
 | [],_::_,h,_=>by cases h
 | _::_,[],h,_=>by cases h
 | y::ys,u::us,h,q=>.cons (q 0 y u rfl rfl) (qab (Nat.succ.inj h) fun j c b h1 a=>q (j+1) c b (by simpa using h1) (by simpa using a))
theorem qbs(J:X.K=K)(hc:X.calm=true):zT X (.type "list") (rListU K):=by
 subst J;intro pins s σ H xs us Q I r h;rcases h with h | ⟨p,kvs,rfl,ea,q⟩ | ⟨x,rfl,hx,q⟩
 .show call_list_of pins s σ H xs us Q I r h
 .obtain⟨u,rfl,M⟩:=qbk r;cases M;obtain⟨hz,L,vs,D,d⟩:=(show ObjOk X.prog X.w H s.heap p (.dK kvs) from I.hok p _ ea);obtain⟨ep,n⟩:=d.dictAt;have hl:kvs.length=vs.length:=D.length;show PySem.W.kdl_call (PySem.W.kdl_dict (knd:=jo X.prog X.w) (kvs:=vs) (ep:=ep) L) (I.ok.hd hc) n (by rw[<- hl];show hz) fun h' tk a f A e it=>?_;obtain⟨o,v⟩:=it
  have hv:Vals (kvs.map fun b=>kV b.1) a.toList:=by
   show qab (by rw[ya,hl,<- o];simp) fun j y u h1 g=>?_;obtain⟨k,x,l,F⟩:=v j u (by simpa using g);rw[yd] at h1
   cases B:kvs[j]? with
   | none=>rw[B] at h1;cases h1
   | some b =>
    rw[B] at h1;cases h1;obtain⟨O,C,G,N⟩:=qbM D B;rw[l] at C;cases C;have E:b.1=k:=G;show RelV (kV b.1) u;rw[E];rcases qY (show qcR k u=true from F) with⟨i,t,rfl,rfl⟩ | ⟨z,t,rfl,rfl⟩
    .show⟨t,rfl⟩
    .show⟨t,rfl⟩
  show⟨.ref s.heap.objs.size,_,I.laid (t':=tk) A (yh _) (show ObjOk X.prog X.w _ h' _ (.lst (kvs.map fun b=>kV b.1)) from⟨by rw[ya];show hz,a.toList,f,hv,by simpa using e⟩),rfl,q _ (I.hok.fresh (yh _))⟩
 .obtain⟨u,rfl,t,rfl⟩:=qbk r;have hsz:x.cps.size<=sizeLine:=Yh (qi hx);show call_list_str (I.ok.hd hc) x t (fun h' tk a f A e it=>?_) hsz;obtain⟨o,v⟩:=it
  have hv:Vals (x.cps.toList.map fun c=>V.str ⟨#[c]⟩) a.toList:=by
   show qab (by rw[ya];simp[o]) fun j y u h1 g=>?_;obtain⟨c,t',l,rfl⟩:=v j u (by simpa using g);rw[yd] at h1;have m:x.cps.toList[j]?=some c:=by simpa using l
   rw[m] at h1;cases h1;show⟨t',rfl⟩
  show⟨.ref s.heap.objs.size,_,I.laid (t':=tk) A (yh _) (show ObjOk X.prog X.w _ h' _ (.lst (x.cps.toList.map fun c=>V.str ⟨#[c]⟩)) from⟨by rw[ya];simpa using hsz,a.toList,f,hv,by simpa using e⟩),rfl,q _ (I.hok.fresh (yh _))⟩
end
structure CMethOk(P:Program)(w:World)(K:yg)(mg:Str->Option Value)(base:Heap)(CX:CXT)(k:Nat)(C:Addr)(x m:Str)(ps:List Str)(sp:Sp):Prop where
 ex:∃ f fd,FnOk P w K mg base CX k f fd ps sp/\CMeth K C m f/\Binds K fd ps []
 mg_:mg x=some (.ref C)
section
variable{X:Cx}{k:Nat}{C:Addr}{ps:List Str}{sp:Sp}{x m:Str}{p pos apos:Pos}{e:Expr}{es:List Expr}{t:TA}
theorem qaF(D:MakeOk X.prog X.w X.K X.mg X.base CX0 k C x ps sp)(i:Room (k+1) X.A)(c:PA X (e::es) t)(h:Gl X x:=by rfl)(a:(x==("__debug__":Str))=false:=by decide)
  (g:starEach (e::es) X.env=(false,eval e X.env)::starEach es X.env:=by rfl) (b:(backTo pos (starEach es X.env)).any (·.1)=false:=by rfl):PE X (.Call (.Name x p) (e::es) [] pos) (qfk C sp [] E0 t):=by
 obtain⟨f,fd,F,M,hb⟩:=D.ex;show pe_make M F i h D.mg_ hb .nil qC c a g b
theorem pe_clsmQ{pl:Sem Bool}(D:CMethOk X.prog X.w X.K X.mg X.base CX0 k C x m ps sp)(i:Room k X.A)(g:PA X (e::es) t)(h:Gl X x:=by rfl)(a:(x==("__debug__":Str))=false:=by decide)
  (c:starEach (e::es) X.env=(false,eval e X.env)::starEach es X.env:=by rfl) (b:(backTo pos (starEach es X.env)).any (·.1)=false:=by rfl)
  (j:eval (.Call (.Attribute (.Name x p) m apos) (e::es) [] pos) X.env=(do
   let ov <- eval (.Name x p) X.env
   standAt apos.atName
   let (f,first) <- holding [ov] (getMethod ov m pl)
   callWith pos f first (backTo pos (starEach (e::es) X.env)) (backToKw pos (keywordEach [] X.env))):=by rfl) :
  PE X (.Call (.Attribute (.Name x p) m apos) (e::es) [] pos) (qdT sp [] E0 t):=by
 obtain⟨f,fd,F,M,hb⟩:=D.ex;show pe_clsm (pl:=pl) M F i h D.mg_ hb qC g a c b j
end
theorem own_eq_same{prog:Program}{w:World}{A:Around}{E:Value->Shared->Prop}{s:Shared}{K:yg}{x C:Addr}{ox:Obj}{od:Option Obj}{Q:Value->Shared->Prop}(m:A.units<cLine)(X:K.In s.heap)(I:PySem.W.InstAt s.heap x ox C od)
  (l:PySem.W.findIn K (.ref C) "__eq__"=some (some (.builtin "object.__eq__"))) (i:PySem.W.mroIn K C (.type "object")=some true) (h:Q (.bool true) s):wpAny (model prog w) A (richCompare .Eq (.ref x) (.ref x)) Q E s:=by
 have a:∀{g:Around} {f:Value->Shared->Prop},f (.bool true) s->wpAny (model prog w) g (call (.builtin "object.__eq__") [.ref x,.ref x]) f E s:=fun{g f} q=>by
  show Xe (xN PySem.F.slot_object_eq.plain PySem.F.entry_object_eq (@PySem.W.check_slot (model prog w) _ _ s "object.__eq__" "object" "__eq__" (.ref x) [.ref x] [] _ (by decide +kernel) (by decide +kernel) (I.type.andThen (xu X i)) (PySem.F.args_object_eq_2 _ _) ?_));show yr (yw (yr (wpAny_isSame_ref_self ?_)));show yw q
 have one:wpAny (model prog w) A (tryCompare (.ref x) "__eq__" (.ref x)) (fun r s'=>∃ v,r=some v/\Q v s') E s:=by
  unfold tryCompare;show yr ?_;simp only[callSpecialIfBound?,bindSpecialIfBound?];show Ys (yr (yr (yr (I.type.here ((YR X l).here ?_)))));show yr (Kc (wpAny_ite ?_));have b:=PySem.F.slot_object_eq.bind (.ref x)
  have c:wpAny (model prog w) A (call (.builtin "object.__eq__") ([.ref x]++[.ref x])>>=fun v=>pure (some v)) (fun r s'=>wpAny (model prog w) A (match r with | some .notImplemented | none=>pure none | some v=>pure (some v)) (fun r s'=>∃ v,r=some v/\Q v s') E s') E s:=
   yr (a (yw (yw ⟨_,rfl,h⟩)))
  split
  .show yr (Y7 b (yw c))
  .show wpAny_tryCatch (yr (Y7 b (yw c)))
 unfold richCompare;simp only[oneThing_ref];show Ys (yr (wpAny_cRoomFor m ?_));show yr (I.type.here (yr (I.type.here ?_)));rw[yD (by simp)];show yr (yw ?_);simp only[YT,Xj];show yr (YB one (fun r s' z=>?_) fun _ _ e=>e);obtain⟨v,rfl,j⟩:=z;show yw j
structure OEq(K:yg)(C:Addr):Prop where
 eq:PySem.W.findIn K (.ref C) "__eq__"=some (some (.builtin "object.__eq__"))
 ob:PySem.W.mroIn K C (.type "object")=some true
def qgM(K:yg):R2:=fun x y H Q=>qfw K false x y H Q\/∃ a C dx fs,x=.ref a/\y=.ref a/\H a=some (.ins C dx fs)/\OEq K C/\Q (.bl true) H
theorem k_eqW{X:Cx}{K:yg}(e:X.K=K)(f:X.A.units+100<cLine):OpR X (compareOp .Eq) (qgM K):=by
 subst e;intro pins s σ H x y u v Q I b c h;rcases h with h | ⟨a,C,dx,fs,rfl,rfl,ea,oe,q⟩
 .show k_eqU rfl f pins s σ H x y u v Q I b c h
 .cases b;cases c;obtain⟨g,O,_⟩:=qaO I.hok ea;obtain⟨od,J,_⟩:=O.look;show own_eq_same (by omega) I.kIn J oe.eq oe.ob ⟨.bl true,H,I,rfl,q⟩
theorem qQ{X:Cx}:MtR X "list.append" qd0:=mt_append
theorem qaR{X:Cx}:MtR X "list.extend" qd1:=mt_extend
theorem mtR_popAt{X:Cx}:MtR X "list.pop" qeP:=mt_popAt
theorem boot_ValueError:bootBuiltins "ValueError"=some (.type "ValueError"):=by decide +kernel
section
variable{D:Ends}{σ:St}{H:Hp}{Q:VK}{t u:TS}{te ta tb tc:TE}{tas:TA}{K:yg}{sp:Sp}{E:XK}{EK:St->XK}{C:Addr}{f m:Str}
theorem vFldU (h:ta σ H fun x b=>(∃ a C dx fs v,x=.ref a/\b a=some (.ins C dx fs)/\Cls K C/\NoAttr K C f/\fs.lookup f=some v/\Q v b) \/
 (∃ a C dx fs v,x=.ref a/\IsX b a C (some dx)/\XAt K C/\NoAttr K C f/\b dx=some (.xd fs)/\fs.lookup f=some v/\Q v b)):qfS K ta f σ H Q:=h
theorem vSFldU (h:te σ H fun y c=>ta σ c fun x b=>(∃ a C dx fs,x=.ref a/\b a=some (.ins C dx fs)/\Cls K C/\NoAttr K C f/\fs.length<1000/\D.nx σ (upd b a (.ins C dx (qH f y fs)))) \/
 (∃ a C,x=.ref a/\b a=some (XN a C none)/\XAt K C/\NoAttr K C f/\∀ dx,b dx=none->D.nx σ (upd (upd b dx (.xd [(f,y)])) a (XN a C (some dx))))):qfT K ta te f D σ H:=h
theorem vXMake(h:tas σ H fun vs a=>vs.length<=1000/\∀ x,a x=none->sp (.ref x::vs) (upd a x (XN x C none)) (fun v b=>v=.non/\Q (.ref x) b) E):qd9 C sp E tas σ H Q:=h
theorem vMake(h:tas σ H fun vs a=>∀ x dx,a x=none->a dx=none->dx≠x->sp (.ref x::(vs++[])) (upd (upd a dx (.own x)) x (.ins C dx [])) (fun v b=>v=.non/\Q (.ref x) b) E):qfk C sp [] E tas σ H Q:=h
theorem vMeth(h:ta σ H fun x b=>∃ a dx fs,x=.ref a/\b a=some (.ins C dx fs)/\fs.lookup m=none/\tas σ b fun vs c=>sp (x::(vs++[])) c Q E):qdU C m sp [] E ta tas σ H Q:=h
theorem vVinit(h:tas σ H fun vs b=>∃ a C y,vs=[.ref a,y]/\b a=some (XN a C none)/\XAt K C/\Q .non b):qeT K tas σ H Q:=h
theorem vCallS(h:tas σ H fun vs a=>sp vs a Q (EK σ)):qeX sp EK tas σ H Q:=h
theorem vMethS(h:ta σ H fun x b=>∃ a dx fs,x=.ref a/\b a=some (.ins C dx fs)/\fs.lookup m=none/\tas σ b fun vs c=>sp (x::vs) c Q (EK σ)):qeY C m sp EK ta tas σ H Q:=h
theorem vMakeS(h:tas σ H fun vs a=>∀ x dx,a x=none->a dx=none->dx≠x->sp (.ref x::vs) (upd (upd a dx (.own x)) x (.ins C dx [])) (fun v b=>v=.non/\Q (.ref x) b) (EK σ)):tMakeS C sp EK tas σ H Q:=h
theorem vRaise(h:te σ H fun x b=>∃ a C dx,x=.ref a/\b a=some (XN a C dx)/\XAt K C/\EK σ (.ref C) dx (upd b a (XO a C dx))):qeW K EK te D σ H:=h
theorem qbY{x y:V}{t a:Value}{b:Bool}(ty:TyX K H x t)(c:qcz y=some a)(hb:PySem.W.kitOne K t a=some b)(h:Q (.bl b) H):qfV K [x,y] H Q:=⟨x,y,t,a,b,rfl,ty,c,hb,h⟩
end
section
variable{prog:Program}{w:World}{A:Around}{E:Value->Shared->Prop}{s:Shared}
theorem none_dict{a:Addr}{Q:Value->Shared->Prop}(e:s.TypeIs (.ref a) "dict")(f:A.units<cLine)(h:Q (.bool false) s):wpAny (model prog w) A (richCompare .Eq .none (.ref a)) Q E s:=by
 show SeqAt.rc_eq_decline_or (k:=false) rfl e (by decide) PySem.F.sub_dict_NoneType YY PySem.F.slot_dict_eq_refl
  (fun _ c=>call_gives YY rfl PySem.F.entry_NoneType_eq (PySem.F.args_NoneType_eq_2 _ _) (SeqAt.NoneType___eq___none_ref_0 a) c) (fun g c=>?_) (fun _ c=>Y7 (rfl:isSame .none (.ref a)=pure false) c) (.inr f) h
 show Xy PySem.F.slot_dict_eq_refl e PySem.F.entry_dict_eq ?_ (PySem.F.args_dict_eq_2 _ _);show wpAny _ _ (Builtin.Dict.dictSlotArgs "__eq__" ⟨[.ref a,.none],[]⟩>>=_) _ _ s;show yr ?_;unfold Builtin.Dict.dictSlotArgs;show yr (wpAny_notOrdered_dict e ?_);show wpAny _ _ (pure (Value.ref a,Value.none)) _ _ s;show yw ?_;show yr (wpAny_isInstance (T:="NoneType") (b:=false) rfl PySem.F.sub_NoneType_dict ?_);simp only[Kt,XH];show yr (wpAny_rule (yw ⟨_,rfl,c⟩))
theorem none_own{K:yg}{x C:Addr}{ox:Obj}{od:Option Obj}{Q:Value->Shared->Prop}(j:A.units<cLine)(X:K.In s.heap)(I:PySem.W.InstAt s.heap x ox C od)(g:OEq K C)(i:PySem.W.mroIn K C (.type "NoneType")=some false)
  (h:Q (.bool false) s):wpAny (model prog w) A (richCompare .Eq .none (.ref x)) Q E s:=by
 have l:wpAny (model prog w) A (tryCompare .none "__eq__" (.ref x)) (fun r s'=>r=none/\s'=s) E s:=by
  unfold tryCompare;show yr ?_;simp only[callSpecialIfBound?,bindSpecialIfBound?];show Ys (yr (yr ?_));show yr (Y7 (rfl:typeOf .none=pure (.type "NoneType")) ?_);show Y7 YY.lookup ?_;show yr (Kc (wpAny_ite ?_))
  have a:wpAny (model prog w) A (call (.builtin "NoneType.__eq__") ([.none]++[.ref x])>>=fun v=>pure (some v)) (fun r s'=>wpAny (model prog w) A (match r with | some .notImplemented | none=>pure none | some v=>pure (some v)) (fun r s'=>r=none/\s'=s) E s') E s:=
   yr (call_gives YY rfl PySem.F.entry_NoneType_eq (PySem.F.args_NoneType_eq_2 _ _) (SeqAt.NoneType___eq___none_ref_0 x) (yw (yw ⟨rfl,rfl⟩)))
  split
  .show yr (Y7 (YY.bind .none) (yw a))
  .show wpAny_tryCatch (yr (Y7 (YY.bind .none) (yw a)))
 have m:wpAny (model prog w) A (tryCompare (.ref x) "__eq__" .none) (fun r s'=>r=none/\s'=s) E s:=by
  unfold tryCompare;show yr ?_;simp only[callSpecialIfBound?,bindSpecialIfBound?];show Ys (yr (yr (yr (I.type.here ((YR X g.eq).here ?_)))));show yr (Kc (wpAny_ite ?_));have b:=PySem.F.slot_object_eq.bind (.ref x)
  have c:∀{f:Value->Shared->Prop},f .notImplemented s->wpAny (model prog w) A (call (.builtin "object.__eq__") [.ref x,.none]) f E s:=fun{f} q=>by
   show Xe (xN PySem.F.slot_object_eq.plain PySem.F.entry_object_eq (@PySem.W.check_slot (model prog w) _ _ s "object.__eq__" "object" "__eq__" (.ref x) [.none] [] _ (by decide +kernel) (by decide +kernel) (I.type.andThen (xu X g.ob)) (PySem.F.args_object_eq_2 _ _) ?_));show yr (yw (yr (Y7 (rfl:isSame (.ref x) .none=pure false) ?_)));show yw q
  have a:wpAny (model prog w) A (call (.builtin "object.__eq__") ([.ref x]++[.none])>>=fun v=>pure (some v)) (fun r s'=>wpAny (model prog w) A (match r with | some .notImplemented | none=>pure none | some v=>pure (some v)) (fun r s'=>r=none/\s'=s) E s') E s:=
   yr (c (yw (yw ⟨rfl,rfl⟩)))
  split
  .show yr (Y7 b (yw a))
  .show wpAny_tryCatch (yr (Y7 b (yw a)))
 unfold richCompare;show Ys (yr (wpAny_cRoomFor j ?_));show wpAny _ _ (typeOf .none>>=_) _ _ _;show yr (Y7 (rfl:typeOf .none=pure (.type "NoneType")) (yr (I.type.here ?_)));rw[yG (by rfl)];show yr ((xu X i).here ?_);simp only[YT,Xj];show yr (YB l (fun r s' z=>?_) fun _ _ e=>e);obtain⟨rfl,rfl⟩:=z;simp only[Kt,XH];show yr (YB m (fun r s' z=>?_) fun _ _ e=>e);obtain⟨rfl,rfl⟩:=z;show yr (wpAny_rule (yr (Y7 (rfl:isSame .none (.ref x)=pure false) (yw h))))
end
def rNoneRef(K:yg):R2:=fun x y H Q=>∃ a,x=.non/\y=.ref a/\((∃ xs,SqL K H a xs\/SqT K H a xs)\/(∃ kvs,H a=some (.dK kvs))\/∃ C dx fs,H a=some (.ins C dx fs)/\OEq K C/\PySem.W.mroIn K C (.type "NoneType")=some false)/\Q (.bl false) H
def qgd(K:yg):R2:=fun x y H Q=>qgM K x y H Q\/rNoneRef K x y H Q
theorem zI{X:Cx}{K:yg}(e:X.K=K)(j:X.A.units+100<cLine):OpR X (compareOp .Eq) (qgd K):=by
 intro pins s σ H x y u v Q I f g h;rcases h with h | ⟨a,rfl,rfl,h,q⟩
 .show k_eqW e j pins s σ H x y u v Q I f g h
 .subst e;cases f;cases g;have b:EP X pins σ Q (.bool false) s:=⟨.bl false,H,I,rfl,q⟩;rcases h with⟨xs,hl | hl⟩ | ⟨kvs,c⟩ | ⟨C,dx,fs,c,l,i⟩
  .obtain⟨its,r,pl,_⟩:=I.list hl;show SeqAt.RcAt.none_list pl.isList (by omega) _ _ _ _ b
  .obtain⟨its,r,pl,_⟩:=I.tuple hl;show SeqAt.RcAt.none_tuple pl (by omega) _ _ _ _ b
  .obtain⟨_,_,vs,_,d⟩:=(show ObjOk X.prog X.w H s.heap a (.dK kvs) from I.hok a _ c);show none_dict d.typeIs (by omega) b
  .obtain⟨m,O,_⟩:=qaO I.hok c;obtain⟨od,J,_⟩:=O.look;show none_own (by omega) I.kIn J l i b
def XL(K:yg)(C:Addr)(e:List Value):Prop:=∃ m n N bs a sn sub c b f g h i j l,K.lookup C=some (excClassObj m n C N bs e a sn sub c b f g h i j l "ValueError.__new__")
section
variable{K:yg}{C D:Addr}{bm bn:List Value}
theorem XL.xat(x:XL K C bm)(hb:qch bm=true)
  (h:PySem.W.findIn K (.ref C) "__getattribute__"=some (some (.builtin "BaseException.__getattribute__"))) (i:PySem.W.findIn K (.ref C) "__getattr__"=some none)
  (b:PySem.W.mroIn K C (.type "BaseException")=some true) (l:PySem.W.mroIn K C (.type "object")=some true) (j:PySem.W.hasDictIn K C=true) (f:PySem.W.findIn K (.ref C) "__class__"=some (some (.builtin "object.__class__")))
  (c:PySem.W.specialIn K (.builtin "object.__class__") "__get__"=some (some (.builtin "getset_descriptor.__get__"))) (ct:PySem.W.takesIn K (.builtin "object.__class__")=some true)
  (m:PySem.W.findIn K (.ref C) "__setattr__"=some (some (.builtin "object.__setattr__"))):XAt K C:=by
 obtain⟨u,v,N,bs,a,sn,sub,n,g,o,p,q,r,s,t,e⟩:=x;show⟨h,i,b,l,j,f,c,ct,m,?_,?_⟩
 .unfold PySem.W.clsIn;rw[e];show hb
 .unfold qgb;rw[e];simp[hb]
theorem XL.kit(x:XL K C bm)(y:XL K D bn):PySem.W.kitOne K (.ref C) (.ref D)=some ((Value.ref C::bm).contains (.ref D)):=by
 obtain⟨J,L,N,bs,f,sn,sub,A,j,B,E,F,G,H,I,e⟩:=x;obtain⟨r,u,w,i,a,v,g,h,b,l,m,n,o,p,q,c⟩:=y;unfold PySem.W.kitOne PySem.W.kitCls;split
 .rename_i z
  have z:C=D:=kn (Yn.mp z);subst z;simp
 .dsimp only;have s:(PySem.W.clsIn K D).isSome=true:=by unfold PySem.W.clsIn;rw[c];rfl
  have t:(PySem.W.typeIn K (.ref D)==some (.type "type"))=true:=by show((K.lookup D).map (·.cls)==_)=true;rw[c];rfl
  rw[yG (by rw[s,t];rfl)];unfold PySem.W.subIn PySem.W.mroIn PySem.W.clsIn;dsimp only;rw[e];rfl
theorem XL.kitT(x:XL K C bm){T:String}(h:PySem.W.kitMeta T=true):PySem.W.kitOne K (.ref C) (.type T)=some (bm.contains (.type T)):=by
 obtain⟨n,o,N,bs,a,sn,sub,c,b,f,g,i,j,l,m,e⟩:=x;unfold PySem.W.kitOne PySem.W.kitCls;split
 .rename_i z
  show absurd (Yn.mp z) nofun
 .dsimp only;rw[yG h];unfold PySem.W.subIn PySem.W.mroIn PySem.W.clsIn;dsimp only;rw[e];show some ((Value.ref C::bm).contains _)=_;rw[Yu];rfl
noncomputable abbrev qcC:List Value:=[.type "ValueError",.type "Exception",.type "BaseException",.type "object"]
theorem qed:qch qcC=true:=by decide
theorem qee{c:Addr}:qch (.ref c::qcC)=true:=qed
theorem kits{K:yg}{a:List Addr}{c:Addr}(n:(a++[c]).Nodup)(h:∀ i,i<a.length->XL K (a.getD i c) (.ref c::qcC))(hc:XL K c qcC) :
  (∀ i j,i<a.length->j<a.length->PySem.W.kitOne K (.ref (a.getD i c)) (.ref (a.getD j c))=some (decide (i=j)))/\(∀ i,i<a.length+1->PySem.W.kitOne K (.ref (a.getD i c)) (.ref c)=some true) /\
  (∀ i,i<a.length+1->PySem.W.kitOne K (.ref (a.getD i c)) (.type "ValueError")=some true)/\∀ j,j<a.length->PySem.W.kitOne K (.ref c) (.ref (a.getD j c))=some false:=by
 have m:∀(j:Nat) (b:j<a.length),a.getD j c=a[j]:=fun j b=>by simp[List.getD,b]
 have hl:a.getD a.length c=c:=by simp
 have g:∀ j,j<a.length->c≠a.getD j c:=fun j b e=>by
  have s:=(Yg.mp n).2.2 (a.getD j c) (by rw[m j b];show xi b) c (by simp);show s e.symm
 show⟨fun i j hi b=>?_,fun i hi=>?_,fun i hi=>?_,fun j b=>?_⟩
 .rw [(h i hi).kit (h j b)]
  congr 1
  rw[Yu,Yu];have l:((Value.ref (a.getD j c))==Value.ref c)=false:=Yx.mpr fun e=>g j b (kn e).symm;have p:List.contains qcC (Value.ref (a.getD j c))=false:=rfl;rw[l,p];by_cases f:i=j
  .subst f;simp
  .have r:((Value.ref (a.getD j c))==Value.ref (a.getD i c))=false:=Yx.mpr fun e=>by
    have e:=kn e;rw[m i hi,m j b] at e;have o:=Yv.mp (Yg.mp n).1;rcases Nat.lt_or_gt_of_ne f with q | q
    .show o i j hi b q e.symm
    .show o j i b hi q e
   rw[r];simp[f]
 .rcases Nat.lt_or_ge i a.length with hi' | hi'
  .rw [(h i hi').kit hc,Yu,Yu];simp
  .have:i=a.length:=by omega
   subst this;rw[hl,hc.kit hc];simp
 .rcases Nat.lt_or_ge i a.length with hi' | hi'
  .rw [(h i hi').kitT (by decide +kernel)];rfl
  .have:i=a.length:=by omega
   subst this;rw[hl,hc.kitT (by decide +kernel)];rfl
 .rw [hc.kit (h j b),Yu];have l:((Value.ref (a.getD j c))==Value.ref c)=false:=Yx.mpr fun e=>g j b (kn e).symm;rw[l];rfl
end
end L2
namespace HT
open PySem PySem.Spec PyProof.Rows
section
variable{prog:Program}{w:World}{A:Around}{E:Value->Shared->Prop}{s:Shared}
end
end HT
namespace L2
open PySem PySem.Spec PyProof.Rows
variable{H:Hp}{σ:St}
def tRev(K:yg)(e:TE)(f:TO):TE:=fun σ H Q=>e σ H fun x c=>f σ c fun o b=>o=some (-1)/\∃ a y z,x=.ref a/\SqT K b a [y,z]/\∀ p,b p=none->Q (.ref p) (upd b p (.tup [z,y]))
theorem vRev{K:yg}{c:TE}{e:TO}{Q:VK}(h:c σ H fun x f=>e σ f fun o b=>o=some (-1)/\∃ a y z,x=.ref a/\SqT K b a [y,z]/\∀ p,b p=none->Q (.ref p) (upd b p (.tup [z,y]))):tRev K c e σ H Q:=h
section
variable{X:Cx}{K:yg}{e st:Expr}{te:TE}{ts:TO}{p2 pos:Pos}
end
theorem Inv.turnedL{X:Cx}{a:List (Addr×Obj)}{s:Shared}{h':Heap}{t':Nat}{fp:List Addr}(I:Inv X a σ H s)(k:∀ b o,b∉fp->s.heap.get? b=some o->h'.get? b=some o)(g:∀ b∈fp,qcS X a H b):Inv X a σ H { s with heap:=h',toks:=t' }:=by
 have f:∀ b u,H b=some u->b∉fp:=fun b u e z=>by rw[(g b z).1] at e;cases e
 have t:X.env.locals∉fp:=fun z=>(g _ z).2.1 rfl;show I.step (g':=s.gens) (d':=s.drawn) (ch:=fp) (fun b hb=>?_) (fun b o _ _ hc e _=>k b o hc e) (fun b o _ _ hc e _=>⟨o.slots,k b o hc e⟩) (fun _ _ _ _ n=>n)
  (fun b o hc e=>⟨o,k b o hc e⟩) (fun _ _ e=>e) (fun _ _ _ e=>e) (fun b B e=>⟨#[],by rw[e];simp⟩) (fun m w=>?_) (fun b u e=>?_) I.bare
 .obtain⟨y,i,A,j,l,p⟩:=g b hb;show⟨j,i,l,p⟩
 .obtain⟨o,h,ep,x,r⟩:=w;show⟨o,h,ep,k _ o t x,r⟩
 .show(I.hok b u e).stay (fun c v hc q=>k c v ?_ q) (fun _ q=>q) fun _ _ q=>q;rcases hc with z | z
  .rw [z];show f b u e
  .show f c _ z
noncomputable def Ite(K:yg)(a:Addr):It:=
 ⟨fun i H=>∃ xs x,SqL K H a xs/\xs[i]?=some x,fun i H x H'=>∃ t y,x=.ref t/\H t=none/\H'=upd H t (.tup [.int i,y])/\∀ xs,SqL K H a xs->xs[i]?=some y,fun i H=>∃ xs,SqL K H a xs/\xs.length<=i⟩
theorem push_some{h:Heap}{o v:Obj}{b:Addr}(e:(h.push o).get? b=some v)(ne:b≠h.objs.size):h.get? b=some v:=(Heap.get?_push_cases e).elim (fun z=>absurd z.1 ne) fun z=>z
def iEnum(K:yg)(c:TA):TI:=fun σ H R=>c σ H fun vs b=>∃ a xs,vs=[.ref a]/\SqL K b a xs/\R (Ite K a) b
theorem vEnum{K:yg}{b:TA}{R:It->Hp->Prop}(h:b σ H fun vs c=>∃ a xs,vs=[.ref a]/\SqL K c a xs/\R (Ite K a) c):iEnum K b σ H R:=h
section
variable{X:Cx}
end
end L2
namespace L2
open PySem PySem.Spec PyProof.Rows PySem.Builtin PySem.Builtin.Str
theorem qfW{a c:Nat}(h:a+100<c):a+1<c:=by omega
theorem vDGet2{f ty g:TE}{b:St}{H:Hp}{Q:VK}(h:f b H fun x c=>∃ a,x=.ref a/\IsD c a/\ty b c fun y i=>g b i fun z e=>∃ o,DGet e a y o/\Q (o.getD z) e):tDGet2 f ty g b H Q:=h
end L2
namespace L2
open PySem PySem.Spec PyProof.Rows
theorem eqV_strD(a b:Str):eqV (.str a) (.str b)=decide (a=b):=by
 have e:eqV (.str a) (.str b)=(a==b):=by simp[eqV]
 rw[e,YZ,Yn,yU]
theorem qcD:∀(ys:List Str) (y:Str) (m:Nat) (b:m<ys.length),m<ys.idxOf y->ys[m]≠y
 | [],_,_,b,_=>by simp at b
 | a::r,y,m,b,h=>by
  rw[List.idxOf_cons] at h;by_cases e:a=y
  .subst e;simp at h
  .have hb:(a==y)=false:=Yx.mpr e;rw[hb] at h
   cases m with
   | zero=>show e
   | succ k =>
    have c:k<r.idxOf y:=by
     have h:k+1<r.idxOf y+1:=h;omega
    show qcD r y k (by simpa using b) c
section
variable{X:Cx}{K:yg}
def rIndex(K:yg):V->List V->Hp->VK->Prop:=fun x vs H Q=>∃(p:Addr) (ys:List Str) (y:Str),x=.ref p/\vs=[.str y]/\SqL K H p (ys.map V.str)/\y∈ys/\Q (.int (ys.idxOf y:Nat)) H
theorem qar(B:X.K=K):MtR X "list.index" (rIndex K):=by
 subst B;intro z s N H x vs v us Q I L J h;obtain⟨p,ys,y,rfl,rfl,C,E,q⟩:=h;cases L;obtain⟨u,rfl,G⟩:=J.one;obtain⟨a,r,pl,hz⟩:=I.list C;obtain⟨⟨cls,A,data,M⟩,t,hc,n,o⟩:=id pl.isList;simp only at hc o;subst hc o;have fs:(ys.map V.str).all qal=true:=by rw[Kk];show YM.mpr fun _ _=>rfl
 have b:(ys.map V.str).length=a.length:=r.length;rw[ya] at b;have f:ys.idxOf y<ys.length:=List.idxOf_lt_length_iff.mpr E
 have at_:∀(m:Nat) (j:m<ys.length) (c:m<a.toArray.size),eqU (.str y) a.toArray[m]=decide (ys[m]=y):=fun m j c=>by
  have g:(ys.map V.str)[m]?=some (.str ys[m]):=by rw[yd,yb j];rfl
  obtain⟨w,hw,l⟩:=r.get g
  have e:a.toArray[m]=w:=by
   have:a.toArray[m]?=some w:=by simpa using hw
   rw[xD c] at this;show ym this
  rw[e,qdZ l rfl,eqV_strD]
 have hi:ys.length<=sizeLine:=by rw[ya] at hz;show hz
 have D:sizeLine<2 ^ 63-1:=by decide
 show kM YG ⟨_,t,rfl⟩ PySem.F.entry_list_index (PySem.F.args_list_index_2 _ _)
  (SeqAt.list_indexAt p a.toArray n A M u (eqU (.str y)) (ys.idxOf y) (by simpa [<- b] using f) (by omega) ?_ ?_) ⟨t,fun w hw=>zZ G rfl r fs w (by simpa using hw),.int _,H,I.tok _,⟨_,rfl⟩,q⟩
 .rw [at_ _ f];show yB (Ym f)
 .intro m j i;rw[at_ m (by omega)];show yl fun e=>qcD ys y m (by omega) i e
end
theorem qbt(xs:List V)(k:Nat):qbS xs none (some (k:Int))=xs.take k:=by
 unfold qbS;rw[HT.sIx_none,HT.sIx_nat,List.drop_zero,Kw];by_cases h:k<=xs.length
 .rw [Kp h]
 .rw [Kd (by omega),Y5 (yh _),Y5 (by omega)]
theorem qcE(xs:List V)(k:Nat):qbS xs (some (k:Int)) none=xs.drop k:=by
 unfold qbS;rw[HT.sIx_none,HT.sIx_nat];by_cases h:k<=xs.length
 .rw [Kp h,Y5 (by rw[Ka];omega)]
 .rw [Kd (by omega),List.drop_length,List.drop_of_length_le (by omega)];simp
section
variable{X:Cx}{K:yg}
end
end L2
namespace HT
open PySem PySem.Spec PyProof.Rows
section
variable{prog:Program}{w:World}{A:Around}{E:Value->Shared->Prop}{s:Shared}
end
end HT
namespace L2
open PySem PySem.Spec PyProof.Rows
def tStep(K:yg)(f:TE)(g:TO):TE:=fun c H Q=>f c H fun x e=>g c e fun o b=>∃ a y z,x=.ref a/\SqT K b a [y,z]/\((o=some (-1)/\∀ p,b p=none->Q (.ref p) (upd b p (.tup [z,y])))\/(o=some 1/\Q (.ref a) b))
theorem vStep{K:yg}{e:TE}{f:TO}{c:St}{H:Hp}{Q:VK}(h:e c H fun x g=>f c g fun o b=>∃ a y z,x=.ref a/\SqT K b a [y,z]/\((o=some (-1)/\∀ p,b p=none->Q (.ref p) (upd b p (.tup [z,y])))\/(o=some 1/\Q (.ref a) b))):tStep K e f c H Q:=h
section
variable{X:Cx}{K:yg}{e st:Expr}{te:TE}{ts:TO}{p2 pos:Pos}
end
def FG(K:yg)(a:Str)(st:Stmt):Prop:=∃ f b,PySem.W.nsIn K mainGlobals a=some (some (.ref f))/\Fun K a a st f b
def FM(K:yg)(C:Addr)(m b:Str)(st:Stmt):Prop:=∃ f a,PySem.W.findIn K (.ref C) m=some (some (.ref f))/\PySem.W.isFn K (.ref f)=true/\Fun K m b st f a
def FC(K:yg)(C:Addr)(m b:Str)(st:Stmt):Prop:=∃ f a,PySem.W.findCls K (.ref C) (.type "type") m=some (.val (.ref f))/\Fun K m b st f a
structure XQ(K:yg)(C:Addr):Prop where
 xa:PySem.W.findIn K (.ref C) "__getattribute__"=some (some (.builtin "BaseException.__getattribute__"))
 xb:PySem.W.findIn K (.ref C) "__getattr__"=some none
 xd:PySem.W.mroIn K C (.type "BaseException")=some true
 xe:PySem.W.mroIn K C (.type "object")=some true
 xf:PySem.W.hasDictIn K C=true
 xg:PySem.W.findIn K (.ref C) "__class__"=some (some (.builtin "object.__class__"))
 xh:PySem.W.findIn K (.ref C) "__setattr__"=some (some (.builtin "object.__setattr__"))
 p:PySem.W.keepIn K (.ref C)=true
section
variable{P:Program}{w:World}{K:yg}{mg:Str->Option Value}{base h:Heap}{CX:CXT}{k:Nat}{sp:Sp}{st:Stmt}{f:Addr}{fd:FuncData}{ps:List Str}{nm m ql x:Str}{C:Addr}
theorem lN0{P:List Value->Prop}(h:P []):∀ us:List Value,us.length=0->P us:=fun us e=>by rw[List.eq_nil_of_length_eq_zero e];show h
theorem lNs{P:List Value->Prop}{n:Nat}(h:∀ a r,r.length=n->P (a::r)):∀ us:List Value,us.length=n+1->P us:=fun us e=>by
 cases us with
 |nil=>cases e
 |cons a r=>show h a r (Nat.succ.inj e)
theorem lN1{P:List Value->Prop}(h:∀ a,P [a]):∀ us:List Value,us.length=1->P us:=lNs fun a=>lN0 (h a)
theorem lN2{P:List Value->Prop}(h:∀ a b,P [a,b]):∀ us:List Value,us.length=2->P us:=lNs fun a=>lN1 (h a)
theorem lN3{P:List Value->Prop}(h:∀ a b c,P [a,b,c]):∀ us:List Value,us.length=3->P us:=lNs fun a=>lN2 (h a)
theorem lN4{P:List Value->Prop}(h:∀ a b c d,P [a,b,c,d]):∀ us:List Value,us.length=4->P us:=lNs fun a=>lN3 (h a)
theorem lN5{P:List Value->Prop}(h:∀ a b c d e,P [a,b,c,d,e]):∀ us:List Value,us.length=5->P us:=lNs fun a=>lN4 (h a)
theorem lN6{P:List Value->Prop}(h:∀ a b c d e g,P [a,b,c,d,e,g]):∀ us:List Value,us.length=6->P us:=lNs fun a=>lN5 (h a)
abbrev BA(x ql:Str)(st:Stmt)(ps:List Str):Prop:=∀(kV b e:Value) (c:Option Addr) (a ct:Value) (us:List Value),us.length=ps.length->bindArgs (PySem.W.fnOf x ql (qao st) (zD st) (qh st) .none kV b e c a ct) ⟨us,[]⟩=pure (ps.zip us)
theorem fg_mk(X:K.In h)(G:h.Ns mainGlobals mg)(a:PySem.W.nsIn K mainGlobals nm=some (some (.ref f)))(F:Fun K nm nm st f fd)(o:FnOk P w K mg base CX k f fd ps sp)
  (hb:BA nm nm st ps:=by first | (show fun _ _ _ _ _ _=>lN1 fun _=>rfl) | (show fun _ _ _ _ _ _=>lN2 fun _ _=>rfl) | (show fun _ _ _ _ _ _=>lN3 fun _ _ _=>rfl) | (show fun _ _ _ _ _ _=>lN4 fun _ _ _ _=>rfl)) :
  DefOk P w K mg base CX k nm ps sp:=⟨_,_,o,k7 X G a,F.kp,F.binds hb⟩
theorem fm_mk(b:Cls K C)(a:PySem.W.findIn K (.ref C) m=some (some (.ref f)))(n:PySem.W.isFn K (.ref f)=true)(F:Fun K m ql st f fd)(o:FnOk P w K mg base CX k f fd ps sp)
  (hb:BA m ql st ps:=by first | (show fun _ _ _ _ _ _=>lN1 fun _=>rfl) | (show fun _ _ _ _ _ _=>lN2 fun _ _=>rfl) | (show fun _ _ _ _ _ _=>lN3 fun _ _ _=>rfl) | (show fun _ _ _ _ _ _=>lN4 fun _ _ _ _=>rfl)) :
  MethOk P w K mg base CX k C m ps sp:=⟨⟨_,_,o,⟨a,n,F.kp⟩,F.binds hb⟩,b⟩
theorem fw_mk(X:K.In h)(G:h.Ns mainGlobals mg)(c:PySem.W.nsIn K mainGlobals x=some (some (.ref C)))(b:PySem.W.makesIn K C=true)(e:PySem.W.keepIn K (.ref C)=true)(a:PySem.W.findIn K (.ref C) "__init__"=some (some (.ref f)))(n:PySem.W.isFn K (.ref f)=true)(F:Fun K "__init__" ql st f fd)(o:FnOk P w K mg base CX k f fd ps sp)
  (hb:BA "__init__" ql st ps:=by first | (show fun _ _ _ _ _ _=>lN1 fun _=>rfl) | (show fun _ _ _ _ _ _=>lN2 fun _ _=>rfl) | (show fun _ _ _ _ _ _=>lN3 fun _ _ _=>rfl)) :
  MakeOk P w K mg base CX k C x ps sp:=⟨⟨_,_,o,⟨b,a,n,e⟩,F.binds hb⟩,k7 X G c⟩
theorem fx_mk(X:K.In h)(G:h.Ns mainGlobals mg)(c:PySem.W.nsIn K mainGlobals x=some (some (.ref C)))(Y:XAt K C)(q:XQ K C)(a:PySem.W.findIn K (.ref C) "__init__"=some (some (.ref f)))(n:PySem.W.isFn K (.ref f)=true)(F:Fun K "__init__" ql st f fd)(o:FnOk P w K mg base CX0 k f fd ps sp)
  (hb:BA "__init__" ql st ps:=by first | (show fun _ _ _ _ _ _=>lN1 fun _=>rfl) | (show fun _ _ _ _ _ _=>lN2 fun _ _=>rfl)) :
  XMakeOk P w K mg base k C x ps sp:=⟨⟨_,_,o,⟨Y,a,n,q.p⟩,F.binds hb⟩,k7 X G c⟩
theorem fc_mk(X:K.In h)(G:h.Ns mainGlobals mg)(c:PySem.W.nsIn K mainGlobals x=some (some (.ref C)))(a:PySem.W.readsIn K C (.type "type")=true)(b:PySem.W.findCls K (.ref C) (.type "type") m=some (.val (.ref f)))(e:PySem.W.specialIn K (.ref C) "__getattribute__"=some (some (.builtin "type.__getattribute__")))(F:Fun K m ql st f fd)(o:FnOk P w K mg base CX k f fd ps sp)
  (hb:BA m ql st ps:=by(show fun _ _ _ _ _ _=>lN2 fun _ _=>rfl)) :
  CMethOk P w K mg base CX k C x m ps sp:=⟨⟨_,_,o,⟨a,b,e,F.kp⟩,F.binds hb⟩,k7 X G c⟩
theorem qfo{c:List Value}(x:XL K C c)(hb:qch c=true)(q:XQ K C)(a:PySem.W.specialIn K (.builtin "object.__class__") "__get__"=some (some (.builtin "getset_descriptor.__get__")))(b:PySem.W.takesIn K (.builtin "object.__class__")=some true):XAt K C:=x.xat hb q.xa q.xb q.xd q.xe q.xf q.xg a b q.xh
end
end L2
namespace HT
open PySem PySem.Spec PyProof.Rows
section
variable{prog:Program}{w:World}{A:Around}{E:Value->Shared->Prop}{s:Shared}
end
end HT
namespace L2
open PySem PySem.Spec PyProof.Rows
variable{H:Hp}{R:It->Hp->Prop}{es:List Expr}{pos:Pos}{te:TE}{σ:St}
section
variable{X:Cx}{K:yg}{pos p:Pos}{x:Str}
end
section
variable{X:Cx}{K:yg}{e lo st:Expr}{te:TE}{tl ts:TO}{p2 pos:Pos}
def qgN(K:yg)(te:TE):TI:=fun σ H R=>te σ H fun v b=>∃ a xs,v=.ref a/\SqL K b a xs/\R (Itl K a) b
theorem qeJ{K:yg}(h:te σ H fun v b=>∃ a xs,v=.ref a/\SqL K b a xs/\R (Itl K a) b):qgN K te σ H R:=h
theorem qdq{u:Expr}(l:X.K=K)(m:PE X e te):PI X u e (qgN K te):=by
 subst l;intro c s σ H R I h;show thn (m c s σ H _ I h) fun v f ⟨y,i,g,t,a,xs,j,n,q⟩=>?_;subst j;cases t
 have fp:∀ b∈[f.heap.objs.size],qcS X c i b:=fun b hb=>by
  have e:b=f.heap.objs.size:=by simpa using hb
  subst e;show g.fpOk (yh _) (g.hok.fresh (yh _))
 obtain⟨r,w,p,hz⟩:=g.list n;show kQ p.isList ⟨f.heap.objs.size,[f.heap.objs.size],_,_,i,rfl,g.kept (t':=f.toks) fun b o e=>yu _ e,qck a _,⟨_,yS _ rfl,rfl,rfl⟩,fp,q⟩
end
noncomputable def Itz(K:yg)(a b:Addr):It:=
 ⟨fun i H=>∃ xs ys x y,SqL K H a xs/\SqL K H b ys/\xs[i]?=some x/\ys[i]?=some y,fun i H v H'=>∃ t x y,v=.ref t/\H t=none/\H'=upd H t (.tup [x,y])/\(∀ xs,SqL K H a xs->xs[i]?=some x)/\∀ ys,SqL K H b ys->ys[i]?=some y,fun i H=>∃ xs ys,SqL K H a xs/\SqL K H b ys/\(xs.length<=i\/ys.length<=i)⟩
def tnZ(z TI TO c e a b:Addr)(i:Nat)(h:Heap):Prop:=IsZip h z TI TO .none/\IsPair h TI (.ref c) (.ref e)/\(∃ u v,IsPair h TO u v)/\h.IsListIter c a i/\h.IsListIter e b i
theorem turn_zip{P:Program}{w:World}{K:yg}{x1}(a b z TI TO q r:Addr)(D:ZipApart z TI TO q r a b):Turn P w K (.Tuple es x1 pos) (Itz K a b) [z,TI,TO,q,r] z (tnZ z TI TO q r a b) where
 mem:=by simp
 obj:=fun i h st c hc=>by
  obtain⟨hz,g,⟨u,v,j⟩,⟨o1,e1,c1,d1⟩,⟨o2,e2,c2,d2⟩⟩:=st;simp only[yv,yM,Yt] at hc;rcases hc with rfl | rfl | rfl | rfl | rfl
  .show⟨_,hz,fun v z=>by have G:Data.fields _=Data.cell v:=z;cases G⟩
  .show⟨_,g,fun v z=>by have G:Data.seq _ _=Data.cell v:=z;cases G⟩
  .show⟨_,j,fun v z=>by have G:Data.seq _ _=Data.cell v:=z;cases G⟩
  .show⟨o1,e1,fun v z=>by rw[d1] at z;cases z⟩
  .show⟨o2,e2,fun v z=>by rw[d2] at z;cases z⟩
 keep:=fun i h h' st k=>by
  obtain⟨hz,g,⟨u,v,j⟩,h1,A⟩:=st;show⟨k z (by simp) _ hz,k TI (by simp) _ g,⟨u,v,k TO (by simp) _ j⟩,h1.at fun o x=>k q (by simp) o x,A.at fun o x=>k r (by simp) o x⟩
 item:=by
  intro X T hw S hc i m s σ H E I U st W;subst T hw S;obtain⟨hz,g,⟨u,v,j⟩,h1,A⟩:=st;obtain⟨xs,ys,x,y,L,n,hx,hy⟩:=W;obtain⟨ae,rv,p,_⟩:=I.list L;obtain⟨F,t,p2,_⟩:=I.list n;obtain⟨M,Y,ah⟩:=rv.get hx;obtain⟨N,Z,ai⟩:=t.get hy;show wpAny_pyNext_zip_item D hz g j h1 A p.isList p2.isList (x:=M) (y:=N) (by simpa using Y) (by simpa using Z) fun h' ac B O R hT hsz J=>?_;show⟨_,rfl,wpAny_letOwnedTupleGo_zip ac fun h3 ad l=>?_⟩;have fre:H s.heap.objs.size=none:=I.hok.fresh (yh _);have lt:∀{c o},s.heap.get? c=some o->s.heap.objs.size≠c:=fun e=>Yl (yH e);have nz:=lt hz;have af:=lt g;have ag:=lt j;have n1:s.heap.objs.size≠q:=by obtain⟨_,e,_⟩:=h1;show lt e
  have n2:s.heap.objs.size≠r:=by obtain⟨_,e,_⟩:=A;show lt e
  have I1:Inv X m σ (upd H s.heap.objs.size (.tup [x,y])) { s with heap:=s.heap.push { cls:=.type "tuple",data:=.seq #[M,N] },toks:=s.toks }:=
   I.laid (fun b u e=>yu _ e) (yh _) ⟨by show 2<=sizeLine;decide,[M,N],.cons ah (.cons ai .nil),⟨_,yS _ rfl,rfl,_,rfl⟩⟩
  have C:∀ c∈[z,TI,TO,q,r],qcS X m (upd H s.heap.objs.size (.tup [x,y])) c:=fun c hc=>by
   obtain⟨f0,f⟩:=U c hc;show⟨?_,f⟩;rw[qf]
   .show f0
   .simp only[yv,yM,Yt] at hc;rcases hc with rfl | rfl | rfl | rfl | rfl
    .show nz.symm
    .show af.symm
    .show ag.symm
    .show n1.symm
    .show n2.symm
  have kk:∀ c o,c∉[z,TI,TO,q,r]->(s.heap.push { cls:=.type "tuple",data:=.seq #[M,N] }).get? c=some o->h3.get? c=some o:=fun c o hc e=>by
   simp only[yv,yM,Yt,Kx] at hc;show l.extBut _ _ hc.1 ?_;by_cases hz:c=s.heap.objs.size
   .subst hz;rw[yS _ rfl] at e;cases e;show hT
   .show J c o hc.1 hc.2.2.1 hc.2.2.2.1 hc.2.2.2.2 (push_some e hz)
  have I2:=I1.turnedL (h':=h3) (t':=s.toks) (fp:=[z,TI,TO,q,r]) kk C;show⟨.ref s.heap.objs.size,_,I2,rfl,⟨_,x,y,rfl,fre,rfl,fun aj aa=>by rw[I.list_inj aa L];show hx,fun ys' ab=>by rw[I.list_inj ab n];show hy⟩,⟨ad,?_,⟨_,_,l.extBut _ _ D.TOz B⟩,O.extBut l.extBut D.i1z,R.extBut l.extBut D.i2z⟩,fun c hc=>(C c hc).1⟩;show l.extBut _ _ D.TIz (J _ _ D.TIz D.TITO D.TIi1 D.TIi2 g)
 done:=by
  intro X T hw S hc i m s σ H E I U st W;subst T hw S;obtain⟨hz,g,⟨u,v,j⟩,h1,A⟩:=st;obtain⟨xs,ys,L,n,he⟩:=W;obtain⟨ae,rv,p,_⟩:=I.list L;obtain⟨F,t,p2,_⟩:=I.list n;have l1:=rv.length;have l2:=t.length;show wpAny_pyNext_zip_end (I.ok.hd hc) D hz g j h1 A p.isList p2.isList (he.imp (fun e=>Xg (by simp;omega)) fun e=>Xg (by simp;omega)) fun h' J=>⟨rfl,I.turnedL (t':=s.toks) (fp:=[z,TI,TO,q,r]) (fun c o hc e=>?_) U⟩;simp only[yv,yM,Yt,Kx] at hc;show J c o hc.1 hc.2.2.1 hc.2.2.2.1 hc.2.2.2.2 e
 self:=fun _ _ _ _ _ st h=>Ke st.1 h
theorem qdr:bootBuiltins "zip"=some (.type "zip"):=by decide +kernel
def qgO(K:yg)(e:TA):TI:=fun σ H R=>e σ H fun vs c=>∃ a b xs ys,vs=[.ref a,.ref b]/\SqL K c a xs/\SqL K c b ys/\R (Itz K a b) c
theorem vZip{K:yg}{c:TA}(h:c σ H fun vs e=>∃ a b xs ys,vs=[.ref a,.ref b]/\SqL K e a xs/\SqL K e b ys/\R (Itz K a b) e):qgO K c σ H R:=h
theorem pi_zip{X:Cx}{K:yg}{a b:Expr}{y:TA}{x1}{O p:Pos}(A:X.K=K)(C:Gl X "zip")(E:X.mg "zip"=none)(B:PA X [a,b] y)(G:starEach [a,b] X.env=[(false,eval a X.env),(false,eval b X.env)]:=by rfl)(i:starEach [b] X.env=[(false,eval b X.env)]:=by rfl):PI X (.Tuple es x1 O) (.Call (.Name "zip" p) [a,b] [] pos) (qgO K y):=by
 subst A;intro j s σ H R I h;show Call_ (qau I C E qdr (YO (thn (B pos j s σ H _ I h) fun us g ⟨vs,z,f,M,L⟩=>?_) (by rw[G,i]) (by rw[i];rfl)));obtain⟨a,b,xs,ys,e,F,u,q⟩:=L;subst e
 cases M with
 | cons r rr =>
  cases rr with
  | cons r2 rr =>
   cases rr;cases r;cases r2;obtain⟨J,P,pl,_⟩:=f.list F;obtain⟨x,N,l,_⟩:=f.list u;have v:a<g.heap.objs.size:=by obtain⟨_,e,_⟩:=pl.isList;show yH e
   have w:b<g.heap.objs.size:=by obtain⟨_,e,_⟩:=l.isList;show yH e
   show call_zip_2 pl.isList l.isList fun h' hz m n o t hsz D=>Ke hz ?_;show⟨_,[g.heap.objs.size+4,g.heap.objs.size+2,g.heap.objs.size+3,g.heap.objs.size,g.heap.objs.size+1],_,_,z,rfl,f.kept (t':=g.toks) D,turn_zip a b _ _ _ _ _ (PySem.W.ktu_apart _ _ _ v w),⟨hz,m,⟨_,_,n⟩,o,t⟩,fun c hc=>?_,q⟩;simp only[yv,yM,Yt] at hc;rcases hc with rfl | rfl | rfl | rfl | rfl
   .show f.fpOk (Xb _ _) (f.hok.fresh (Xb _ _))
   .show f.fpOk (Xb _ _) (f.hok.fresh (Xb _ _))
   .show f.fpOk (Xb _ _) (f.hok.fresh (Xb _ _))
   .show f.fpOk (yh _) (f.hok.fresh (yh _))
   .show f.fpOk (xL _) (f.hok.fresh (xL _))
def qgP(K:yg)(te:TE)(e:TO):TE:=fun σ H Q=>te σ H fun x c=>e σ c fun o b=>o=some (-1)/\∃ a xs,x=.ref a/\SqL K b a xs/\∀ p,b p=none->Q (.ref p) (upd b p (.lst xs.reverse))
theorem qgQ{K:yg}{c:TO}{Q:VK}(h:te σ H fun x e=>c σ e fun o b=>o=some (-1)/\∃ a xs,x=.ref a/\SqL K b a xs/\∀ p,b p=none->Q (.ref p) (upd b p (.lst xs.reverse))):qgP K te c σ H Q:=h
theorem qbZ:∀{xs:List V} {us:List Value},Vals xs us->Vals xs.reverse us.reverse
 | _,_,.nil=>.nil
 | _,_,.cons r t=>by
  rw[List.reverse_cons,List.reverse_cons];show(qbZ t).append (.cons r .nil)
section
variable{X:Cx}{K:yg}{e st:Expr}{te:TE}{ts:TO}{p2 pos:Pos}
theorem qe3(y:X.K=K)(z:PE X e te)(B:PO X (some st) ts):PE X (.Subscript e (.Slice none none (some st) p2) pos) (qgP K te ts):=by
 subst y;intro c s σ H Q I h;show Subscript_ (thn (z c s σ H _ I h) fun v J ⟨x,m,p,G,F⟩=>?_);show wpAny_Slice ?_;rw[kY];show yw ?_;show yw ?_;show thn (B c J σ m _ p F) fun l f ⟨o,n,t,pt,u,a,xs,ex,C,q⟩=>?_;subst u ex;cases G;have g:Inv X c σ n { f with heap:=f.heap.push { cls:=.type "slice",data:=.fields #[.none,.none,l] } }:=t.kept (t':=f.toks) fun b E q=>yu _ q;obtain⟨D,r,j,hz⟩:=g.list C;have i:=r.length;show wpAny (model X.prog X.w) X.A (subscriptTail e (.Slice none none (some st) p2) (.ref a) (.ref f.heap.objs.size)) (EP X c σ Q) X.xe { f with heap:=f.heap.push { cls:=.type "slice",data:=.fields #[.none,.none,l] } };show tail_any (ops:=[.ref a,.ref f.heap.objs.size]) j.isList.typeIs Xp.lookup (xR j.isList (XR ..) .none .none pt (by decide) ?_ (by rw[yz]<;>omega)) (by with_unfolding_all rfl);rw[PySem.W.krv_pick];show⟨.ref _,_,g.laid (t':=f.toks) (o:=.lst xs.reverse) (fun b E q=>yu _ q) (yh _) ?_,rfl,q _ (g.hok.fresh (yh _))⟩;show⟨by rw[Yz];show hz,_,0,qbZ r,yS _ rfl⟩
end
section
variable{X:Cx}{a:Expr}{ta:TA}{p p2 pos pos2:Pos}
end
end L2
namespace L2
structure Sb(V:Nat->Prop):Prop where
 z:V 0
 a:∀ x y,V x->V y->V (x ^^^ y)
def jn(V:Nat->Prop)(x:Nat):Nat->Prop:=fun y=>V y\/V (y ^^^ x)
def Spn:List Nat->Nat->Prop
 | []=>fun y=>y=0
 | a::L=>jn (Spn L) a
open Classical in
def Bnd(b n v:Nat):Prop:=∀ i,v.testBit i=true->b<=i/\i<b+n
open Classical in
noncomputable def swp:Nat->Nat->List Nat->Nat
 | 0,_,_=>0
 | n+1,b,L=>match L.filter (fun v=>v.testBit b) with
  | []=>swp n (b+1) L
  | p::t=>1+swp n (b+1) (L.filter (fun v=>!v.testBit b)++t.map fun v=>v ^^^ p)
open Classical in
noncomputable def rk(L:List Nat):Nat:=swp 30 0 L
open Classical in
noncomputable def les:Nat×Nat->List (Nat×Nat)->Nat×Nat
 | s,[]=>s
 | s,o::os=>if s.1 ^^^ o.1<s.1 then les (s.1 ^^^ o.1,s.2 ^^^ o.2) os else les s os
structure Ech(os:List (Nat×Nat)):Prop where
 nz:∀ o∈os,o.1≠0
 pw:os.Pairwise fun a b=>b.1.testBit a.1.log2=false
noncomputable def csm:List Nat->Nat->Nat->Nat
 | [],_,_=>0
 | a::L,k,c=>(if c.testBit k then a else 0) ^^^ csm L (k+1) c
noncomputable def stp(st:List (Nat×Nat))(n v:Nat):List (Nat×Nat):=if (les (v,1 <<< n) st).1=0 then st else st++[les (v,1 <<< n) st]
structure Stp(L:List Nat)(n:Nat)(st:List (Nat×Nat)):Prop where
 ech:Ech st
 sum:∀ o∈st,csm L 0 o.2=o.1
 low:∀ o∈st,o.2<2 ^ n
 lt:∀ o∈st,o.1<2 ^ 30
 spn:∀ v,Spn (st.map (·.1)) v↔Spn (L.take n) v
 free:st.map (fun o=>o.2.log2)=(List.range n).filter fun i=>decide (rk (L.take i)<rk (L.take (i+1)))
 len:st.length<=n
end L2
namespace L2
open PySem PySem.Spec PyProof.Rows
variable{H:Hp}{i j n:Nat}{σ:St}
section
variable{X:Cx}
end
def Fl:V->Prop
 | .non=>True
 | .bl _=>True
 | .int i=>-999999999999<=i/\i<=999999999999
 | _=>False
noncomputable def fD:V->PyData
 | .non=>.none
 | .bl b=>.bool b
 | .int i=>.int i
 | .str x=>.str x
 | _=>.none
def FlS(xs:List V):Prop:=xs.length<=1000/\∀ x∈xs,Fl x
def ShwT(H:Hp)(v:V)(t:Str):Prop:=match v with
 | .non=>t="None"
 | .bl b=>t=if b then Str.ofString "True" else Str.ofString "False"
 | .int i=>i.natAbs.log2<1920/\t=toString i
 | .str x=>(reprText x).length<=sizeLine/\t=reprText x
 | .ref p=>(∃ xs,H p=some (.lst xs)/\FlS xs/\t=(PyData.list (xs.map fD)).shown)\/∃ xs,H p=some (.tup xs)/\FlS xs/\t=(PyData.tuple (xs.map fD)).shown
 | _=>False
section
variable{X:Cx}{K:yg}
end
theorem qef{b:Nat}{K:yg}(hi:i<b:=by decide)(p:j<b:=by decide):qd5 b (qgv K n (qfh (qbR i) (qfh (qbR j) qgu))):=by
 intro x σ H Q ⟨a,xs,e,l,h,v,r,c,o,m,f,q⟩;obtain⟨g,q⟩:=q;show⟨a,xs,e,l,h,v,r,c,o,m,f,g,q,?_,fun k s=>?_⟩
 .rw [xF,xF]
 .rw [xm (by omega),xm (by omega)]
section
variable{K:yg}{a:Addr}{xs:List V}{g:TG}{tc:TT}{te:TE}{σ':St}{H1:Hp}{Q:V->Hp->Prop}
end
theorem bit_nat(m j:Nat):decide (Builtin.bitAnd ((m:Int) / 2 ^ (j:Int).toNat) 1=1)=m.testBit j:=by
 rw[X5,Nat.testBit_eq_decide_div_mod_eq];rw[Yb]
 have e:((m:Int) / 2 ^ j) % 2=((m / 2 ^ j % 2:Nat):Int):=by
  rw[Int.natCast_emod,Int.natCast_ediv,xH];rfl
 rw[e];by_cases h:m / 2 ^ j % 2=1
 .rw [h];rfl
 .rw [yl h,yl (by omega)]
theorem qds(m j:Nat):decide (Builtin.bitAnd ((m:Int) / 2 ^ (j:Int).toNat) 1=0)=!m.testBit j:=by
 rw[<- bit_nat m j,X5];have h:((m:Int) / 2 ^ (j:Int).toNat) % 2=0\/((m:Int) / 2 ^ (j:Int).toNat) % 2=1:=by omega
 rcases h with h | h<;>rw[h]<;>rfl
section
variable{K:yg}{a b:Addr}{xs ys:List V}{g:TG}{tc:TT}{te:TE}{σ':St}{H1:Hp}{Q:V->Hp->Prop}
theorem comp_zip(E:ys.length<=xs.length)(f:Nat->List V->Hp->Prop)(w:f 0 [] H1)(hl:∀ i c H,i<=ys.length->f i c H->SqL K H a xs/\SqL K H b ys)
  (A:∀ i x y t c H,xs[i]?=some x->ys[i]?=some y->H t=none->f i c H->g (.ref t) σ' (upd H t (.tup [x,y])) fun j r=>tc j r fun b o=>if b=true then te j o fun v s=>c.length<sizeLine/\f (i+1) (c++[v]) s else f (i+1) c o)
  (z:∀ c H,f ys.length c H->c.length<=sizeLine/\∀ p,H p=none->Q (.ref p) (upd H p (.lst c))):qd6 (Itz K a b) g tc te σ' H1 Q:=by
 show⟨fun i m c H=>m=ys.length-i/\i<=ys.length/\f i c H,⟨ys.length,by simp,YC _,w⟩,?_⟩;rintro i m c H ⟨rfl,hi,p⟩;obtain⟨q,n⟩:=hl i c H hi p;by_cases h:i<ys.length
 .have l:i<xs.length:=by omega
  show .inr ⟨⟨xs,ys,xs[i],ys[i],q,n,by simp[l],by simp[h]⟩,f (i+1),fun ys' H' C=>⟨ys.length-(i+1),by omega,rfl,h,C⟩,fun x H' y=>?_⟩;obtain⟨t,v,u,rfl,B,rfl,y,D⟩:=y;show A i v u t c _ (y xs q) (D ys n) B p
 .have e:i=ys.length:=by omega
  subst e;show .inl ⟨⟨xs,ys,q,n,.inr (yh _)⟩,z c H p⟩
end
section
variable{X:Cx}{K:yg}
end
theorem pick_one(a:List Value):slicePick a.toArray none none (some 1)=a.toArray:=by
 have e:slicePick a.toArray none none (some 1)=slicePick a.toArray none none none:=rfl;rw[e,qaw,HT.sIx_none,HT.sIx_none];simp
def qgR(K:yg)(e:TE)(f:TO):TE:=fun σ H Q=>e σ H fun x c=>f σ c fun o b=>∃ a xs,x=.ref a/\SqL K b a xs/\((o=some (-1)/\∀ p,b p=none->Q (.ref p) (upd b p (.lst xs.reverse)))\/(o=some 1/\∀ p,b p=none->Q (.ref p) (upd b p (.lst xs))))
theorem vRv2{K:yg}{c:TE}{e:TO}{Q:VK}(h:c σ H fun x f=>e σ f fun o b=>∃ a xs,x=.ref a/\SqL K b a xs/\((o=some (-1)/\∀ p,b p=none->Q (.ref p) (upd b p (.lst xs.reverse)))\/(o=some 1/\∀ p,b p=none->Q (.ref p) (upd b p (.lst xs))))):qgR K c e σ H Q:=h
section
variable{X:Cx}{K:yg}{e st:Expr}{te:TE}{ts:TO}{p2 pos:Pos}
theorem pe_rv2(z:X.K=K)(B:PE X e te)(C:PO X (some st) ts):PE X (.Subscript e (.Slice none none (some st) p2) pos) (qgR K te ts):=by
 subst z;intro c s σ H Q I h;show Subscript_ (thn (B c s σ H _ I h) fun v J ⟨x,p,u,G,F⟩=>?_);show wpAny_Slice ?_;rw[kY];show yw ?_;show yw ?_;show thn (C c J σ p _ u F) fun n f ⟨o,t,y,pt,a,xs,ex,D,q⟩=>?_;subst ex;cases G;have g:Inv X c σ t { f with heap:=f.heap.push { cls:=.type "slice",data:=.fields #[.none,.none,n] } }:=y.kept (t':=f.toks) fun b m q=>yu _ q;obtain⟨E,r,i,hz⟩:=g.list D;have l:=r.length;show wpAny (model X.prog X.w) X.A (subscriptTail e (.Slice none none (some st) p2) (.ref a) (.ref f.heap.objs.size)) (EP X c σ Q) X.xe { f with heap:=f.heap.push { cls:=.type "slice",data:=.fields #[.none,.none,n] } };rcases q with⟨j,q⟩ | ⟨j,q⟩
 .subst j;show tail_any (ops:=[.ref a,.ref f.heap.objs.size]) i.isList.typeIs Xp.lookup (xR i.isList (XR ..) .none .none pt (by decide) ?_ (by rw[yz]<;>omega)) (by with_unfolding_all rfl);rw[PySem.W.krv_pick];show⟨.ref _,_,g.laid (t':=f.toks) (o:=.lst xs.reverse) (fun b m q=>yu _ q) (yh _) ?_,rfl,q _ (g.hok.fresh (yh _))⟩;show⟨by rw[Yz];show hz,_,0,qbZ r,yS _ rfl⟩
 .subst j;show tail_any (ops:=[.ref a,.ref f.heap.objs.size]) i.isList.typeIs Xp.lookup (xR i.isList (XR ..) .none .none pt (by decide) ?_ (by rw[yz]<;>omega)) (by with_unfolding_all rfl);rw[pick_one];show⟨.ref _,_,g.laid (t':=f.toks) (o:=.lst xs) (fun b m q=>yu _ q) (yh _) ?_,rfl,q _ (g.hok.fresh (yh _))⟩;show⟨hz,_,0,r,yS _ rfl⟩
end
mutual
inductive Dat(H:Hp):V->PyData->Prop
 | non:Dat H .non .none
 | bl (b:Bool):Dat H (.bl b) (.bool b)
 | int (i:Int):Dat H (.int i) (.int i)
 | str (x:Str):Dat H (.str x) (.str x)
 | lst {a:Addr} {xs:List V} {ds:List PyData}:H a=some (.lst xs)->DatS H xs ds->Dat H (.ref a) (.list ds)
 | tup {a:Addr} {xs:List V} {ds:List PyData}:H a=some (.tup xs)->DatS H xs ds->Dat H (.ref a) (.tuple ds)
 | dnil {a:Addr}:H a=some (.dK [])->Dat H (.ref a) (.dict [])
inductive DatS(H:Hp):List V->List PyData->Prop
 | nil:DatS H [] []
 | cons {v:V} {vs:List V} {d:PyData} {ds:List PyData}:Dat H v d->DatS H vs ds->DatS H (v::vs) (d::ds)
end
theorem Dat.same{H H':Hp}(s:Same H H'){v:V}{d:PyData}(h:Dat H v d):Dat H' v d:=
 Dat.rec (H:=H) (motive_1:=fun v d _=>Dat H' v d) (motive_2:=fun vs c _=>DatS H' vs c) .non .bl .int .str (fun e _ r=>.lst (s _ _ e) r) (fun e _ r=>.tup (s _ _ e) r) (fun e=>.dnil (s _ _ e)) .nil (fun _ _ a b=>.cons a b) h
theorem DatS.strs{H:Hp}:∀(ks:List Str),DatS H (ks.map V.str) (ks.map PyData.str)
 | []=>.nil
 | k::ks=>.cons (.str k) (DatS.strs ks)
structure Shw(d:PyData)(n m:Nat):Prop where
 s:d.showable=true
 l:d.leavesShort 13=true
 b:d.bulk<=n
 p:d.depth<=m
structure ShwS(ds:List PyData)(n m:Nat):Prop where
 s:PyData.showableAll ds=true
 l:PyData.leavesShortAll 13 ds=true
 b:PyData.bulkAll ds<=n
 p:PyData.depthAll ds<=m
theorem ShwS.nil{m:Nat}:ShwS [] 0 m:=⟨rfl,rfl,yh _,YC _⟩
theorem ShwS.cons{d:PyData}{a:List PyData}{n c m:Nat}(h:Shw d n m)(r:ShwS a c m):ShwS (d::a) (n+1+c) m:=
  ⟨by show(PyData.showable d&&PyData.showableAll a)=true;rw[h.s,r.s];rfl,by show(PyData.leavesShort 13 d&&PyData.leavesShortAll 13 a)=true;rw[h.l,r.l];rfl,
   by have:=h.b;have:=r.b;show PyData.bulk d+1+PyData.bulkAll a<=_;omega,
   by have:=h.p;have:=r.p;simp only[PyData.depthAll];omega⟩
theorem ShwS.mono{a:List PyData}{n e m c:Nat}(h:ShwS a n m)(g:n<=e)(f:m<=c):ShwS a e c:=⟨h.s,h.l,yi h.b g,yi h.p f⟩
theorem Shw.mono{d:PyData}{n c m a:Nat}(h:Shw d n m)(f:n<=c)(e:m<=a):Shw d c a:=⟨h.s,h.l,yi h.b f,yi h.p e⟩
theorem ShwS.list{a:List PyData}{n m:Nat}(h:ShwS a n m):Shw (.list a) n (m+1):=
 ⟨by simpa only[PyData.showable] using h.s,by simpa only[PyData.leavesShort] using h.l,by simpa only[PyData.bulk] using h.b,by have:=h.p;simp only[PyData.depth];omega⟩
theorem ShwS.tuple{a:List PyData}{n m:Nat}(h:ShwS a n m):Shw (.tuple a) n (m+1):=
 ⟨by simpa only[PyData.showable] using h.s,by simpa only[PyData.leavesShort] using h.l,by simpa only[PyData.bulk] using h.b,by have:=h.p;simp only[PyData.depth];omega⟩
theorem Shw.non{m:Nat}:Shw .none 0 m:=⟨rfl,rfl,yh _,YC _⟩
theorem Shw.bl{b:Bool}{m:Nat}:Shw (.bool b) 0 m:=⟨rfl,rfl,yh _,YC _⟩
theorem Shw.int{i:Int}{m:Nat}(h1:-999999999999<=i)(a:i<=999999999999):Shw (.int i) 0 m:=
 ⟨yB (log2_small (yj (show i.natAbs<2 ^ 40 by omega) (xO (by decide) (by decide)))),yB (PyData.shown_int_le2 h1 a),yh _,YC _⟩
theorem Shw.str{x:Str}{m:Nat}(h:∀ c∈x.cps.toList,c<16 ^ 8):Shw (.str x) x.length m:=
 ⟨rfl,by simpa only[PyData.leavesShort,YM,X6] using h,yh _,YC _⟩
theorem Shw.dnil{m:Nat}:Shw (.dict []) 0 (m+1):=⟨rfl,rfl,yh _,by simp[PyData.depth,PyData.depthKv]⟩
section
variable{X:Cx}{K:yg}{pins:List (Addr×Obj)}{σ:List (Option V)}{H:Hp}{s:Shared}
theorem Dat.reads(I:Inv X pins σ H s)(L:H sysModules=none){v:V}{d:PyData}(h:Dat H v d):∀ u,RelV v u->∃ as,Reads s.heap u d as/\sysModules∉as:=
 Dat.rec (H:=H) (motive_1:=fun v d _=>∀ u,RelV v u->∃ as,Reads s.heap u d as/\sysModules∉as) (motive_2:=fun vs l _=>∀ us,Vals vs us->∃ as,ReadsAll s.heap us l as/\sysModules∉as)
  (fun u r=>⟨[],by cases r;show .none,nofun⟩) (fun b u r=>⟨[],by cases r;show .bool b,nofun⟩) (fun i u r=>⟨[],by obtain⟨t,rfl⟩:=r;show .int i t,nofun⟩) (fun x u r=>⟨[],by obtain⟨t,rfl⟩:=r;show .str x t,nofun⟩)
  (fun{a xs l} e _ A u r=>by
   cases r;obtain⟨z,c,n,E,f⟩:=I.hok a _ e;obtain⟨as,j,w⟩:=A c E;show⟨a::as,.list f rfl rfl (by rw[List.toList_toArray];show j),fun g=>?_⟩;rcases yv.mp g with z | z
   .rw [z,e] at L;cases L
   .show w z)
  (fun{a xs l} e _ A u r=>by
   cases r;obtain⟨c,E,⟨o,m,f,n,p⟩,_⟩:=I.tuple (SqT.of e);obtain⟨as,j,w⟩:=A c E;show⟨as,.tuple m f p (by rw[List.toList_toArray];show j),w⟩)
  (fun{a} e u r=>by
   cases r;obtain⟨z,J,vs,D,o,G,ep,m,f,p,P,F,R⟩:=qfM I.hok e;cases D;have K:G.toList=[]:=by cases q:G.toList with | nil=>rfl | cons y ys=>rw[q] at F;cases F
   show⟨a::[]++[],.dict m f.1 p (by rw[K];show .nil) (by rw[K];show .nil),fun g=>?_⟩;rcases yv.mp g with z | z
   .rw [<- z] at J;simp at J
   .cases z)
  (fun us r=>by cases r;show⟨[],.nil,nofun⟩)
  (fun _ _ B C us r=>by
   cases r with
   | cons r rr =>
    obtain⟨as,j,M⟩:=B _ r;obtain⟨bs,O,N⟩:=C _ rr;show⟨as++bs,.cons j O,fun g=>(yA.mp g).elim M N⟩) h
def rReprD:List V->Hp->VK->Prop:=fun xs H Q=>∃ v d,xs=[v]/\Dat H v d/\Shw d (2 ^ 20) 60/\Q (.str d.shown) H
theorem qcX(n:X.K=K)(D:X.A.units+100<cLine)(f:X.A.guards=some [])(y:∃ o,K.lookup sysModules=some o):zT X (.builtin "repr") rReprD:=by
 subst n;intro pins s σ H xs us Q I r h;obtain⟨v,d,rfl,m,hw,q⟩:=h;obtain⟨u,rfl,a⟩:=qbk r;obtain⟨o,w⟩:=y;have t:H sysModules=none:=(I.bs _ _ (I.mod.kin _ _ w)).2;have hsz:d.shown.length<=sizeLine:=PyData.shown_fits_bulk (B:=13) (by decide) (by decide) hw.l hw.b;obtain⟨as,j,g⟩:=m.reads I t u a;have C:=hw.p
 cases m with
 | non=>cases a;show P.repr_of_none ⟨.str _,H,I.tok _,⟨_,rfl⟩,q⟩
 | bl b=>cases a;show P.repr_of_bool ⟨.str _,H,I.tok _,⟨_,rfl⟩,q⟩
 | int i=>obtain⟨tk,rfl⟩:=a;show P.repr_of_int (yk (by simpa only[PyData.showable] using hw.s)) ⟨.str _,H,I.tok _,⟨_,rfl⟩,q⟩
 | str x=>obtain⟨tk,rfl⟩:=a;show P.repr_of_str (hsz:=hsz) ⟨.str _,H,I.tok _,⟨_,rfl⟩,q⟩
 | lst e _=>cases a;show repr_of_reads' j hw.s (fun _=>g) f (by omega) (fun _ _ z=>z) (fun h' u tk c=>⟨.str _,H,I.kept (t':=tk) c,⟨_,rfl⟩,q⟩) hsz
 | tup e _=>cases a;show repr_of_reads' j hw.s (fun _=>g) f (by omega) (fun _ _ z=>z) (fun h' u tk c=>⟨.str _,H,I.kept (t':=tk) c,⟨_,rfl⟩,q⟩) hsz
 | dnil e=>cases a;show repr_of_reads' j hw.s (fun _=>g) f (by omega) (fun _ _ z=>z) (fun h' u tk c=>⟨.str _,H,I.kept (t':=tk) c,⟨_,rfl⟩,q⟩) hsz
end
section
variable{X:Cx}{tg elt iter:Expr}{ifs:List Expr}{scope sc1:Scope}{pos:Pos}{N N1:List Str}{nl:Nat}{ixs:List Nat}{wi:TI}{g:TG}{tc:TT}{te:TE}{C1:Addr}{s1:Shared}{H1:Hp}{ex1:List Addr}
end
section
variable{X:Cx}{K:yg}
theorem qcF{e ty:TE}{σ:St}{H:Hp}{Q:VK}(h:e σ H fun x b=>∃ a,x=.ref a/\IsD b a/\ty σ b fun y c=>∃ o,DGet c a y o/\Q (o.getD .non) c):qeQ e ty σ H Q:=h
end
noncomputable abbrev Cx.soft(X:Cx):Cx:={ X with calm:=false }
structure RoomW(k:Nat)(A:Around):Prop where
 dp:A.depth+3*k+5<recursionLimit
 un:A.units+16*k+200<cLine
 gd:A.guards=some []
theorem RoomW.deeper{k:Nat}{A:Around}(r:RoomW (k+1) A)(env:Env):RoomW k (A.deeper env):=
 ⟨by have:=r.dp;show A.depth+1+3*k+5<_;omega,by have:=r.un;show A.units+3+16*k+200<_;omega,r.gd⟩
theorem Room.soft{j k:Nat}{A:Around}{h:Option Value}(r:Room k A)(l:j<=k):RoomW j (A.mark h):=⟨by have:=r.dp;show A.depth+3*j+5<_;omega,by have:=r.un;show A.units+16*j+200<_;omega,r.gd⟩
structure FnOkW(P:Program)(w:World)(K:yg)(mg:Str->Option Value)(base:Heap)(k:Nat)(f:Addr)(fd:FuncData)(ps:List Str)(sp:Sp):Prop where
 len:∀ vs H Q E,sp vs H Q E->vs.length=ps.length
 run:∀(A:Around) (outer:List Env) (s:Shared) (H:Hp) (args:Args) (us:List Value) (vs:List V) (Q:VK) (E:XK),RoomW k A->Env0 P w K mg base A outer s H->BindsTo s fd args (ps.zip us)->Vals vs us->sp vs H Q E ->
  codeAny (model P w) A (.call (.ref f) args) (CR CX0 outer P w H s Q E) s
structure DefOkW(P:Program)(w:World)(K:yg)(mg:Str->Option Value)(base:Heap)(k:Nat)(x:Str)(ps:List Str)(sp:Sp):Prop where
 ex:∃ f fd,FnOkW P w K mg base k f fd ps sp/\mg x=some (.ref f)/\PySem.W.keepIn K (.ref f)=true/\Binds K fd ps []
section
variable{X:Cx}{k:Nat}{f C:Addr}{fd:FuncData}{ps:List Str}{sp:Sp}{x m:Str}{p pos apos:Pos}{e o:Expr}{es:List Expr}{ta:TE}{t:TA}
end
section
variable{P:Program}{w:World}{K:yg}{mg:Str->Option Value}{base:Heap}
end
theorem Inv.laidM{X:Cx}{a:List (Addr×Obj)}{σ:St}{H H':Hp}{s:Shared}{h':Heap}{t':Nat}(I:Inv X a σ H s)(k:∀ b u,s.heap.get? b=some u->h'.get? b=some u)
  (old:∀ b,b<s.heap.objs.size->H' b=H b) (new:∀ b u,s.heap.objs.size<=b->H' b=some u->ObjOk X.prog X.w H' h' b u):Inv X a σ H' { s with heap:=h',toks:=t' }:=by
 have lt:∀ b u,H b=some u->b<s.heap.objs.size:=fun b u e=>Kg fun z=>by rw[I.hok.fresh z] at e;cases e
 have up:∀ b u,H b=some u->H' b=some u:=fun b u e=>(old b (lt b u e)).trans e;show I.step (g':=s.gens) (d':=s.drawn) (ch:=[]) (fun b hb=>by simp at hb) (fun b o _ _ _ e _=>k b o e) (fun b o _ _ _ e _=>⟨o.slots,k b o e⟩) (fun b o _ e n=>(old b (yH e)).trans n)
  (fun b o _ e=>⟨o,k b o e⟩) (fun b xs e=>up b _ e) (fun b _ _ e=>up b _ e) (fun b h e=>⟨#[],by rw[up b _ e];simp⟩) (fun m ⟨o,f,ep,g,r⟩=>⟨o,f,ep,k _ o g,r⟩) (fun b u e=>?_) I.bare
 by_cases hb:s.heap.objs.size<=b
 .show new b u hb e
 .rw [old b (Kg hb)] at e;show(I.hok b u e).stay (fun c v _ q=>k c v q) (fun c q=>up c _ q) fun c xs q=>up c _ q
section
variable{prog:Program}{w:World}{A:Around}{E:Value->Shared->Prop}{s:Shared}
theorem alive_{a:Addr}{Q:Option Obj->Shared->Prop}(h:Q (s.heap.get? a) s):wpAny (model prog w) A (loadIfAlive a) Q E s:=fun b p _=>by
 show Sem.wp _ _ (.loadIfAlive a .pure) _ _ _ _;rw[Sem.wp_loadIfAlive];simpa using h
abbrev qfx(h:Heap)(z TI TO:Addr)(b:Value)(a:Bool):Prop:=h.get? z=some { cls:=.type "zip",dict:=none,data:=.fields #[b,.bool a,.bool false,.ref TI,.ref TO],slots:=#[] }
theorem qfX{z TI TO T:Addr}{a:Bool}{g:Obj}{Q:Bool->Shared->Prop}(hz:qfx s.heap z TI TO (rawInt T) a)(e:s.heap.get? T=some g)
  (b:∀ h',qfx h' z TI TO (rawInt T) true->Heap.SameBut z s.heap h'->Q false { s with heap:=h' }):wpAny (model prog w) A (Builtin.SmallTypes.ownedTupleIsFree (.ref z)) Q E s:=by
 unfold Builtin.SmallTypes.ownedTupleIsFree;show yr (Y6 hz rfl (x:=rawInt T) rfl ?_);show wpAny _ _ (loadIfAlive T>>=_) _ _ _;show yr (alive_ ?_);rw[e];show wpAny _ _ (field (.ref z) 1>>=_) _ _ _;show yr (Y6 hz rfl (x:=.bool a) rfl ?_)
 cases a with
 | true=>show yw (b _ hz ⟨rfl,fun _ _=>rfl⟩)
 | false =>
  show wpAny _ _ (setField (.ref z) 1 (.bool true)>>=_) _ _ _;show yr (wpAny_setField_rec hz (by simp) fun h1 c f=>yw (b h1 c f))
theorem znx{z TI TO f g a b T:Addr}{G:Bool}{N:Obj}{t u:Nat}{xs ys:Array Value}{x y:Value}{Q:Value->Shared->Prop}(D:ZipApart z TI TO f g a b)
  (hz:qfx s.heap z TI TO (rawInt T) G) (J:s.heap.get? T=some N) (p:IsPair s.heap TI (.ref f) (.ref g))
  (h1:s.heap.IsListIter f a t) (H:s.heap.IsListIter g b u) (q:s.heap.IsList a xs) (r:s.heap.IsList b ys) (K:xs[t]?=some x) (L:ys[u]?=some y)
  (I:∀ h',qfx h' z TI TO (rawInt T) true->h'.IsListIter f a (t+1)->h'.IsListIter g b (u+1)->IsPair h' s.heap.objs.size x y->h'.objs.size=s.heap.objs.size+1 ->
   (∀ c o,c≠z->c≠f->c≠g->s.heap.get? c=some o->h'.get? c=some o)->Q (.ref s.heap.objs.size) { s with heap:=h' }) :
  wpAny (model prog w) A (Builtin.«zip.__next__» ⟨[.ref z],[]⟩) (fun m s'=>∃ v,m=.done (.ret v)/\Q v s') E s:=by
 show wpAny _ _ (field (.ref z) 2>>=_) _ _ _;show yr <| Y6 hz rfl (x:=.bool false) rfl ?_;show wpAny _ _ (field (.ref z) 3>>=_) _ _ _;show yr <| Y6 hz rfl (x:=.ref TI) rfl ?_;show yr <| wpAny_seqItems p rfl ?_;show wpAny _ _ (Builtin.SmallTypes.ownedTupleIsFree _>>=_) _ _ _;show yr <| qfX hz J fun S R h=>?_;simp only[YT,Xj];show yr ?_;rw[<- Array.forIn_toList];simp only[Ko,Ks];show yr (yr (Ys ?_));show wpAny _ _ (Builtin.SmallTypes.nextOf (.ref f)>>=_) _ _ _;show yr <| X7 (h1.extBut h.extBut D.i1z) (q.extBut h.extBut D.l1z) K fun U O i=>yw (yw ?_);show yr (yr (Ys ?_));show wpAny _ _ (Builtin.SmallTypes.nextOf (.ref g)>>=_) _ _ _;show yr <| X7 ((H.extBut h.extBut D.i2z).extBut i.extBut D.i12.symm) ((r.extBut h.extBut D.l2z).extBut i.extBut D.l2i1) L fun n P j=>yw (yw (yw ?_));show yr (wpAny_newTuple (yw ⟨_,rfl,?_⟩) (by show 2<=sizeLine;decide));have l:n.objs.size=s.heap.objs.size:=by rw[j.1,i.1,h.1]
 have M:∀ c o,c≠z->c≠f->c≠g->s.heap.get? c=some o->n.get? c=some o:=fun c o B C F e=>j.extBut _ _ F (i.extBut _ _ C (h.extBut _ _ B e));rw[show(Value.ref n.objs.size)=.ref s.heap.objs.size by rw[l]];show I _ (yu _ (j.extBut _ _ D.i2z.symm (i.extBut _ _ D.i1z.symm R))) ((O.extBut j.extBut D.i12).at fun o e=>yu _ e) (P.at fun o e=>yu _ e) ?_ (by rw[YW,l]) fun c o B C F e=>yu _ (M c o B C F e);rw[<- l];show yS _ rfl
theorem zne{z TI TO i j a b T:Addr}{G:Bool}{M:Obj}{t u:Nat}{xs ys:Array Value}{Q:Fin->Shared->Prop}(F:A.handled=none)(D:ZipApart z TI TO i j a b)
  (hz:qfx s.heap z TI TO (rawInt T) G) (J:s.heap.get? T=some M) (m:IsPair s.heap TI (.ref i) (.ref j))
  (h1:s.heap.IsListIter i a t) (I:s.heap.IsListIter j b u) (h:s.heap.IsList a xs) (p:s.heap.IsList b ys) (g:xs[t]?=none\/ys[u]?=none)
  (C:∀ h' e,(∀ c o,c≠z->c≠i->c≠j->s.heap.get? c=some o->h'.get? c=some o)->(∃ o,h'.get? e=some o/\o.cls=.type "StopIteration")->E (.ref e) { s with heap:=h' }) :
  wpAny (model prog w) A (Builtin.«zip.__next__» ⟨[.ref z],[]⟩) Q E s:=by
 show wpAny _ _ (field (.ref z) 2>>=_) _ _ _;show yr <| Y6 hz rfl (x:=.bool false) rfl ?_;show wpAny _ _ (field (.ref z) 3>>=_) _ _ _;show yr <| Y6 hz rfl (x:=.ref TI) rfl ?_;show yr <| wpAny_seqItems m rfl ?_;show wpAny _ _ (Builtin.SmallTypes.ownedTupleIsFree _>>=_) _ _ _;show yr <| qfX hz J fun O R f=>?_;simp only[YT,Xj];show yr ?_;rw[<- Array.forIn_toList];simp only[Ko,Ks];show yr (yr (Ys ?_));show wpAny _ _ (Builtin.SmallTypes.nextOf (.ref i)>>=_) _ _ _
 cases r:xs[t]? with
 | none=>show yr <| wpAny_nextOf_list_end F (h1.extBut f.extBut D.i1z) (h.extBut f.extBut D.l1z) r fun B e l n=>C B e (fun c o v y _ q=>l _ _ y (f.extBut _ _ v q)) n
 | some x =>
  have K:ys[u]?=none:=g.elim (fun z=>by rw[r] at z;cases z) id;show yr <| X7 (h1.extBut f.extBut D.i1z) (h.extBut f.extBut D.l1z) r fun B P l=>yw (yw ?_);show yr (yr (Ys ?_));show wpAny _ _ (Builtin.SmallTypes.nextOf (.ref j)>>=_) _ _ _;show yr <| wpAny_nextOf_list_end F ((I.extBut f.extBut D.i2z).extBut l.extBut D.i12.symm) ((p.extBut f.extBut D.l2z).extBut l.extBut D.l2i1) K fun H e N n=>C H e (fun c o v y L q=>N _ _ L (l.extBut _ _ y (f.extBut _ _ v q))) n
def ZAt(z TI TO N:Nat)(h:Heap):Prop:=IsZip h z TI TO .none\/∃ T a o,N<=T/\qfx h z TI TO (rawInt (T:Nat)) a/\h.get? T=some o
theorem ZAt.typ{z TI TO N:Nat}(h:ZAt z TI TO N s.heap):s.TypeIs (.ref z) "zip":=by
 rcases h with e | ⟨_,_,_,_,e,_⟩<;>show⟨_,e,rfl⟩
theorem znx_any{z TI TO i j a b N:Addr}{H I:Nat}{xs ys:Array Value}{x y:Value}{Q:Option Value->Shared->Prop}(D:ZipApart z TI TO i j a b)(P:N<=s.heap.objs.size)
  (hz:ZAt z TI TO N s.heap) (m:IsPair s.heap TI (.ref i) (.ref j)) (f:∃ u v,IsPair s.heap TO u v)
  (h1:s.heap.IsListIter i a H) (J:s.heap.IsListIter j b I) (n:s.heap.IsList a xs) (p:s.heap.IsList b ys) (L:xs[H]?=some x) (M:ys[I]?=some y) (h:z<N/\i<N/\j<N)
  (K:∀ h',ZAt z TI TO N h'->(∃ u v,IsPair h' TO u v)->h'.IsListIter i a (H+1)->h'.IsListIter j b (I+1)->IsPair h' s.heap.objs.size x y->h'.objs.size=s.heap.objs.size+1 ->
   (∀ c o,c≠z->c≠TO->c≠i->c≠j->s.heap.get? c=some o->h'.get? c=some o)->Q (some (.ref s.heap.objs.size)) { s with heap:=h' }) :
  wpAny (model prog w) A (pyNext (.ref z)) Q E s:=by
 obtain⟨u,v,f⟩:=f;have typ:=hz.typ;rcases hz with hz | ⟨T,b1,o,hT,hz,ho⟩
 .show wpAny_pyNext_zip_item D hz m f h1 J n p L M fun g t O B C r G l=>K g (.inr ⟨s.heap.objs.size,false,_,P,t,r⟩) ⟨_,_,O⟩ B C r G l
 .unfold pyNext;show yr (kj (XT (name:=Str.ofString "__next__") typ kB (Xy kB typ F.entry_zip_next (znx D hz ho m h1 J n p L M fun g t B C r G l=>yw ?_) (F.args_zip_next_1 _))));show K g (.inr ⟨T,true,o,hT,t,l _ _ (Yl (yj h.1 hT)) (Yl (yj h.2.1 hT)) (Yl (yj h.2.2 hT)) ho⟩) ⟨_,_,l _ _ D.TOz D.TOi1 D.TOi2 f⟩ B C r G fun c q R _ S U e=>l c q R S U e
theorem zne_any{z TI TO m n a b N:Addr}{x y:Nat}{xs ys:Array Value}{Q:Option Value->Shared->Prop}(t:A.handled=none)(D:ZipApart z TI TO m n a b)
  (hz:ZAt z TI TO N s.heap) (i:IsPair s.heap TI (.ref m) (.ref n)) (h:∃ u v,IsPair s.heap TO u v)
  (h1:s.heap.IsListIter m a x) (p:s.heap.IsListIter n b y) (j:s.heap.IsList a xs) (l:s.heap.IsList b ys) (f:xs[x]?=none\/ys[y]?=none)
  (r:∀ h',(∀ c o,c≠z->c≠TO->c≠m->c≠n->s.heap.get? c=some o->h'.get? c=some o)->Q none { s with heap:=h' }):wpAny (model prog w) A (pyNext (.ref z)) Q E s:=by
 obtain⟨u,v,h⟩:=h;have typ:=hz.typ;rcases hz with hz | ⟨T,b1,o,hT,hz,ho⟩
 .show wpAny_pyNext_zip_end t D hz i h h1 p j l f r
 .unfold pyNext;show yr (kj (XT (name:=Str.ofString "__next__") typ kB (Xy kB typ F.entry_zip_next (zne t D hz ho i h1 p j l f fun g e k B=>?_) (F.args_zip_next_1 _))));obtain⟨q,C,hc⟩:=B;show yr (wpAny_isInstance (T:="StopIteration") (b:=true) ⟨q,C,hc⟩ isSubtype_stop ?_);show yw (r _ fun c o G _ H I e=>k c o G H I e)
end
structure LZ(z TI TO i1 i2 a b S N:Nat)(xs ys:Array Value)(h0:Heap)(i:Nat)(acc:Array Value)(c:Nat)(h:Heap):Prop where
 zp:ZAt z TI TO N h
 ti:IsPair h TI (.ref i1) (.ref i2)
 tO:∃ u v,IsPair h TO u v
 j1:h.IsListIter i1 a i
 j2:h.IsListIter i2 b i
 la:h.IsList a xs
 lb:h.IsList b ys
 ls:h.get? S=some { cls:=.type "list",dict:=none,data:=.seq acc c,slots:=#[] }
 sz:N<=h.objs.size
 len:acc.size=i
 its:∀(j:Nat) v,acc[j]?=some v->∃ t x y,v=.ref t/\N<=t/\IsPair h t x y/\xs[j]?=some x/\ys[j]?=some y
 nd:∀(j k:Nat) v,acc[j]?=some v->acc[k]?=some v->j=k
 kp:∀ q o,q<N->q≠z->q≠TO->q≠i1->q≠i2->q≠S->h0.get? q=some o->h.get? q=some o
structure LE(z TO i1 i2 S N:Nat)(xs ys:Array Value)(h0:Heap)(n:Nat)(acc:Array Value)(c:Nat)(h:Heap):Prop where
 ls:h.get? S=some { cls:=.type "list",dict:=none,data:=.seq acc c,slots:=#[] }
 len:acc.size=n
 its:∀(j:Nat) v,acc[j]?=some v->∃ t x y,v=.ref t/\N<=t/\IsPair h t x y/\xs[j]?=some x/\ys[j]?=some y
 nd:∀(j k:Nat) v,acc[j]?=some v->acc[k]?=some v->j=k
 kp:∀ q o,q<N->q≠z->q≠TO->q≠i1->q≠i2->q≠S->h0.get? q=some o->h.get? q=some o
structure LA(z TI TO i1 i2 a b S N:Nat):Prop where
 D:ZipApart z TI TO i1 i2 a b
 lt:z<S/\TI<S/\TO<S/\i1<S/\i2<S/\a<S/\b<S
 S:S<N
theorem LZ.at{z TI TO l m a b S N:Nat}{xs ys:Array Value}{B h h':Heap}{i c w:Nat}{acc f:Array Value}(L:LA z TI TO l m a b S N)(x:LZ z TI TO l m a b S N xs ys B i acc c h)
  (k:Heap.SameBut S h h') (W:h'.get? S=some { cls:=.type "list",dict:=none,data:=.seq f w,slots:=#[] }) (r:f.size=i) (p:∀(j:Nat) v,f[j]?=some v->∃ t x y,v=.ref t/\N<=t/\IsPair h t x y/\xs[j]?=some x/\ys[j]?=some y) (nd:∀(j k:Nat) v,f[j]?=some v->f[k]?=some v->j=k):LZ z TI TO l m a b S N xs ys B i f w h':=by
 obtain⟨l1,l2,M,O,P,R,U⟩:=L.lt;have C:=L.S;have g:∀{q o},q≠S->h.get? q=some o->h'.get? q=some o:=fun n e=>k.extBut _ _ n e;show⟨?_,g (yE l2) x.ti,?_,x.j1.at fun o e=>g (yE O) e,x.j2.at fun o e=>g (yE P) e,x.la.extBut k.extBut (yE R),x.lb.extBut k.extBut (yE U),W,by rw[k.1];show x.sz,r,fun j v e=>?_,nd,fun q o D E F G H s e=>g s (x.kp q o D E F G H s e)⟩
 .rcases x.zp with e | ⟨T,b1,o,hT,e,eo⟩
  .show .inl (g (yE l1) e)
  .show .inr ⟨T,b1,o,hT,g (yE l1) e,g (Yl (yj C hT)) eo⟩
 .obtain⟨u,v,e⟩:=x.tO;show⟨u,v,g (yE M) e⟩
 .obtain⟨t,u,v,I,A,J,K⟩:=p j v e;show⟨t,u,v,I,A,g (Yl (yj C A)) J,K⟩
section
variable{prog:Program}{w:World}{A:Around}{R:Result->Shared->Prop}{z TI TO i1 i2 a b S N:Nat}{xs ys:Array Value}{h0:Heap}
theorem zloop(hh:A.handled=none)(L:LA z TI TO i1 i2 a b S N)(hn:min xs.size ys.size<=2 ^ 24)(res:Value):∀(k i:Nat) (s:Shared) (acc:Array Value) (c:Nat),min xs.size ys.size-i=k->i<=min xs.size ys.size->LZ z TI TO i1 i2 a b S N xs ys h0 i acc c s.heap ->
  (∀ h' M O,LE z TO i1 i2 S N xs ys h0 (min xs.size ys.size) M O h'->R (.ok (.ret res)) { s with heap:=h' })->codeAny (model prog w) A (.builtin "list.extend.loop" ⟨[.ref S,.ref z,res],[]⟩) R s:=by
 have C:=L.S;obtain⟨l1,l2,U,E,G,l6,l7⟩:=L.lt;have p:∀{t q:Nat},N<=t->q<S->t≠q:=fun h1 h2=>by omega
 intro k
 induction k with
 | zero =>
  intro i s acc c hk hi x hR;show codeAny_builtin F.entry_extend_loop ?_;rw[Around.under_plainId XB _];show wpAny _ A.in1 (pyNext _>>=_) _ _ s
  have he:xs[i]?=none\/ys[i]?=none:=by
   rcases Nat.le_total xs.size ys.size with q | q
   .show .inl (Xg (by omega))
   .show .inr (Xg (by omega))
  show yr (zne_any hh L.D x.zp x.ti x.tO x.j1 x.j2 x.la x.lb he fun h' l=>yw (hR h' acc c ⟨?_,by rw[x.len];omega,fun j v e=>?_,x.nd,fun q o H y I J K X e=>l q o y I J K (x.kp q o H y I J K X e)⟩))
  .show l S _ (Yl l1) (Yl U) (Yl E) (Yl G) x.ls
  .obtain⟨t,u,v,m,g,e3,e4⟩:=x.its j v e;show⟨t,u,v,m,g,l t _ (p g l1) (p g U) (p g E) (p g G) e3,e4⟩
 | succ k ih =>
  intro i s acc c hk hi x hR;show codeAny_builtin F.entry_extend_loop ?_;rw[Around.under_plainId XB _];show wpAny _ A.in1 (pyNext _>>=_) _ _ s;obtain⟨u,hu⟩:∃ u,xs[i]?=some u:=⟨_,xD (by omega)⟩;obtain⟨v,hv⟩:∃ v,ys[i]?=some v:=⟨_,xD (by omega)⟩;show yr (znx_any L.D x.sz x.zp x.ti x.tO x.j1 x.j2 x.la x.lb hu hv ⟨Kj l1 C,Kj E C,Kj G C⟩ fun h1 z1 ab m g eP Z l=>?_);have P:=l S _ (Yl l1) (Yl U) (Yl E) (Yl G) x.ls;show wpAny _ A.in1 (updateSeq S (·.push (.ref s.heap.objs.size))>>=_) _ _ _;have f:=x.len;have hN:=x.sz
  have W:∀ j:Nat,acc[j]?≠some (.ref s.heap.objs.size):=fun j e=>by
   obtain⟨t,Y,w',q1,B,q3,_⟩:=x.its j _ e;cases q1;show absurd (yH q3) (Yy _)
  have aa:∀(j k:Nat) r,(acc.push (.ref s.heap.objs.size))[j]?=some r->(acc.push (.ref s.heap.objs.size))[k]?=some r->j=k:=fun j k r m g=>by
   rw[Array.getElem?_push] at m g;split at m<;>split at g
   .rename_i H y;rw[H,y]
   .cases m;show absurd g (W k)
   .cases g;show absurd m (W j)
   .show x.nd j k r m g
  obtain⟨O,ac⟩:∃ O,(h1.update S (Obj.mapSeq (·.push (.ref s.heap.objs.size)))).get? S=some { cls:=.type "list",dict:=none,data:=.seq (acc.push (.ref s.heap.objs.size)) O,slots:=#[] }:=⟨_,YE (Obj.mapSeq (·.push (.ref s.heap.objs.size))) P rfl⟩;show yr (kC P rfl (yw ⟨plainId_quiet XB _,ih (i+1) _ (acc.push (.ref s.heap.objs.size)) O (by omega) (by omega) ?_ hR⟩) ?_ ?_)
  .have sb:Heap.SameBut S h1 (h1.update S (Obj.mapSeq (·.push (.ref s.heap.objs.size)))):=xV ..;have h:∀{q o},q≠S->h1.get? q=some o->(h1.update S (Obj.mapSeq (·.push (.ref s.heap.objs.size)))).get? q=some o:=fun n e=>sb.extBut _ _ n e;show⟨?_,h (yE l2) (l _ _ L.D.TIz L.D.TITO L.D.TIi1 L.D.TIi2 x.ti),?_,m.at fun o e=>h (yE E) e,g.at fun o e=>h (yE G) e,?_,?_,ac,by rw[sb.1,Z];omega,by rw[Array.size_push,f],fun j r e=>?_,aa,fun q o H y I J K X e=>h X (l q o y I J K (x.kp q o H y I J K X e))⟩
   .rcases z1 with e | ⟨T,b1,o,hT,e,eo⟩
    .show .inl (h (yE l1) e)
    .show .inr ⟨T,b1,o,hT,h (yE l1) e,h (Yl (yj C hT)) eo⟩
   .obtain⟨Y,r,e⟩:=ab;show⟨Y,r,h (yE U) e⟩
   .obtain⟨o,e,d⟩:=x.la;show⟨o,h (yE l6) (l _ _ L.D.l1z L.D.l1TO L.D.l1i1 L.D.l1i2 e),d⟩
   .obtain⟨o,e,d⟩:=x.lb;show⟨o,h (yE l7) (l _ _ L.D.l2z L.D.l2TO L.D.l2i1 L.D.l2i2 e),d⟩
   .rw [Array.getElem?_push] at e;split at e
    .rename_i ej
     cases e;rw[ej,f];show⟨_,u,v,rfl,hN,h (Yl (yj C hN)) eP,hu,hv⟩
    .obtain⟨t,Y,w',q1,B,q3,q4⟩:=x.its j r e;show⟨t,Y,w',q1,B,h (Yl (yj C B)) (l t _ (p B l1) (p B U) (p B E) (p B G) q3),q4⟩
  .rw [f,YD];omega
  .show(acc.push _).size<=sizeLine+1;rw[Array.size_push,f,YD];omega
theorem zip_len0:typeLookup (.type "zip") "__len__"=pure none:=by rw[typeLookup_type,builtinLookup_eq_fast];kernel_rfl
theorem zip_hint0:typeLookup (.type "zip") "__length_hint__"=pure none:=by rw[typeLookup_type,builtinLookup_eq_fast];kernel_rfl
theorem zext{s:Shared}{p:Nat}(u:A.handled=none)(L:LA z TI TO i1 i2 a b S N)(y:min xs.size ys.size<=2 ^ 24)(res:Value)(hz:IsZip s.heap z TI TO .none)(x:LZ z TI TO i1 i2 a b S N xs ys h0 0 #[] p s.heap)
  (t:∀ h' c g,LE z TO i1 i2 S N xs ys h0 (min xs.size ys.size) c g h'->R (.ok (.ret res)) { s with heap:=h' }) :
  wpAny (model prog w) A.in1 (Builtin.List.listExtendWith (.ref S) (.ref z) res) (fun h s'=>match h with | .done f=>R (.ok f) s' | .again g=>g.quiet=true/\codeAny (model prog w) A g R s') (fun e s'=>R (.error e) s') s:=by
 obtain⟨l1,_⟩:=L.lt;have typ:s.TypeIs (.ref z) "zip":=⟨_,hz,rfl⟩;unfold Builtin.List.listExtendWith;show yr <| wpAny_typeOf typ ?_;have B:Builtin.List.listSameRef (.ref S) (.ref z)=false:=by simp[Builtin.List.listSameRef,Yl l1]
 have o:(Value.type "zip"==.type "list")=false/\(Value.type "zip"==.type "tuple")=false:=by decide
 simp only[B,o.1,o.2,kZ,YT,Xj];show yr <| Ke hz <| yr <| Ys ?_;unfold Builtin.List.listLengthHint;show yr <| wpAny_specialOf typ zip_len0 ?_;show wpAny _ _ (specialOf (Value.ref z) (Str.ofString "__length_hint__")>>=_) _ _ _;show yr <| wpAny_specialOf typ zip_hint0 <| yw ?_;show wpAny _ _ (rule "list.extend.makes-room">>=fun _=>Builtin.List.listTouch (.ref S)>>=fun _=>again (.builtin "list.extend.loop" ⟨[.ref S,.ref z,res],[]⟩)) _ _ _;show yr <| wpAny_rule <| yr ?_;show wpAny _ _ (updateSeq S (·.push .none)>>=fun _=>updateSeq S (·.pop)) _ _ _;show yr <| kC x.ls rfl ?_;have i:=YE (Obj.mapSeq (·.push Value.none)) x.ls rfl;show kC (hz:=by seq_fits) i rfl ?_;have r:=YE (Obj.mapSeq (·.pop)) i rfl
 have C:Heap.SameBut S s.heap ((s.heap.update S (Obj.mapSeq (·.push Value.none))).update S (Obj.mapSeq (·.pop))):=by
  have l:Heap.SameBut S s.heap (s.heap.update S (Obj.mapSeq (·.push Value.none))):=xV ..;have m:Heap.SameBut S (s.heap.update S (Obj.mapSeq (·.push Value.none))) ((s.heap.update S (Obj.mapSeq (·.push Value.none))).update S (Obj.mapSeq (·.pop))):=xV ..;show⟨m.1.trans l.1,fun q n=>(m.2 q n).trans (l.2 q n)⟩
 show yw ⟨plainId_quiet XB _,zloop u L y res _ 0 _ #[] _ rfl (YC _) (x.at L C r rfl (fun j v e=>by simp at e) fun j k v e=>by simp at e) t⟩
theorem zinit{s:Shared}{l:Nat}(o:A.handled=none)(L:LA z TI TO i1 i2 a b S N)(p:min xs.size ys.size<=2 ^ 24)(hz:IsZip s.heap z TI TO .none)(x:LZ z TI TO i1 i2 a b S N xs ys h0 0 #[] l s.heap)
  (n:∀ h' c g,LE z TO i1 i2 S N xs ys h0 (min xs.size ys.size) c g h'->R (.ok (.ret .none)) { s with heap:=h' }) :
  wpAny (model prog w) A.in1 (Builtin.«list.__init__» ⟨[.ref S,.ref z],[]⟩) (fun h s'=>match h with | .done f=>R (.ok f) s' | .again g=>g.quiet=true/\codeAny (model prog w) A g R s') (fun e s'=>R (.error e) s') s:=by
 obtain⟨l1,_⟩:=L.lt;show wpAny _ _ (do let old <- Builtin.List.listItems (.ref S);Builtin.List.listUpdate (.ref S) (fun _=>#[]);letGo old.toList.reverse;Builtin.List.listExtendWith (.ref S) (.ref z) .none) _ _ s;show yr ?_;unfold Builtin.List.listItems;show yr <| wpAny_seqItems x.ls rfl <| yw ?_;show wpAny _ _ (updateSeq S (fun _=>#[])>>=fun _=>letGo _>>=fun _=>Builtin.List.listExtendWith (.ref S) (.ref z) .none) _ _ s;show yr <| kC x.ls rfl ?_;have m:=YE (Obj.mapSeq (fun _=>(#[]:Array Value))) x.ls rfl;have i:Heap.SameBut S s.heap (s.heap.update S (Obj.mapSeq (fun _=>(#[]:Array Value)))):=xV ..;show yr <| wpAny_letGo ?_;show zext o L p .none (i.extBut _ _ (yE l1) hz) (x.at L i m rfl (fun j v e=>by simp at e) fun j k v e=>by simp at e) n
end
section
variable{prog:Program}{w:World}{A:Around}{E:Value->Shared->Prop}{s:Shared}
theorem call_list_zip{z TI TO h i a b:Nat}{xs ys:Array Value}{Q:Value->Shared->Prop}(H:A.handled=none)(D:ZipApart z TI TO h i a b)(I:min xs.size ys.size<=2 ^ 24)(hz:IsZip s.heap z TI TO .none)(l:IsPair s.heap TI (.ref h) (.ref i))(f:∃ u v,IsPair s.heap TO u v)
  (h1:s.heap.IsListIter h a 0) (y:s.heap.IsListIter i b 0) (m:s.heap.IsList a xs) (n:s.heap.IsList b ys)
  (G:∀ h' c t,LE z TO h i s.heap.objs.size (s.heap.objs.size+1) xs ys s.heap (min xs.size ys.size) c t h'->Q (.ref s.heap.objs.size) { s with heap:=h' }):wpAny (model prog w) A (call (.type "list") [.ref z]) Q E s:=by
 show callType_codes (Q₁:=fun r g=>r=.ref s.heap.objs.size/\g={ s with heap:=s.heap.push { cls:=.type "list",data:=.seq #[] } }) F.called_list (F.typeCall_list_1 _) F.entry_list_init (code_list_new _ ⟨rfl,rfl⟩) fun r g p=>?_;obtain⟨rfl,rfl⟩:=p;have B:(s.heap.push { cls:=.type "list",data:=.seq #[] }).get? s.heap.objs.size=some { cls:=.type "list",data:=.seq #[] }:=yS _ rfl;have up:∀{q o},s.heap.get? q=some o->(s.heap.push { cls:=.type "list",data:=.seq #[] }).get? q=some o:=fun e=>yu _ e;have lt:∀{q o},s.heap.get? q=some o->q<s.heap.objs.size:=fun e=>yH e;obtain⟨u,v,f⟩:=f
 have L:LA z TI TO h i a b s.heap.objs.size (s.heap.objs.size+1):=by
  show⟨D,⟨lt hz,lt l,lt f,?_,?_,?_,?_⟩,kf _⟩
  .obtain⟨_,e,_⟩:=h1;show lt e
  .obtain⟨_,e,_⟩:=y;show lt e
  .obtain⟨_,e,_⟩:=m;show lt e
  .obtain⟨_,e,_⟩:=n;show lt e
 have x:LZ z TI TO h i a b s.heap.objs.size (s.heap.objs.size+1) xs ys s.heap 0 #[] 0 (s.heap.push { cls:=.type "list",data:=.seq #[] }):=by
  show⟨.inl (up hz),up l,⟨u,v,up f⟩,h1.at fun o e=>up e,y.at fun o e=>up e,?_,?_,B,by rw[YW];show yh _,rfl,fun j v e=>by simp at e,fun j k v e=>by simp at e,fun q o _ _ _ _ _ _ e=>up e⟩
  .obtain⟨o,e,d⟩:=m;show⟨o,up e,d⟩
  .obtain⟨o,e,d⟩:=n;show⟨o,up e,d⟩
 show⟨⟨_,B,rfl⟩,F.args_list_init_2 _ _,zinit (A:=A.in1) H L I (up hz) x fun h' c t C=>⟨rfl,G h' c t C⟩⟩
end
structure Zl(H H':Hp)(l:Addr)(ts:List Addr)(xs ys:List V):Prop where
 sm:L2.Same H H'
 fl:H l=none
 ls:H' l=some (.lst (ts.map V.ref))
 len:ts.length=min xs.length ys.length
 tp:∀(j:Nat) t,ts[j]?=some t->H t=none/\∃ x y,xs[j]?=some x/\ys[j]?=some y/\H' t=some (.tup [x,y])
theorem qfY(H:Hp):∀(a:List Addr) (xs ys:List V),a.Nodup->a.length<=xs.length->a.length<=ys.length->∃ G:Hp,(∀(j:Nat) t x y,a[j]?=some t->xs[j]?=some x->ys[j]?=some y->G t=some (.tup [x,y]))/\∀ q,q∉a->G q=H q
 | [],_,_,_,_,_=>⟨H,fun j t x y e=>by simp at e,fun _ _=>rfl⟩
 | t::a,[],_,_,h,_=>by simp at h
 | t::a,_::_,[],_,_,h=>by simp at h
 | t::a,x::xs,y::ys,nd,h1,h2=>by
  obtain⟨n,o⟩:=yo.mp nd;obtain⟨G,l,m⟩:=qfY H a xs ys o (by simpa using h1) (by simpa using h2);show⟨upd G t (.tup [x,y]),fun j t' p r c f g=>?_,fun q i=>?_⟩
  .cases j with
   | zero=>simp at c f g;subst c f g;show qb
   | succ j =>
    have b:a[j]?=some t':=by simpa using c
    rw[qf fun z=>n (by rw[<- z];show ye b)];show l j t' p r b (by simpa using f) (by simpa using g)
  .rw [qf fun z=>i (by rw[z];show yI)];show m q fun z=>i (yx _ z)
noncomputable def refN:Value->Nat
 | .ref a=>a
 | _=>0
def tLZ(K:yg)(e:TA):TE:=fun σ H Q=>e σ H fun vs c=>∃ a b xs ys,vs=[.ref a,.ref b]/\SqL K c a xs/\SqL K c b ys/\xs.length<=1000/\∀ l f H',Zl c H' l f xs ys->Q (.ref l) H'
theorem vLZ{K:yg}{e:TA}{σ:St}{H:Hp}{Q:VK}(h:e σ H fun vs c=>∃ a b xs ys,vs=[.ref a,.ref b]/\SqL K c a xs/\SqL K c b ys/\xs.length<=1000/\∀ l f H',Zl c H' l f xs ys->Q (.ref l) H'):tLZ K e σ H Q:=h
theorem qcY{X:Cx}{K:yg}{a b:Expr}{ta:TA}{p p2 an f:Pos}(hK:X.K=K)(hc:X.calm=true)(hg:Gl X "list")(af:Gl X "zip")(F:X.mg "list"=none)(aj:X.mg "zip"=none)(ha:PA X [a,b] ta)(hs:starEach [a,b] X.env=[(false,eval a X.env),(false,eval b X.env)]:=by rfl)(P:starEach [b] X.env=[(false,eval b X.env)]:=by rfl)
  (he:starEach [.Call (.Name "zip" p2) [a,b] [] f] X.env=[(false,eval (.Call (.Name "zip" p2) [a,b] [] f) X.env)]:=by rfl):PE X (.Call (.Name "list" p) [.Call (.Name "zip" p2) [a,b] [] f] [] an) (tLZ K ta):=by
 subst hK;intro Y s σ H Q I h;show Call_ (qau I hg F xI (YO (T:="list") ?_ he rfl));rw[he];show wpAny _ _ (spliced ((false,eval (.Call (.Name "zip" p2) [a,b] [] f) X.env)::[])) _ _ s;show kL ?_;show Call_ (qau I af aj qdr (YO (thn (ha f Y s σ H _ I h) fun us w ⟨vs,H1,A,r1,q1⟩=>?_) (by rw[hs,P]) (by rw[P];rfl)));obtain⟨a,b,xs,ys,e,hq,ak,hx,q⟩:=q1;subst e
 cases r1 with
 | cons r rr =>
  cases rr with
  | cons r2 rr =>
   cases rr;cases r;cases r2;obtain⟨C,rv,pl,_⟩:=A.list hq;obtain⟨l,Z,D,_⟩:=A.list ak;have al:a<w.heap.objs.size:=by obtain⟨_,e,_⟩:=pl.isList;show yH e
   have am:b<w.heap.objs.size:=by obtain⟨_,e,_⟩:=D.isList;show yH e
   have l1:=rv.length;have l2:=Z.length;show call_zip_2 pl.isList D.isList fun h1 hz ad ae ag ah hsz hk=>kP ?_;have la:h1.IsList a C.toArray:=by obtain⟨o,e,d⟩:=pl.isList;show⟨o,hk _ _ e,d⟩
   have B:h1.IsList b l.toArray:=by obtain⟨o,e,d⟩:=D.isList;show⟨o,hk _ _ e,d⟩
   show call_list_zip (A.ok.hd hc) (PySem.W.ktu_apart _ _ _ al am) (by simp only[yz];omega) hz ad ⟨_,_,ae⟩ ag ah la B fun h2 acc c L=>?_;have L:LE (w.heap.objs.size+4) (w.heap.objs.size+3) w.heap.objs.size (w.heap.objs.size+1) h1.objs.size (h1.objs.size+1) C.toArray l.toArray h1 (min C.toArray.size l.toArray.size) acc c h2:=L;have O:acc.size=min xs.length ys.length:=by rw[L.len,l1,l2,yz,yz]
   obtain⟨g,R⟩:∃ g,g=acc.toList.map refN:=⟨_,rfl⟩;have n:g.length=min xs.length ys.length:=by rw[R,ya,xT,O]
   have J:∀(j:Nat) t,g[j]?=some t->acc[j]?=some (.ref t)/\h1.objs.size+1<=t/\∃ x y,xs[j]?=some x/\ys[j]?=some y/\∃ u v,RelV x u/\RelV y v/\IsPair h2 t u v:=fun j t e=>by
    rw[R,yd,Xn] at e;obtain⟨v,ev,et⟩:=yn.mp e;obtain⟨t',u1,u2,q1,q2,q3,q4,q5⟩:=L.its j v ev;subst q1;have ac:t'=t:=et;subst ac;have hj:j<acc.size:=(Y4.mp ev).1;obtain⟨x,S⟩:∃ x,xs[j]?=some x:=⟨_,yb (by omega)⟩;obtain⟨y,U⟩:∃ y,ys[j]?=some y:=⟨_,yb (by omega)⟩;obtain⟨a1,aa,ao⟩:=rv.get S;obtain⟨a2,ab,ap⟩:=Z.get U;have b1:a1=u1:=by rw[List.getElem?_toArray,aa] at q4;cases q4;rfl
    have b2:a2=u2:=by rw[List.getElem?_toArray,ab] at q5;cases q5;rfl
    subst b1 b2;show⟨ev,q2,x,y,S,U,a1,a2,ao,ap,q3⟩
   have nd:g.Nodup:=by
    show Yv.mpr fun i j hi hj ai e=>?_;have M:=(J i g[i] (yb hi)).1;have N:=(J j g[j] (yb hj)).1;rw[e] at M;show absurd (L.nd i j _ M N) (yE ai)
   have mem:∀ t∈g,h1.objs.size+1<=t:=fun t ht=>by
    obtain⟨j,e⟩:=Xo.mp ht;show(J j t e).2.1
   obtain⟨G,g1,g2⟩:=qfY H1 g xs ys nd (by omega) (by omega)
   have old:∀ q,q<w.heap.objs.size->upd G h1.objs.size (.lst (g.map V.ref)) q=H1 q:=fun q hq=>by
    rw[qf (yE (by omega))];show g2 q fun z=>by have:=mem q z;omega
   have tl:∀ t∈g,t≠h1.objs.size:=fun t ht=>by have:=mem t ht;show Yl this
   show⟨.ref _,_,A.laidM (t':=w.toks) (H':=upd G h1.objs.size (.lst (g.map V.ref))) (fun b u e=>?_) old fun b u hb e=>?_,rfl,q _ g _ ⟨fun b o e=>?_,A.hok.fresh (by show(w.heap.objs.size:Nat)<=h1.objs.size;omega),qb,n,fun j t e=>?_⟩⟩
   .have B:∀ m:Nat,w.heap.objs.size<=m->b<m:=fun m F=>yj (yH e) F;show L.kp b u (B _ (by omega)) (yE (B _ (by omega))) (yE (B _ (by omega))) (yE (B _ (by omega))) (yE (B _ (by omega))) (yE (B _ (by omega))) (hk b u e)
   .by_cases hl:b=h1.objs.size
    .subst hl;rw[qb] at e;cases e;show⟨by rw[ya,n,YD];omega,acc.toList,c,qab (by rw[ya,n];show O.symm) fun j y u M N=>?_,by rw[Array.toArray_toList];show L.ls⟩;rw[yd] at M;obtain⟨t,et,E⟩:=yn.mp M;subst E;rw[Xn,(J j t et).1] at N;cases N;rfl
    .rw [qf hl] at e;by_cases F:b∈g
     .obtain⟨j,ej⟩:=Xo.mp F;obtain⟨_,_,x,y,ex,E,u1,u2,r1,r2,ep⟩:=J j b ej;rw[g1 j b x y ej ex E] at e;cases e;show⟨by show 2<=sizeLine;decide,[u1,u2],.cons r1 (.cons r2 .nil),⟨_,ep,rfl,_,rfl⟩⟩
     .rw [g2 b F,A.hok.fresh hb] at e;cases e
   .rw [old b (Kg fun z=>by rw[A.hok.fresh z] at e;cases e)];show e
   .obtain⟨_,N,x,y,ex,E,_⟩:=J j t e;show⟨A.hok.fresh (by omega),x,y,ex,E,?_⟩;rw[qf (tl t (ye e))];show g1 j t x y e ex E
section
variable{X:Cx}
end
end L2
namespace L2
open PySem PySem.Spec PySem.W PyProof.Rows
variable{h h':Heap}{n:Nat}{u v:Value}{vs:List Value}{α:Type}
def KTo{α:Type}(n:Nat)(P:α->Prop):KasT α->Prop
 | .ret a=>P a
 | .ask i j k=>i=j+1/\i<n/\KTo n P (k false)
theorem KTo.bind{b:Type}{P:α->Prop}{R:b->Prop}{f:α->KasT b}:∀{t:KasT α},KTo n P t->(∀ a,P a->KTo n R (f a))->KTo n R (t.bind f)
 | .ret a,h,g=>g a h
 | .ask i j k,h,g=>⟨h.1,h.2.1,KTo.bind h.2.2 g⟩
theorem KTo.wp{P:α->Prop}{b:Nat->Nat->(Bool->Shared->Prop)->Shared->Prop}{Q:α->Shared->Prop}{s:Shared}(hc:∀ i j C,i=j+1->i<n->C false s->b i j C s)(c:∀ a,P a->Q a s):∀{t:KasT α},KTo n P t->t.kasWp b Q s
 | .ret a,h=>c a h
 | .ask i j k,h=>hc i j _ h.1 h.2.1 (KTo.wp hc c h.2.2)
theorem qdt{i:Nat}(h:i<n):(List.range n).toArray.getD i 0=i:=by simp[Array.getD,h]
theorem qeg:∀ f k,1<=k->k+f<=n->KTo n (fun m=>m=k+f) (kas_asc (List.range n).toArray f k)
 | 0,k,_,_=>rfl
 | f+1,k,h1,h2=>by
  unfold kas_asc;rw[qdt (show k<n by omega),qdt (show k-1<n by omega)];show⟨by omega,by omega,?_⟩
  (try dsimp only)
  rw[yD (by decide)];have e:k+(f+1)=k+1+f:=by omega
  rw[e];show qeg f (k+1) (by omega) (by omega)
theorem kto_sort(h:2<=n):KTo n (fun p=>p=(List.range n).toArray) (kas_sort n):=by
 unfold kas_sort;show KTo.bind (P:=fun r=>r=(n,(List.range n).toArray)) ?_ fun r e=>?_
 .unfold kas_count;show(qeg (n-1) 1 (by omega) (by omega)).bind fun m e=>?_;have e:m=n:=by rw[e];omega
  rw[yG (by rw[e];show xz n),e];show rfl
 .rw [e];rw[yD (by show ¬ n<n;omega)];show rfl
def Tw(h:Heap)(v:Value):Prop:=∃(t:Addr) (o:Obj) (x y:Int) (a ty:Tok) (k:Nat),v=.ref t/\h.get? t=some o/\o.cls=.type "tuple"/\o.data=.seq #[.int x a,.int y ty] k
theorem Tw.keep(w:Tw h v)(k:∀ b o,(∀ x n,o≠seqObj "list" x n)->h.get? b=some o->h'.get? b=some o):Tw h' v:=by
 obtain⟨t,o,x,y,a,ty,m,e,g,c,d⟩:=w;show⟨t,o,x,y,a,ty,m,e,k _ _ (fun z n q=>by rw[q] at c;injection c with c;show absurd c (by decide)) g,c,d⟩
def TwX(h:Heap)(v:Value)(x:Int):Prop:=∃(t:Addr) (o:Obj) (y:Int) (a ty:Tok) (k:Nat),v=.ref t/\h.get? t=some o/\o.cls=.type "tuple"/\o.data=.seq #[.int x a,.int y ty] k
theorem TwX.keep{x:Int}(w:TwX h v x)(k:∀ b o,(∀ x n,o≠seqObj "list" x n)->h.get? b=some o->h'.get? b=some o):TwX h' v x:=by
 obtain⟨t,o,y,a,ty,m,e,g,c,d⟩:=w;show⟨t,o,y,a,ty,m,e,k _ _ (fun z n q=>by rw[q] at c;injection c with c;show absurd c (by decide)) g,c,d⟩
def As(h:Heap)(u v:Value):Prop:=∃ x a:Int,x<a/\TwX h u x/\TwX h v a
theorem As.keep(w:As h u v)(k:∀ b o,(∀ x n,o≠seqObj "list" x n)->h.get? b=some o->h'.get? b=some o):As h' u v:=by
 obtain⟨x,c,l,a,b⟩:=w;show⟨x,c,l,a.keep k,b.keep k⟩
def AsL(h:Heap)(vs:List Value):Prop:=∀ j,j+1<vs.length->As h (vs.getD j Value.none) (vs.getD (j+1) Value.none)
section
variable{prog:Program}{w:World}{A:Around}{E:Value->Shared->Prop}{s:Shared}
theorem as_lt{Q:Bool->Shared->Prop}(a:As s.heap v u)(h:Q false s):wpAny (model prog w) A (keyLt' (tuples' true) u v) Q E s:=by
 obtain⟨j,x,b,⟨t',m,p,f,i,k',rfl,g',l,d'⟩,⟨t,o,y,n,ty,k,rfl,g,c,d⟩⟩:=a;show kat_lt g d g' d' ?_;show kat_cons (wpAny_eqBool_int (kat_go (fun e=>?_) fun _=>kat_no ?_))
 .exfalso;simp at e;omega
 .show oneLt_int ?_;have e:decide (x<j)=false:=yl (by omega);rw[e];show h
theorem qeh:∀{vs:List Value},(∀ v∈vs,Tw h v)->∃ fs,KatTups h vs fs/\fs.length=vs.length/\∀ f∈fs,∃ x t,f=.int x t
 | [],_=>⟨[],.nil,rfl,fun _ z=>by cases z⟩
 | v::vs,hv=>by
  obtain⟨fs,h1,b,e⟩:=qeh fun v i=>hv v (yx _ i);obtain⟨t,o,x,y,a,ty,k,rfl,g,c,d⟩:=hv v yI;show⟨.int x a::fs,.cons g c d rfl h1,by rw[yC,yC,b],fun f hf=>?_⟩;rcases yv.mp hf with rfl | hf
  .show⟨x,a,rfl⟩
  .show e f hf
theorem pick_eq(vs:List Value):((List.range vs.length).toArray.toList.map fun i=>vs.getD i Value.none)=vs:=by
 apply List.ext_getElem
 .simp
 .intro i h1 a;simp[a]
theorem sort_tups{a:Addr}{P:PySem.Fin->Shared->Prop}(l:s.heap.get? a=some (seqObj "list" vs.toArray n))(hv:∀ v∈vs,Tw s.heap v)(y:AsL s.heap vs)(F:vs.length<64)
  (h:∀ out:Array Value,out.toList=vs->P (.done (.ret .none)) { s with heap:=sortedHeap s.heap a vs out }) :
  wpAny (model prog w) A (Builtin.«list.sort» ⟨[.ref a],[]⟩) P E s:=by
 rw[list_sort_plain];have J:=y;have y:a<s.heap.objs.size:=yH l;show yr (listItems_at l rfl ?_);show yr (listUpdate_at l rfl ?_);obtain⟨D,q⟩:∃ D,(s.heap.update a (Obj.mapSeq fun _=>#[])).get? a=some (seqObj "list" #[] D):=⟨_,get?_update_seq l (fun _=>#[])⟩;show yr (seqEpoch_at q rfl ?_);show yr (wpAny_newTuple ?_);show yr (wpAny_newList ?_);show Ys ?_
 have c:(((s.heap.update a (Obj.mapSeq fun _=>#[])).push (seqObj "tuple" vs.toArray 0)).push (seqObj "list" #[] 0)).get? a=some (seqObj "list" #[] D):=by
  rw[xP _ _ _ (by rw[size_push',Kh];show yE (X3 y)),xP _ _ _ (by rw[Kh];show yE y)];show q
 have U:=xV s.heap a (Obj.mapSeq fun _=>(#[]:Array Value));have N:∀ v∈vs,Tw (((s.heap.update a (Obj.mapSeq fun _=>#[])).push (seqObj "tuple" vs.toArray 0)).push (seqObj "list" #[] 0)) v:=fun v Z=>(hv v Z).keep fun b o O e=>yu _ (yu _ ((U.2 b (fun z=>by rw[z,l] at e;show O _ _ (ym e).symm)).trans e));have H:AsL (((s.heap.update a (Obj.mapSeq fun _=>#[])).push (seqObj "tuple" vs.toArray 0)).push (seqObj "list" #[] 0)) vs:=fun j L=>(J j L).keep fun b o O e=>yu _ (yu _ ((U.2 b (fun z=>by rw[z,l] at e;show O _ _ (ym e).symm)).trans e));show wpAny (model prog w) A _ P E { s with heap:=((s.heap.update a (Obj.mapSeq fun _=>#[])).push (seqObj "tuple" vs.toArray 0)).push (seqObj "list" #[] 0) };dsimp only;have hsz:vs.toArray.size=vs.length:=by simp
 have m:=h;by_cases u:vs.toArray.size<2
 .rw [yG u,yG u];show yr (yw ?_);rw[StateT.run_pure];show yr (yw ?_);dsimp only;show yr (seqEpoch_at c rfl ?_);show yr (listUpdate_at c rfl ?_ (hsz2:=by rw[Array.size_map];show(pairsOf vs).size<=_;rw[pairsOf_size,YD];omega));simp only[kT,YT,Xj];show yw (m _ ?_);show((pairsOf vs).map (·.2)).toList=vs
  have:((pairsOf vs).map (·.2)).toList=vs:=by
   rw[Array.toList_map];show(vs.toArray.zip vs.toArray).toList.map Prod.snd=vs;simp[List.map_snd_zip]
  show this
 .rw [yD u,yD u];have S:2<=vs.length:=by omega
  obtain⟨fs,k1,k2,k3⟩:=qeh N;show yr (kat_kind (T:=.type "int") k1 (by omega) (fun f K=>?_) (by decide +kernel) ?_)
  .obtain⟨x,t,rfl⟩:=k3 f K;show Looks.of_pure rfl
  show yr (YB (kat_run (ks:=vs) (Q:=fun g s'=>s'={ s with heap:=((s.heap.update a (Obj.mapSeq fun _=>#[])).push (seqObj "tuple" vs.toArray 0)).push (seqObj "list" #[] 0) }/\∃ p:Array Nat,p=(List.range vs.length).toArray/\arrOf g=p.map (kas_item (vs.toArray.zip vs.toArray))/\failedOf g=none)
   (G:=fun p s'=>s'={ s with heap:=((s.heap.update a (Obj.mapSeq fun _=>#[])).push (seqObj "tuple" vs.toArray 0)).push (seqObj "list" #[] 0) }/\p=(List.range vs.length).toArray) rfl S F (fun p' g s' a1 W X R=>⟨R.1,p',R.2,W,X⟩) ((kto_sort S).wp (fun i j C hi L Y=>?_) fun p B=>⟨rfl,B⟩)) ?_ fun _ _ e=>e)
  .subst hi;show as_lt (H j L) Y
  rintro⟨⟨⟩,g⟩ s' ⟨rfl,p,B,I,K⟩;dsimp only;have r:=kat_snds rfl I;have M:p.toList.length=vs.length:=by rw[B];simp
  show yr (seqEpoch_at c rfl ?_);rw[r];show yr (listUpdate_at c rfl ?_ (hsz2:=by rw[yz,ya,M,YD];omega));rw[K];simp only[kT,YT,Xj];show yw (m _ (by rw[B];show pick_eq vs))
theorem sorted_tups{l:Addr}{Q:Value->Shared->Prop}(hl:s.heap.IsList l vs.toArray)(hv:∀ v∈vs,Tw s.heap v)(n:AsL s.heap vs)(f:vs.length<64)
  (h:∀ out:Array Value,out.toList=vs->Q (.ref (s.heap.objs.size+1)) { s with heap:=sortedAll s.heap vs out }) :
  wpAny (model prog w) A (call (.builtin "sorted") [.ref l]) Q E s:=by
 show Calls.call_function_entry kind_sorted plain_sorted entry_sorted (args_sorted1 _) ?_;unfold Builtin.«sorted»;show yr (m:=checkCount "sorted" 1 1 _) (yw ?_);show yr (collect_list hl ?_);show yr (wpAny_newList ?_)
 have hsz:((s.heap.push (seqObj "list" #[] 0)).update s.heap.objs.size (Obj.mapSeq (·++vs.toArray))).objs.size=s.heap.objs.size+1:=by
  rw[Kh,size_push']
 have c:(((s.heap.push (seqObj "list" #[] 0)).update s.heap.objs.size (Obj.mapSeq (·++vs.toArray))).push (seqObj "list" vs.toArray 0)).get? (s.heap.objs.size+1)=some (seqObj "list" vs.toArray 0):=by
  rw[<- hsz];show yS _ rfl
 have i:∀ v∈vs,Tw (((s.heap.push (seqObj "list" #[] 0)).update s.heap.objs.size (Obj.mapSeq (·++vs.toArray))).push (seqObj "list" vs.toArray 0)) v:=fun v q=>(hv v q).keep fun b o _ e=>by
  have a:b<s.heap.objs.size:=yH e;rw[xP _ _ _ (by rw[hsz];show yE (X3 a)),XA _ _ _ _ (yE a),xP _ _ _ (yE a)];show e
 have g:AsL (((s.heap.push (seqObj "list" #[] 0)).update s.heap.objs.size (Obj.mapSeq (·++vs.toArray))).push (seqObj "list" vs.toArray 0)) vs:=fun j p=>(n j p).keep fun b o _ e=>by
  have a:b<s.heap.objs.size:=yH e;rw[xP _ _ _ (by rw[hsz];show yE (X3 a)),XA _ _ _ _ (yE a),xP _ _ _ (yE a)];show e
 show wpAny _ _ _ _ _ { s with heap:=((s.heap.push (seqObj "list" #[] 0)).update s.heap.objs.size (Obj.mapSeq (·++vs.toArray))).push (seqObj "list" vs.toArray 0) };rw[hsz];show yr (Ys (Xy slot_list_sort ⟨_,c,rfl⟩ entry_list_sort (sort_tups c i g f fun out r=>⟨_,rfl,?_⟩) (args_list_sort _)));show yw ⟨_,rfl,h out r⟩
end
theorem qcG:∀{a:List Addr} {us:List Value},Vals (a.map V.ref) us->us=a.map Value.ref
 | [],_,.nil=>rfl
 | t::a,_,.cons r h=>by
  have e:_=Value.ref t:=r;rw[e,qcG h];rfl
theorem qcH:∀(a:List Addr),Vals (a.map V.ref) (a.map Value.ref)
 | []=>.nil
 | t::a=>.cons rfl (qcH a)
section
variable{X:Cx}{K:yg}
def rSortR:List V->Hp->VK->Prop:=fun xs H Q=>∃(p:Addr) (c:List Addr) (e:List (Int×Int)),xs=[.ref p]/\H p=some (.lst (c.map V.ref))/\c.length<64/\c.length=e.length/\(∀(j:Nat) (t:Addr) (q:Int×Int),c[j]?=some t->e[j]?=some q->H t=some (.tup [.int q.1,.int q.2]))/\(∀ j a b,e[j]?=some a->e[j+1]?=some b->a.1<b.1)/\∀(l:Addr),H l=none->Q (.ref l) (upd H l (.lst (c.map V.ref)))
theorem k_sortR:zT X (.builtin "sorted") rSortR:=by
 intro G s σ H xs us Q I r h;obtain⟨p,f,l,rfl,T,A,E,F,U,q⟩:=h;obtain⟨u,rfl,W⟩:=qbk r;cases W;obtain⟨C,Y,pl,hz⟩:=I.list (SqL.of T);have K:=qcG Y;subst K
 have J:∀{t:Addr} {a:Int×Int},H t=some (.tup [.int a.1,.int a.2])->TwX s.heap (.ref t) a.1:=fun{t a} e=>by
  obtain⟨_,C,rt,o,g,c,n,d⟩:=I.hok _ _ e
  cases rt with
  | cons r1 rt =>
   cases rt with
   | cons r2 rt =>
    cases rt;obtain⟨D,rfl⟩:=r1;obtain⟨ty,rfl⟩:=r2;show⟨t,o,_,D,ty,n,rfl,g,c,d⟩
 have m:∀ j,j<f.length->∃ t a,(f.map Value.ref).getD j Value.none=.ref t/\l[j]?=some a/\TwX s.heap (.ref t) a.1:=fun j i=>by
  have h1:f[j]?=some f[j]:=yb i;have z:l[j]?=some l[j]:=yb (by omega);show⟨f[j],l[j],by simp[i],z,J (F j _ _ h1 z)⟩
 show sorted_tups (vs:=f.map Value.ref) pl.isList (fun v hv=>?_) (fun j i=>?_) (by rw[ya];show A) fun out x=>?_
 .obtain⟨t,B,rfl⟩:=yQ.mp hv;obtain⟨j,i⟩:=yf B;have S:=(yc.mp i).1;have z:l[j]?=some l[j]:=yb (by omega);obtain⟨t',o,y,D,ty,n,e,g,c,d⟩:=J (F j _ _ i z);show⟨t',o,_,y,D,ty,n,e,g,c,d⟩
 .rw [ya] at i;obtain⟨t,a,L,N,Z⟩:=m j (by omega);obtain⟨t',b,M,O,w2⟩:=m (j+1) i;rw[L,M];show⟨a.1,b.1,U j a b N O,Z,w2⟩
 .obtain⟨e,P⟩:=PyProof.Rows.sortedAll_at s.heap (f.map Value.ref) out;have R:H (s.heap.objs.size+1)=none:=I.hok.fresh (xL _)
  have new:ObjOk X.prog X.w (upd H (s.heap.objs.size+1) (.lst (f.map V.ref))) (PyProof.Rows.sortedAll s.heap (f.map Value.ref) out) (s.heap.objs.size+1) (.lst (f.map V.ref)):=by
   show⟨?_,out.toList,e,by rw[x];show qcH f,?_⟩
   .rw [ya];show Yh (qi (by omega))
   .rw [P]
  show⟨.ref (s.heap.objs.size+1),_,I.laid (t':=s.toks) (fun b o e=>PyProof.Rows.sortedAll_old e) (xL _) new,rfl,q _ R⟩
end
end L2
namespace K47
open PySem L2 PyProof.Rows
variable{A:Str->Str->Prop}{C cw dx p x:Addr}{E:XK}{G H H' H0 H1 H2:Hp}{K:W.Frag}{Pd:Str->Prop}{S S' S1 S2:FS}{a b c s t u v y z:Str}{ab:Str×Str}{dn gs l l' l1 l2 m1 m2 r rs rv rw rz ss wt:List Str}{first i j m n:Nat}{g:Str->Option Str}{kps ps qs rs' tps:List (Str×Str)}{kvs:List (Key×V)}{lo ol:V}{mg:Str->Option Value}{ms ns:List Nat}{o:HO}{o':Option (List Str)}{q q':Nat×Nat}{ts us:List Addr}{xs ys:List V}{α β:Type}
theorem Sr(H:Hp):L2.Same H H:=L2.Same.refl H
theorem jY{k:Nat}{A:Around}(a:Room k A):A.units+100<cLine:=by have:=a.un;omega
theorem hmR{k:Nat}{A:Around}(a:Room k A)(h:j<=k:=by decide):Room j A:=a.mono h
theorem uK:FnScope ["self","text"] ["self","text"] (qh jv):=fS
theorem uP:FnScope ["self","found"] ["self","found"] (qh jR):=fS
local macro_rules | `(tactic| walk_at "w")=>`(tactic| first
 | with_reducible refine vSeq ?_ | with_reducible refine vAsg ?_ | with_reducible refine vAsgS ?_ | with_reducible refine vIfS ?_ | with_reducible refine vRet ?_ | with_reducible refine vNext ?_ | with_reducible refine vC ?_
 | ((with_reducible refine' vVar ?hv ?_);(case hv=>rfl)) | with_reducible refine vOp ?_ | with_reducible refine vChain ?_ | with_reducible refine vNil ?_ | with_reducible refine vCons ?_ | with_reducible refine vCB ?_ | with_reducible refine vCall ?_
 | with_reducible refine vLst ?_ | with_reducible refine vTup ?_ | with_reducible refine vTest ?_ | with_reducible refine vB ?_ | with_reducible refine vNot ?_ | with_reducible refine vAnd ?_ | with_reducible refine vOr ?_
 | with_reducible refine vAndV ?_ | with_reducible refine vOrV ?_ | with_reducible refine vNotV ?_ | with_reducible refine vYes ?_ | with_reducible refine vLeI ?_ | with_reducible refine vLeS ?_ | with_reducible refine vIsB ?_ | with_reducible refine vAddI ?_ | with_reducible refine vSl ?_ | with_reducible refine vNoPart ?_ | with_reducible refine vPart ?_ | with_reducible refine vExI ?_ | with_reducible refine vBM ?_ | with_reducible refine vBM0 ?_ | with_reducible refine vComp ?_ | with_reducible refine vFor ?_ | with_reducible refine vRng1 ?_ | with_reducible refine vAny ?_ | with_reducible refine vGN ?_ | with_reducible refine vI0 ?_ | with_reducible refine vEqI ?_ | with_reducible refine vEqB ?_ | with_reducible refine vEx ?_ | with_reducible refine vDrop ?_ | with_reducible refine vRetN ?_ | with_reducible refine vFldU ?_ | with_reducible refine vSFldU ?_ | with_reducible refine vXMake ?_ | with_reducible refine vMake ?_ | with_reducible refine vMeth ?_ | with_reducible refine vVinit ?_ | with_reducible refine vCallS ?_ | with_reducible refine vRaise ?_ | with_reducible refine vMethS ?_ | with_reducible refine vMakeS ?_ | with_reducible refine vUn ?_ | with_reducible refine vIf ?_ | with_reducible refine vRev ?_ | with_reducible refine vEnum ?_ | with_reducible refine vDGet2 ?_ | with_reducible refine vStep ?_)
local macro_rules | `(tactic| walk_at "v")=>`(tactic| repeat walk_at "w")
local macro_rules | `(tactic| ext)=>`(tactic| walk_at "v")
noncomputable def fAtt:List Str:=["board","partners","rows","parents","bases","rings","waiting","longer"]
noncomputable def qe4(_:Nat):Str:="found"
structure Txt(K:W.Frag)(mg:Str->Option Value)(cc:Nat->Addr)(cw:Addr):Prop where
 b_len:mg "len"=none
 b_int:mg "int"=none
 b_enumerate:mg "enumerate"=none
 b_all:mg "all"=none
 b_max:mg "max"=none
 b_min:mg "min"=none
 b_isinstance:mg "isinstance"=none
 b_bool:mg "bool"=none
 b_str:mg "str"=none
 b_range:mg "range"=none
 b_list:mg "list"=none
 b_tuple:mg "tuple"=none
 b_ValueError:mg "ValueError"=none
 g_LONGEST_NAME:∃ tk,mg "LONGEST_NAME"=some (.int 6 tk)
 g_MOST_PLACES:∃ tk,mg "MOST_PLACES"=some (.int 14 tk)
 g_MOST_TIES:∃ tk,mg "MOST_TIES"=some (.int 30 tk)
 m_NoPlace:mg "NoPlace"=some (.ref (cc 0))
 m_NoPairs:mg "NoPairs"=some (.ref (cc 1))
 m_OnceError:mg "OnceError"=some (.ref (cc 2))
 vinit:VInit K
 xat:∀ i,i<2+1->XAt K (cc i)
 na:∀ i,i<2->NoAttr K (cc i) (qe4 i)
 kit:∀ i j,i<2->j<2->W.kitOne K (.ref (cc i)) (.ref (cc j))=some (decide (i=j))
 kitV:∀ i,i<2+1->W.kitOne K (.ref (cc i)) (.type "ValueError")=some true
 mroO:∀ i,i<2->W.mroIn K (cc i) (.ref (cc 2))=some true
 wcl:Cls K cw
 wn:NoAttr K cw "numbers"
 wo:NoAttr K cw "order"
 wr:NoAttr K cw "near"
 m_Web:mg "Web"=some (.ref cw)
 m_Forest:mg "Forest"=some (.ref (cc 9))
 fcl:Cls K (cc 9)
 fa:∀ a∈fAtt,NoAttr K (cc 9) a
 b_zip:mg "zip"=none
 b_sorted:mg "sorted"=none
 b_repr:mg "repr"=none
 smod:∃ o,K.lookup sysModules=some o
inductive spOnce(K:W.Frag)(vs:List V)(H:Hp)(Q:VK)(E:XK):Prop|mk (e C:Addr) (y:V) (_:vs=[.ref e,y]) (_:H e=some (XN e C none)) (_:XAt K C) (_:Q .non H)
inductive spX(C:Addr)(fl:Str)(vs:List V)(H:Hp)(Q:VK)(E:XK):Prop|mk (e:Addr) (v:V) (_:vs=[.ref e,v]) (_:H e=some (XN e C none)) (_:∀ dx,H dx=none->Q .non (upd (upd H dx (.xd [(fl,v)])) e (XN e C (some dx))))
theorem raise_done{h:Str}{y:V}(c:XAt K C)(q:∀ dx H',L2.Same H1 H'->H' dx=some (.xd [(h,y)])->E (.ref C) (some dx) H') :
  [y].length<=1000/\∀ x,H1 x=none->spX C h (.ref x::[y]) (upd H1 x (XN x C none)) (fun v H2=>v=.non/\∃ a g dx,(V.ref x)=.ref a/\H2 a=some (XN a g dx)/\XAt K g/\E (.ref g) dx (upd H2 a (XO a g dx))) E0:=by
 show⟨by show 1<=1000;decide,fun x i=>⟨x,y,rfl,qb,fun dx f=>⟨rfl,x,C,some dx,rfl,qb,c,q dx _ (fun b o e=>?_) ?_⟩⟩⟩
 .have nx:b≠x:=fun z=>by rw[z,i] at e;cases e
  have nd:b≠dx:=fun z=>by rw[<- z,qf nx,e] at f;cases f
  rw[qf nx,qf nx,qf nd,qf nx];show e
 .have nx:dx≠x:=fun z=>by rw[z,qb] at f;cases f
  rw[qf nx,qf nx,qb]
def Rz(a:Nat->Addr)(H:Hp)(E:XK)(r:Nat×V):Prop:=∀ dx H',L2.Same H H'->H' dx=some (.xd [(qe4 r.1,r.2)])->E (.ref (a r.1)) (some dx) H'
theorem Rz.later{a:Nat->Addr}{r:Nat×V}(h:Rz a H E r)(s:L2.Same H H1):Rz a H1 E r:=fun dx H' t e=>h dx H' (s.trans t) e
section
variable{P:Program}{w:World}{K:W.Frag}{mg:Str->Option Value}{base:Heap}{cc:Nat->Addr}{cw:Addr}{f:Addr}{fd:FuncData}
theorem ok_once(F:Fun K "__init__" "OnceError.__init__" jv f fd)(T:Txt K mg cc cw):FnOk P w K mg base CX0 1 f fd ["self","text"] (spOnce K):=by
 show F.ok uK fun _ _ _ _ H vs Q E b h=>?_
 .obtain⟨e,C,y,rfl,a,c,q⟩:=h;show⟨_,(qe (qL (k_vinit (K:=K) rfl T.vinit rfl T.b_ValueError boot_ValueError (qa (pv 0) (qa (pv 1) qd))))),?_⟩;ext;show⟨e,C,y,rfl,a,c,q⟩
theorem ok_NoPlace(F:Fun K "__init__" "NoPlace.__init__" jR f fd)(T:Txt K mg cc cw)(c:CMethOk P w K mg base CX0 1 (cc 2) "OnceError" "__init__" ["self","text"] (spOnce K)) :
  FnOk P w K mg base CX0 2 f fd ["self","found"] (spX (cc 0) (qe4 0)):=by
 show F.ok uP fun _ _ _ _ H vs Q E b h=>?_
 .obtain⟨e,v,rfl,a,q⟩:=h;show⟨_,(qc (qL (pe_clsmQ c (hmR b) (qa (pv 0) (qa zu qd))))
 (qe (jN (K:=K) rfl (pv 0) (pv 1) rfl))),?_⟩
  ext;show⟨e,_,_,rfl,a,T.xat 0 (by decide),?_⟩;ext;show .inr ⟨e,_,rfl,a,T.xat 0 (by decide),T.na 0 (by decide),q⟩
theorem uQ:FnScope ["thing"] ["thing"] (qh za):=fS
theorem Uj:FnScope ["bits","number"] ["bits","number"] (qh qaG):=fS
theorem uL:FnScope ["numbers","thing"] ["numbers","thing"] (qh zx):=fS
theorem uh:FnScope ["numbers","thing","both"] ["numbers","thing"] (qh jw):=fS
theorem qI{l:Addr}(a:L2.Same H H1)(hl:H1 l=none):L2.Same H (upd H1 l o):=fun c u e=>by
 have q:=a c u e;rw[qf (qK q hl)];show q
theorem qaH{l:Addr}(a:L2.Same H H1)(hl:H l=none):L2.Same H (upd H1 l o):=fun c u e=>by
 rw[qf (qK e hl)];show a c u e
noncomputable def sg(c:Nat):Bool:=if (!decide (([c]:List Nat)<("a":Str).cps.toList))=true then !decide (("z":Str).cps.toList < [c]) else false
noncomputable def zf(x:Str):Bool:=if 1<=x.length/\x.length<=6 then x.cps.toList.all sg else false
theorem qb0{x:Str}(h:zf x=true):1<=x.length/\x.length<=6/\x.cps.toList.all sg=true:=by
 unfold zf at h;split at h
 .rename_i z;show⟨z.1,z.2,h⟩
 .cases h
theorem nameS_len(h:zf s=true):s.length<=6:=(qb0 h).2.1
structure All2{α β:Type}(R:α->β->Prop)(l:List α)(m:List β):Prop where
 len:l.length=m.length
 at_:∀(k:Nat) a b,l[k]?=some a->m[k]?=some b->R a b
theorem All2.nil{R:α->β->Prop}:All2 R [] []:=⟨rfl,fun k a b h=>by simp at h⟩
theorem All2.mono{R S:α->β->Prop}{l:List α}{m:List β}(h:All2 R l m)(f:∀ a b,R a b->S a b):All2 S l m:=⟨h.len,fun k a b x y=>f a b (h.at_ k a b x y)⟩
theorem All2.snoc{R:α->β->Prop}{l:List α}{m:List β}{x:α}{y:β}(h:All2 R l m)(r:R x y):All2 R (l++[x]) (m++[y]):=by
 show⟨by rw[yt,yt,h.len];rfl,fun k a b c hb=>?_⟩;by_cases e:k<l.length
 .rw [yV e] at c;rw[yV (by rw[<- h.len];show e)] at hb;show h.at_ k a b c hb
 .rw [yJ (by omega)] at c;rw[yJ (by rw[<- h.len];omega)] at hb
  have f:k-l.length=0:=by
   have:=(yc.mp c).1;simp at this;omega
  rw[<- h.len] at hb;rw[f] at c hb;cases c;cases hb;show r
theorem All2.mem{R:α->β->Prop}{l:List α}{m:List β}(h:All2 R l m){x:α}(c:x∈l):∃ y∈m,R x y:=by
 obtain⟨k,b,e⟩:=kG c;have a:k<m.length:=by rw[<- h.len];show b
 show⟨m[k],xi a,h.at_ k x m[k] (by rw[yb b,e]) (yb a)⟩
def PL(H:Hp)(l:Addr)(ts:List Addr)(tps:List (Str×Str)):Prop:=H l=some (.lst (ts.map V.ref))/\All2 (fun t ab=>H t=some (.tup [.str ab.1,.str ab.2])) ts tps
theorem PL.same{l:Addr}(h:PL H l ts tps)(s:L2.Same H H'):PL H' l ts tps:=⟨s _ _ h.1,h.2.mono fun _ _ z=>s _ _ z⟩
inductive spName(vs:List V)(H:Hp)(Q:VK)(E:XK):Prop|mk (x:Str) (_:vs=[.str x]) (_:zf x=true) (_:∀ H',L2.Same H H'->Q (.bl true) H')
theorem ok_name(F:Fun K "is_name" "is_name" za f fd)(T:Txt K mg cc cw):FnOk P w K mg base CX0 1 f fd ["thing"] spName:=by
 show F.ok uQ fun _ _ _ _ H vs Q E t h=>?_
 .obtain⟨x,rfl,n,q⟩:=h;obtain⟨u,r,s⟩:=qb0 n;show⟨_,(qc (qM (PW.pt (qak (qX (qW (qv (qaX (K:=K) rfl) rfl T.b_isinstance YL (qa (pv 0) (qa (jx (v:=.ty "str") rfl T.b_str boot_str rfl) qd))))) (zO (qX (qdb qeR qeR qg (qv (zR (K:=K) rfl) rfl T.b_len xn (qa (pv 0) qd)) (qa1 rfl T.g_LONGEST_NAME)))))) (qe (qm jl)) qx)
 (qe (qm (qv (qeI (K:=K) rfl rfl) rfl T.b_all boot_all (qa (jM (sc:=qh za) (XN:=["thing"]) ["sign"] 1 [] rfl rfl rfl (by decide +kernel) rfl (by decide +kernel)
  (qS (K:=K) rfl (pv 0)) (fun _ _ _ _=>(qu (i:=0) (show(["sign"]:List Str).Nodup by decide +kernel) rfl (yL rfl))) jp
  (fun _ _ _ _=>zi)
  (fun _ _ _ _=>(qda qeR qeR zu (pv 0) zu))) qd))))),?_⟩
  ext;show qbY (.inl (.str x)) rfl (zV K "str" (by simp) "str" (by simp)) ?_;ext;show yq ?_;ext;show qfQ (yi r (by decide)) ?_;ext;show qP (fun h1=>?_) fun h1=>absurd (yB (by omega)) h1;ext;show qP (fun j=>by simp only[X4,XU] at j;omega) fun j=>?_;ext;show comp_str (fun i ys H'=>H'=H/\ys=((x.cps.toList.take i).map sg).map V.bl) ⟨rfl,by simp⟩ (fun i c ys H' hc g=>?_) fun ys H' g=>?_
  .obtain⟨rfl,rfl⟩:=g;ext;show zE ?_;ext
   have hl:(List.map V.bl (List.map sg (List.take i x.cps.toList))).length<sizeLine:=by
    rw[ya,ya,yX];show qi (yi (k9 _ _) (by simpa [Str.length] using(show x.length<=1000 by omega)))
   have a:∀ b,b=sg c->(List.map V.bl (List.map sg (List.take i x.cps.toList)))++[V.bl b]=List.map V.bl (List.map sg (List.take (i+1) x.cps.toList)):=by
    intro b hb;have m:x.cps.toList[i]?=some c:=by simpa using hc
    rw[hb,yT,m];simp
   show qP (fun e=>?_) fun e=>⟨hl,rfl,a _ (by unfold sg;rw[yD e])⟩;ext;show⟨hl,rfl,a _ (by unfold sg;rw[yG e])⟩
  .obtain⟨rfl,rfl⟩:=g;have p:x.cps.toList.take x.cps.size=x.cps.toList:=by rw[<- xT,yW]
   rw[p];show⟨?_,fun l hl=>?_⟩
   .rw [ya,ya];show Yh (qi (by simpa [Str.length] using(show x.length<=1000 by omega)))
   .ext;show⟨l,x.cps.toList.map sg,rfl,SqL.of qb,?_⟩;have z:=q _ (qI (Sr H') (o:=.lst ((x.cps.toList.map sg).map V.bl)) hl);rw[Kk];rw[<- s] at z;show z
inductive spBit(vs:List V)(H:Hp)(Q:VK)(E:XK):Prop|mk (b n:Int) (_:vs=[.int b,.int n]) (_:0<=n) (_:Q (.bl (decide (Builtin.bitAnd (b / 2 ^ n.toNat) 1=1))) H)
theorem ok_bit(F:Fun K "has_bit" "has_bit" qaG f fd):FnOk P w K mg base CX0 1 f fd ["bits","number"] spBit:=by
 show F.ok Uj fun _ _ _ _ H vs Q E c h=>?_
 .obtain⟨b,n,rfl,a,q⟩:=h;have e:=jY c;show⟨_,(qe (qm (jy (zI (K:=K) rfl e) (qz qaV (qz qc8 (pv 0) (pv 1)) qg) qg (qA _)))),?_⟩;ext;show vI a ?_;ext;show .inl (.inl (.inl ⟨rfl,rfl,?_⟩));show q
noncomputable def qbB:List Str->Nat->List (Key×V)
 | [],_=>[]
 | s::r,i=>(.inr s,.int i)::qbB r (i+1)
theorem qcI(y:Str):∀(ss:List Str) (i:Nat),qbB (ss++[y]) i=qbB ss i++[(.inr y,.int (i+ss.length:Nat))]
 | [],i=>rfl
 | s::r,i=>by
  show(_::qbB (r++[y]) (i+1))=_::(qbB r (i+1)++_);rw[qcI y r (i+1)];have:i+1+r.length=i+(s::r).length:=by simp;omega
  rw[this]
theorem zJ:∀(ss:List Str) (i:Nat),(qbB ss i).length=ss.length
 | [],_=>rfl
 | _::r,i=>congrArg (· + 1) (zJ r (i+1))
theorem qbu:∀{ss:List Str} {i:Nat},y∉ss->j7 (qbB ss i) (.inr y:Key)=none
 | [],_,_=>rfl
 | s::r,i,h=>by
  have h1:¬ s=y:=fun e=>h (by rw[e];show yI);show j7 ((.inr s,V.int i)::qbB r (i+1)) _=none;rw[q8 (p:=((.inr s:Key),V.int i)) (fun e=>h1 (xJ e))];show qbu fun m=>h (yx _ m)
theorem jW:∀{ss:List Str} {i:Nat},y∈ss->∃ j,j<ss.length/\ss[j]?=some y/\j7 (qbB ss i) (.inr y:Key)=some (.int (i+j:Nat))
 | [],_,h=>by cases h
 | s::r,i,h=>by
  by_cases e:s=y
  .subst e;show⟨0,by simp,rfl,jg (p:=((.inr s:Key),V.int i)) rfl⟩
  .rcases yv.mp h with z | z
   .show absurd z.symm e
   .obtain⟨j,h1,b,c⟩:=jW (i:=i+1) z;show⟨j+1,by simp;omega,by simpa using b,?_⟩;show j7 ((.inr s,V.int i)::qbB r (i+1)) _=_;rw[q8 (p:=((.inr s:Key),V.int i)) (fun a=>e (xJ a)),c];have:i+1+j=i+(j+1):=by omega
    rw[this]
theorem qbv(y:Str)(ss:List Str)(i:Nat):(j7 (qbB ss i) (.inr y:Key)).isSome=decide (y∈ss):=by
 by_cases h:y∈ss
 .obtain⟨j,_,_,e⟩:=jW (i:=i) h;rw[e,yB h];rfl
 .rw [qbu h,yl h];rfl
inductive spPlace(vs:List V)(H:Hp)(Q:VK)(E:XK):Prop|mk (d:Addr) (ss:List Str) (x:Str) (_:vs=[.ref d,.str x]) (_:H d=some (.dK (qbB ss 0))) (_:zf x=true) (_:x∈ss) (_:∀ H',L2.Same H H'->Q (.bl true) H')
theorem ok_place(F:Fun K "is_place" "is_place" zx f fd)(j:DefOk P w K mg base CX0 1 "is_name" ["thing"] spName):FnOk P w K mg base CX0 2 f fd ["numbers","thing"] spPlace:=by
 show F.ok uL fun _ _ _ _ H vs Q E a h=>?_
 .obtain⟨d,ss,x,rfl,c,e,i,q⟩:=h;have g:=jY a;show⟨_,(qe (qm (qbF (qt j (hmR a) qC (qa (pv 1) qd)) (qbE (jy (zr (K:=K) rfl g) (pv 1) (pv 0) (by with_unfolding_all rfl)))))),?_⟩;ext;show⟨x,rfl,e,fun H1 b=>?_⟩;ext;show zE ?_;ext;show .inr (.inl ⟨d,_,rfl,DGet.k (k:=Sum.inr x) (b d _ c),?_⟩);rw[qbv,yB i];show q H1 b
inductive spTwo(vs:List V)(H:Hp)(Q:VK)(E:XK):Prop|mk (d t:Addr) (ss:List Str) (a b:Str) (_:vs=[.ref d,.ref t]) (_:H d=some (.dK (qbB ss 0))) (_:H t=some (.tup [.str a,.str b])) (_:zf a=true) (_:zf b=true) (_:a∈ss) (_:b∈ss) (_:a≠b) (_:∀ H',L2.Same H H'->Q (.bl true) H')
theorem ok_two(F:Fun K "are_two_places" "are_two_places" jw f fd)(T:Txt K mg cc cw)(o:DefOk P w K mg base CX0 2 "is_place" ["numbers","thing"] spPlace):FnOk P w K mg base CX0 3 f fd ["numbers","thing"] spTwo:=by
 show F.ok uh fun _ _ _ _ H vs Q E m h=>?_
 .obtain⟨d,t,ss,a,b,rfl,p,c,s,u,r,hb,l,q⟩:=h;have g:=jY m;show⟨_,(qc (qM (PW.pt (qak (qX (qW (qv (qaX (K:=K) rfl) rfl T.b_isinstance YL (qa (pv 1) (qa (jx (v:=.ty "tuple") rfl T.b_tuple kO rfl) qd))))) (zO (qj (qaq (K:=K) rfl g) (qv (zR (K:=K) rfl) rfl T.b_len xn (qa (pv 1) qd)) qg (qA _))))) (qe (qm jl)) qx)
 (qc (qk (i:=2) uh.nd rfl (yL rfl) (qbF (qt o (hmR m) qC (qa (pv 0) (qa (qp (qr (K:=K) rfl g) (pv 1) qg (fun _ _=>rfl)) qd))) (qbE (qt o (hmR m) qC (qa (pv 0) (qa (qp (qr (K:=K) rfl g) (pv 1) qg (fun _ _=>rfl)) qd))))))
 (qe (qm (qbF (pv 2) (qbE (jy (qaq (K:=K) rfl g) (qp (qr (K:=K) rfl g) (pv 1) qg (fun _ _=>rfl)) (qp (qr (K:=K) rfl g) (pv 1) qg (fun _ _=>rfl)) (qA _)))))))),?_⟩
  ext;show qbY (.inl (.tup c)) rfl (zV K "tuple" (by simp) "tuple" (by simp)) ?_;ext;show yq ?_;ext;show qfR c ?_;ext;show .inl ⟨rfl,rfl,?_⟩;ext;show yq ?_;ext;show .inl (qap c rfl ?_);ext;show⟨d,ss,a,rfl,p,s,r,fun H1 j=>?_⟩;ext;show zE ?_;ext;show .inl (qap (j _ _ c) rfl ?_);ext;show⟨d,ss,b,rfl,j _ _ p,u,hb,fun H2 n=>?_⟩;ext;show zE ?_;ext;show .inl (qap (n _ _ (j _ _ c)) rfl ?_);ext;show .inl (qap (n _ _ (j _ _ c)) rfl ?_);show .inl ⟨rfl,rfl,?_⟩;have z:=q H2 (j.trans n);have e:(if true=true then !eqV (V.str a) (V.str b) else eqV (V.str a) (V.str b))=true:=by simp[eqV,l]
  rw[e];show z
theorem ue:FnScope ["names","numbers","name"] ["names"] (qh zj):=fS
theorem qb1(m j:Nat):decide (Builtin.bitAnd ((m:Int) / 2 ^ (j:Int).toNat) 1=1)=m.testBit j:=by
 rw[X5,Nat.testBit_eq_decide_div_mod_eq];rw[Yb];have e:(m:Int) / 2 ^ j=((m / 2 ^ j:Nat):Int):=by rw[Int.natCast_ediv,xH];rfl
 rw[e]
 congr 1
 apply propext;omega
theorem qdu(m j:Nat):Builtin.bitOr (m:Int) (1*2 ^ (j:Int).toNat)=((m ||| 2 ^ j:Nat):Int):=by
 have e:(1*2 ^ (j:Int).toNat:Int)=((2 ^ j:Nat):Int):=by rw[Yb,kU,xH];rfl
 rw[e];generalize 2 ^ j=k;have c:Builtin.bitNot (m:Int)=-(m:Int)-1:=rfl;have f:Builtin.bitNot (k:Int)=-(k:Int)-1:=rfl;unfold Builtin.bitOr Builtin.bitAnd;rw[c,f,yl (by omega),yl (by omega)];dsimp only;unfold Builtin.bitNot;have a:(-(-(m:Int)-1)-1).toNat=m:=by omega
 have b:(-(-(k:Int)-1)-1).toNat=k:=by omega
 rw[a,b];omega
def But(x:Addr)(H H':Hp):Prop:=∀ b o,b≠x->H b=some o->H' b=some o
theorem But.refl(x:Addr)(H:Hp):But x H H:=fun _ _ _ e=>e
theorem But.same(a:But x H H1)(b:L2.Same H1 H2):But x H H2:=fun c o n e=>b c o (a c o n e)
theorem But.put(a:But x H H1):But x H (upd H1 x o):=fun c u n e=>by rw[qf n];show a c u n e
theorem But.new{l:Addr}(a:But x H H1)(hl:H1 l=none):But x H (upd H1 l o):=a.same (qI (Sr H1) hl)
theorem qb2{a q:Addr}{Q:VK}(h:H a=some (.lst xs))(b:H q=some (.tup [.ty "list",.ty "tuple"]))(k:Q (.bl true) H):qe0 K [.ref a,.ref q] H Q:=
 ⟨_,q,_,_,[.type "list",.type "tuple"],true,rfl,.inl (.lst h),b,rfl,rfl,k⟩
inductive spNums(vs:List V)(H:Hp)(Q:VK)(E:XK):Prop|mk (a:Addr) (ss:List Str) (_:vs=[.ref a]) (_:H a=some (.lst (ss.map V.str))) (_:ss.length<=14) (_:ss.Nodup) (_:(∀ s∈ss,zf s=true)) (_:∀ d H',L2.Same H H'->H d=none->H' d=some (.dK (qbB ss 0))->Q (.ref d) H')
theorem ok_nums(F:Fun K "numbers_of" "numbers_of" zj f fd)(T:Txt K mg cc cw)(S:DefOk P w K mg base CX0 1 "is_name" ["thing"] spName) :
  FnOk P w K mg base CX0 4 f fd ["names"] spNums:=by
 show F.ok ue fun _ _ _ _ H vs Q E G h=>?_
 .obtain⟨a,ss,rfl,l,M,r,s,q⟩:=h;have I:=jY G;show⟨_,(qc (qM (qX (qW (qv (qbX (K:=K) rfl) rfl T.b_isinstance YL (qa (pv 0) (qa (jK (qa (jx (v:=.ty "list") rfl T.b_list xI rfl) (qa (jx (v:=.ty "tuple") rfl T.b_tuple kO rfl) qd))) qd))))) (qe ju) qx)
 (qc (qM (qj qdQ (qv (zR (K:=K) rfl) rfl T.b_len xn (qa (pv 0) qd)) (qa1 rfl T.g_MOST_PLACES) (qA _)) (qe ju) qx)
 (qc (qk (i:=1) ue.nd rfl (yL rfl) jQ)
 (qc (qZ yP rfl (qS (K:=K) rfl (pv 0)) (qu (i:=2) ue.nd rfl (yL rfl))
 (qc (qM (qX (qW (qt S (hmR G) qC (qa (pv 2) qd)))) (qe ju) qx)
 (qc (qM (qj (zr (K:=K) rfl I) (pv 2) (pv 1) (by with_unfolding_all rfl)) (qe ju) qx)
 (qe (jJ (qv (zR (K:=K) rfl) rfl T.b_len xn (qa (pv 1) qd)) (jI (pv 1) (pv 2) (jL I)))))))
 (qe (qm (pv 1))))))),?_⟩
  ext;show⟨by show 2<=sizeLine;decide,fun g N=>?_⟩;have m:=qI (Sr H) (o:=.tup [.ty "list",.ty "tuple"]) N;ext;show qb2 (m _ _ l) qb ?_;ext;show yq ?_;ext;show qbC (m _ _ l) ?_;rw[ya];ext;show qP (fun h=>by have:=yk h;omega) fun _=>?_;ext;intro d C;have L:=qI m (o:=.dK []) C;have c:H d=none:=m.free C;ext;show .inl ⟨⟨_,SqL.of (L _ _ l)⟩,qN (K:=K) (fun i p H'=>∃ A,p=[some (.ref a),some (.ref d),A]/\L2.Same H H'/\H' d=some (.dK (qbB (ss.take i) 0))) ⟨none,rfl,L,qb⟩ (fun i p H' _ e=>by obtain⟨_,_,z,_⟩:=e;show SqL.of (z _ _ l)) (fun i y p H' J e=>?_) fun p H' e=>?_⟩
  .obtain⟨A,rfl,u,b⟩:=e;rw[yd] at J;obtain⟨x,t,rfl⟩:=yn.mp J;have O:i<ss.length:=(yc.mp t).1;have j:ss.take (i+1)=ss.take i++[x]:=by rw[yT,t];rfl
   have D:x∉ss.take i:=fun z=>by
    have B:(ss.take (i+1)).Nodup:=r.sublist (XY _ _);rw[j] at B;show(Yg.mp B).2.2 _ z x (by simp) rfl
   ext;show⟨x,rfl,s x (ye t),fun H1 n=>?_⟩;have R:=u.trans n;ext;show yq ?_;ext;show .inr (.inl ⟨d,_,rfl,DGet.k (k:=Sum.inr x) (n _ _ b),?_⟩);rw[qbv,yl D];ext;show yq ?_;ext;show .inr ⟨_,n _ _ b,?_⟩;ext;show .inr ⟨d,_,rfl,DPut.k (k:=Sum.inr x) (n _ _ b) (qi (by rw[zJ,yX];omega)),?_⟩;show⟨_,rfl,qaH R c,?_⟩;rw[qb,qa0 _ (qbu D),j,qcI,zJ];simp only[xQ]
  .obtain⟨A,rfl,u,b⟩:=e;ext;rw[ya,yW] at b;show q d H' u c b
theorem Uf:FnScope ["self","names","ties"] ["self","names","ties"] (qh qac):=fS
theorem K3:FnScope ["numbers","ties","near","tie","one","other"] ["numbers","ties"] (qh qaI):=fS
def qbw(ss:List Str)(ns:List Nat)(c:List (Str×Str)):Prop:=ns.length=ss.length/\(∀ a,ns.getD a 0<2 ^ ss.length)/\∀ a b s t,ss[a]?=some s->ss[b]?=some t->(ns.getD a 0).testBit b=decide ((s,t)∈c\/(t,s)∈c)
theorem qy(h:ss.Nodup){a b:Nat}(j:ss[a]?=some s)(hb:ss[b]?=some s):a=b:=by
 have f:=Yv.mp h;obtain⟨g,c⟩:=yc.mp j;obtain⟨i,e⟩:=yc.mp hb;rcases kW a b with q | q | q
 .show absurd (c.trans e.symm) (f a b g i q)
 .show q
 .show absurd (e.trans c.symm) (f b a i g q)
theorem bits_zero:qbw ss (List.replicate ss.length 0) []:=by
 have z:∀ a,(List.replicate ss.length 0).getD a 0=0:=fun a=>by
  simp only[List.getD,xZ];split<;>rfl
 show⟨by simp,fun a=>by rw[z a];show XI _,fun a b s t c hb=>?_⟩;rw[z a];simp
theorem zk{v:Nat}(h:i<ns.length):(ns.set i v).getD j 0=if i=j then v else ns.getD j 0:=by
 simp only[List.getD,List.getElem?_set];by_cases e:i=j
 .subst e;simp[h]
 .simp [e]
theorem bits_step{f:List (Str×Str)}(hb:qbw ss ns f)(o:ss.Nodup)(hi:ss[i]?=some s)(l:ss[j]?=some t)(n:s≠t) :
  qbw ss ((ns.set i (ns.getD i 0 ||| 2 ^ j)).set j (ns.getD j 0 ||| 2 ^ i)) (f++[(s,t)]):=by
 obtain⟨hl,m,h⟩:=hb;have B:i<ns.length:=by rw[hl];show(yc.mp hi).1
 have C:j<ns.length:=by rw[hl];show(yc.mp l).1
 have E:i≠j:=fun e=>by rw[e,l] at hi;cases hi;show n rfl
 have y:i<ss.length:=(yc.mp hi).1;have A:j<ss.length:=(yc.mp l).1;show⟨by simp[hl],fun a=>?_,fun a b u v g c=>?_⟩
 .rw [zk (by simpa using C),zk B];split
  .show X8 (m _) (Xs (by decide) y)
  .split
   .show X8 (m _) (Xs (by decide) A)
   .show m _
 rw[zk (by simpa using C),zk B];have p:=h a b u v g c;have D:∀ P Q:Prop,(P↔Q)->∀ [Decidable P] [Decidable Q],decide P=decide Q:=fun P Q e=>by intro _ _;show Yq.mpr e
 by_cases w:j=a
 .subst w;rw[l] at g;cases g;rw[yG rfl,X9,p,YV];by_cases r:i=b
  .subst r;rw[hi] at c;cases c;simp
  .have vs:v≠s:=fun e=>by subst e;show r (qy o hi c)
   simp only[r,Kv,kZ];apply Yq.mpr;simp only[yA,yy,XE];constructor
   .rintro (z | z)
    .show .inl (.inl z)
    .show .inr (.inl z)
   .rintro ((z | ⟨z,_⟩) | (z | ⟨z,_⟩))
    .show .inl z
    .show absurd z.symm n
    .show .inr z
    .show absurd z vs
 .rw [yD w];by_cases q:i=a
  .subst q;rw[hi] at g;cases g;rw[yG rfl,X9,p,YV];by_cases x:j=b
   .subst x;rw[l] at c;cases c;simp
   .have G:v≠t:=fun e=>by subst e;show x (qy o l c)
    simp only[x,Kv,kZ];apply Yq.mpr;simp only[yA,yy,XE];constructor
    .rintro (z | z)
     .show .inl (.inl z)
     .show .inr (.inl z)
    .rintro ((z | ⟨_,z⟩) | (z | ⟨_,z⟩))
     .show .inl z
     .show absurd z G
     .show .inr z
     .show absurd z n
  .rw [yD q,p];have us:u≠s:=fun e=>by subst e;show q (qy o hi g)
   have F:u≠t:=fun e=>by subst e;show w (qy o l g)
   apply Yq.mpr;simp only[yA,yy,XE];constructor
   .rintro (z | z)
    .show .inl (.inl z)
    .show .inr (.inl z)
   .rintro ((z | ⟨z,_⟩) | (z | ⟨_,z⟩))
    .show .inl z
    .show absurd z us
    .show .inr z
    .show absurd z F
noncomputable def zt(ns:List Nat):List V:=ns.map fun(n:Nat)=>.int (n:Int)
theorem jS(h:i<ns.length):(zt ns)[i]?=some (.int (ns.getD i 0:Nat)):=by
 unfold zt;rw[yd,yb h];simp[List.getD,h]
theorem qa2(ns:List Nat)(i m:Nat):(zt ns).set i (.int m)=zt (ns.set i m):=by
 unfold zt;rw[List.map_set]
theorem qcJ(k:Nat):(List.replicate k [V.int 0]).flatten=zt (List.replicate k 0):=by
 induction k with
 | zero=>rfl
 | succ k ih=>rw[xt,Xq,ih];rfl
theorem qb3(h:j<n):ixN n (j:Int)=some j:=by
 unfold ixN;rw[yG (by omega),yG (by omega)];rfl
def UN(x y:Str×Str):Prop:=x≠y/\x≠(y.2,y.1)
structure TGo(ss:List Str)(tps:List (Str×Str)):Prop where
 few:tps.length<=30
 inn:∀ ab∈tps,ab.1∈ss/\ab.2∈ss/\ab.1≠ab.2
 un:tps.Pairwise UN
structure WOk(ss:List Str)(ns:List Nat):Prop where
 len:ns.length=ss.length
 few:ss.length<=14
 nd:ss.Nodup
 lt:∀ a,ns.getD a 0<2 ^ ss.length
 nm:∀ s∈ss,zf s=true
inductive WebAt(cw:Addr)(H:Hp)(x:Addr)(ss:List Str)(ns:List Nat):Prop|mk (dx d ol n:_) (_:H x=some (.ins cw dx (qH "near" (.ref n) (qH "order" (.ref ol) (qH "numbers" (.ref d) []))))) (_:H d=some (.dK (qbB ss 0))) (_:H ol=some (.lst (ss.map V.str))) (_:H n=some (.lst (zt ns))) (_:WOk ss ns)
theorem WebAt.same(h:WebAt cw H x ss ns)(s:L2.Same H H'):WebAt cw H' x ss ns:=by
 obtain⟨dx,d,ol,n,h1,a,b,c,e⟩:=h;show⟨dx,d,ol,n,s _ _ h1,s _ _ a,s _ _ b,s _ _ c,e⟩
inductive WebN(H0:Hp)(cw:Addr)(H:Hp)(x:Addr)(ss:List Str)(ns:List Nat):Prop|mk (dx d ol n:_) (_:H x=some (.ins cw dx (qH "near" (.ref n) (qH "order" (.ref ol) (qH "numbers" (.ref d) []))))) (_:H d=some (.dK (qbB ss 0))) (_:H ol=some (.lst (ss.map V.str))) (_:H n=some (.lst (zt ns))) (_:WOk ss ns) (_:H0 d=none) (_:H0 ol=none) (_:H0 n=none)
theorem WebN.web(h:WebN H0 cw H x ss ns):WebAt cw H x ss ns:=by
 obtain⟨dx,d,ol,n,h1,a,b,c,e,_⟩:=h;show⟨dx,d,ol,n,h1,a,b,c,e⟩
inductive WebP(A:Addr->Prop)(cw:Addr)(H:Hp)(x:Addr)(ss:List Str)(ns:List Nat):Prop|mk (dx d ol n:_) (_:H x=some (.ins cw dx (qH "near" (.ref n) (qH "order" (.ref ol) (qH "numbers" (.ref d) []))))) (_:H d=some (.dK (qbB ss 0))) (_:H ol=some (.lst (ss.map V.str))) (_:H n=some (.lst (zt ns))) (_:WOk ss ns) (_:¬ A x) (_:¬ A d) (_:¬ A ol) (_:¬ A n)
theorem WebP.web{A:Addr->Prop}(h:WebP A cw H x ss ns):WebAt cw H x ss ns:=by
 obtain⟨dx,d,ol,n,h1,a,b,c,e,_⟩:=h;show⟨dx,d,ol,n,h1,a,b,c,e⟩
theorem WebP.keep{A:Addr->Prop}(h:WebP A cw H x ss ns)(k:∀ b o,¬ A b->H b=some o->H' b=some o):WebP A cw H' x ss ns:=by
 obtain⟨dx,d,ol,n,h1,g,i,j,l,a,c,e,f⟩:=h;show⟨dx,d,ol,n,k _ _ a h1,k _ _ c g,k _ _ e i,k _ _ f j,l,a,c,e,f⟩
theorem WebN.apart{A:Addr->Prop}(h:WebN H0 cw H x ss ns)(m:¬ A x)(b:∀ a,A a->H0 a≠none):WebP A cw H x ss ns:=by
 obtain⟨dx,d,ol,n,h1,g,i,j,l,c,e,f⟩:=h;show⟨dx,d,ol,n,h1,g,i,j,l,m,fun z=>b _ z c,fun z=>b _ z e,fun z=>b _ z f⟩
theorem qcK:∀(ss:List Str) (i:Nat),(qbB ss i).map (fun a=>kV a.1)=ss.map V.str
 | [],_=>rfl
 | s::r,i=>congrArg (V.str s::·) (qcK r (i+1))
inductive spNear(vs:List V)(H:Hp)(Q:VK)(E:XK):Prop|mk (d l:Addr) (ss:List Str) (ts:List Addr) (tps:List (Str×Str)) (_:vs=[.ref d,.ref l]) (_:H d=some (.dK (qbB ss 0))) (_:ss.length<=14) (_:ss.Nodup) (_:(∀ s∈ss,zf s=true)) (_:PL H l ts tps) (_:TGo ss tps) (_:∀ n ns H',L2.Same H H'->H n=none->H' n=some (.lst (zt ns))->qbw ss ns tps->Q (.ref n) H')
theorem ok_near(F:Fun K "near_of" "near_of" qaI f fd)(T:Txt K mg cc cw)(K1:DefOk P w K mg base CX0 3 "are_two_places" ["numbers","thing"] spTwo)(uc:DefOk P w K mg base CX0 1 "has_bit" ["bits","number"] spBit) :
  FnOk P w K mg base CX0 4 f fd ["numbers","ties"] spNear:=by
 show F.ok K3 fun _ _ _ _ H vs Q E hr h=>?_
 .obtain⟨d,l,ss,ts,tps,rfl,W,ai,ae,G,⟨hl,D⟩,Y,q⟩:=h;have j:=jY hr;have L:=D.len;have few:=Y.few;show⟨_,(qc (qM (qX (qW (qv (qbX (K:=K) rfl) rfl T.b_isinstance YL (qa (pv 1) (qa (jK (qa (jx (v:=.ty "list") rfl T.b_list xI rfl) (qa (jx (v:=.ty "tuple") rfl T.b_tuple kO rfl) qd))) qd))))) (qe ju) qx)
 (qc (qM (qj qdQ (qv (zR (K:=K) rfl) rfl T.b_len xn (qa (pv 1) qd)) (qa1 rfl T.g_MOST_TIES) (qA _)) (qe ju) qx)
 (qc (qk (i:=2) K3.nd rfl (yL rfl) (qz qd2 (qG (qa qg qd)) (qv (zR (K:=K) rfl) rfl T.b_len xn (qa (pv 0) qd))))
 (qc (qZ yP rfl (qS (K:=K) rfl (pv 1)) (qu (i:=3) K3.nd rfl (yL rfl))
 (qc (qM (qX (qW (qt K1 (hmR hr) qC (qa (pv 0) (qa (pv 3) qd))))) (qe ju) qx)
 (qc (qk (i:=4) K3.nd rfl (yL rfl) (qp (qr (K:=K) rfl j) (pv 0) (qp (qr (K:=K) rfl j) (pv 3) qg (fun _ _=>rfl)) (fun _ _=>rfl)))
 (qc (qk (i:=5) K3.nd rfl (yL rfl) (qp (qr (K:=K) rfl j) (pv 0) (qp (qr (K:=K) rfl j) (pv 3) qg (fun _ _=>rfl)) (fun _ _=>rfl)))
 (qc (qM (qW (qt uc (hmR hr) qC (qa (qp (qr (K:=K) rfl j) (pv 2) (pv 4) (fun _ _=>rfl)) (qa (pv 5) qd)))) (qe ju) qx)
 (qc (jJ (qz qeE (qp (qr (K:=K) rfl j) (pv 2) (pv 4) (fun _ _=>rfl)) (qz qav qg (pv 5))) (jI (pv 2) (pv 4) (jL j)))
 (qe (jJ (qz qeE (qp (qr (K:=K) rfl j) (pv 2) (pv 5) (fun _ _=>rfl)) (qz qav qg (pv 4))) (jI (pv 2) (pv 5) (jL j))))))))))
 (qe (qm (pv 2))))))),?_⟩
  ext;show⟨by show 2<=sizeLine;decide,fun g Z=>?_⟩;have s0:=qI (Sr H) (o:=.tup [.ty "list",.ty "tuple"]) Z;ext;show qb2 (s0 _ _ hl) qb ?_;ext;show yq ?_;ext;show qbC (s0 _ _ hl) ?_;rw[ya];ext;show qP (fun h=>by have:=yk h;omega) fun _=>?_;ext;show⟨by show 1<=sizeLine;decide,fun z ag=>?_⟩;have s1:=qI s0 (o:=.lst [.int 0]) ag;ext;show .inr ⟨_,s1 _ _ W,?_⟩;ext;rw[zJ];show⟨z,_,_,rfl,rfl,qb,by omega,by omega,by show 1*_<=sizeLine;rw[Yb];show Yh (qi (by omega)),fun n hn=>?_⟩;rw[Yb,qcJ];have s2:=qI s1 (o:=.lst (zt (List.replicate ss.length 0))) hn;have n0:H n=none:=s1.free hn;ext;show .inl ⟨⟨_,SqL.of (s2 _ _ hl)⟩,qN (K:=K) (fun i X H'=>∃ v3 v4 v5 ns,X=[some (.ref d),some (.ref l),some (.ref n),v3,v4,v5]/\L2.Same H H'/\H' n=some (.lst (zt ns))/\qbw ss ns (tps.take i))
   ⟨none,none,none,_,rfl,s2,qb,bits_zero⟩ (fun i X H' _ I=>by obtain⟨_,_,_,_,_,z,_⟩:=I;show SqL.of (z _ _ hl)) (fun i y X H' hy I=>?_) fun X H' I=>?_⟩
  .obtain⟨v3,v4,v5,ns,rfl,N,A,a⟩:=I;rw[yd] at hy;obtain⟨t,ht,rfl⟩:=yn.mp hy;have aa:i<ts.length:=(yc.mp ht).1;obtain⟨⟨p,r⟩,u⟩:∃ ab,tps[i]?=some ab:=⟨_,yb (by rw[<- L];show aa)⟩;have U:=D.at_ i t _ ht u;obtain⟨m1,m2,c⟩:=Y.inn _ (ye u);dsimp only at U m1 m2 c;have J:tps.take (i+1)=tps.take i++[(p,r)]:=by rw[yT,u];rfl
   have af:¬ ((p,r)∈tps.take i\/(r,p)∈tps.take i):=fun z=>by
    have h3:(tps.take (i+1)).Pairwise UN:=Y.un.sublist (XY _ _);rw[J] at h3;have h4:=(List.pairwise_append.mp h3).2.2;rcases z with z | z
    .show(h4 _ z (p,r) (by simp)).1 rfl
    .show(h4 _ z (p,r) (by simp)).2 rfl
   obtain⟨C,ac,b,R⟩:=jW (i:=0) m1;obtain⟨B,ad,s,S⟩:=jW (i:=0) m2;rw[xQ] at R S;have ah:C≠B:=fun e=>by rw[e,s] at b;cases b;show c rfl
   have m:C<ns.length:=by rw[a.1];show ac
   have M:B<ns.length:=by rw[a.1];show ad
   ext;show⟨d,t,ss,p,r,rfl,N _ _ W,N _ _ U,G _ m1,G _ m2,m1,m2,c,fun H1 t1=>?_⟩;have O:=N.trans t1;have x:=t1 _ _ A;ext;show yq ?_;ext;show .inl (qap (O _ _ U) rfl ?_);show .inr ⟨d,.int C,rfl,?_,?_⟩
   .have:=DGet.k (k:=Sum.inr p) (O _ _ W);rw[R] at this;show this
   ext;show .inl (qap (O _ _ U) rfl ?_);show .inr ⟨d,.int B,rfl,?_,?_⟩
   .have:=DGet.k (k:=Sum.inr r) (O _ _ W);rw[S] at this;show this
   ext;show .inl (zq x (qo (jS m)) ?_);ext;show⟨_,_,rfl,by omega,?_⟩;rw[qb1,a.2.2 C B p r b s,yl af];ext;show yq ?_;ext;show .inl (zq x (qo (jS m)) ?_);ext;show vI ⟨by omega,by omega,by decide⟩ ?_;ext;rw[qdu];show .inl (qdG x (qb3 (by unfold zt;rw[ya];show m)) ?_);rw[qa2];ext;have e2:(ns.set C (ns.getD C 0 ||| 2 ^ B)).getD B 0=ns.getD B 0:=by rw[zk m,yD ah]
   show .inl (zq qb (qo (jS (by simpa using M))) ?_);ext;show vI ⟨by omega,by omega,by decide⟩ ?_;ext;rw[qdu,e2];show .inl (qdG qb (qb3 (by unfold zt;rw[ya];simpa using M)) ?_);rw[qa2];show⟨_,_,_,_,rfl,qaH (qaH O n0) n0,qb,?_⟩;rw[J];show bits_step a ae b s c
  .obtain⟨v3,v4,v5,ns,rfl,N,A,a⟩:=I;ext;rw[ya,L,yW] at a;show q n _ H' N n0 A a
inductive spWeb(cw:Addr)(vs:List V)(H:Hp)(Q:VK)(E:XK):Prop|mk (x dx a l:Addr) (ss:List Str) (ts:List Addr) (tps:List (Str×Str)) (_:vs=[.ref x,.ref a,.ref l]) (_:H x=some (.ins cw dx [])) (_:H a=some (.lst (ss.map V.str))) (_:ss.length<=14) (_:ss.Nodup) (_:(∀ s∈ss,zf s=true)) (_:PL H l ts tps) (_:TGo ss tps) (_:∀ ns H',But x H H'->WebN H cw H' x ss ns->qbw ss ns tps->Q .non H')
theorem PL.but{l:Addr}{fs:List (Str×V)}(h:PL H l ts tps)(a:H x=some (.ins C dx fs))(b:But x H H'):PL H' l ts tps:=
 ⟨b _ _ (qam h.1 a (by intro z;cases z)) h.1,h.2.mono fun t ab e=>b _ _ (qam e a (by intro z;cases z)) e⟩
theorem ok_web(F:Fun K "__init__" "Web.__init__" qac f fd)(T:Txt K mg cc cw)(X:DefOk P w K mg base CX0 4 "numbers_of" ["names"] spNums)(Y:DefOk P w K mg base CX0 4 "near_of" ["numbers","ties"] spNear) :
  FnOk P w K mg base CX0 5 f fd ["self","names","ties"] (spWeb cw):=by
 show F.ok Uf fun _ _ _ _ H vs Q E N h=>?_
 .obtain⟨x,dx,a,l,ss,ts,tps,rfl,U,ha,j,nd,p,M,hg,q⟩:=h;have hu:=jY N;show⟨_,(qc (jN (K:=K) rfl (pv 0) (qt X (hmR N) qC (qa (pv 1) qd)) rfl)
 (qc (jN (K:=K) rfl (pv 0) (zw (qbs (K:=K) rfl rfl) rfl T.b_list xI (qa (qB (K:=K) rfl (pv 0) rfl) qd)) rfl)
 (qe (jN (K:=K) rfl (pv 0) (qt Y (hmR N) qC (qa (qB (K:=K) rfl (pv 0) rfl) (qa (pv 2) qd))) rfl)))),?_⟩
  ext;show⟨a,ss,rfl,ha,j,nd,p,fun d H1 W L R=>?_⟩;have Z:=(But.refl x H).same W;have A:=W _ _ U;have r:d≠x:=qam R A (by intro z;cases z);ext;show .inl ⟨x,cw,dx,[],rfl,A,T.wcl,T.wn,by decide,?_⟩;have J:=Z.put (o:=.ins cw dx (qH "numbers" (.ref d) []));have g:upd H1 x (.ins cw dx (qH "numbers" (.ref d) [])) d=some (.dK (qbB ss 0)):=by rw[qf r];show R
  have c:upd H1 x (.ins cw dx (qH "numbers" (.ref d) [])) x=_:=qb;generalize upd H1 x (.ins cw dx (qH "numbers" (.ref d) []))=H2 at J g c;ext;show .inl ⟨x,cw,dx,_,.ref d,rfl,c,T.wcl,T.wn,by rw[qD,yG rfl],?_⟩;ext;show .inr (.inl ⟨d,_,rfl,g,fun ol s=>?_⟩);rw[qcK];have G:ol≠x:=fun e=>by subst e;rw[c] at s;cases s
  have b3:=J.new (o:=.lst (ss.map V.str)) s
  have y:H ol=none:=by
   cases q':H ol with
   | none=>rfl
   | some o'=>rw[J ol o' G q'] at s;cases s
  have O:d≠ol:=qK g s;ext;show .inl ⟨x,cw,dx,_,rfl,(by rw[qf G.symm];show c),T.wcl,T.wo,Yp (jz _ _ _) (by decide),?_⟩;have D:=b3.put (o:=.ins cw dx (qH "order" (.ref ol) (qH "numbers" (.ref d) [])));have m:upd (upd H2 ol (.lst (ss.map V.str))) x (.ins cw dx (qH "order" (.ref ol) (qH "numbers" (.ref d) []))) d=some (.dK (qbB ss 0)):=by rw[qf r,qf O];show g
  have v:upd (upd H2 ol (.lst (ss.map V.str))) x (.ins cw dx (qH "order" (.ref ol) (qH "numbers" (.ref d) []))) ol=some (.lst (ss.map V.str)):=by rw[qf G];show qb
  have i:upd (upd H2 ol (.lst (ss.map V.str))) x (.ins cw dx (qH "order" (.ref ol) (qH "numbers" (.ref d) []))) x=_:=qb;generalize upd (upd H2 ol (.lst (ss.map V.str))) x (.ins cw dx (qH "order" (.ref ol) (qH "numbers" (.ref d) [])))=H3 at D m v i;ext;show .inl ⟨x,cw,dx,_,.ref d,rfl,i,T.wcl,T.wn,by rw[qD,yD (by decide +kernel),qD,yG rfl],?_⟩;ext;show⟨d,l,ss,ts,tps,rfl,m,j,nd,p,M.but U D,hg,fun n ns H4 I t S b=>?_⟩;have B:=I _ _ i;have C:n≠x:=qam S B (by intro z;cases z);ext;show .inl ⟨x,cw,dx,_,rfl,B,T.wcl,T.wr,Yp (jz _ _ _) (Yp (Nat.succ_le_succ (jz _ _ _)) (by decide)),?_⟩
  have u:H n=none:=by
   cases q':H n with
   | none=>rfl
   | some o'=>rw[D n o' C q'] at t;cases t
  show q ns _ (D.same I).put ⟨dx,d,ol,n,qb,by rw[qf r];show I _ _ m,by rw[qf G];show I _ _ v,by rw[qf C];show S,⟨b.1,j,nd,b.2.1,p⟩,L,y,u⟩ b
theorem u5:FnScope ["self"] ["self"] (qh zl):=fS
theorem uk:FnScope ["self","thing"] ["self","thing"] (qh jj):=fS
theorem ul:FnScope ["self","place"] ["self","place"] (qh jk):=fS
theorem u6:FnScope ["self","place"] ["self","place"] (qh zm):=fS
theorem uF:FnScope ["self","place"] ["self","place"] (qh jm):=fS
theorem uM:FnScope ["self","one","other","bits"] ["self","one","other"] (qh qad):=fS
theorem uR:FnScope ["self","bits"] ["self","bits"] (qh js):=fS
theorem jA{d n:V}:(qH "near" n (qH "order" ol (qH "numbers" d []))).lookup ("numbers":Str)=some d:=by
 rw[qD,yD (by decide +kernel),qD,yD (by decide +kernel),qD,yG rfl]
theorem qa3{d n:V}:(qH "near" n (qH "order" ol (qH "numbers" d []))).lookup ("order":Str)=some ol:=by
 rw[qD,yD (by decide +kernel),qD,yG rfl]
theorem lk_near{d n:V}:(qH "near" n (qH "order" ol (qH "numbers" d []))).lookup ("near":Str)=some n:=by
 rw[qD,yG rfl]
theorem zg{f:Str}{d n:V}(h:(f=="near"||f=="order"||f=="numbers")=false):(qH "near" n (qH "order" ol (qH "numbers" d []))).lookup f=none:=by
 simp only[Bool.or_eq_false_iff,Yx] at h;rw[qD,yD h.1.1,qD,yD h.1.2,qD,yD h.2];rfl
noncomputable def inB:List Str->Nat->Nat->List Str
 | [],_,_=>[]
 | s::r,i,b=>if b.testBit i=true then s::inB r (i+1) b else inB r (i+1) b
theorem qa4(y:Str)(b:Nat):∀(l:List Str) (k:Nat),inB (l++[y]) k b=inB l k b++(if b.testBit (k+l.length)=true then [y] else [])
 | [],k=>by simp[inB]
 | s::r,k=>by
  have a:=qa4 y b r (k+1);have e:k+1+r.length=k+(s::r).length:=by simp;omega
  rw[e] at a;simp only[Kb,inB,a];split<;>simp
theorem qbx(b:Nat):∀(l:List Str) (k:Nat),(inB l k b).length<=l.length
 | [],_=>yh _
 | s::r,k=>by
  have a:=qbx b r (k+1);simp only[inB];split
  .simp;omega
  .simp;omega
inductive spHas(cw:Addr)(vs:List V)(H:Hp)(Q:VK)(E:XK):Prop|mk (x:Addr) (ss:List Str) (ns:List Nat) (y:Str) (_:vs=[.ref x,.str y]) (_:WebAt cw H x ss ns) (_:y∈ss) (_:∀ H',L2.Same H H'->Q (.bl true) H')
inductive spNum(cw:Addr)(vs:List V)(H:Hp)(Q:VK)(E:XK):Prop|mk (x:Addr) (ss:List Str) (ns:List Nat) (y:Str) (j:Nat) (_:vs=[.ref x,.str y]) (_:WebAt cw H x ss ns) (_:ss[j]?=some y) (_:∀ H',L2.Same H H'->Q (.int (j:Nat)) H')
inductive spBB(cw:Addr)(vs:List V)(H:Hp)(Q:VK)(E:XK):Prop|mk (x:Addr) (ss:List Str) (ns:List Nat) (y:Str) (j:Nat) (_:vs=[.ref x,.str y]) (_:WebAt cw H x ss ns) (_:ss[j]?=some y) (_:∀ H',L2.Same H H'->Q (.int (ns.getD j 0:Nat)) H')
inductive spNIn(cw:Addr)(vs:List V)(H:Hp)(Q:VK)(E:XK):Prop|mk (x:Addr) (ss:List Str) (ns:List Nat) (b:Nat) (_:vs=[.ref x,.int b]) (_:WebAt cw H x ss ns) (_:∀ l,H l=none->Q (.ref l) (upd H l (.lst ((inB ss 0 b).map V.str))))
inductive spBs(cw:Addr)(vs:List V)(H:Hp)(Q:VK)(E:XK):Prop|mk (x:Addr) (ss:List Str) (ns:List Nat) (y:Str) (j:Nat) (_:vs=[.ref x,.str y]) (_:WebAt cw H x ss ns) (_:ss[j]?=some y) (_:∀ H',L2.Same H H'->∀ l,H' l=none->Q (.ref l) (upd H' l (.lst ((inB ss 0 (ns.getD j 0)).map V.str))))
inductive spTied(cw:Addr)(vs:List V)(H:Hp)(Q:VK)(E:XK):Prop|mk (x:Addr) (ss:List Str) (ns:List Nat) (y z:Str) (j i:Nat) (_:vs=[.ref x,.str y,.str z]) (_:WebAt cw H x ss ns) (_:ss[j]?=some y) (_:ss[i]?=some z) (_:∀ H',L2.Same H H'->Q (.bl ((ns.getD j 0).testBit i)) H')
inductive spPls(cw:Addr)(vs:List V)(H:Hp)(Q:VK)(E:XK):Prop|mk (x:Addr) (ss:List Str) (ns:List Nat) (_:vs=[.ref x]) (_:WebAt cw H x ss ns) (_:∀ l,H l=none->Q (.ref l) (upd H l (.lst (ss.map V.str))))
theorem ok_has(F:Fun K "has_place" "Web.has_place" jj f fd)(T:Txt K mg cc cw)(b:DefOk P w K mg base CX0 2 "is_place" ["numbers","thing"] spPlace):FnOk P w K mg base CX0 3 f fd ["self","thing"] (spHas cw):=by
 show F.ok uk fun _ _ _ _ H vs Q E e h=>?_
 .obtain⟨x,ss,ns,y,rfl,⟨dx,d,ol,n,g,c,j,i,hw⟩,a,q⟩:=h;show⟨_,(qe (qm (qt b (hmR e) qC (qa (qB (K:=K) rfl (pv 0) rfl) (qa (pv 1) qd))))),?_⟩;ext;show .inl ⟨x,cw,dx,_,.ref d,rfl,g,T.wcl,T.wn,jA,?_⟩;ext;show⟨d,ss,y,rfl,c,hw.nm _ a,a,q⟩
theorem qe5(F:Fun K "number_of" "Web.number_of" jk f fd)(T:Txt K mg cc cw)(o:MethOk P w K mg base CX0 3 cw "has_place" ["self","thing"] (spHas cw)):FnOk P w K mg base CX0 4 f fd ["self","place"] (spNum cw):=by
 show F.ok ul fun _ _ _ _ H vs Q E e h=>?_
 .obtain⟨x,ss,ns,y,j,rfl,c,b,q⟩:=h;obtain⟨dx,d,ol,n,g,r,u,t,hw⟩:=id c;have l:=ye b;have s:=jY e;show⟨_,(qc (qM (qX (qW (qF o (hmR e) (pv 0) (qa (pv 1) qd)))) (qe ju) qx)
 (qe (qm (qp (qr (K:=K) rfl s) (qB (K:=K) rfl (pv 0) rfl) (pv 1) (fun _ _=>rfl))))),?_⟩
  ext;show⟨x,dx,_,rfl,g,zg (by decide +kernel),?_⟩;ext;show⟨x,ss,ns,y,rfl,c,l,fun H1 a=>?_⟩;ext;show yq ?_;obtain⟨i,hi,p,m⟩:=jW (i:=0) l;rw[xQ,qy hw.nd p b] at m;ext;show .inl ⟨x,cw,dx,_,.ref d,rfl,a _ _ g,T.wcl,T.wn,jA,?_⟩;ext;show .inr ⟨d,.int j,rfl,?_,q H1 a⟩;have:=DGet.k (k:=Sum.inr y) (a _ _ r);rw[m] at this;show this
theorem ok_bb(F:Fun K "bits_beside" "Web.bits_beside" jm f fd)(T:Txt K mg cc cw)(i:MethOk P w K mg base CX0 4 cw "number_of" ["self","place"] (spNum cw)):FnOk P w K mg base CX0 5 f fd ["self","place"] (spBB cw):=by
 show F.ok uF fun _ _ _ _ H vs Q E c h=>?_
 .obtain⟨x,ss,ns,y,j,rfl,b,a,q⟩:=h;obtain⟨dx,d,ol,n,e,o,p,l,hw⟩:=id b;have m:=jY c;show⟨_,(qe (qm (qp (qr (K:=K) rfl m) (qB (K:=K) rfl (pv 0) rfl) (qF i (hmR c) (pv 0) (qa (pv 1) qd)) (fun _ _=>rfl)))),?_⟩;ext;show .inl ⟨x,cw,dx,_,.ref n,rfl,e,T.wcl,T.wr,lk_near,?_⟩;ext;show⟨x,dx,_,rfl,e,zg (by decide +kernel),?_⟩;ext;show⟨x,ss,ns,y,j,rfl,b,a,fun H1 g=>?_⟩;show .inl (zq (g _ _ l) (qo (jS (by rw[hw.len];show(yc.mp a).1))) (q H1 g))
theorem ok_nin(F:Fun K "names_in" "Web.names_in" js f fd)(T:Txt K mg cc cw)(D:DefOk P w K mg base CX0 1 "has_bit" ["bits","number"] spBit):FnOk P w K mg base CX0 2 f fd ["self","bits"] (spNIn cw):=by
 show F.ok uR fun _ _ _ _ H vs Q E t h=>?_
 .obtain⟨x,ss,ns,b,rfl,⟨dx,d,ol,n,u,B,s,I,hw⟩,q⟩:=h;have C:=jY t;show⟨_,(qe (qm (jM (sc:=qh js) (XN:=["self","bits"]) ["name","bits","self"] 1 [1,0] rfl rfl rfl (by decide +kernel) rfl (by decide +kernel)
  (qS (K:=K) rfl (qB (K:=K) rfl (pv 0) rfl)) (fun _ _ _ _=>(qu (i:=0) (show(["name","bits","self"]:List Str).Nodup by decide +kernel) rfl (yL rfl))) jp
  (fun _ _ _ _=>(jC (qW (qt D (hmR t) qC (qa (pv 1) (qa (qp (qr (K:=K) rfl C) (qB (K:=K) rfl (pv 2) rfl) (pv 0) (fun _ _=>rfl)) qd))))))
  (fun _ _ _ _=>(pv 0))))),?_⟩
  ext;show .inl ⟨x,cw,dx,_,.ref ol,rfl,u,T.wcl,T.wo,qa3,?_⟩;show .inl ⟨⟨_,SqL.of s⟩,je (K:=K) (fun i ys H'=>H'=H/\ys=(inB (ss.take i) 0 b).map V.str) ⟨rfl,by simp[inB]⟩ (fun i ys H' _ e=>by rw[e.1];show SqL.of s) (fun i y ys H' p e=>?_) fun ys H' e=>?_⟩
  .obtain⟨rfl,rfl⟩:=e;have hi:i<ss.length:=by simpa using(yc.mp p).1
   have c:ss[i]?=some ss[i]:=yb hi;generalize ss[i]=r at c;have z:y=.str r:=by rw[yd,c] at p;cases p;rfl
   subst z;obtain⟨j,G,A,v⟩:=jW (i:=0) (ye c);rw[xQ] at v;have o:j=i:=qy hw.nd A c;subst o;have g:ss.take (j+1)=ss.take j++[r]:=by rw[yT,c];rfl
   have a:(ss.take j).length=j:=by rw[yX];omega
   ext;show .inl ⟨x,cw,dx,_,.ref d,rfl,u,T.wcl,T.wn,jA,?_⟩;ext;show .inr ⟨d,.int j,rfl,?_,?_⟩
   .have:=DGet.k (k:=Sum.inr r) B;rw[v] at this;show this
   ext;show⟨_,_,rfl,by omega,?_⟩;rw[qb1];ext
   have few:((inB (ss.take j) 0 b).map V.str).length<sizeLine:=by
    rw[ya];show qi (yi (qbx _ _ _) (by rw[a];have:=hw.few;omega))
   show qP (fun hb=>?_) fun hb=>?_
   .ext;show⟨few,rfl,?_⟩;rw[g,qa4,a,xQ,yG hb];simp
   .show⟨rfl,?_⟩;rw[g,qa4,a,xQ,yD hb];simp
  .obtain⟨rfl,rfl⟩:=e;have m:ss.take (ss.map V.str).length=ss:=by rw[ya,yW]
   rw[m];show⟨?_,fun l hl=>q l hl⟩;rw[ya];show Yh (qi (yi (qbx _ _ _) (by have:=hw.few;omega)))
theorem ok_bs(F:Fun K "beside" "Web.beside" zm f fd)(T:Txt K mg cc cw)(g:MethOk P w K mg base CX0 5 cw "bits_beside" ["self","place"] (spBB cw))(l:MethOk P w K mg base CX0 2 cw "names_in" ["self","bits"] (spNIn cw)):FnOk P w K mg base CX0 6 f fd ["self","place"] (spBs cw):=by
 show F.ok u6 fun _ _ _ _ H vs Q E b h=>?_
 .obtain⟨x,ss,ns,y,j,rfl,a,i,q⟩:=h;obtain⟨dx,d,ol,n,c,_⟩:=id a;show⟨_,(qe (qm (qF l (hmR b) (pv 0) (qa (qF g (hmR b) (pv 0) (qa (pv 1) qd)) qd)))),?_⟩;ext;show⟨x,dx,_,rfl,c,zg (by decide +kernel),?_⟩;ext;show⟨x,dx,_,rfl,c,zg (by decide +kernel),?_⟩;ext;show⟨x,ss,ns,y,j,rfl,a,i,fun H1 e=>?_⟩;ext;show⟨x,ss,ns,_,rfl,a.same e,q H1 e⟩
theorem ok_tied(F:Fun K "tied" "Web.tied" qad f fd)(T:Txt K mg cc cw)(g:MethOk P w K mg base CX0 5 cw "bits_beside" ["self","place"] (spBB cw))(l:MethOk P w K mg base CX0 4 cw "number_of" ["self","place"] (spNum cw))
  (r:DefOk P w K mg base CX0 1 "has_bit" ["bits","number"] spBit):FnOk P w K mg base CX0 6 f fd ["self","one","other"] (spTied cw):=by
 show F.ok uM fun _ _ _ _ H vs Q E b h=>?_
 .obtain⟨x,ss,ns,y,z,j,i,rfl,a,o,m,q⟩:=h;obtain⟨dx,d,ol,n,e,_⟩:=id a;show⟨_,(qc (qk (i:=3) uM.nd rfl (yL rfl) (qF g (hmR b) (pv 0) (qa (pv 1) qd)))
 (qe (qm (qt r (hmR b) qC (qa (pv 3) (qa (qF l (hmR b) (pv 0) (qa (pv 2) qd)) qd)))))),?_⟩
  ext;show⟨x,dx,_,rfl,e,zg (by decide +kernel),?_⟩;ext;show⟨x,ss,ns,y,j,rfl,a,o,fun H1 c=>?_⟩;ext;show⟨x,dx,_,rfl,c _ _ e,zg (by decide +kernel),?_⟩;ext;show⟨x,ss,ns,z,i,rfl,a.same c,m,fun H2 p=>?_⟩;ext;show⟨_,_,rfl,by omega,?_⟩;rw[qb1];show q H2 (c.trans p)
theorem ok_pls(F:Fun K "places" "Web.places" zl f fd)(T:Txt K mg cc cw):FnOk P w K mg base CX0 1 f fd ["self"] (spPls cw):=by
 show F.ok u5 fun _ _ _ _ H vs Q E g h=>?_
 .obtain⟨x,ss,ns,rfl,⟨dx,d,ol,n,b,c,a,e,hw⟩,q⟩:=h;show⟨_,(qe (qm (zw (qbs (K:=K) rfl rfl) rfl T.b_list xI (qa (qB (K:=K) rfl (pv 0) rfl) qd)))),?_⟩;ext;show .inl ⟨x,cw,dx,_,.ref ol,rfl,b,T.wcl,T.wo,qa3,?_⟩;ext;show .inl ⟨ol,_,rfl,.inl (SqL.of a),q⟩
inductive Rch(ns:List Nat)(i:Nat):Nat->Prop
 | zero:Rch ns i i
 | step {a b:Nat} (h:Rch ns i a) (t:(ns.getD a 0).testBit b=true):Rch ns i b
inductive spPc(vs:List V)(H:Hp)(Q:VK)(E:XK):Prop|mk (n:Addr) (ns:List Nat) (i:Nat) (_:vs=[.ref n,.int i]) (_:H n=some (.lst (zt ns))) (_:i<ns.length) (_:ns.length<=14) (_:(∀ a,ns.getD a 0<2 ^ ns.length)) (_:∀(b:Nat) (H':Hp),L2.Same H H'->(∀ c,b.testBit c=true↔Rch ns i c)->Q (.int b) H')
noncomputable def isRep(ns:List Nat)(k:Nat):Bool:=@decide (∀ j,j<k->¬ Rch ns j k) (Classical.propDecidable _)
noncomputable def reps(ns:List Nat)(n:Nat):List Nat:=(List.range n).filter (isRep ns)
open Classical in
noncomputable def compS(ss:List Str)(ns:List Nat)(k:Nat):List Str:=ss.filter fun s=>decide (Rch ns k (ss.idxOf s))
theorem qby(b:ss.Nodup)(h:ss[i]?=some s):ss.idxOf s=i:=by
 have a:s∈ss:=ye h;have hl:ss.idxOf s<ss.length:=yR a;show qy b (by rw[yb hl,Ym]) h
theorem qae(g:ss.Nodup)(b:Nat):inB ss 0 b=ss.filter fun s=>b.testBit (ss.idxOf s):=by
 have f:∀ k,k<=ss.length->inB (ss.take k) 0 b=(ss.take k).filter fun s=>b.testBit (ss.idxOf s):=fun k=>by
  induction k with
  | zero=>intro _;simp[inB]
  | succ k ih =>
   intro i;have a:ss[k]?=some ss[k]:=yb (by omega);generalize ss[k]=h at a;have e:ss.take (k+1)=ss.take k++[h]:=by rw[yT,a];rfl
   have c:(ss.take k).length=k:=by rw[yX];omega
   rw[e,qa4,Yw,ih (by omega),c,xQ]
   congr 1
   rw[yZ,xq,qby g a]
 have:=f ss.length (yh _)
 rwa[yW] at this
def PcAt(H H':Hp)(l:Addr)(a:Addr)(ps:List Str):Prop:=H a=none/\a≠l/\H' a=some (.lst (ps.map V.str))
inductive spPcs(cw:Addr)(vs:List V)(H:Hp)(Q:VK)(E:XK):Prop|mk (x:Addr) (ss:List Str) (ns:List Nat) (_:vs=[.ref x]) (_:WebAt cw H x ss ns) (_:∀(l:Addr) (ls:List Addr) (H':Hp),L2.Same H H'->H l=none->H' l=some (.lst (ls.map V.ref))->All2 (PcAt H H' l) ls ((reps ns ss.length).map (compS ss ns))->Q (.ref l) H')
theorem K9:FnScope ["self","ties","one","other"] ["self"] (qh qaf):=fS
theorem qcZ(a:ss.Nodup){b:Nat}(h:s∈inB ss 0 b):s∈ss/\b.testBit (ss.idxOf s)=true:=by
 rw[qae a] at h;show yp.mp h
noncomputable def qeK(ss:List Str)(ns:List Nat)(i:Nat):List (Str×Str):=((inB ss 0 (ns.getD i 0)).filter fun o=>decide (i<ss.idxOf o)).map fun o=>(ss.getD i "",o)
noncomputable def qE(ss:List Str)(ns:List Nat)(i:Nat):List (Str×Str):=(List.range i).flatMap (qeK ss ns)
def PrAt(H H':Hp)(l:Addr)(t:Addr)(ab:Str×Str):Prop:=H t=none/\t≠l/\H' t=some (.tup [.str ab.1,.str ab.2])
theorem PrAt.same{l t:Addr}(h:PrAt H H1 l t ab)(s:L2.Same H1 H2):PrAt H H2 l t ab:=⟨h.1,h.2.1,s _ _ h.2.2⟩
inductive spTs(cw:Addr)(vs:List V)(H:Hp)(Q:VK)(E:XK):Prop|mk (x:Addr) (ss:List Str) (ns:List Nat) (_:vs=[.ref x]) (_:WebAt cw H x ss ns) (_:∀(l:Addr) (ts:List Addr) (H':Hp),L2.Same H H'->H l=none->H' l=some (.lst (ts.map V.ref))->ts.length<=196->All2 (PrAt H H' l) ts (qE ss ns ss.length)->Q (.ref l) H')
theorem ok_ts(F:Fun K "ties" "Web.ties" qaf f fd)(T:Txt K mg cc cw)(um:MethOk P w K mg base CX0 6 cw "beside" ["self","place"] (spBs cw)):FnOk P w K mg base CX0 7 f fd ["self"] (spTs cw):=by
 show F.ok K9 fun _ _ _ _ H vs Q E hr h=>?_
 .obtain⟨x,ss,ns,rfl,hW,q⟩:=h;have hu:=jY hr;obtain⟨dx,d,ol,n,hx,hd,ho,hn,hw⟩:=id hW;have few:=hw.few
  have Y:∀(H1:Hp) (y:Str) (i:Nat),L2.Same H H1->ss[i]?=some y->DGet H1 d (.str y) (some (.int (i:Nat))):=fun H1 y i R D=>by
   obtain⟨j,hj,gj,vj⟩:=jW (i:=0) (ye D);rw[xQ] at vj;have af:j=i:=qy hw.nd gj D;subst af;have:=DGet.k (k:=Sum.inr y) (R _ _ hd);rw[vj] at this;show this
  show⟨_,(qc (qk (i:=1) K9.nd rfl (yL rfl) (qG qd))
 (qc (qZ yP rfl (qS (K:=K) rfl (qB (K:=K) rfl (pv 0) rfl)) (qu (i:=2) K9.nd rfl (yL rfl))
 (qe (qZ yP rfl (qS (K:=K) rfl (qF um (hmR hr) (pv 0) (qa (pv 2) qd))) (qu (i:=3) K9.nd rfl (yL rfl))
 (qe (qM (qj qdP (qp (qr (K:=K) rfl hu) (qB (K:=K) rfl (pv 0) rfl) (pv 2) (fun _ _=>rfl)) (qp (qr (K:=K) rfl hu) (qB (K:=K) rfl (pv 0) rfl) (pv 3) (fun _ _=>rfl)) (qA _)) (qe (qL (qaW (K:=K) rfl yK Yc Yd qQ (pv 1) (qa (jK (qa (pv 2) (qa (pv 3) qd))) qd)))) qx)))))
 (qe (qm (pv 1))))),?_⟩
  ext;show⟨by decide,fun l hl=>?_⟩;have s0:=qI (Sr H) (o:=.lst []) hl;ext;show .inl ⟨x,cw,dx,_,.ref ol,rfl,s0 _ _ hx,T.wcl,T.wo,qa3,?_⟩;show .inl ⟨⟨_,SqL.of (s0 _ _ ho)⟩,qN (K:=K) (fun i J H'=>∃(ts:List Addr) (x2 U:Option V),J=[some (.ref x),some (.ref l),x2,U]/\L2.Same H H'/\H' l=some (.lst (ts.map V.ref))/\ts.length<=i*14/\All2 (PrAt H H' l) ts (qE ss ns i))
   ⟨[],none,none,rfl,s0,qb,by simp,All2.nil⟩ (fun i J H' _ B=>by obtain⟨_,_,_,_,z,_⟩:=B;show SqL.of (z _ _ ho)) (fun i y J H1 hy B=>?_) fun J H1 B=>?_⟩
  .obtain⟨ts,x2,U,rfl,R,G,s,c⟩:=B;have hi:i<ss.length:=by simpa using(yc.mp hy).1
   have D:ss[i]?=some ss[i]:=yb hi;generalize ss[i]=p at D;have ey:y=.str p:=by rw[yd,D] at hy;cases hy;rfl
   subst ey;have al:=hw.nm p (ye D);ext;show⟨x,dx,_,rfl,R _ _ hx,zg (by decide +kernel),?_⟩;ext;show⟨x,ss,ns,p,i,rfl,hW.same R,D,fun H2 s2 b hb=>?_⟩;have s3:=R.trans s2;have s4:=qI s3 (o:=.lst ((inB ss 0 (ns.getD i 0)).map V.str)) hb;have S:=qI s2 (o:=.lst ((inB ss 0 (ns.getD i 0)).map V.str)) hb;have eb:upd H2 b (.lst ((inB ss 0 (ns.getD i 0)).map V.str)) b=some (.lst ((inB ss 0 (ns.getD i 0)).map V.str)):=qb;have ah:b≠l:=fun e=>by rw[e,s2 _ _ G] at hb;cases hb
   have aj:H b=none:=s3.free hb;show .inl ⟨⟨_,SqL.of qb⟩,?_⟩;generalize upd H2 b (.lst ((inB ss 0 (ns.getD i 0)).map V.str))=H3 at s4 S eb ⊢;have L:∀ o,o∈inB ss 0 (ns.getD i 0)->o∈ss:=fun o h=>(qcZ hw.nd h).1;have ad:=qbx (ns.getD i 0) ss 0;have r:qeK ss ns i=((inB ss 0 (ns.getD i 0)).filter fun o=>decide (i<ss.idxOf o)).map fun o=>(ss.getD i "",o):=rfl;have aa:ss.getD i ""=p:=by simp[List.getD,D]
   rw[aa] at r;generalize ak:inB ss 0 (ns.getD i 0)=bs at eb L ad r ⊢;show qN (K:=K) (fun k J H'=>∃(us:List Addr) (U:Option V),J=[some (.ref x),some (.ref l),some (.str p),U]/\L2.Same H H'/\H' b=some (.lst (bs.map V.str))/\H' l=some (.lst (us.map V.ref))/\us.length<=i*14+k/\All2 (PrAt H H' l) us (qE ss ns i++((bs.take k).filter fun o=>decide (i<ss.idxOf o)).map fun o=>(p,o)))
    ⟨ts,_,rfl,s4,eb,S _ _ G,s,by simpa using c.mono fun _ _ h=>h.same S⟩ (fun k J H' _ B=>by obtain⟨_,_,_,_,z,_⟩:=B;show SqL.of z) (fun k u J Z N B=>?_) fun J Z B=>?_
   .obtain⟨us,U,rfl,I,C,g,v,a⟩:=B;have hk:k<bs.length:=by simpa using(yc.mp N).1
    have gk:bs[k]?=some bs[k]:=yb hk;generalize bs[k]=m at gk;have eu:u=.str m:=by rw[yd,gk] at N;cases N;rfl
    subst eu;have ag:=L m (ye gk);have ae:=yR ag;have ac:ss[ss.idxOf m]?=some m:=by rw[yb ae,Ym]
    have X:bs.take (k+1)=bs.take k++[m]:=by rw[yT,gk];rfl
    ext;show .inl ⟨x,cw,dx,_,.ref d,rfl,I _ _ hx,T.wcl,T.wn,jA,?_⟩;ext;show .inr ⟨d,.int i,rfl,Y Z p i I D,?_⟩;ext;show .inl ⟨x,cw,dx,_,.ref d,rfl,I _ _ hx,T.wcl,T.wn,jA,?_⟩;ext;show .inr ⟨d,.int (ss.idxOf m:Nat),rfl,Y Z m _ I ac,?_⟩;ext;show qP (fun M=>?_) fun M=>?_
    .have A:i<ss.idxOf m:=by have:=yk M;omega
     ext;show⟨.inl ⟨rfl,_,SqL.of g⟩,?_⟩;ext;show⟨by show 2<=sizeLine;decide,fun t ht=>?_⟩;have O:l≠t:=qK g ht;have ai:b≠t:=qK C ht;have s6:=qI (Sr Z) (o:=.tup [.str p,.str m]) ht;ext;show⟨l,_,_,rfl,rfl,by rw[qf O];show g,by rw[ya];show qi (by have:i*14<=14*14:=Nat.mul_le_mul_right 14 (by omega);omega),?_⟩;show⟨us++[t],_,rfl,qaH (I.trans s6) hl,by rw[qf ah,qf ai];show C,by rw[qb,yF];rfl,by rw[yt];show us.length+1<=_;omega,?_⟩;rw[X,Yw,yF,<- Yk];have W:([m].filter fun o=>decide (i<ss.idxOf o)).map (fun o=>(p,o))=[(p,m)]:=by simp[A]
     rw[W];show All2.snoc (a.mono fun t' ab h=>⟨h.1,h.2.1,?_⟩) ⟨I.free ht,O.symm,?_⟩
     .rw [qf h.2.1];show s6 _ _ h.2.2
     .rw [qf O.symm,qb]
    .have A:¬ i<ss.idxOf m:=fun h=>M (yB (by omega));show⟨us,_,rfl,I,C,g,by omega,?_⟩;have W:([m].filter fun o=>decide (i<ss.idxOf o)).map (fun o=>(p,o))=[]:=by simp[A]
     rw[X,Yw,yF,W,Yj];show a
   .obtain⟨us,U,rfl,I,C,g,v,a⟩:=B;rw[ya,yW] at a;rw[ya] at v;show⟨us,_,_,rfl,I,g,by omega,?_⟩;unfold qE at a ⊢;rw[XJ,xW];have W:[i].flatMap (qeK ss ns)=(bs.filter fun o=>decide (i<ss.idxOf o)).map fun o=>(p,o):=by rw[<- r];simp
    rw[W];show a
  .obtain⟨ts,x2,U,rfl,R,G,s,c⟩:=B;rw[ya] at s c;ext;show q l ts H1 R hl G (by have:ss.length*14<=14*14:=Nat.mul_le_mul_right 14 few;omega) c
def Box(H:Hp)(p:Addr):Prop:=∃ a b c:Int,H p=some (.lst [.int a,.int b,.int c])
def BB(p:Addr)(H H':Hp):Prop:=(∀ b o,b≠p->H b=some o->H' b=some o)/\Box H' p
inductive spTake(vs:List V)(H:Hp)(Q:VK)(E:XK):Prop|mk (p:Addr) (m:Int) (_:vs=[.ref p,.int m]) (_:Box H p) (_:0<m) (_:m<1073741824) (_:∀(r:Int) (H':Hp),0<=r->r<m->BB p H H'->Q (.int r) H')
inductive spCell(K:W.Frag)(vs:List V)(H:Hp)(Q:VK)(E:XK):Prop|mk (a:Addr) (ns:List Int) (k:Int) (_:vs=[.ref a,.int k]) (_:SqL K H a (ns.map V.int)) (_:0<=k) (_:k<1000) (_:∀ i:Int,Q (.int i) H)
inductive spBox(vs:List V)(H:Hp)(Q:VK)(E:XK):Prop|mk (i:Int) (_:vs=[.int i]) (_:∀(p:Addr) (a b c:Int),H p=none->Q (.ref p) (upd H p (.lst [.int a,.int b,.int c])))
noncomputable def NewH(H H':Hp):Hp:=fun a=>match H a with | none=>H' a | some _=>none
theorem zy:∀{l m:List Str},l.Nodup->(∀ x∈l,x∈m)->l.length<=m.length
 | [],_,_,_=>YC _
 | x::r,m,hn,h=>by
  obtain⟨h1,c⟩:=yo.mp hn;have a:=h x yI;have f:=zy (l:=r) (m:=m.erase x) c fun y b=>(kq (fun e=>h1 (by rw[<- e];show b))).mpr (h y (yx _ b));rw[xk a] at f;have:0<m.length:=xw a;simp only[yC];omega
theorem qc0(c:Str)(ss:List Str):inV (.str c) (ss.map V.str)=decide (c∈ss):=by
 unfold inV;rw[List.any_map,YZ,Y9,yU];constructor
 .rintro ⟨y,a,e⟩;have:y=c:=eq_of_beq e;rw[<- this];show a
 .intro h;show⟨c,h,xz c⟩
theorem flat_strs(ss:List Str):(ss.map V.str).all qal=true:=by rw[Kk];show YM.mpr fun _ _=>rfl
inductive spFresh(vs:List V)(H:Hp)(Q:VK)(E:XK):Prop|mk (l:Addr) (ss:List Str) (_:vs=[.ref l]) (_:H l=some (.lst (ss.map V.str))) (_:ss.length<=14) (_:∀(x:Str) (H':Hp),L2.Same H H'->zf x=true->x∉ss->Q (.str x) H')
noncomputable def signs:List Str:=("abcdefghijklmno":Str).cps.toList.map fun c=>⟨#[c]⟩
theorem slice_ix(k n:Nat):Builtin.Str.strSliceIndices none (some (k:Int)) 1 n=List.range (min k n):=by
 unfold Builtin.Str.strSliceIndices sliceRange;simp only[show(1:Int)>0 by decide,XH];rw[yD (show ¬ ((k:Int)<0) by omega)];have a:max 0 (min (k:Int) n)=((min k n:Nat):Int):=by omega
 rw[a];have b:(fun(j:Nat)=>((0:Int)+1*(j:Int)).toNat)=id:=by funext j;show _=j;omega
 rw[b,List.map_id]
 congr 1
 split
 .rw [Int.ediv_one];omega
 .omega
theorem qei(a:Array Nat):∀ m,m<=a.size->(List.range m).filterMap (a[·]?)=a.toList.take m
 | 0,_=>rfl
 | m+1,h=>by
  rw[XJ,List.filterMap_append,qei a m (by omega),yT]
  congr 1
  have e:a[m]?=some a[m]:=xD (by omega);have b:a.toList[m]?=some a[m]:=by rw[Xn];show e
  rw[b,Xz,e];rfl
theorem qaS(z:Str)(k:Nat):(Txt.slice z none (some (k:Int))).cps.toList=z.cps.toList.take k:=by
 unfold Txt.slice;rw[slice_ix];have hz:z.length=z.cps.toList.length:=by simp[Str.length]
 split
 .rename_i h
  rw[List.length_range] at h;have:min k z.length=z.length:=by simpa using h
  rw[Y5 (by omega)]
 .show(List.filterMap _ _).toArray.toList=_;rw[qei z.cps (min k z.length) (k9 _ _)];show z.cps.toList.take (min k z.length)=_;by_cases a:k<=z.length
  .rw [Kp a]
  .rw [Kd (by omega),Y5 (by omega),Y5 (by omega)]
theorem qaJ(a b:Str):(a++b).cps.toList=a.cps.toList++b.cps.toList:=by
 show(a.cps++b.cps).toList=_;show Array.toList_append
theorem qdv:∀{xs:List Str},(∀ x∈xs,x.cps.toList.all sg=true)->(Str.join "" xs).cps.toList.all sg=true
 | [],_=>rfl
 | [x],h=>h x (by simp)
 | x::y::r,h=>by
  have e:Str.join "" (x::y::r)=x++""++Str.join "" (y::r):=rfl;rw[e,qaJ,qaJ,kD,kD,h x (by simp),qdv fun z hz=>h z (yx _ hz)]
  decide +kernel
theorem qfZ{c:Nat}(h:97<=c)(b:c<=122):sg c=true:=by
 have a:∀ i,i<26->sg (97+i)=true:=by decide +kernel
 have:=a (c-97) (by omega)
 rwa[show 97+(c-97)=c by omega] at this
theorem join_len{xs:List Str}(h:∀ x∈xs,x.length=1):(Txt.join "" xs).length=xs.length:=by
 have e:Txt.join "" xs=Str.join "" xs:=Yn.mp (join_plain_closes "" xs);rw[e]
 cases xs with
 | nil=>rfl
 | cons a l =>
  rw[len_join_cons]
  have b:∀ l:List Str,(∀ x∈l,x.length=1)->(l.map (·.length)).sum=l.length:=by
   intro l
   induction l with
   | nil=>intro _;rfl
   | cons a l ih =>
    intro h;rw[YH,List.sum_cons,h a yI,ih fun x c=>h x (yx _ c),yC];omega
  have z:("":Str).length=0:=by decide +kernel
  rw[b _ h,z];omega
theorem sum_ones{xs:List Str}(h:∀ x∈xs,x.length=1):(xs.map (·.length)).sum=xs.length:=by
 induction xs with
 | nil=>rfl
 | cons a l ih =>
  rw[YH,List.sum_cons,h a yI,ih fun x b=>h x (yx _ b),yC];omega
def Signs(p:Addr)(H:Hp)(i:Nat)(ys:List V)(H':Hp):Prop:=BB p H H'/\∃ xs:List Str,ys=xs.map V.str/\xs.length=i/\∀ x∈xs,x.length=1/\x.cps.toList.all sg=true
noncomputable def L26:Str:="abcdefghijklmnopqrstuvwxyz"
theorem qe6{i:Int}(b:0<=i)(h1:i<26):atI L26.cps.toList i=some (97+i.toNat):=by
 obtain⟨n,rfl⟩:=Int.eq_ofNat_of_zero_le b;have a:∀ n,n<26->L26.cps.toList[n]?=some (97+n):=by decide +kernel
 rw[Yb];show qo (a n (by omega))
theorem qa5{x:Str}{l:List Nat}(e:x.cps.toList=l)(h1:1<=l.length)(a:l.length<=6)(h:l.all sg=true):zf x=true:=by
 have hl:x.length=l.length:=by rw[<- e];simp[Str.length]
 unfold zf;rw[yG ⟨by omega,by omega⟩,e];show h
theorem nodup_key(h:∀(i j:Nat) (s:Str),ss[i]?=some s->ss[j]?=some s->i=j):ss.Nodup:=by
 show Yv.mpr fun i j hi b a e=>?_;have:=h i j ss[j] (by rw[yb hi,e]) (yb b);omega
def NL(p:Addr)(H':Hp)(l:Addr)(ss:List Str):Prop:=H' l=some (.lst (ss.map V.str))/\l≠p
structure NOk(ss:List Str):Prop where
 few:ss.length<=14
 nd:ss.Nodup
 nm:∀ s∈ss,zf s=true
def PrT(p:Addr)(H:Hp)(t:Addr)(ab:Str×Str):Prop:=t≠p/\H t=some (.tup [.str ab.1,.str ab.2])
def TL(p:Addr)(H:Hp)(l:Addr)(ts:List Addr)(tps:List (Str×Str)):Prop:=H l=some (.lst (ts.map V.ref))/\l≠p/\All2 (PrT p H) ts tps
structure TOk(ss:List Str)(tps:List (Str×Str)):Prop where
 few:tps.length<=30
 ok:∀ ab∈tps,∃ j k:Nat,j<k/\ss[j]?=some ab.1/\ss[k]?=some ab.2
 nd:tps.Nodup
inductive spTies(vs:List V)(H:Hp)(Q:VK)(E:XK):Prop|mk (p n:Addr) (ss:List Str) (_:vs=[.ref p,.ref n]) (_:Box H p) (_:NL p H n ss) (_:NOk ss) (_:∀(l:Addr) (ts:List Addr) (tps:List (Str×Str)) (H':Hp),BB p H H'->H l=none->TL p H' l ts tps->TOk ss tps->Q (.ref l) H')
def Shuf(tps e:List (Str×Str)):Prop:=∃ c,e.Perm c/\All2 (fun a b=>b=a\/b=(a.2,a.1)) tps c
inductive spShuf(vs:List V)(H:Hp)(Q:VK)(E:XK):Prop|mk (p l:Addr) (ts:List Addr) (tps:List (Str×Str)) (_:vs=[.ref p,.ref l]) (_:Box H p) (_:TL p H l ts tps) (_:tps.length<=30) (_:∀(l':Addr) (us:List Addr) (ups:List (Str×Str)) (H':Hp),BB p H H'->H l'=none->TL p H' l' us ups->Shuf tps ups->Q (.ref l') H')
theorem all_true(n:Nat):(List.range n).all (fun _=>true)=true:=by simp
theorem qdw{a b:Addr}{s' t':Str}(hb:H b=some (.tup [.str s',.str t']))(g:H a=some (.tup [.str s,.str t])):EqD K H 1 (.ref b) (.ref a) (decide ((s',t')=(s,t))):=by
 by_cases e:b=a
 .subst e;rw[hb] at g;cases g;rw[yB rfl];show .self
 .have z:=EqT.tup (K:=K) (H:=H) (n:=0) (e:=fun j=>if j=0 then eqV (.str s') (.str s) else eqV (.str t') (.str t)) (SqT.of hb) (SqT.of g) fun j x y c f=>by
   match j,c,f with
   | 0,c,f=>cases c;cases f;show .flat rfl rfl
   | 1,c,f=>cases c;cases f;show .flat rfl rfl
  have h:((List.range (min [V.str s',V.str t'].length [V.str s,V.str t].length)).all (fun j=>if j=0 then eqV (.str s') (.str s) else eqV (.str t') (.str t))&&[V.str s',V.str t'].length==[V.str s,V.str t].length)=decide ((s',t')=(s,t)):=by
   show((s'==s)&&((t'==t)&&true)&&true)=_;rw[YZ];simp
  rw[h] at z;show .deep z e
noncomputable def qdH(H:Hp)(z:V):Option (Str×Str):=match z with
 | .ref t=>(match H t with
  | some (.tup [.str a,.str b])=>some (a,b)
  | _=>none)
 | _=>none
theorem qb4{t:Addr}(h:H t=some (.tup [.str a,.str b])):qdH H (.ref t)=some (a,b):=by
 unfold qdH;dsimp only;rw[h]
theorem any_in(h:All2 (fun t ab=>H t=some (.tup [.str ab.1,.str ab.2])) ts tps)(st:Str×Str):((ts.map V.ref).any fun z=>decide (qdH H z=some st))=decide (st∈tps):=by
 rw[YZ,Y9,yU];constructor
 .rintro ⟨z,hz,e⟩;obtain⟨t,g,rfl⟩:=yQ.mp hz;obtain⟨ab,b,r⟩:=h.mem g;have e:=yk e;rw[qb4 r] at e;cases e;show b
 .intro f;obtain⟨k,c,e⟩:=kG f;have a:k<ts.length:=by rw[h.len];show c
  have r:=h.at_ k ts[k] tps[k] (yb a) (yb c);show⟨.ref ts[k],yQ.mpr ⟨_,xi a,rfl⟩,yB ?_⟩;rw[qb4 r,e]
theorem pl_in{l a:Addr}{Q:VK}(h:PL H l ts tps)(f:H a=some (.tup [.str s,.str t]))(q:Q (.bl (decide ((s,t)∈tps))) H):qec K false (.ref a) (.ref l) H Q:=by
 show .inr (.inr ⟨l,ts.map V.ref,fun z=>decide (qdH H z=some (s,t)),1,rfl,SqL.of h.1,by decide,fun z hz=>?_,?_⟩)
 .obtain⟨b,hb,rfl⟩:=yQ.mp hz;obtain⟨ab,_,r⟩:=h.2.mem hb;have e:=qdw (K:=K) r f
  have c:decide (qdH H (.ref b)=some (s,t))=decide ((ab.1,ab.2)=(s,t)):=by
   rw[qb4 r];apply Yq.mpr;rw[Option.some.injEq]
  show EqD K H 1 (.ref b) (.ref a) (decide (qdH H (.ref b)=some (s,t)));rw[c];show e
 .rw [any_in h.2];show q
theorem str_eq_list{y:V}(a:(ss.map V.str)[i]?=some y):∃ s,ss[i]?=some s/\y=.str s:=by
 rw[yd] at a
 cases h:ss[i]? with
 | none=>rw[h] at a;cases a
 | some s=>rw[h] at a;cases a;show⟨s,rfl,rfl⟩
def Adj(ss:List Str)(ns:List Nat)(tps:List (Str×Str)):Prop:=∀ a b s t,ss[a]?=some s->ss[b]?=some t->((ns.getD a 0).testBit b=true↔((s,t)∈tps\/(t,s)∈tps))
theorem qej{a b:Addr}(c:H a=some (.lst xs))(hb:H b=some (.lst ys))(hl:xs.length=ys.length)(h:∀(j:Nat) x y,xs[j]?=some x->ys[j]?=some y->EqD K H n x y true):EqT K H (n+1) a b true:=by
 have z:=EqT.lst (K:=K) (H:=H) (n:=n) (e:=fun _=>true) (SqL.of c) (SqL.of hb) hl h;rw[all_true] at z;show z
theorem qe7{l r:Addr}(h:PL H l ts tps)(g:PL H r us tps):EqT K H 2 l r true:=by
 show qej h.1 g.1 (by rw[ya,ya,h.2.len,g.2.len]) fun j x y c f=>?_;rw[yd] at c f
 cases a:ts[j]? with
 | none=>rw[a] at c;cases c
 | some t =>
  cases b:us[j]? with
  | none=>rw[b] at f;cases f
  | some u =>
   rw[a] at c;rw[b] at f;cases c;cases f;have i:j<tps.length:=by rw[<- h.2.len];show(yc.mp a).1
   have e:=qdw (K:=K) (h.2.at_ j t tps[j] a (yb i)) (g.2.at_ j u tps[j] b (yb i));rw[yB rfl] at e;show e
theorem uo:FnScope ["web","thing","paired","tie"] ["web","thing"] (qh zK):=fS
theorem uX:FnScope ["self","thing"] ["self","thing"] (qh jZ):=fS
noncomputable def qb5(a:List Str):List (Key×V):=a.map fun s=>(.inr s,.bl true)
theorem zW(y:Str):∀ a:List Str,(j7 (qb5 a) (.inr y:Key)).isSome=decide (y∈a)
 | []=>rfl
 | s::r=>by
  by_cases e:s=y
  .subst e;show(j7 (((.inr s:Key),V.bl true)::qb5 r) _).isSome=_;rw[yB (by simp)];simp[j7]
  .show(j7 (((.inr s:Key),V.bl true)::qb5 r) _).isSome=_;rw[q8 (p:=((.inr s:Key),V.bl true)) (fun z=>e (xJ z)),zW y r];apply Yq.mpr;simp[Yi e]
theorem qb6{a:List Str}(h:y∉a):zC (qb5 a) (.inr y:Key) (.bl true)=qb5 (a++[y]):=by
 have:j7 (qb5 a) (.inr y:Key)=none:=by
  have:=zW y a;rw[yl h] at this;show Option.isNone_iff_eq_none.mp (by rw[<- Option.not_isSome,this];rfl)
 rw[qa0 _ this];unfold qb5;rw[yF];rfl
noncomputable def qw(qs:List (Str×Str)):List Str:=qs.flatMap fun q=>[q.1,q.2]
noncomputable def prK(qs:List (Str×Str)):List (Key×V):=qs.flatMap fun q=>[(.inr q.1,.str q.2),(.inr q.2,.str q.1)]
noncomputable def pt:List (Str×Str)->Str->Option Str
 | [],_=>none
 | q::r,s=>if q.1=s then some q.2 else if q.2=s then some q.1 else pt r s
theorem jO(s:Str):∀ qs,j7 (prK qs) (.inr s:Key)=(pt qs s).map V.str
 | []=>rfl
 | q::r=>by
  show j7 (((.inr q.1:Key),V.str q.2)::((.inr q.2:Key),V.str q.1)::prK r) _=(pt (q::r) s).map V.str;unfold pt;by_cases h1:q.1=s
  .rw [jg (p:=((.inr q.1:Key),V.str q.2)) (congrArg Sum.inr h1),yG h1];rfl
  .rw [q8 (p:=((.inr q.1:Key),V.str q.2)) (fun z=>h1 (xJ z)),yD h1];by_cases a:q.2=s
   .rw [jg (p:=((.inr q.2:Key),V.str q.1)) (congrArg Sum.inr a),yG a];rfl
   .rw [q8 (p:=((.inr q.2:Key),V.str q.1)) (fun z=>a (xJ z)),yD a,jO s r]
theorem pt_none:∀{qs:List (Str×Str)},pt qs s=none↔s∉qw qs
 | []=>by simp[pt,qw]
 | q::r=>by
  have e:qw (q::r)=q.1::q.2::qw r:=rfl;rw[e];unfold pt;by_cases h1:q.1=s
  .rw [yG h1];simp[h1]
  .rw [yD h1];by_cases a:q.2=s
   .rw [yG a];simp[a]
   .rw [yD a,pt_none];simp only[yv,Kx];show⟨fun z=>⟨Yi h1,Yi a,z⟩,fun z=>z.2.2⟩
structure PGo(ss:List Str)(tps qs:List (Str×Str)):Prop where
 inn:∀ q∈qs,(q∈tps\/(q.2,q.1)∈tps)/\q.1∈ss/\q.2∈ss/\q.1≠q.2
 nd:(qw qs).Nodup
 few:qs.length<=30
theorem zL(qs:List (Str×Str)):(qw qs).length=2*qs.length:=by
 induction qs with
 | nil=>rfl
 | cons q r ih=>show(q.1::q.2::qw r).length=_;simp only[yC];omega
theorem zn(qs:List (Str×Str))(q:Str×Str):qw (qs++[q])=qw qs++[q.1,q.2]:=by
 unfold qw;rw[xW];rfl
theorem PGo.new(g:PGo ss tps qs)(h:qs[i]?=some ab):qs.take (i+1)=qs.take i++[ab]/\(qw (qs.take i++[ab])).Nodup/\ab.1∉qw (qs.take i)/\ab.2∉qw (qs.take i):=by
 have b:qs.take (i+1)=qs.take i++[ab]:=by rw[yT,h];rfl
 have a:(qw (qs.take i++[ab])).Nodup:=by
  rw[<- b];have:qw qs=qw (qs.take (i+1))++qw (qs.drop (i+1)):=by unfold qw;rw[<- xW,List.take_append_drop]
  have f:=g.nd;rw[this] at f;show(Yg.mp f).1
 have c:=a;rw[zn] at c;have e:=(Yg.mp c).2.2;show⟨b,a,fun z=>e _ z ab.1 (by simp) rfl,fun z=>e _ z ab.2 (by simp) rfl⟩
inductive spHt(cw:Addr)(vs:List V)(H:Hp)(Q:VK)(E:XK):Prop|mk (x t:Addr) (ss:List Str) (ns:List Nat) (tps:List (Str×Str)) (ab:Str×Str) (_:vs=[.ref x,.ref t]) (_:WebAt cw H x ss ns) (_:Adj ss ns tps) (_:H t=some (.tup [.str ab.1,.str ab.2])) (_:(ab∈tps\/(ab.2,ab.1)∈tps)) (_:ab.1∈ss) (_:ab.2∈ss) (_:ab.1≠ab.2) (_:∀ H',L2.Same H H'->Q (.bl true) H')
inductive spAp(cw:Addr)(vs:List V)(H:Hp)(Q:VK)(E:XK):Prop|mk (x l:Addr) (ss:List Str) (ns:List Nat) (us:List Addr) (tps qs:List (Str×Str)) (_:vs=[.ref x,.ref l]) (_:WebAt cw H x ss ns) (_:Adj ss ns tps) (_:PL H l us qs) (_:PGo ss tps qs) (_:∀ H',L2.Same H H'->Q (.bl true) H')
theorem ok_ht(F:Fun K "has_tie" "Web.has_tie" jZ f fd)(T:Txt K mg cc cw)(y:DefOk P w K mg base CX0 3 "are_two_places" ["numbers","thing"] spTwo)(z:MethOk P w K mg base CX0 6 cw "tied" ["self","one","other"] (spTied cw)):FnOk P w K mg base CX0 7 f fd ["self","thing"] (spHt cw):=by
 show F.ok uX fun _ _ _ _ H vs Q E l h=>?_
 .obtain⟨x,t,ss,ns,tps,ab,rfl,r,A,n,c,m1,m2,g,q⟩:=h;have s:=jY l;obtain⟨u,m,ol,G,hb,e,C,B,hw⟩:=id r;show⟨_,(qe (qm (qbF (qt y (hmR l) qC (qa (qB (K:=K) rfl (pv 0) rfl) (qa (pv 1) qd))) (qbE (qF z (hmR l) (pv 0) (qa (qp (qr (K:=K) rfl s) (pv 1) qg (fun _ _=>rfl)) (qa (qp (qr (K:=K) rfl s) (pv 1) qg (fun _ _=>rfl)) qd))))))),?_⟩;ext;show .inl ⟨x,cw,u,_,.ref m,rfl,hb,T.wcl,T.wn,jA,?_⟩;ext;show⟨m,t,ss,ab.1,ab.2,rfl,e,n,hw.nm _ m1,hw.nm _ m2,m1,m2,g,fun H1 b=>?_⟩;show⟨true,rfl,zE ?_⟩;have a:=b _ _ n;ext;show⟨x,u,_,rfl,b _ _ hb,zg (by decide +kernel),?_⟩;ext;show .inl (qap a (v:=.str ab.1) (qo (j:=0) rfl) ?_);ext;show .inl (qap a (v:=.str ab.2) (qo (j:=1) rfl) ?_);ext;obtain⟨j,p⟩:=yf m1;obtain⟨i,o⟩:=yf m2;show⟨x,ss,ns,ab.1,ab.2,j,i,rfl,r.same b,p,o,fun H2 D=>?_⟩;rw[(A j i ab.1 ab.2 p o).mpr c];show q H2 (b.trans D)
theorem ok_ap(F:Fun K "are_pairs" "are_pairs" zK f fd)(T:Txt K mg cc cw)(uf:MethOk P w K mg base CX0 7 cw "has_tie" ["self","thing"] (spHt cw)):FnOk P w K mg base CX0 8 f fd ["web","thing"] (spAp cw):=by
 show F.ok uo fun _ _ _ _ H vs Q E X h=>?_
 .obtain⟨x,l,ss,ns,us,tps,qs,rfl,W,hA,⟨hl,r⟩,g,q⟩:=h;have e:=jY X;obtain⟨wx,dd,ol,nn,hb,_⟩:=id W;have few:=g.few;have N:=r.len;show⟨_,(qc (qM (qX (qW (qv (qaX (K:=K) rfl) rfl T.b_isinstance YL (qa (pv 1) (qa (jx (v:=.ty "list") rfl T.b_list xI rfl) qd))))) (qe (qm jl)) qx)
 (qc (qk (i:=2) uo.nd rfl (yL rfl) jQ)
 (qc (qZ yP rfl (qS (K:=K) rfl (pv 1)) (qu (i:=3) uo.nd rfl (yL rfl))
 (qc (qM (PW.pt (qak (qX (qW (qF uf (hmR X) (pv 0) (qa (pv 3) qd)))) (qak (qj (zr (K:=K) rfl e) (qp (qr (K:=K) rfl e) (pv 3) qg (fun _ _=>rfl)) (pv 2) (by with_unfolding_all rfl)) (zO (qj (zr (K:=K) rfl e) (qp (qr (K:=K) rfl e) (pv 3) qg (fun _ _=>rfl)) (pv 2) (by with_unfolding_all rfl)))))) (qe (qm jl)) qx)
 (qc (jJ jl (jI (pv 2) (qp (qr (K:=K) rfl e) (pv 3) qg (fun _ _=>rfl)) (jL e)))
 (qe (jJ jl (jI (pv 2) (qp (qr (K:=K) rfl e) (pv 3) qg (fun _ _=>rfl)) (jL e)))))))
 (qe (qm jl))))),?_⟩
  ext;show qbY (.inl (.lst hl)) rfl (zV K "list" (by simp) "list" (by simp)) ?_;ext;show yq ?_;ext;intro d C;have O:=qI (Sr H) (o:=.dK []) C;have U:upd H d (.dK []) d=some (.dK (qb5 [])):=qb;generalize upd H d (.dK [])=H1 at O U;ext;show .inl ⟨⟨_,.of (O _ _ hl)⟩,qN (xs:=us.map V.ref) (fun i G J=>L2.Same H J/\∃ R,G=[some (.ref x),some (.ref l),some (.ref d),R]/\J d=some (.dK (qb5 (qw (qs.take i))))) ⟨O,_,rfl,U⟩ (fun i G J _ u=>.of (u.1 _ _ hl)) (fun i y G J Y u=>?_) fun G J u=>?_⟩
  .obtain⟨n,R,rfl,c⟩:=u;rw[yd] at Y;obtain⟨b,s,rfl⟩:=yn.mp Y;have hi:i<us.length:=(yc.mp s).1;obtain⟨ab,m⟩:∃ ab,qs[i]?=some ab:=⟨_,yb (by rw[<- N];show hi)⟩;have B:=r.at_ i b ab s m;obtain⟨ht,m1,m2,t⟩:=g.inn ab (ye m);obtain⟨M,aa,Z,n2⟩:=g.new m;have ac:(qw (qs.take i)).length<=60:=by rw[zL,yX];omega
   have L:b≠d:=fun z=>by rw[z,C] at B;cases B
   ext;show⟨x,wx,_,rfl,n _ _ hb,zg (by decide +kernel),?_⟩;ext;show⟨x,b,ss,ns,tps,ab,rfl,W.same n,hA,n _ _ B,ht,m1,m2,t,fun I D=>?_⟩;have A:=n.trans D;have a:=A _ _ B;ext;show yq ?_;ext;show .inl (qap a (v:=.str ab.1) (qo (j:=0) rfl) ?_);ext;show .inr (.inl ⟨d,_,rfl,DGet.k (k:=Sum.inr ab.1) (D _ _ c),?_⟩);rw[yD (by decide),zW,yl Z];ext;show yq ?_;ext;show .inl (qap a (v:=.str ab.2) (qo (j:=1) rfl) ?_);ext;show .inr (.inl ⟨d,_,rfl,DGet.k (k:=Sum.inr ab.2) (D _ _ c),?_⟩);rw[yD (by decide),zW,yl n2];ext;show yq ?_;ext;show .inl (qap a (v:=.str ab.1) (qo (j:=0) rfl) ?_);ext;show .inr ⟨d,_,rfl,DPut.k (k:=Sum.inr ab.1) (D _ _ c) (by unfold qb5;rw[ya,YD];omega),?_⟩;rw[qb6 Z];have s3:=qaH A (o:=.dK (qb5 (qw (qs.take i)++[ab.1]))) C;have S:upd I d (.dK (qb5 (qw (qs.take i)++[ab.1]))) d=some (.dK (qb5 (qw (qs.take i)++[ab.1]))):=qb;have p:upd I d (.dK (qb5 (qw (qs.take i)++[ab.1]))) b=some (.tup [.str ab.1,.str ab.2]):=by rw[qf L];show a
   generalize upd I d (.dK (qb5 (qw (qs.take i)++[ab.1])))=J3 at s3 S p;ext;show .inl (qap p (v:=.str ab.2) (qo (j:=1) rfl) ?_);ext;show .inr ⟨d,_,rfl,DPut.k (k:=Sum.inr ab.2) S (by unfold qb5;rw[ya,yt,YD];simp only[yC,YU];omega),?_⟩;rw[qb6 (fun z=>by rcases yA.mp z with z | z;show n2 z;show t (yy.mp z).symm)];show⟨qaH s3 C,_,rfl,by rw[qb,M,zn,Yk];rfl⟩
  .obtain⟨n,R,rfl,c⟩:=u;ext;show q J n
theorem K7:FnScope ["web","pairs","partners","pair"] ["web","pairs"] (qh j0):=fS
theorem prK_len(qs:List (Str×Str)):(prK qs).length=2*qs.length:=by
 induction qs with
 | nil=>rfl
 | cons q r ih=>show(_::_::prK r).length=_;simp only[yC];rw[ih];omega
theorem prK_snoc(qs:List (Str×Str))(q:Str×Str):prK (qs++[q])=prK qs++[(.inr q.1,.str q.2),(.inr q.2,.str q.1)]:=by
 unfold prK;rw[xW];rfl
theorem prK_put{q:Str×Str}(h:(qw (qs++[q])).Nodup):zC (zC (prK qs) (.inr q.1:Key) (.str q.2)) (.inr q.2:Key) (.str q.1)=prK (qs++[q]):=by
 rw[zn] at h;obtain⟨h1,b,c⟩:=Yg.mp h;have f:q.1∉qw qs:=fun z=>c _ z _ (by simp) rfl;have g:q.2∉qw qs:=fun z=>c _ z q.2 (by simp) rfl;have i:q.1≠q.2:=by simp at b;show b
 have j:j7 (prK qs) (.inr q.1:Key)=none:=by rw[jO,pt_none.mpr f];rfl
 rw[qa0 _ j]
 have a:j7 (prK qs++[((.inr q.1:Key),V.str q.2)]) (.inr q.2:Key)=none:=by
  have a:j7 (prK qs) (.inr q.2:Key)=none:=by rw[jO,pt_none.mpr g];rfl
  unfold j7 at a ⊢;rw[List.find?_append];have:(prK qs).find? (fun e=>decide (e.1=(.inr q.2:Key)))=none:=by simpa using a
  rw[this];simp[i]
 rw[qa0 _ a,prK_snoc];simp
inductive spPn(cw:Addr)(vs:List V)(H:Hp)(Q:VK)(E:XK):Prop|mk (x l:Addr) (ss:List Str) (ns:List Nat) (us:List Addr) (tps qs:List (Str×Str)) (_:vs=[.ref x,.ref l]) (_:WebAt cw H x ss ns) (_:Adj ss ns tps) (_:PL H l us qs) (_:PGo ss tps qs) (_:∀(d:Addr) (H':Hp),L2.Same H H'->H d=none->H' d=some (.dK (prK qs))->Q (.ref d) H')
theorem ok_pn(F:Fun K "partners_in" "partners_in" j0 f fd)(T:Txt K mg cc cw)(Y:DefOk P w K mg base CX0 8 "are_pairs" ["web","thing"] (spAp cw)):FnOk P w K mg base CX0 9 f fd ["web","pairs"] (spPn cw):=by
 show F.ok K7 fun _ _ _ _ H vs Q E S h=>?_
 .obtain⟨x,l,ss,ns,us,tps,qs,rfl,hW,Z,⟨hl,n⟩,g,q⟩:=h;have p:=jY S;have few:=g.few;have u:=n.len;show⟨_,(qc (qM (qX (qW (qt Y (hmR S) qC (qa (pv 0) (qa (pv 1) qd))))) (qe ju) qx)
 (qc (qk (i:=2) K7.nd rfl (yL rfl) jQ)
 (qc (qZ yP rfl (qS (K:=K) rfl (pv 1)) (qu (i:=3) K7.nd rfl (yL rfl))
 (qc (jJ (qp (qr (K:=K) rfl p) (pv 3) qg (fun _ _=>rfl)) (jI (pv 2) (qp (qr (K:=K) rfl p) (pv 3) qg (fun _ _=>rfl)) (jL p)))
 (qe (jJ (qp (qr (K:=K) rfl p) (pv 3) qg (fun _ _=>rfl)) (jI (pv 2) (qp (qr (K:=K) rfl p) (pv 3) qg (fun _ _=>rfl)) (jL p))))))
 (qe (qm (pv 2)))))),?_⟩
  ext;show⟨x,l,ss,ns,us,tps,qs,rfl,hW,Z,⟨hl,n⟩,g,fun H1 W=>?_⟩;ext;show yq ?_;ext;intro d R;have c:=W.free R;have L:=qI W (o:=.dK []) R;have O:upd H1 d (.dK []) d=some (.dK (prK [])):=qb;generalize upd H1 d (.dK [])=H2 at L O;ext;show .inl ⟨⟨_,.of (L _ _ hl)⟩,qN (xs:=us.map V.ref) (fun i B J=>L2.Same H J/\∃ M,B=[some (.ref x),some (.ref l),some (.ref d),M]/\J d=some (.dK (prK (qs.take i)))) ⟨L,_,rfl,O⟩ (fun i B J _ t=>.of (t.1 _ _ hl)) (fun i y B J U t=>?_) fun B J t=>?_⟩
  .obtain⟨A,M,rfl,a⟩:=t;rw[yd] at U;obtain⟨b,s,rfl⟩:=yn.mp U;have hi:i<us.length:=(yc.mp s).1;obtain⟨ab,r⟩:∃ ab,qs[i]?=some ab:=⟨_,yb (by rw[<- u];show hi)⟩;have C:=n.at_ i b ab s r;obtain⟨I,G,n1,n2⟩:=g.new r;have D:b≠d:=fun z=>by rw[z,c] at C;cases C
   have m:=A _ _ C;have aa:(prK (qs.take i)).length<=2000:=by rw[prK_len,yX];omega
   ext;show .inl (qap m (v:=.str ab.2) (qo (j:=1) rfl) ?_);ext;show .inl (qap m (v:=.str ab.1) (qo (j:=0) rfl) ?_);ext;show .inr ⟨d,_,rfl,DPut.k (k:=Sum.inr ab.1) a (by rw[YD];omega),?_⟩;have X:=qaH A (o:=.dK (zC (prK (qs.take i)) (Sum.inr ab.1) (.str ab.2))) c;have N:upd J d (.dK (zC (prK (qs.take i)) (Sum.inr ab.1) (.str ab.2))) d=some (.dK (zC (prK (qs.take i)) (Sum.inr ab.1) (.str ab.2))):=qb;have e:upd J d (.dK (zC (prK (qs.take i)) (Sum.inr ab.1) (.str ab.2))) b=some (.tup [.str ab.1,.str ab.2]):=by rw[qf D];show m
   generalize upd J d (.dK (zC (prK (qs.take i)) (Sum.inr ab.1) (.str ab.2)))=J3 at X N e;ext;show .inl (qap e (v:=.str ab.1) (qo (j:=0) rfl) ?_);ext;show .inl (qap e (v:=.str ab.2) (qo (j:=1) rfl) ?_);ext;show .inr ⟨d,_,rfl,DPut.k (k:=Sum.inr ab.2) N ?_,?_⟩
   .have:=ji (prK (qs.take i)) (Sum.inr ab.1:Key) (.str ab.2);rw[YD];omega
   .show⟨qaH X c,_,rfl,by rw[qb,prK_put G,I]⟩
  .obtain⟨A,M,rfl,a⟩:=t;rw[ya,u,yW] at a;ext;show q d J A c a
structure Gr(A:Str->Str->Prop)(f:Str->Option Str):Prop where
 as:∀{a b},A a b->A b a
 ir:∀{a b},A a b->a≠b
 fs:∀{a b},f a=some b->f b=some a
 fa:∀{a b},f a=some b->A a b
structure FS where
 rows:Str->Option (List Str)
 par:Str->Option Str
 bas:Str->Str
def Turns(A:Str->Str->Prop)(f:Str->Option Str)(r:List Str):Prop:=∀(j:Nat) a b,r[j]?=some a->r[j+1]?=some b->A a b/\(f a=some b↔j % 2=1)
structure Alt(A:Str->Str->Prop)(f:Str->Option Str)(r:List Str)(v:Str):Prop where
 nd:r.Nodup
 odd:r.length % 2=1
 hd:∀ s,r[0]?=some s->f s=none
 tl:∃ r0,r=r0++[v]
 st:Turns A f r
structure FI(A:Str->Str->Prop)(f:Str->Option Str)(S:FS):Prop where
 alt:∀ v r,S.rows v=some r->Alt A f r v
 bse:∀ v r,S.rows v=some r->∃ rb t,S.rows (S.bas v)=some rb/\r=rb++t/\∀ u∈t,S.bas u=S.bas v
 idm:∀ v r,S.rows v=some r->S.bas (S.bas v)=S.bas v
 dwn:∀ b r q,S.rows b=some r->S.bas b=b->f b=some q->S.rows q=none/\∃ z rz,S.par q=some z/\S.rows z=some rz/\r=rz++[q,b]
 mat:∀ v,S.bas v≠v->(∃ r,S.rows v=some r)/\∃ u,f v=some u/\S.bas u=S.bas v
 odd:∀ x z,S.par x=some z->A z x/\(∃ r,S.rows z=some r)/\∃ y r,f x=some y/\S.rows y=some r
section
variable{A:Str->Str->Prop}{f:Str->Option Str}{S:FS}
theorem FI.own(I:FI A f S)(h:S.rows v=none):S.bas v=v:=YJ fun z=>by
 obtain⟨⟨r,e⟩,_⟩:=I.mat v z;rw[h] at e;cases e
theorem FI.evb(I:FI A f S)(h:S.rows v=some r):∃ a,S.rows (S.bas v)=some a:=(I.bse v r h).elim fun a z=>⟨a,z.elim fun _ y=>y.1⟩
theorem FI.pair(I:FI A f S){w:Str}{s:List Str}(hv:S.rows v=some r)(hw:S.rows w=some s)(h:f v=some w):S.bas v=S.bas w:=by
 by_cases z:S.bas v=v
 .have:=(I.dwn v r w hv z h).1;rw[hw] at this;cases this
 .obtain⟨_,u,a,e⟩:=I.mat v z;rw[h] at a;cases a;show e.symm
inductive Ch(f:Str->Option Str)(S:FS):Str->List Str->Prop
 | root {b:Str}:f b=none->Ch f S b [b]
 | step {b q z:Str} {l:List Str}:f b=some q->S.par q=some z->Ch f S (S.bas z) l->Ch f S b (b::l)
theorem Ch.one(h:Ch f S b l):∀{m},Ch f S b m->m=l:=by
 induction h with
 | root e=>intro m g;cases g with
  | root _=>rfl
  | step e' _ _=>rw[e] at e';cases e'
 | step e p _ ih=>intro m g;cases g with
  | root e'=>rw[e] at e';cases e'
  | step e' p' g'=>rw[e] at e';cases e';rw[p] at p';cases p';rw[ih g']
theorem Ch.ne(h:Ch f S b l):∃ t,l=b::t:=by cases h<;>show⟨_,rfl⟩
theorem FI.chain(I:FI A f S):∀(n:Nat) {b:Str} {r:List Str},r.length<=n->S.rows b=some r->S.bas b=b->∃ l,Ch f S b l
 | n,b,r,hn,hb,hbb=>by
  cases e:f b with
  | none=>show⟨_,.root e⟩
  | some q =>
   obtain⟨_,z,rz,p,hz,c⟩:=I.dwn b r q hb hbb e;obtain⟨a,t,h1,h,_⟩:=I.bse z rz hz;have hl:a.length<n:=by rw[c,h] at hn;simp at hn;omega
   match n,hl with
   | n+1,hl =>
    obtain⟨l,g⟩:=I.chain n (b:=S.bas z) (r:=a) (by omega) h1 (I.idm z rz hz);show⟨_,.step e p g⟩
theorem FI.chainOf(I:FI A f S)(h:S.rows v=some r):∃ l,Ch f S (S.bas v) l:=by
 obtain⟨a,e⟩:=I.evb h;show I.chain _ (yh _) e (I.idm v r h)
def Cov(f:Str->Option Str)(S:FS)(l:List Str)(u:Str):Prop:=∃ d∈l,S.bas u=d\/f d=some u
theorem Cov.mono{m:List Str}(h:Cov f S l u)(a:∀ d∈l,d∈m):Cov f S m u:=h.elim fun d z=>⟨d,a d z.1,z.2⟩
theorem Ch.up(I:FI A f S)(h:Ch f S b l):∀{v:Str} {r:List Str},S.rows v=some r->S.bas v=b->∀{l1 l2:List Str} {c:Str},l=l1++c::l2->∃ o t,S.rows c=some o/\S.bas c=c/\Ch f S c (c::l2)/\r=o++t/\∀ u∈t,S.bas u=c\/Cov f S l1 u:=by
 induction h with
 | root e =>
  intro v r hv hb l1 l2 c j
  cases l1 with
  | cons x y=>show absurd (congrArg List.length j) (by simp)
  | nil =>
   cases j;obtain⟨n,t,h1,m,i⟩:=I.bse v r hv;rw[hb] at h1 i;show⟨n,t,h1,by rw[<- hb];show I.idm v r hv,.root e,m,fun u hu=>.inl (i u hu)⟩
 | @step b q z l e p g ih =>
  intro v r hv hb l1 l2 c j;obtain⟨n,t,h1,m,i⟩:=I.bse v r hv;rw[hb] at h1 i;have a:S.bas b=b:=by rw[<- hb];show I.idm v r hv
  cases l1 with
  | nil =>
   cases j;show⟨n,t,h1,a,.step e p g,m,fun u hu=>.inl (i u hu)⟩
  | cons x y =>
   cases j;obtain⟨H,J,rz,s,hz,w⟩:=I.dwn b n q h1 a e;rw[p] at s;cases s;obtain⟨o,t',C,D,E,F,G⟩:=ih hz rfl rfl;show⟨o,t'++[q,b]++t,C,D,E,by rw[m,w,F];simp,fun u hu=>?_⟩;rcases yA.mp hu with hu | hu
   .rcases yA.mp hu with hu | hu
    .show(G u hu).imp id fun z=>z.mono fun d B=>yx _ B
    .simp only[yv,yM,Yt] at hu;rcases hu with rfl | rfl
     .show .inr ⟨b,yI,.inr e⟩
     .show .inr ⟨_,yI,.inl a⟩
   .show .inr ⟨b,yI,.inl (i u hu)⟩
theorem Ch.bs0(I:FI A f S)(hv:S.rows v=some r)(h:Ch f S (S.bas v) l)(hc:c∈l):∃ a,S.rows c=some a/\S.bas c=c:=by
 obtain⟨l1,l2,e⟩:=Yr hc;obtain⟨a,_,h1,b,_⟩:=h.up I hv rfl e;show⟨a,h1,b⟩
theorem Ch.cov(G:Gr A f)(I:FI A f S)(hv:S.rows v=some r)(h:Ch f S (S.bas v) l)(hu:u∈r):Cov f S l u:=by
 have hl:l≠[]:=by obtain⟨t,e⟩:=h.ne;rw[e];show Ki _ _
 obtain⟨o,t,h1,s,w,x,y⟩:=h.up I hv rfl (xr hl).symm;have b:l.getLast hl∈l:=List.getLast_mem hl;rw[x] at hu;rcases yA.mp hu with hu | hu
 .have C:f (l.getLast hl)=none:=by
   cases w with
   | root e=>show e
   | step _ _ g=>obtain⟨_,e⟩:=g.ne;cases e
  have c:=I.alt _ _ h1;obtain⟨q,i⟩:=c.tl
  have m:q=[]:=by
   cases j:q.length with
   | zero=>show List.eq_nil_of_length_eq_zero j
   | succ n =>
    exfalso;have p:o.length=n+2:=by rw[i];simp[j]
    obtain⟨a,B⟩:∃ a,o[n]?=some a:=⟨_,yb (by omega)⟩;have hb:o[n+1]?=some (l.getLast hl):=by rw[i,yJ (by omega),j];simp
    have:=G.fs ((c.st n a _ B hb).2.mpr (by have:=c.odd;omega));rw[C] at this;cases this
  rw[i,m] at hu;have e:u=l.getLast hl:=by simpa using hu
  show⟨_,b,.inl (by rw[e];show s)⟩
 .rcases y u hu with z | ⟨d,hd,z⟩
  .show⟨_,b,.inl z⟩
  .show⟨d,List.dropLast_subset l hd,z⟩
theorem Cov.apart(G:Gr A f)(I:FI A f S){m:List Str}(hl:∀ d∈l,∃ r,S.rows d=some r/\S.bas d=d)(n:∀ d∈m,∃ r,S.rows d=some r/\S.bas d=d)(t:∀ d∈l,d∉m)(h1:Cov f S l u)(p:Cov f S m u):False:=by
 have i:∀{d e:Str},(∃ r,S.rows d=some r/\S.bas d=d)->(∃ r,S.rows e=some r/\S.bas e=e)->S.bas u=d->f e=some u->False:=fun⟨r,b,q⟩ ⟨s,g,j⟩ h h'=>by
  have o:=(I.dwn _ _ _ g j h').1;have:=I.own o;rw[h] at this;rw[this,o] at b;cases b
 obtain⟨d,b,z⟩:=h1;obtain⟨e,g,y⟩:=p;have c:d≠e:=fun w=>t d b (by rw[w];show g);rcases z with z | z<;>rcases y with y | y
 .show c (z.symm.trans y)
 .show i (hl d b) (n e g) z y
 .show i (n e g) (hl d b) y z
 .have a:=G.fs z;rw[G.fs y] at a;show c (ym a).symm
theorem Turns.app{s:List Str}(h:Turns A f r)(g:∀(j:Nat) a b,s[j]?=some a->s[j+1]?=some b->A a b/\(f a=some b↔(r.length+j) % 2=1))(w:∀ a b,r[r.length-1]?=some a->s[0]?=some b->0<r.length->A a b/\(f a=some b↔(r.length-1) % 2=1)):Turns A f (r++s):=fun j a b c hb=>by
 by_cases h1:j+1<r.length
 .rw [yV (by omega)] at c;rw[yV h1] at hb;show h j a b c hb
 .by_cases e:j+1=r.length
  .rw [yV (by omega),show j=r.length-1 by omega] at c;rw[yJ (by omega),show j+1-r.length=0 by omega] at hb;rw[show j=r.length-1 by omega];show w a b c hb (by omega)
  .rw [yJ (by omega)] at c;rw[yJ (by omega),show j+1-r.length=j-r.length+1 by omega] at hb;have:=g _ a b c hb
   rwa[show r.length+(j-r.length)=j by omega] at this
theorem Alt.back(G:Gr A f){s t:List Str}{w q:Str}(hw:Alt A f s w)(hv:Alt A f r v)(l:r=rz++q::c::t)(hz:rz.length % 2=1)(H:A w v)(I:f w≠some v)(C:∀ u∈s,u∉q::c::t):Alt A f (s++(q::c::t).reverse) q:=by
 obtain⟨M,B⟩:=hw.tl;obtain⟨L,m⟩:=hv.tl;have p:0<s.length:=by rw[B];simp
 have J:=hv.odd;have o:r.length=rz.length+(t.length+2):=by rw[l];simp
 have at_:∀{j:Nat} {a:Str},(q::c::t).reverse[j]?=some a->j<t.length+2/\r[r.length-1-j]?=some a:=fun{j a} h=>by
  have hl:=(yc.mp h).1;rw[Yz] at hl;simp only[yC] at hl;rw[List.getElem?_reverse (by simp only[yC];omega)] at h;simp only[yC] at h;show⟨by omega,?_⟩;rw[o]
  conv=>lhs;rw[l]
  rw[yJ (by omega),show rz.length+(t.length+2)-1-j-rz.length=t.length+1+1-1-j by omega];show h
 show⟨Yg.mpr ⟨hw.nd,?_,fun x K y i e=>C x K (by rw[e];show kg.mp i)⟩,?_,fun y i=>?_,⟨s++(c::t).reverse,by simp⟩,hw.st.app (fun j a b h1 n=>?_) fun a b h1 n _=>?_⟩
 .show(List.reverse_perm _).nodup_iff.mpr ((Yg.mp (l ▸ hv.nd)).2.1)
 .rw [yt,Yz];simp only[yC];have:=hw.odd;omega
 .rw [yV p] at i;show hw.hd y i
 .obtain⟨l1,D⟩:=at_ h1;obtain⟨l2,g⟩:=at_ n;have:=hv.st (r.length-1-(j+1)) b a g (by rw[show r.length-1-(j+1)+1=r.length-1-j by omega];show D);show⟨G.as this.1,⟨fun z=>?_,fun z=>?_⟩⟩
  .have:=this.2.mp (G.fs z);have:=hw.odd;omega
  .show G.fs (this.2.mpr (by have:=hw.odd;omega))
 .have E:a=w:=by
   rw[B,yt,yJ (by simp)] at h1;simpa using h1.symm
  have F:b=v:=by
   obtain⟨_,g⟩:=at_ n;rw[Kw,m,yt,yJ (by simp)] at g;simpa using g.symm
  subst E;subst F;show⟨H,⟨fun z=>absurd z I,fun z=>by have:=hw.odd;omega⟩⟩
end
section
variable{A:Str->Str->Prop}{f:Str->Option Str}{S S':FS}
theorem Ch.nd(I:FI A f S)(h:Ch f S b l):∀{v:Str} {r:List Str},S.rows v=some r->S.bas v=b->l.Nodup:=by
 induction h with
 | root e=>intro _ _ _ _;simp
 | @step b q z l e p g ih =>
  intro v r hv hb;have a:S.bas b=b:=by rw[<- hb];show I.idm v r hv
  obtain⟨n,h1⟩:=I.evb hv;rw[hb] at h1;obtain⟨_,o,rz,i,hz,_⟩:=I.dwn b n q h1 a e;rw[p] at i;cases i;show yo.mpr ⟨fun j=>?_,ih hz rfl⟩;obtain⟨x,y,c⟩:=Yr j;obtain⟨_,_,_,_,m,_⟩:=g.up I hz rfl c;have:=m.one (.step e p g);rw[c] at this;have:=congrArg List.length this;simp at this;omega
theorem Ch.suf(I:FI A f S)(hv:S.rows v=some r)(h:Ch f S (S.bas v) l){q:Str}(e:l=l1++c::l2)(b:f c=some q):∃ rz t,r=rz++q::c::t/\rz.length % 2=1/\S.rows q=none/\∀ u∈q::c::t,Cov f S (l1++[c]) u:=by
 obtain⟨p,t,h1,a,_,g,i⟩:=h.up I hv rfl e;obtain⟨m,z,rz,_,n,o⟩:=I.dwn c p q h1 a b;show⟨rz,t,by rw[g,o];simp,(I.alt z rz n).odd,m,fun u hu=>?_⟩;rcases yv.mp hu with rfl | hu
 .show⟨c,by simp,.inr b⟩
 .rcases yv.mp hu with rfl | hu
  .show⟨u,by simp,.inl a⟩
  .rcases i u hu with z | z
   .show⟨c,by simp,.inl z⟩
   .show z.mono fun d j=>yO _ j
theorem Ch.meet(I:FI A f S){w:Str}{s:List Str}(hv:S.rows v=some r)(hw:S.rows w=some s)(h:Ch f S (S.bas v) l)(h':Ch f S (S.bas w) l'){m:Str}(j:l=l1++m::l2)(i:l'=m1++m::m2)(H:∀ d∈l1,d∉l'):m2=l2/\∀ d∈m1,d∉l:=by
 obtain⟨_,_,_,_,k,_⟩:=h.up I hv rfl j;obtain⟨_,_,_,_,k',_⟩:=h'.up I hw rfl i;have D:m2=l2:=(xx (k.one k')).2;show⟨D,fun d J hl=>?_⟩;obtain⟨a,b,B⟩:=Yr J;obtain⟨x,y,ex⟩:=Yr hl;obtain⟨_,_,_,_,g,_⟩:=h.up I hv rfl ex;obtain⟨_,_,_,_,g',_⟩:=h'.up I hw rfl (l1:=a) (c:=d) (l2:=b++m::m2) (by rw[i,B];simp);have t:y=b++m::m2:=(xx (g'.one g)).2;have e:=h.nd I hv rfl;have n:d∈l':=by rw[i,B];simp
 have p:d∉l1:=fun z=>H d z n;have o:d∈m::l2:=by rw[j] at hl;show(yA.mp hl).resolve_left p
 rcases yv.mp o with z | z
 .rw [z] at ex;rw[ex,t] at e;have:=(Yg.mp e).2.1;show(yo.mp this).1 (by simp)
 .have q:m∈x:=by
   obtain⟨K,C,E⟩:=Yr z;have u:l=(l1++m::K)++d::C:=by rw[j,E];simp
   obtain⟨_,_,_,_,G,_⟩:=h.up I hv rfl u;have F:C=y:=(xx (g.one G)).2;rw[u,F] at ex;rw[<- List.append_cancel_right ex];simp
  rw[ex,t] at e;show(Yg.mp e).2.2 m q m (by simp) rfl
def NewRow(S:FS)(v w u:Str)(r:List Str):Prop:=∃ rv rw rz t,S.rows v=some rv/\S.rows w=some rw/\rv=rz++u::t/\r=rw++(u::t).reverse
def InR(f:Str->Option Str)(m:Str)(a:List Str)(u:Str):Prop:=u=m\/∃ c∈a,u=c\/f c=some u
structure Mg(f:Str->Option Str)(S S':FS)(v w m:Str)(l1 m1:List Str):Prop where
 par:S'.par=S.par
 old:∀ u r,S.rows u=some r->S'.rows u=some r
 new:∀ u r,S'.rows u=some r->S.rows u=some r\/(∃ c∈l1,f c=some u/\NewRow S v w u r)\/(∃ c∈m1,f c=some u/\NewRow S w v u r)
 all:∀ c∈l1++m1,∀ q,f c=some q->∃ r,S'.rows q=some r
 inn:∀ u,InR f m (l1++m1) (S.bas u)->S'.bas u=m
 out:∀ u,¬ InR f m (l1++m1) (S.bas u)->S'.bas u=S.bas u
theorem qek{a b c d:List Str}{x:Str}(h:(a++x::b).Nodup)(e:a++x::b=c++x::d):a=c/\b=d:=by
 induction a generalizing c with
 | nil =>
  cases c with
  | nil=>show⟨rfl,(xx e).2⟩
  | cons y c =>
   obtain⟨f,g⟩:=xx e;show absurd (show x∈b by rw[g];simp) (yo.mp h).1
 | cons y a ih =>
  cases c with
  | nil =>
   obtain⟨f,g⟩:=xx e;show absurd (show y∈a++x::b by rw[f];simp) (yo.mp h).1
  | cons z c =>
   obtain⟨f,g⟩:=xx e;obtain⟨h1,i⟩:=ih (yo.mp h).2 g;show⟨by rw[f,h1],i⟩
theorem NewRow.ok(G:Gr A f)(I:FI A f S){w:Str}(hv:S.rows v=some rv)(hw:S.rows w=some rw)(h:Ch f S (S.bas v) l)(h':Ch f S (S.bas w) l')(o:l=l1++l2)(H:∀ d∈l1,d∉l')(F:A w v)(hb:S.bas w≠S.bas v)(hc:c∈l1)(K:f c=some u)(J:NewRow S v w u r) :
  Alt A f r u/\S.rows u=none/\∃ t,r=rw++t/\∀ x∈t,Cov f S l1 x:=by
 obtain⟨L,M,rz,t,p,q,s,y⟩:=J;rw[hv] at p;cases p;rw[hw] at q;cases q;obtain⟨a,b,n⟩:=Yr hc;obtain⟨N,t',j,B,C,m⟩:=h.suf I hv (l1:=a) (c:=c) (l2:=b++l2) (by rw[o,n];simp) K;have e:=(I.alt v rv hv).nd;obtain⟨D,E⟩:=qek (by rw[<- s];show e) (s.symm.trans j);subst D;subst E;have sub:∀ d∈a++[c],d∈l1:=fun d z=>by rw[n];rcases yA.mp z with z | z;show yO _ z;rw[yy.mp z];simp
 have inl:∀ d∈l1,d∈l:=fun d z=>by rw[o];show yO _ z
 show⟨?_,C,_,y,fun x g=>(m x (kg.mp g)).mono sub⟩;rw[y];show Alt.back G (I.alt w rw hw) (I.alt v rv hv) j B F (fun z=>hb (I.pair hw hv z)) fun x g i=>?_;show Cov.apart G I (fun d z=>h.bs0 I hv (inl d (sub d z))) (fun d z=>h'.bs0 I hw z) (fun d z=>H d (sub d z)) (m x i) (h'.cov G I hw g)
theorem FI.merge(G:Gr A f)(I:FI A f S){w m:Str}(hv:S.rows v=some rv)(hw:S.rows w=some rw)(h:Ch f S (S.bas v) (l1++m::l2))(h':Ch f S (S.bas w) (m1++m::l2))(hd:∀ d∈l1,d∉m1++m::l2)(U:∀ d∈m1,d∉l1++m::l2)(ha:A v w)(hb:S.bas v≠S.bas w)(M:Mg f S S' v w m l1 m1):FI A f S':=by
 have hm:∃ r,S.rows m=some r/\S.bas m=m:=h.bs0 I hv (by simp);obtain⟨P,H,W⟩:=hm
 have B:∀ c∈l1++m1,(∃ r,S.rows c=some r/\S.bas c=c)/\c≠m/\∃ q,f c=some q/\S.rows q=none:=fun c hc=>by
  rcases yA.mp hc with z | z
  .show⟨h.bs0 I hv (yO _ z),fun e=>hd c z (by rw[e];simp),?_⟩;obtain⟨a,b,E⟩:=Yr z;obtain⟨rc,_,D,o,p,_⟩:=h.up I hv rfl (l1:=a) (c:=c) (l2:=b++m::l2) (by rw[E];simp);generalize l:b++m::l2=x at p
   cases p with
   | root _=>show absurd (congrArg List.length l) (by simp)
   | step e _ _=>show⟨_,e,(I.dwn _ _ _ D o e).1⟩
  .show⟨h'.bs0 I hw (yO _ z),fun e=>U c z (by rw[e];simp),?_⟩;obtain⟨a,b,E⟩:=Yr z;obtain⟨rc,_,D,o,p,_⟩:=h'.up I hw rfl (l1:=a) (c:=c) (l2:=b++m::l2) (by rw[E];simp);generalize l:b++m::l2=x at p
   cases p with
   | root _=>show absurd (congrArg List.length l) (by simp)
   | step e _ _=>show⟨_,e,(I.dwn _ _ _ D o e).1⟩
 have cov:∀ u,Cov f S (l1++m1) u->S'.bas u=m:=fun u ⟨d,hd,z⟩=>by
  show M.inn u ?_;rcases z with z | z
  .show .inr ⟨d,hd,.inl z⟩
  .have hn:=(B d hd).2.2;obtain⟨q,e,F⟩:=hn;rw[z] at e;cases e;rw[I.own F];show .inr ⟨d,hd,.inr z⟩
 have K:∀ u,Cov f S l1 u->S'.bas u=m:=fun u z=>cov u (z.mono fun d y=>yO _ y);have L:∀ u,Cov f S m1 u->S'.bas u=m:=fun u z=>cov u (z.mono fun d y=>yN _ y);have bm:∀ u,S.bas u=m->S'.bas u=m:=fun u z=>M.inn u (.inl z);have m0:S'.bas m=m:=bm m W;have Z:=M.old m P H
 have J:∀{x:Str} {rx a b:List Str},S.rows x=some rx->Ch f S (S.bas x) (a++m::b)->(∀ d∈a,d∈l1++m1)->∃ t,rx=P++t/\∀ u∈t,S'.bas u=m:=fun{x rx a b} l hc hs=>by
  obtain⟨rc,t,D,_,_,R,g5⟩:=hc.up I l rfl rfl;rw[H] at D;cases D;show⟨t,R,fun u j=>(g5 u j).elim (bm u) fun z=>cov u (z.mono hs)⟩
 have nw:∀ u r,(∃ c∈l1,f c=some u/\NewRow S v w u r)\/(∃ c∈m1,f c=some u/\NewRow S w v u r)->Alt A f r u/\S.rows u=none/\S'.bas u=m/\∃ t,r=P++t/\∀ x∈t,S'.bas x=m:=fun u r z=>by
  rcases z with⟨c,hc,j,C⟩ | ⟨c,hc,j,C⟩
  .obtain⟨D,o,t,p,R⟩:=NewRow.ok G I hv hw h h' rfl hd (G.as ha) (Yi hb) hc j C;obtain⟨t0,p1,p2⟩:=J hw h' fun d y=>yN _ y;show⟨D,o,K u ⟨c,hc,.inr j⟩,t0++t,by rw[p,p1];simp,fun x l=>(yA.mp l).elim (p2 x) fun y=>K x (R x y)⟩
  .obtain⟨D,o,t,p,R⟩:=NewRow.ok G I hw hv h' h rfl U ha hb hc j C;obtain⟨t0,p1,p2⟩:=J hv h fun d y=>yO _ y;show⟨D,o,L u ⟨c,hc,.inr j⟩,t0++t,by rw[p,p1];simp,fun x l=>(yA.mp l).elim (p2 x) fun y=>L x (R x y)⟩
 have af:∀ u r,S.rows u=some r->InR f m (l1++m1) (S.bas u)->S.bas u=m\/S.bas u∈l1++m1:=fun u r j z=>by
  rcases z with z | ⟨c,hc,z | z⟩
  .show .inl z
  .show .inr (by rw[z];show hc)
  .obtain⟨q,e,F⟩:=(B c hc).2.2;rw[z] at e;cases e;obtain⟨rb,n⟩:=I.evb j;rw[F] at n;cases n
 show⟨fun u r j=>?_,fun u r j=>?_,fun u r j=>?_,fun b r q aa O F=>?_,fun u j=>?_,fun x z l=>?_⟩
 .rcases M.new u r j with z | z
  .show I.alt u r z
  .show(nw u r z).1
 .rcases M.new u r j with z | z
  .by_cases i:InR f m (l1++m1) (S.bas u)
   .rw [M.inn u i];show⟨P,?_⟩
    have:∃ t,r=P++t/\∀ x∈t,S'.bas x=m:=by
     rcases af u r z i with y | y
     .obtain⟨rb,t,N,n,e3⟩:=I.bse u r z;rw[y,H] at N;cases N;show⟨t,n,fun x l=>bm x ((e3 x l).trans y)⟩
     .rcases yA.mp y with y | y
      .obtain⟨a,b,E⟩:=Yr y;obtain⟨_,_,_,_,g,_⟩:=h.up I hv rfl (l1:=a) (c:=S.bas u) (l2:=b++m::l2) (by rw[E];simp);show J z (a:=S.bas u::b) (by simpa using g) fun d hd=>by rw[E];rcases yv.mp hd with rfl | hd<;>simp[*]
      .obtain⟨a,b,E⟩:=Yr y;obtain⟨_,_,_,_,g,_⟩:=h'.up I hw rfl (l1:=a) (c:=S.bas u) (l2:=b++m::l2) (by rw[E];simp);show J z (a:=S.bas u::b) (by simpa using g) fun d hd=>by rw[E];rcases yv.mp hd with rfl | hd<;>simp[*]
    obtain⟨t,N,n⟩:=this;show⟨t,Z,N,n⟩
   .rw [M.out u i];obtain⟨rb,t,N,n,e3⟩:=I.bse u r z;show⟨rb,t,M.old _ _ N,n,fun x l=>by rw[M.out x (by rw[e3 x l];show i)];show e3 x l⟩
  .obtain⟨_,_,e,t,N,n⟩:=nw u r z;rw[e];show⟨P,t,Z,N,n⟩
 .by_cases i:InR f m (l1++m1) (S.bas u)
  .rw [M.inn u i];show m0
  .rw [M.out u i];rcases M.new u r j with z | z
   .have e:=I.idm u r z;rw[M.out _ (by rw[e];show i)];show e
   .obtain⟨_,o,_⟩:=nw u r z;have e:=I.own o;rw[e,M.out u (by rw[e] at i ⊢;show i)];show e
 .have ac:S.bas b=b/\(b=m\/¬ InR f m (l1++m1) (S.bas b)):=by
   by_cases i:InR f m (l1++m1) (S.bas b)
   .have:=M.inn b i;rw[O] at this;rw[this];show⟨W,.inl rfl⟩
   .have:=M.out b i;rw[O] at this;show⟨this.symm,.inr i⟩
  obtain⟨T,ad⟩:=ac
  have C:S.rows b=some r:=by
   rcases M.new b r aa with z | z
   .show z
   .exfalso;obtain⟨_,o,p,_⟩:=nw b r z;rw[O] at p;rw[p,H] at o;cases o
  obtain⟨k1,z,rz,k2,k3,k4⟩:=I.dwn b r q C T F;show⟨?_,z,rz,by rw[M.par];show k2,M.old _ _ k3,k4⟩
  cases e:S'.rows q with
  | none=>rfl
  | some s =>
   exfalso
   have Y:∀ c∈l1++m1,f c=some q->False:=fun c hc ae=>by
    have:=G.fs ae;rw[G.fs F] at this;have n:=ym this;subst n;rcases ad with y | y
    .show(B b hc).2.1 y
    .show y (.inr ⟨b,hc,.inl T⟩)
   rcases M.new q s e with y | ⟨c,hc,y,_⟩ | ⟨c,hc,y,_⟩
   .rw [k1] at y;cases y
   .show Y c (yO _ hc) y
   .show Y c (yN _ hc) y
 .by_cases i:InR f m (l1++m1) (S.bas u)
  .rw [M.inn u i] at j ⊢;by_cases X:S.bas u=u
   .rw [X] at i;rcases i with z | ⟨c,hc,z | z⟩
    .show absurd z.symm j
    .subst z;obtain⟨⟨r,C,_⟩,_,q,F,_⟩:=B u hc;show⟨⟨r,M.old _ _ C⟩,q,F,cov q ⟨u,hc,.inr F⟩⟩
    .show⟨M.all c hc u z,c,G.fs z,cov c ⟨c,hc,.inl (B c hc).1.choose_spec.2⟩⟩
   .obtain⟨⟨r,C⟩,y,hy,e⟩:=I.mat u X;show⟨⟨r,M.old _ _ C⟩,y,hy,M.inn y (by rw[e];show i)⟩
  .rw [M.out u i] at j ⊢;obtain⟨⟨r,C⟩,y,hy,e⟩:=I.mat u j;show⟨⟨r,M.old _ _ C⟩,y,hy,by rw[M.out y (by rw[e];show i)];show e⟩
 .rw [M.par] at l;obtain⟨k1,⟨r,k2⟩,y,s,k3,k4⟩:=I.odd x z l;show⟨k1,⟨r,M.old _ _ k2⟩,y,s,k3,M.old _ _ k4⟩
end
structure Aug(A:Str->Str->Prop)(f:Str->Option Str)(r:List Str):Prop where
 nd:r.Nodup
 two:2<=r.length
 ev:r.length % 2=0
 st:Turns A f r
 hd:∀ s,r[0]?=some s->f s=none
 tl:∀ s,r[r.length-1]?=some s->f s=none
section
variable{A:Str->Str->Prop}{f:Str->Option Str}{S S':FS}
theorem FI.aug(G:Gr A f)(I:FI A f S){w:Str}(hv:S.rows v=some rv)(hw:S.rows w=some rw)(h:Ch f S (S.bas v) l)(h':Ch f S (S.bas w) l')(hl:l.getLast?≠l'.getLast?)(E:A v w):Aug A f (rv++rw.reverse):=by
 have n:∀ d∈l,d∉l':=fun d F p=>by
  obtain⟨a,b,e⟩:=Yr F;obtain⟨x,y,q⟩:=Yr p;obtain⟨_,_,_,_,k,_⟩:=h.up I hv rfl e;obtain⟨_,_,_,_,k',_⟩:=h'.up I hw rfl q;have:=k.one k';show hl (by rw[e,q,this,Xu,Xu];rfl)
 have c:=I.alt v rv hv;have g:=I.alt w rw hw;obtain⟨O,r⟩:=c.tl;obtain⟨P,t⟩:=g.tl;have K:0<rv.length:=by rw[r];simp
 have L:0<rw.length:=by rw[t];simp
 have M:=c.odd;have N:=g.odd
 have H:f v≠some w:=fun z=>by
  have e:=I.pair hv hw z;have:=h.one (e ▸ h');rw[this] at hl;show hl rfl
 have at_:∀{j:Nat} {a:Str},rw.reverse[j]?=some a->j<rw.length/\rw[rw.length-1-j]?=some a:=fun{j a} e=>by
  have hl:=(yc.mp e).1;rw[Yz] at hl;rw[List.getElem?_reverse hl] at e;show⟨hl,e⟩
 show⟨Yg.mpr ⟨c.nd,(List.reverse_perm _).nodup_iff.mpr g.nd,fun x J y u e=>?_⟩,by rw[yt,Yz];omega,by rw[yt,Yz];omega,c.st.app (fun j a b h1 o=>?_) fun a b h1 o _=>?_,fun s i=>?_,fun s i=>?_⟩
 .rw [<- e] at u;show Cov.apart G I (fun d z=>h.bs0 I hv z) (fun d z=>h'.bs0 I hw z) n (h.cov G I hv J) (h'.cov G I hw (kg.mp u))
 .obtain⟨l1,B⟩:=at_ h1;obtain⟨l2,m⟩:=at_ o;have:=g.st (rw.length-1-(j+1)) b a m (by rw[show rw.length-1-(j+1)+1=rw.length-1-j by omega];show B);show⟨G.as this.1,⟨fun z=>?_,fun z=>?_⟩⟩
  .have:=this.2.mp (G.fs z);omega
  .show G.fs (this.2.mpr (by omega))
 .have C:a=v:=by
   rw[r,yt,yJ (by simp)] at h1;simpa using h1.symm
  have D:b=w:=by
   obtain⟨_,m⟩:=at_ o;rw[Kw,t,yt,yJ (by simp)] at m;simpa using m.symm
  subst C;subst D;show⟨E,⟨fun z=>absurd z H,fun z=>by omega⟩⟩
 .rw [yV K] at i;show c.hd s i
 .rw [yt,Yz,yJ (by omega),show rv.length+rw.length-1-rv.length=rw.length-1 by omega] at i;obtain⟨_,e⟩:=at_ i;rw[kK] at e;show g.hd s e
structure Gw(S S':FS)(p u y:Str)(r:List Str):Prop where
 ry:S'.rows y=some (r++[u,y])
 ro:∀ s,s≠y->S'.rows s=S.rows s
 pu:S'.par u=some p
 po:∀ s,s≠u->S'.par s=S.par s
 ba:S'.bas=S.bas
theorem FI.fresh(G:Gr A f)(I:FI A f S)(a:S.rows u=none)(h:S.par u=none)(c:f u=some y):S.rows y=none:=by
 cases e:S.rows y with
 | none=>rfl
 | some s =>
  exfalso;by_cases z:S.bas y=y
  .obtain⟨_,_,_,k,_⟩:=I.dwn y s u e z (G.fs c);rw[h] at k;cases k
  .obtain⟨_,x,b,k⟩:=I.mat y z;rw[G.fs c] at b;cases b;rw[I.own a] at k;obtain⟨i,g⟩:=I.evb e;rw[<- k,a] at g;cases g
theorem FI.grow(G:Gr A f)(I:FI A f S){p:Str}(n:S.rows p=some r)(N:A p u)(o:S.rows u=none)(J:S.par u=none)(m:f u=some y)(W:Gw S S' p u y r):FI A f S':=by
 have c:=I.fresh G o J m;have P:u≠y:=G.ir (G.fa m);have Z:p≠y:=fun z=>by rw[z,c] at n;cases n
 have old:∀ s t,S.rows s=some t->S'.rows s=some t:=fun s t e=>by rw[W.ro s (fun z=>by rw[z,c] at e;cases e)];show e
 have new:∀ s t,S'.rows s=some t->(s=y/\t=r++[u,y])\/(s≠y/\S.rows s=some t):=fun s t e=>by
  by_cases z:s=y
  .subst z;rw[W.ry] at e;show .inl ⟨rfl,(ym e).symm⟩
  .rw [W.ro s z] at e;show .inr ⟨z,e⟩
 obtain⟨l,hl⟩:=I.chainOf n
 have B:∀ x∈r,x≠u/\x≠y:=fun x C=>by
  obtain⟨d,T,z⟩:=hl.cov G I n C;obtain⟨rd,g,i⟩:=hl.bs0 I n T;show⟨fun e=>?_,fun e=>?_⟩
  .rw [e] at z;rcases z with z | z
   .rw [I.own o] at z;rw[z,g] at o;cases o
   .obtain⟨_,_,_,k,_⟩:=I.dwn d rd u g i z;rw[J] at k;cases k
  .rw [e] at z;rcases z with z | z
   .rw [I.own c] at z;rw[z,g] at c;cases c
   .have:=G.fs z;rw[G.fs m] at this;rw[ym this,g] at o;cases o
 have w:=I.alt p r n;obtain⟨r0,M⟩:=w.tl;have K:0<r.length:=by rw[M];simp
 show⟨fun v t e=>?_,fun v t e=>?_,fun v t e=>?_,fun b t q e hb E=>?_,fun v e=>?_,fun x z e=>?_⟩
 .rcases new v t e with⟨rfl,rfl⟩ | ⟨_,e⟩
  .show⟨Yg.mpr ⟨w.nd,by simp[P],fun x C z hz D=>?_⟩,by rw[yt];have:=w.odd;simp only[yC,YU];omega,fun s O=>?_,⟨r++[u],by simp⟩,w.st.app (fun j a b h1 H=>?_) fun a b h1 H _=>?_⟩
   .obtain⟨X,Y⟩:=B x C;simp only[yv,yM,Yt] at hz;rcases hz with rfl | rfl
    .show X D
    .show Y D
   .rw [yV K] at O;show w.hd s O
   .have U:j=0:=by have:=(yc.mp H).1;simp at this;omega
    subst U;cases h1;cases H;show⟨G.fa m,⟨fun _=>by have:=w.odd;omega,fun _=>m⟩⟩
   .cases H
    have R:a=p:=by
     rw[M,yt,yJ (by simp)] at h1;simpa using h1.symm
    subst R;show⟨N,⟨fun z=>?_,fun z=>by have:=w.odd;omega⟩⟩;have:=G.fs z;rw[m] at this;show absurd (ym this).symm Z
  .show I.alt v t e
 .rw [W.ba];rcases new v t e with⟨rfl,rfl⟩ | ⟨_,e⟩
  .rw [I.own c];show⟨_,[],W.ry,by simp,(fun x h=>by cases h)⟩
  .obtain⟨rb,s,g,i,F⟩:=I.bse v t e;show⟨rb,s,old _ _ g,i,F⟩
 .rw [W.ba];rcases new v t e with⟨rfl,rfl⟩ | ⟨_,e⟩
  .rw [I.own c,I.own c]
  .show I.idm v t e
 .rw [W.ba] at hb;rcases new b t e with⟨rfl,rfl⟩ | ⟨_,e⟩
  .rw [G.fs m] at E;cases E;show⟨by rw[W.ro u P];show o,p,r,W.pu,old _ _ n,rfl⟩
  .obtain⟨g,z,rz,i,F,L⟩:=I.dwn b t q e hb E;show⟨?_,z,rz,?_,old _ _ F,L⟩
   .rw [W.ro q fun z=>?_]
    .show g
    .rw [z] at E;have:=G.fs E;rw[G.fs m] at this;rw[<- ym this,o] at e;cases e
   .rw [W.po q fun z=>?_]
    .show i
    .rw [z,J] at i;cases i
 .rw [W.ba] at e ⊢;obtain⟨⟨t,g⟩,i⟩:=I.mat v e;show⟨⟨t,old _ _ g⟩,i⟩
 .by_cases C:x=u
  .subst C;rw[W.pu] at e;cases e;show⟨N,⟨r,old _ _ n⟩,y,_,m,W.ry⟩
  .rw [W.po x C] at e;obtain⟨g,⟨t,i⟩,y',s,F,L⟩:=I.odd x z e;show⟨g,⟨t,old _ _ i⟩,y',s,F,old _ _ L⟩
theorem FI.start(h1:∀ v r,S.rows v=some r->f v=none/\r=[v])(g:∀ x,S.par x=none)(c:∀ v,S.bas v=v):FI A f S:=by
 show⟨fun v r e=>?_,fun v r e=>?_,fun v r e=>by rw[c,c],fun b r q e _ i=>?_,fun v e=>absurd (c v) e,fun x z e=>by rw[g] at e;cases e⟩
 .obtain⟨k,rfl⟩:=h1 v r e;show⟨by simp,rfl,fun s l=>by cases l;show k,⟨[],rfl⟩,fun j a b h1 g=>?_⟩;simp at g
 .show⟨r,[],by rw[c];show e,by simp,(fun x h=>by cases h)⟩
 .rw [(h1 b r e).1] at i;cases i
end
structure CI(A:Str->Str->Prop)(S:FS)(Pd:Str->Prop):Prop where
 cl:∀ v u,Pd v->A v u->S.bas u=S.bas v\/(S.par u≠none/\¬ Pd u)
 pe:∀ v,Pd v->S.rows v≠none
theorem CI.mono(h:CI A S Pd)(hb:∀ u v,S.bas u=S.bas v->S'.bas u=S'.bas v)(b:∀ u,S.par u≠none->S'.par u≠none)(c:∀ u,S.rows u≠none->S'.rows u≠none):CI A S' Pd:=
 ⟨fun v u k a=>(h.cl v u k a).imp (hb u v) fun z=>⟨b u z.1,z.2⟩,fun v k=>c v (h.pe v k)⟩
theorem qdL:∀{l m:List Str},l.Nodup->(∀ x∈l,x∈m)->l.length<=m.length
 | [],_,_,_=>YC _
 | x::r,m,hn,hs=>by
  obtain⟨h1,c⟩:=yo.mp hn;have a:=hs x yI;have:=qdL (l:=r) (m:=m.erase x) c fun y b=>(kq (fun e=>h1 (by rw[<- e];show b))).mpr (hs y (yx _ b));rw[xk a] at this;have:0<m.length:=xw a;simp only[yC];omega
theorem qfp:∀(n:Nat) {X:List Str},X.length<=n->X.Nodup->(∀ x∈X,∃ y∈X,g x=some y/\y≠x/\g y=some x)->X.length % 2=0
 | _,[],_,_,_=>rfl
 | 0,x::r,h,_,_=>by simp at h
 | n+1,x::r,h,hn,hp=>by
  obtain⟨h1,f⟩:=yo.mp hn;obtain⟨y,q,l,j,m⟩:=hp x yI;have c:y∈r:=(yv.mp q).resolve_left j;have hl:=xk c;have v:0<r.length:=xw c
  have:=qfp n (X:=r.erase y) (by simp at h;omega) (f.erase y) fun z hz=>by
   have a:=(f.mem_erase_iff.mp hz);obtain⟨u,p,o,i,b⟩:=hp z (yx _ a.2);have s:u≠x:=fun e=>by rw[e,l] at b;show a.1 (ym b).symm
   have t:u≠y:=fun e=>by rw[e,m] at b;show h1 (by rw[ym b];show a.2)
   show⟨u,f.mem_erase_iff.mpr ⟨t,(yv.mp p).resolve_left s⟩,o,i,b⟩
  simp only[yC];omega
structure Fn(A:Str->Str->Prop)(f:Str->Option Str)(S:FS)(ss:List Str):Prop where
 fi:FI A f S
 gr:Gr A f
 inn:∀ a b,A a b->a∈ss
 nd:ss.Nodup
 cl:∀ v u,S.rows v≠none->A v u->S.bas u=S.bas v\/(S.par u≠none/\S.rows u=none)
 sng:∀ z∈ss,f z=none->S.rows z≠none
 es:∀ v,S.rows v≠none->v∈ss
noncomputable def qeL(S:FS)(ss:List Str)(b:Str):List Str:=ss.filter fun u=>(S.rows u).isSome&&decide (S.bas u=b)
noncomputable def qbD(S:FS)(ss:List Str):List Str:=ss.filter fun u=>(S.rows u).isSome&&decide (S.bas u=u)
noncomputable def qeA(S:FS)(ss:List Str):List Str:=ss.filter fun u=>(S.par u).isSome&&!(S.rows u).isSome
noncomputable def snL(g:Str->Option Str)(ss:List Str):List Str:=ss.filter fun u=>!(g u).isSome
section
variable{A:Str->Str->Prop}{f g:Str->Option Str}{S:FS}{ss:List Str}
theorem isS{o:Option α}:o.isSome=true↔o≠none:=by cases o<;>simp
theorem mem_cls:u∈qeL S ss b↔u∈ss/\S.rows u≠none/\S.bas u=b:=by
 unfold qeL;rw[yp,yY,isS,yU]
theorem mem_bas:u∈qbD S ss↔u∈ss/\S.rows u≠none/\S.bas u=u:=by
 unfold qbD;rw[yp,yY,isS,yU]
theorem mem_bar:u∈qeA S ss↔u∈ss/\S.par u≠none/\S.rows u=none:=by
 unfold qeA;rw[yp,yY,isS];cases S.rows u<;>simp
theorem mem_sn:u∈snL g ss↔u∈ss/\g u=none:=by
 unfold snL;rw[yp];cases g u<;>simp
theorem some_of{o:Option α}(h:o≠none):∃ r,o=some r:=by cases o with | none=>show absurd rfl h | some r=>show⟨r,rfl⟩
theorem FI.evE(I:FI A f S)(hv:S.rows v≠none)(e:S.bas u=S.bas v):S.rows u≠none:=fun a=>by
 obtain⟨r,b⟩:=some_of hv;obtain⟨c,hb⟩:=I.evb b;rw[I.own a] at e;rw[<- e,a] at hb;cases hb
theorem Fn.cls_odd(F:Fn A f S ss)(hb:b∈qbD S ss):(qeL S ss b).length % 2=1:=by
 obtain⟨p,l,m⟩:=mem_bas.mp hb;have c:b∈qeL S ss b:=mem_cls.mpr ⟨p,l,m⟩;have a:(qeL S ss b).Nodup:=F.nd.filter _
 have:=qfp (g:=f) _ (X:=(qeL S ss b).erase b) (yh _) (a.erase b) fun z hz=>by
  obtain⟨s,hz⟩:=a.mem_erase_iff.mp hz;obtain⟨t,n,o⟩:=mem_cls.mp hz;obtain⟨_,u,h,i⟩:=F.fi.mat z (fun e=>s (e.symm.trans o));have j:=F.fi.evE n i;show⟨u,a.mem_erase_iff.mpr ⟨fun e=>?_,mem_cls.mpr ⟨F.es u j,j,i.trans o⟩⟩,h,Yi (F.gr.ir (F.gr.fa h)),F.gr.fs h⟩;obtain⟨r,q⟩:=some_of l;rw[e] at h;show n (F.fi.dwn b r z q m (F.gr.fs h)).1
 rw[xk c] at this;have:=xw c;omega
theorem Fn.count(F:Fn A f S ss):(qbD S ss).length=(snL f ss).length+(qeA S ss).length:=by
 have hb:(qbD S ss).Nodup:=F.nd.filter _
 have e:(qbD S ss).length=((qbD S ss).filter fun b=>!(f b).isSome).length+((qbD S ss).filter fun b=>(f b).isSome).length:=by
  generalize qbD S ss=l
  induction l with
  | nil=>rfl
  | cons x r ih =>
   rw[yZ,yZ,yC,ih];cases (f x).isSome
   .rw [yG (show(!false)=true from rfl),yD Yo,yC];omega
   .rw [yD (show ¬ (!true)=true by decide),yG (show true=true from rfl),yC];omega
 rw[e];have D:((qbD S ss).filter fun b=>!(f b).isSome).length=(snL f ss).length:=Xl
  (qdL (hb.filter _) fun x c=>by
   obtain⟨h1,g⟩:=yp.mp c;show mem_sn.mpr ⟨(mem_bas.mp h1).1,?_⟩
   cases e:f x with
   | none=>rfl
   | some y=>rw[e] at g;cases g)
  (qdL (F.nd.filter _) fun x c=>by
   obtain⟨h1,g⟩:=mem_sn.mp c;show yp.mpr ⟨mem_bas.mpr ⟨h1,F.sng x h1 g,YJ fun z=>?_⟩,by rw[g];rfl⟩;obtain⟨_,u,j,_⟩:=F.fi.mat x z;rw[g] at j;cases j)
 have E:((qbD S ss).filter fun b=>(f b).isSome).length=(qeA S ss).length:=by
  have inj:(((qbD S ss).filter fun b=>(f b).isSome).map fun b=>(f b).getD "").Nodup:=by
   show kc.mpr (xl (fun{a b} G h p e=>?_) (hb.filter _));obtain⟨x,c⟩:=YX.mp (yp.mp G).2;obtain⟨y,w⟩:=YX.mp (yp.mp h).2;rw[c,w] at e;have o:x=y:=e;have k:=F.gr.fs c;rw[o,F.gr.fs w] at k;show p (ym k).symm
  show Xl ?_ ?_
  .have:=qdL inj (m:=qeA S ss) fun q s=>?_
   rwa[ya] at this
   obtain⟨b,h,rfl⟩:=yQ.mp s;obtain⟨h1,g⟩:=yp.mp h;obtain⟨x,c⟩:=YX.mp g;obtain⟨L,B,C⟩:=mem_bas.mp h1;obtain⟨r,H⟩:=some_of B;obtain⟨n,z,rz,v,_⟩:=F.fi.dwn b r x H C c;rw[c];have I:S.par x≠none:=by rw[v];show fun e=>by cases e
   show x∈qeA S ss;show mem_bar.mpr ⟨F.inn _ _ (F.gr.as (F.gr.fa c)),I,n⟩
  .have:(qeA S ss).length<=(((qbD S ss).filter fun b=>(f b).isSome).map fun b=>(f b).getD "").length:=qdL (F.nd.filter _) fun q s=>?_
   rwa[ya] at this
   obtain⟨M,J,K⟩:=mem_bar.mp s;obtain⟨z,hz⟩:=some_of J;obtain⟨_,_,y,r,n,v⟩:=F.fi.odd q z hz;have i:S.rows y≠none:=by rw[v];show fun e=>by cases e
   show yQ.mpr ⟨y,yp.mpr ⟨mem_bas.mpr ⟨F.es y i,i,YJ fun e=>?_⟩,by rw[F.gr.fs n];rfl⟩,by rw[F.gr.fs n];rfl⟩;obtain⟨_,u,j,t⟩:=F.fi.mat y e;rw[F.gr.fs n] at j;cases j;show F.fi.evE i t K
 rw[D,E]
theorem Fn.most(F:Fn A f S ss)(m:Gr A g):(snL f ss).length<=(ss.filter fun u=>!(g u).isSome&&(S.rows u).isSome).length:=by
 have n:∀ b∈qbD S ss,∃ v∈qeL S ss b,g v=none\/∃ w,g v=some w/\w∈qeA S ss:=fun b hb=>YJ fun r=>by
  have D:=F.cls_odd hb
  have:=qfp (g:=g) _ (X:=qeL S ss b) (yh _) (F.nd.filter _) fun v hv=>by
   obtain⟨E,t,G⟩:=mem_cls.mp hv
   cases e:g v with
   | none=>show absurd ⟨v,hv,.inl e⟩ r
   | some w =>
    have hw:=m.as (m.fa e);rcases F.cl v w t (m.fa e) with z | ⟨z1,z2⟩
    .have s:=F.fi.evE t z;show⟨w,mem_cls.mpr ⟨F.es w s,s,z.trans G⟩,rfl,Yi (m.ir (m.fa e)),m.fs e⟩
    .show absurd ⟨v,hv,.inr ⟨w,e,mem_bar.mpr ⟨F.inn _ _ hw,z1,z2⟩⟩⟩ r
  omega
 obtain⟨l,j⟩:∃ l:Str->Str,∀ b∈qbD S ss,l b∈qeL S ss b/\(g (l b)=none\/∃ w,g (l b)=some w/\w∈qeA S ss):=
  ⟨fun b=>@dite _ (b∈qbD S ss) (Classical.propDecidable _) (fun h=>(n b h).choose) fun _=>b,fun b hb=>by
   dsimp only;rw[dif_pos hb];show⟨(n b hb).choose_spec.1,(n b hb).choose_spec.2⟩⟩
 have inj:∀ a∈qbD S ss,∀ b∈qbD S ss,l a=l b->a=b:=fun a o b hb e=>by
  have h1:=(mem_cls.mp (j a o).1).2.2;have H:=(mem_cls.mp (j b hb).1).2.2;rw[<- h1,<- H,e]
 have hb:(qbD S ss).Nodup:=F.nd.filter _
 have B:(qbD S ss).length<=((ss.filter fun u=>!(g u).isSome&&(S.rows u).isSome)++qeA S ss).length:=by
  rw[<- ya (f:=fun b=>(g (l b)).getD (l b))];show qdL (kc.mpr (xl (fun{a b} o i q e=>?_) hb)) fun x I=>?_
  .have C:∀ c∈qbD S ss,S.rows (l c)≠none:=fun c hc=>(mem_cls.mp (j c hc).1).2.1;rcases(j a o).2 with z | ⟨w,z,hw⟩<;>rcases(j b i).2 with y | ⟨u,y,hu⟩
   .rw [z,y] at e;show q (inj a o b i e)
   .rw [z,y] at e;have p:l a=u:=e;show C a o (by rw[p];show(mem_bar.mp hu).2.2)
   .rw [z,y] at e;have p:w=l b:=e;show C b i (by rw[<- p];show(mem_bar.mp hw).2.2)
   .rw [z,y] at e;have p:w=u:=e;have k:=m.fs z;rw[p,m.fs y] at k;show q (inj a o b i (ym k).symm)
  .obtain⟨b,i,rfl⟩:=yQ.mp I;obtain⟨E,t,G⟩:=mem_cls.mp (j b i).1;rcases(j b i).2 with z | ⟨w,z,hw⟩
   .rw [z];show yO _ (yp.mpr ⟨E,by show(!(g (l b)).isSome&&(S.rows (l b)).isSome)=true;rw[z,isS.mpr t];rfl⟩)
   .rw [z];show yN _ hw
 rw[F.count,yt] at B;omega
end
theorem qdx:∀{qs:List (Str×Str)},pt qs s=some t->(s,t)∈qs\/(t,s)∈qs
 | [],h=>by cases h
 | q::r,h=>by
  unfold pt at h;split at h
  .rename_i e;cases h;show .inl (by rw[<- e];simp)
  .split at h
   .rename_i e;cases h;show .inr (by rw[<- e];simp)
   .rcases qdx h with z | z
    .show .inl (yx _ z)
    .show .inr (yx _ z)
theorem qf0:∀{qs:List (Str×Str)},(qw qs).Nodup->∀{a b:Str},(a,b)∈qs\/(b,a)∈qs->pt qs a=some b
 | [],_,a,b,m=>by rcases m with z | z<;>cases z
 | q::r,h,a,b,m=>by
  have f:(q.1::q.2::qw r).Nodup:=h;obtain⟨i,n⟩:=yo.mp f;obtain⟨o,p⟩:=yo.mp n;have inr:∀{x y:Str},(x,y)∈r->x∈qw r/\y∈qw r:=fun c=>⟨xj.mpr ⟨_,c,by simp⟩,xj.mpr ⟨_,c,by simp⟩⟩;unfold pt
  have later:(a,b)∈r\/(b,a)∈r->(if q.1=a then some q.2 else if q.2=a then some q.1 else pt r a)=some b:=fun l=>by
   have j:a∈qw r:=l.elim (fun z=>(inr z).1) fun z=>(inr z).2;rw[yD (fun z=>i (by rw[z];show yx _ j)),yD (fun z=>o (by rw[z];show j))];show qf0 p l
  rcases m with z | z
  .rcases yv.mp z with z | z
   .subst z;rw[yG rfl]
   .show later (.inl z)
  .rcases yv.mp z with z | z
   .subst z;have g:b≠a:=fun e=>i (by show b∈a::_;rw[e];show yI);rw[yD g,yG rfl]
   .show later (.inr z)
theorem qel(h:(qw qs).Nodup):pt qs a=some b↔(a,b)∈qs\/(b,a)∈qs:=⟨qdx,qf0 h⟩
theorem qem(h:(qw qs).Nodup):pt qs a=some b↔pt qs b=some a:=by
 rw[qel h,qel h,Or.comm]
theorem qen{x y:Option Str}(h:∀ b,x=some b↔y=some b):x=y:=by
 cases x with
 | none=>cases y with
  | none=>rfl
  | some b=>show absurd ((h b).mpr rfl) (fun z=>by cases z)
 | some a=>show((h a).mp rfl).symm
theorem uS:FnScope ["self","place","row"] ["self","place","row"] (qh jT):=fS
structure Fo where
 x:Addr
 b:Addr
 dp:Addr
 dr:Addr
 da:Addr
 ds:Addr
 dg:Addr
 dw:Addr
 ex:List Addr
noncomputable def Fo.six(a:Fo):List Addr:=[a.x,a.dr,a.da,a.ds,a.dg,a.dw]
noncomputable def Fo.all(a:Fo):List Addr:=a.six++a.ex
noncomputable def Fo.tab(a:Fo)(lo:V):List (Str×V):=[("board",.ref a.b),("partners",.ref a.dp),("rows",.ref a.dr),("parents",.ref a.da),("bases",.ref a.ds),("rings",.ref a.dg),("waiting",.ref a.dw),("longer",lo)]
def Bx(l:List Addr)(H H':Hp):Prop:=∀ c o,c∉l->H c=some o->H' c=some o
def RowV(H:Hp)(l:List Addr)(o:Option V):Option (List Str)->Prop
 | none=>o=none
 | some r=>∃ t,o=some (.ref t)/\H t=some (.lst (r.map V.str))/\t∉l
def FoO(b:Addr)(H:Hp)(a:Fo)(lo:V):Prop:=∃ dx fs,H a.x=some (.ins b dx fs)/\fs.length<=9/\(lo=.non->fs.length<=8)/\(∀ f v,(f,v)∈a.tab lo->fs.lookup f=some v)/\∀ f,f∉fAtt->fs.lookup f=none
structure FoA(cf cw:Addr)(H0 H:Hp)(a:Fo)(ss:List Str)(ns:List Nat)(qs:List (Str×Str))(S:FS)(bs dn wt:List Str)(lo:V):Prop where
 sm:L2.Same H0 H
 web:WebAt cw H0 a.b ss ns
 prt:H0 a.dp=some (.dK (prK qs))
 fr:∀ c∈a.six,H0 c=none
 nd:[a.dr,a.da,a.ds,a.dg,a.dw].Nodup
 exf:∀ c∈a.ex,H0 c=none/\c∉a.six/\∃ o,H c=some o
 obj:FoO cf H a lo
 row:∃ kvs,H a.dr=some (.dK kvs)/\kvs.length<=(dn++wt).length/\∀ s,RowV H a.all (j7 kvs (.inr s:Key)) (S.rows s)
 par:∃ kvs,H a.da=some (.dK kvs)/\(∃ po:List Str,kvs.length<=po.length/\po.Nodup/\∀ u∈po,u∈ss/\S.par u≠none)/\∀ s,j7 kvs (.inr s:Key)=(S.par s).map V.str
 bas:∃ kvs,H a.ds=some (.dK kvs)/\kvs.length<=bs.length/\∀ s∈bs,j7 kvs (.inr s:Key)=some (.str (S.bas s))
 rng:∃ xs,H a.dg=some (.lst xs)/\xs.length<=(dn++wt).length
 wai:H a.dw=some (.lst (wt.map V.str))
 evn:(dn++wt).Nodup
 evi:∀ v,v∈dn++wt↔S.rows v≠none
 evs:∀ v∈dn++wt,v∈ss
theorem RowV.mono{l:List Addr}{o:Option V}{r:Option (List Str)}(h:RowV H l o r){m:List Addr}(k:Bx m H H')(e:∀ c∈m,c∈l):RowV H' l o r:=by
 cases r with
 | none=>show h
 | some r=>obtain⟨t,h1,b,a⟩:=h;show⟨t,h1,k _ _ (fun z=>a (e _ z)) b,a⟩
theorem Fo.sub{a:Fo}:∀ c∈a.six,c∈a.all:=fun c h=>yO _ h
theorem Bx.of{l:List Addr}(s:L2.Same H H'):Bx l H H':=fun c o _ e=>s c o e
theorem Bx.trans{l:List Addr}{f:Hp}(a:Bx l H H')(b:Bx l H' f):Bx l H f:=fun c o n e=>b c o n (a c o n e)
section
variable{cf cw:Addr}{H0 H H':Hp}{a:Fo}{ss:List Str}{ns:List Nat}{qs:List (Str×Str)}{S S':FS}{bs dn wt:List Str}{lo:V}
theorem FoA.same(h:FoA cf cw H0 H a ss ns qs S bs dn wt lo)(s:L2.Same H H'):FoA cf cw H0 H' a ss ns qs S bs dn wt lo:=by
 obtain⟨dx,fs,h1,j⟩:=h.obj;obtain⟨m,t,u,v⟩:=h.row;obtain⟨n,q,r⟩:=h.par;obtain⟨p,b,f⟩:=h.bas;obtain⟨xs,g,i⟩:=h.rng;show⟨h.sm.trans s,h.web,h.prt,h.fr,h.nd,fun c hc=>⟨(h.exf c hc).1,(h.exf c hc).2.1,(h.exf c hc).2.2.elim fun o e=>⟨o,s _ _ e⟩⟩,⟨dx,fs,s _ _ h1,j⟩,⟨m,s _ _ t,u,fun z=>(v z).mono (Bx.of (l:=[]) s) (fun c h=>by cases h)⟩,⟨n,s _ _ q,r⟩,⟨p,s _ _ b,f⟩,⟨xs,s _ _ g,i⟩,s _ _ h.wai,h.evn,h.evi,h.evs⟩
theorem FoA.six(h:FoA cf cw H0 H a ss ns qs S bs dn wt lo):∀ c∈a.six,∃ o,H c=some o:=fun c hc=>by
 obtain⟨dx,fs,h1,_⟩:=h.obj;obtain⟨i,g,_⟩:=h.row;obtain⟨j,f,_⟩:=h.par;obtain⟨l,b,_⟩:=h.bas;obtain⟨xs,e,_⟩:=h.rng;simp only[Fo.six,yv,yM,Yt] at hc;rcases hc with rfl | rfl | rfl | rfl | rfl | rfl
 .show⟨_,h1⟩
 .show⟨_,g⟩
 .show⟨_,f⟩
 .show⟨_,b⟩
 .show⟨_,e⟩
 .show⟨_,h.wai⟩
theorem FoA.new(h:FoA cf cw H0 H a ss ns qs S bs dn wt lo){c:Addr}(e:H c=none):c∉a.six:=fun z=>by
 obtain⟨o,k⟩:=h.six c z;rw[e] at k;cases k
theorem FoA.sep(h:FoA cf cw H0 H a ss ns qs S bs dn wt lo):a.six.Nodup:=by
 obtain⟨dx,fs,h1,_⟩:=h.obj;obtain⟨g,f,_⟩:=h.row;obtain⟨i,e,_⟩:=h.par;obtain⟨j,b,_⟩:=h.bas;obtain⟨xs,c,_⟩:=h.rng;show yo.mpr ⟨fun z=>?_,h.nd⟩;simp only[yv,yM,Yt] at z;rcases z with z | z | z | z | z
 .rw [z,f] at h1;cases h1
 .rw [z,e] at h1;cases h1
 .rw [z,b] at h1;cases h1
 .rw [z,c] at h1;cases h1
 .rw [z,h.wai] at h1;cases h1
theorem FoO.eq(h:FoO cf H a lo)(e:H' a.x=H a.x):FoO cf H' a lo:=by
 obtain⟨dx,fs,h1,b⟩:=h;show⟨dx,fs,e.trans h1,b⟩
theorem Bx.upd{l:List Addr}{c:Addr}(k:Bx l H H')(hc:c∈l):Bx l H (upd H' c o):=fun d u n e=>by
 rw[qf (fun z=>n (by rw[z];show hc))];show k d u n e
noncomputable def Fo.add(a:Fo)(c:Addr):Fo:={ a with ex:=c::a.ex }
theorem FoA.add(h:FoA cf cw H0 H a ss ns qs S bs dn wt lo){c:Addr}(e:H c=none):FoA cf cw H0 (upd H c o) (a.add c) ss ns qs S bs dn wt lo:=by
 have g:=h.same (qI (Sr H) (o:=o) e);obtain⟨f,q,w,x⟩:=g.row;obtain⟨n,v,_,A⟩:=h.row
 have s:n=f:=by
  have:=qI (Sr H) (o:=o) e _ _ v;rw[q] at this;show(HO.dK.inj (ym this)).symm
 subst s;show⟨g.sm,g.web,g.prt,g.fr,g.nd,fun d hd=>?_,g.obj,⟨n,q,w,fun z=>?_⟩,g.par,g.bas,g.rng,g.wai,g.evn,g.evi,g.evs⟩
 .rcases yv.mp hd with rfl | hd
  .show⟨h.sm.free e,h.new e,_,qb⟩
  .show g.exf d hd
 .have b:=x z;have j:=A z
  cases i:S.rows z with
  | none=>rw[i] at b;show b
  | some r =>
   rw[i] at b j;obtain⟨t,f,u,p⟩:=b;obtain⟨t',l,m,_⟩:=j;rw[f] at l;cases l;show⟨t,f,u,fun y=>?_⟩;rcases yA.mp y with y | y
   .show p (yO _ y)
   .rcases yv.mp y with y | y
    .rw [y,e] at m;cases m
    .show p (yN _ y)
theorem FoA.updE(h:FoA cf cw H0 H a ss ns qs S bs dn wt lo){c:Addr}(hc:c∈a.ex):FoA cf cw H0 (upd H c o) a ss ns qs S bs dn wt lo:=by
 obtain⟨l,p,_⟩:=h.exf c hc;have ne:∀{d:Addr},d∈a.six->upd H c o d=H d:=fun b=>qf fun z=>p (by rw[<- z];show b);obtain⟨q,w,x,A⟩:=h.row;obtain⟨r,t,v⟩:=h.par;obtain⟨s,f,g⟩:=h.bas;obtain⟨xs,i,j⟩:=h.rng;show⟨qaH h.sm l,h.web,h.prt,h.fr,h.nd,fun d b=>⟨(h.exf d b).1,(h.exf d b).2.1,by by_cases z:d=c;show⟨_,by rw[z,qb]⟩;rw[qf z];show(h.exf d b).2.2⟩,h.obj.eq (ne (by simp[Fo.six])),⟨q,(ne (by simp[Fo.six])).trans w,x,fun z=>(A z).mono (m:=[c]) (fun d u n e=>by rw[qf (fun y=>n (by rw[y];simp))];show e) fun d b=>by rw[yy.mp b];show yN _ hc⟩,⟨r,(ne (by simp[Fo.six])).trans t,v⟩,⟨s,(ne (by simp[Fo.six])).trans f,g⟩,⟨xs,(ne (by simp[Fo.six])).trans i,j⟩,(ne (by simp[Fo.six])).trans h.wai,h.evn,h.evi,h.evs⟩
theorem FoA.drop(h:FoA cf cw H0 H a ss ns qs S bs dn wt lo){l:List Addr}(g:∀ c∈l,c∈a.ex):FoA cf cw H0 H { a with ex:=l } ss ns qs S bs dn wt lo:=by
 obtain⟨e,m,n,o⟩:=h.row;show⟨h.sm,h.web,h.prt,h.fr,h.nd,fun c hc=>h.exf c (g c hc),h.obj,⟨e,m,n,fun z=>?_⟩,h.par,h.bas,h.rng,h.wai,h.evn,h.evi,h.evs⟩;have b:=o z
 cases f:S.rows z with
 | none=>rw[f] at b;show b
 | some r =>
  rw[f] at b;obtain⟨t,e,i,j⟩:=b;show⟨t,e,i,fun y=>j ((yA.mp y).elim (fun z=>yO _ z) fun z=>yN _ (g _ z))⟩
theorem FoA.newA(h:FoA cf cw H0 H a ss ns qs S bs dn wt lo){c:Addr}(e:H c=none):c∉a.all:=fun z=>by
 rcases yA.mp z with z | z
 .show h.new e z
 .obtain⟨o,k⟩:=(h.exf c z).2.2;rw[e] at k;cases k
theorem FoA.few(h:FoA cf cw H0 H a ss ns qs S bs dn wt lo):(dn++wt).length<=ss.length:=zy h.evn h.evs
end
noncomputable def FS.setRow(S:FS)(p:Str)(r:List Str):FS:=⟨fun s=>if s=p then some r else S.rows s,S.par,S.bas⟩
inductive spRe(cc:Nat->Addr)(cw:Addr)(vs:List V)(H:Hp)(Q:VK)(E:XK):Prop|mk (H0:Hp) (a:Fo) (ss:List Str) (ns:List Nat) (qs:List (Str×Str)) (S:FS) (bs dn wt:List Str) (lo:V) (p:Str) (t:Addr) (r:List Str) (_:vs=[.ref a.x,.str p,.ref t]) (_:FoA (cc 9) cw H0 H a ss ns qs S bs dn wt lo) (_:ss.length<=14) (_:H t=some (.lst (r.map V.str))) (_:t∉a.all) (_:p∈ss) (_:S.rows p=none) (_:∀ H',FoA (cc 9) cw H0 H' a ss ns qs (S.setRow p r) bs dn (wt++[p]) lo->Bx a.six H H'->(∀ o,H a.dg=some o->H' a.dg=some o)->Q .non H')
inductive spBd(cc:Nat->Addr)(cw:Addr)(vs:List V)(H:Hp)(Q:VK)(E:XK):Prop|mk (H0:Hp) (a:Fo) (ss:List Str) (ns:List Nat) (qs:List (Str×Str)) (S:FS) (dn wt:List Str) (lo:V) (p:Str) (r l:List Str) (A:Str->Str->Prop) (_:vs=[.ref a.x,.str p]) (_:FoA (cc 9) cw H0 H a ss ns qs S ss dn wt lo) (_:ss.length<=14) (_:FI A (pt qs) S) (_:S.rows p=some r) (_:Ch (pt qs) S (S.bas p) l) (_:l.length<=14) (_:∀(t:Addr) (H':Hp),L2.Same H H'->H t=none->H' t=some (.lst (l.map V.str))->Q (.ref t) H')
section
variable{P:Program}{w:World}{K:W.Frag}{mg:Str->Option Value}{base:Heap}{cc:Nat->Addr}{cw:Addr}{H0 H:Hp}{a:Fo}{ss:List Str}{ns:List Nat}{qs:List (Str×Str)}{S:FS}{bs dn wt:List Str}{lo:V}
theorem FoO.rd{Q:V->Prop}{f:Str}{v:V}(h:FoO (cc 9) H a lo)(T:Txt K mg cc cw)(i:Nat)(e:(a.tab lo)[i]?=some (f,v))(q:Q v):∃(c C dx:Addr) (fs:List (Str×V)) (u:V),V.ref a.x=.ref c/\H c=some (.ins C dx fs)/\Cls K C/\NoAttr K C f/\fs.lookup f=some u/\Q u:=by
 obtain⟨dx,fs,h1,_,_,b,_⟩:=h;show⟨a.x,cc 9,dx,fs,v,rfl,h1,T.fcl,T.fa f ?_,b f v (ye e),q⟩;have:((a.tab lo).map Prod.fst)[i]?=some f:=by rw[yd,e];rfl
 show ye (l:=fAtt) (i:=i) this
theorem ok_re(F:Fun K "reach" "Forest.reach" jT f fd)(T:Txt K mg cc cw):FnOk P w K mg base CX0 1 f fd ["self","place","row"] (spRe cc cw):=by
 show F.ok uS fun _ _ _ _ H vs Q E W h=>?_
 .obtain⟨H0,a,ss,ns,qs,S,bs,dn,wt,lo,p,t,r,rfl,h,U,X,g,u,s,q⟩:=h;have Y:=jY W;have b:=h.few;have m:p∉dn++wt:=fun z=>(h.evi p).mp z s;show⟨_,(qc (jJ (pv 2) (jI (qB (K:=K) rfl (pv 0) rfl) (pv 1) (jL Y)))
 (qe (qL (qaW (K:=K) rfl yK Yc Yd qQ (qB (K:=K) rfl (pv 0) rfl) (qa (pv 1) qd))))),?_⟩
  ext;obtain⟨⟨n1,n2,n3,n4,n5⟩,⟨n6,n7,D,G⟩,⟨aa,ac,B⟩,⟨ad,C⟩,i⟩:=(by simpa [Fo.six] using h.sep:(¬a.x=a.dr/\¬a.x=a.da/\¬a.x=a.ds/\¬a.x=a.dg/\¬a.x=a.dw)/\(¬a.dr=a.da/\¬a.dr=a.ds/\¬a.dr=a.dg/\¬a.dr=a.dw)/\(¬a.da=a.ds/\¬a.da=a.dg/\¬a.da=a.dw)/\(¬a.ds=a.dg/\¬a.ds=a.dw)/\¬a.dg=a.dw);obtain⟨l,r1,r2,r3⟩:=h.row;obtain⟨ka,p1,p2,p3⟩:=h.par;obtain⟨ks,L,M,N⟩:=h.bas;obtain⟨xs,O,R⟩:=h.rng;show .inl (h.obj.rd T 2 rfl ?_);ext;show .inr ⟨a.dr,_,rfl,DPut.k (k:=Sum.inr p) r1 (by rw[YD];omega),?_⟩;have I:FoO (cc 9) (upd H a.dr (.dK (zC l (Sum.inr p) (.ref t)))) a lo:=h.obj.eq (qf n1);have J:upd H a.dr (.dK (zC l (Sum.inr p) (.ref t))) a.dw=some (.lst (wt.map V.str)):=by rw[qf (Yi G)];show h.wai
  ext;show .inl (I.rd T 6 rfl ?_);show⟨.inl ⟨rfl,_,.of J⟩,?_⟩;ext;show⟨a.dw,_,_,rfl,rfl,J,by rw[ya];show qi (by rw[yt] at b;omega),?_⟩;have A:∀{c:Addr} {o o':HO},c∉a.six->upd (upd H a.dr o) a.dw o' c=H c:=fun hc=>by rw[qf (fun z=>hc (by rw[z];simp[Fo.six])),qf (fun z=>hc (by rw[z];simp[Fo.six]))]
  have j:Bx a.six H (upd (upd H a.dr (.dK (zC l (Sum.inr p) (.ref t)))) a.dw (.lst (wt.map V.str++[.str p]))):=fun c o n e=>by rw[A n];show e
  show q _ ⟨qaH (qaH h.sm (h.fr _ (by simp[Fo.six]))) (h.fr _ (by simp[Fo.six])),h.web,h.prt,h.fr,h.nd,fun c hc=>⟨(h.exf c hc).1,(h.exf c hc).2.1,(h.exf c hc).2.2.elim fun o e=>⟨o,j _ _ (h.exf c hc).2.1 e⟩⟩,I.eq (qf n5),⟨_,by rw[qf G,qb],?_,fun z=>?_⟩,⟨ka,by rw[qf B,qf (Yi n6)];show p1,p2,p3⟩,⟨ks,by rw[qf C,qf (Yi n7)];show L,M,N⟩,⟨xs,by rw[qf i,qf (Yi D)];show O,?_⟩,by rw[qb,yF];rfl,?_,fun v=>?_,fun v hv=>?_⟩ j fun o e=>by(rw[qf i,qf (Yi D)];show e)
  .have:=ji l (Sum.inr p:Key) (.ref t);rw[<- Yk,yt (bs:=[p])];show _<=_+1;omega
  .unfold FS.setRow;dsimp only;rw[qax];by_cases e:z=p
   .subst e;rw[yG rfl,yG rfl];show⟨t,rfl,j _ _ (fun y=>g (Fo.sub _ y)) X,g⟩
   .rw [yD (fun y=>e (xJ y)),yD e];show(r3 z).mono j Fo.sub
  .rw [<- Yk,yt (bs:=[p])];show kS R
  .rw [<- Yk];show Yg.mpr ⟨h.evn,XV _ _,fun x A y Z e=>m (by rw[<- yy.mp Z,<- e];show A)⟩
  .rw [<- Yk,yA,yy,h.evi];unfold FS.setRow;dsimp only;by_cases e:v=p
   .subst e;rw[yG rfl];show⟨(fun _ z=>by cases z),fun _=>.inr rfl⟩
   .rw [yD e];show⟨fun z=>z.resolve_right e,.inl⟩
  .rw [<- Yk] at hv;rcases yA.mp hv with z | z
   .show h.evs v z
   .rw [yy.mp z];show u
end
theorem KI:FnScope ["self","place","bases","below"] ["self","place"] (qh qR):=fS
theorem atI_last{xs:List Str}:atI ((xs++[c]).map V.str) (-1)=some (.str c):=by
 have e:ixN ((xs++[c]).map V.str).length (-1)=some xs.length:=by
  unfold ixN;rw[yD (by omega),yG (by rw[ya,yt];simp;omega)]
  congr 1
  rw[ya,yt];simp only[yC,YU];omega
 unfold atI;rw[e];show((xs++[c]).map V.str)[xs.length]?=_;rw[yd,yJ (yh _),kK];rfl
theorem Ch.cases'{f:Str->Option Str}{t:List Str}(h:Ch f S b (b::t)):(f b=none/\t=[])\/∃ q z,f b=some q/\S.par q=some z/\Ch f S (S.bas z) t:=by
 generalize e:b::t=l at h
 cases h with
 | root h=>cases e;show .inl ⟨h,rfl⟩
 | step h1 h2 h3=>cases e;show .inr ⟨_,_,h1,h2,h3⟩
theorem in_prK{d:Addr}{Q:VK}(a:H d=some (.dK (prK qs)))(q:Q (.bl (pt qs s).isSome) H):qec K false (.str s) (.ref d) H Q:=by
 show .inr (.inl ⟨d,_,rfl,DGet.k (k:=Sum.inr s) a,?_⟩);rw[jO,yD (by decide),Xr];show q
theorem qeB{d:Addr}{v:V}{Q:VK}(a:H d=some (.dK kvs))(e:j7 kvs (.inr s:Key)=some v)(q:Q v H):qgc K (.ref d) (.str s) H Q:=.inr ⟨d,v,rfl,by rw[<- e];show DGet.k (k:=Sum.inr s) a,q⟩
theorem ok_bd(F:Fun K "bases_down_from" "Forest.bases_down_from" qR f fd)(T:Txt K mg cc cw):FnOk P w K mg base CX0 1 f fd ["self","place"] (spBd cc cw):=by
 show F.ok KI fun _ _ _ _ H vs Q E hr h=>?_
 .obtain⟨H0,a,ss,ns,qs,S,dn,wt,lo,p,r,l,B,rfl,h,ae,I,hp,A,ac,q⟩:=h;have s:=jY hr;show⟨_,(qc (qk (i:=2) KI.nd rfl (yL rfl) (qG (qa (qp (qr (K:=K) rfl s) (qB (K:=K) rfl (pv 0) rfl) (pv 1) (fun _ _=>rfl)) qd)))
 (qc (qaZ yP (qj (zr (K:=K) rfl s) (qp (qr (K:=K) rfl s) (pv 2) (qan zQ qg) (fun _ _=>rfl)) (qB (K:=K) rfl (pv 0) rfl) (by with_unfolding_all rfl))
 (qc (qk (i:=3) KI.nd rfl (yL rfl) (qp (qr (K:=K) rfl s) (qB (K:=K) rfl (pv 0) rfl) (qp (qr (K:=K) rfl s) (qB (K:=K) rfl (pv 0) rfl) (qp (qr (K:=K) rfl s) (pv 2) (qan zQ qg) (fun _ _=>rfl)) (fun _ _=>rfl)) (fun _ _=>rfl)))
 (qe (qL (qaW (K:=K) rfl yK Yc Yd qQ (pv 2) (qa (qp (qr (K:=K) rfl s) (qB (K:=K) rfl (pv 0) rfl) (pv 3) (fun _ _=>rfl)) qd))))))
 (qe (qm (pv 2))))),?_⟩
  have y:∀{v:Str} {r:List Str},S.rows v=some r->v∈ss:=fun e=>h.evs _ ((h.evi _).mpr (by rw[e];show fun z=>by cases z));obtain⟨ks,b1,b2,b3⟩:=h.bas;ext;show .inl (h.obj.rd T 4 rfl ?_);ext;show qeB b1 (b3 p (y hp)) ?_;ext;show⟨by show 1<=sizeLine;decide,fun bl n=>?_⟩;have s1:=qI (Sr H) (o:=.lst [.str (S.bas p)]) n;have e1:upd H bl (.lst [.str (S.bas p)]) bl=some (.lst (([]++[S.bas p]).map V.str)):=qb;generalize upd H bl (.lst [.str (S.bas p)])=H1 at s1 e1;ext;obtain⟨W,j⟩:∃ W:Nat->L2.St->Hp->Prop,W=fun m σ J=>∃(l1 l2:List Str) (c:Str) (y3:Option V),l=l1++c::l2/\σ=[some (.ref a.x),some (.str p),some (.ref bl),y3]/\L2.Same H J/\J bl=some (.lst ((l1++[c]).map V.str))/\m=l2.length:=⟨_,rfl⟩;obtain⟨t0,U⟩:=A.ne;show⟨W,⟨t0.length,by rw[j];show⟨[],t0,_,_,U,rfl,s1,e1,rfl⟩⟩,fun m σ J hW=>?_⟩;rw[j] at hW;obtain⟨l1,l2,c,y3,N,rfl,sJ,t,hm⟩:=hW;obtain⟨rc,_,Z,X,C,_⟩:=A.up I hp rfl N;have g:=h.same sJ;have G:=g.sm _ _ h.prt;ext;show⟨1,rfl,?_⟩;show .inl (zq t (v:=.str c) atI_last ?_);ext;show .inl (g.obj.rd T 1 rfl ?_);show in_prK G ?_;rcases C.cases' with⟨D,rfl⟩ | ⟨q',z,D,L,Y⟩
  .rw [D];show⟨_,rfl,qP (fun h=>by cases h) fun _=>?_⟩;ext;show q bl J sJ n (by rw[N];show t)
  .rw [D];show⟨_,rfl,zE ⟨fun M H'=>∃ m',m'<m/\W m' M H',fun M H' z=>z,?_⟩⟩;obtain⟨_,z',rz,b,aa,_⟩:=I.dwn c rc q' Z X D;rw[L] at b;cases b;obtain⟨ka,p1,p2,p3⟩:=g.par;obtain⟨af,O,ad,R⟩:=g.bas;ext;show .inl (g.obj.rd T 3 rfl ?_);ext;show .inl (g.obj.rd T 1 rfl ?_);ext;show⟨1,rfl,?_⟩;show .inl (zq t (v:=.str c) atI_last ?_);show qeB G (by rw[jO,D];rfl) ?_;show qeB p1 (by rw[p3,L];rfl) ?_;ext;show⟨.inl ⟨rfl,_,.of t⟩,?_⟩;ext;show .inl (g.obj.rd T 4 rfl ?_);ext;show qeB O (R z (y aa)) ?_;ext;show⟨bl,_,_,rfl,rfl,t,by rw[ya];show qi (by have:=congrArg List.length N;rw[yt,yC] at this;rw[yt];simp only[yC,YU];omega),?_⟩;obtain⟨t1,u⟩:=Y.ne;rw[j];show⟨t1.length,by rw[hm,u];simp,l1++[c],t1,S.bas z,_,by rw[N,u];simp,rfl,qaH sJ n,by rw[qb,yF (l₁:=l1++[c])];rfl,rfl⟩
theorem KC:FnScope ["self","one","other","bases","side","base","place","row"] ["self","one","other","bases"] (qh q9):=fS
structure RR(f:Str->Option Str)(S S':FS)(v w:Str)(cs:List Str):Prop where
 par:S'.par=S.par
 bas:S'.bas=S.bas
 old:∀ u r,S.rows u=some r->S'.rows u=some r
 new:∀ u r,S'.rows u=some r->S.rows u=some r\/∃ c∈cs,f c=some u/\NewRow S v w u r
 all:∀ c∈cs,∀ q,f c=some q->∃ r,S'.rows q=some r
noncomputable def pq(qs:List (Str×Str))(c:Str):Str:=(pt qs c).getD ""
inductive spRr(cc:Nat->Addr)(cw:Addr)(vs:List V)(H:Hp)(Q:VK)(E:XK):Prop|mk (H0:Hp) (a:Fo) (ss:List Str) (ns:List Nat) (qs:List (Str×Str)) (S:FS) (dn wt:List Str) (lo:V) (v w:Str) (lb:Addr) (cs rv rw:List Str) (_:vs=[.ref a.x,.str v,.str w,.ref lb]) (_:FoA (cc 9) cw H0 H a ss ns qs S ss dn wt lo) (_:ss.length<=14) (_:H lb=some (.lst (cs.map V.str))) (_:lb∉a.six) (_:S.rows v=some rv) (_:S.rows w=some rw) (_:rv.length<=14) (_:rw.length<=14) (_:rv.Nodup) (_:cs.Nodup) (_:cs.length<=14) (_:(qw qs).Nodup) (_:(∀ c∈cs,∃ q rz t,pt qs c=some q/\S.rows q=none/\q∈ss/\rv=rz++q::t)) (_:∀(t:Addr) (sd more:List Str) (H':Hp) (S':FS),FoA (cc 9) cw H0 H' (a.add t) ss ns qs S' ss dn (wt++more) lo->Bx a.six H H'->H t=none->H' t=some (.lst (sd.map V.str))->(∀ u,u∈sd↔∃ c∈cs,u=c\/pt qs c=some u)->sd.length=2*cs.length->more=cs.map (pq qs)->RR (pt qs) S S' v w cs->(∀ o,H a.dg=some o->H' a.dg=some o)->Q (.ref t) H')
theorem qc1{t:List Str}{q:Str}(a:(rz++q::t).Nodup):(rz++q::t).idxOf q=rz.length:=by
 show qby a (by rw[yJ (yh _),kK];rfl)
theorem qeM{a b:Addr}{Q:VK}(c:G a=some (.lst xs))(e:G b=some (.lst ys))(hl:xs.length+ys.length<=1000)(q:∀ p,G p=none->Q (.ref p) (upd G p (.lst (xs++ys)))):qdE K (.ref a) (.ref b) G Q:=.inl ⟨a,b,_,_,rfl,rfl,c,e,yi hl (by decide),q⟩
theorem ok_rr(F:Fun K "reach_round" "Forest.reach_round" q9 f fd)(T:Txt K mg cc cw)(KL:MethOk P w K mg base CX0 1 (cc 9) "reach" ["self","place","row"] (spRe cc cw)):FnOk P w K mg base CX0 2 f fd ["self","one","other","bases"] (spRr cc cw):=by
 show F.ok KC fun _ _ _ _ H vs Q E hr h=>?_
 .obtain⟨H0,a,ss,ns,qs,S,dn,wt,lo,v,w,lb,R,rv,g,rfl,h,aq,L,ba,hv,hw,bc,bj,al,ax,bg,ak,ay,q⟩:=h;have hu:=jY hr;show⟨_,(qc (qk (i:=4) KC.nd rfl (yL rfl) (qG qd))
 (qc (qZ yP rfl (qS (K:=K) rfl (pv 3)) (qu (i:=5) KC.nd rfl (yL rfl))
 (qc (qk (i:=6) KC.nd rfl (yL rfl) (qp (qr (K:=K) rfl hu) (qB (K:=K) rfl (pv 0) rfl) (pv 5) (fun _ _=>rfl)))
 (qc (qk (i:=7) KC.nd rfl (yL rfl) (qp (qr (K:=K) rfl hu) (qB (K:=K) rfl (pv 0) rfl) (pv 1) (fun _ _=>rfl)))
 (qc (qL (qF KL (hmR hr) (pv 0) (qa (pv 6) (qa (qz (jV (K:=K) rfl) (qp (qr (K:=K) rfl hu) (qB (K:=K) rfl (pv 0) rfl) (pv 2) (fun _ _=>rfl)) (qe3 (K:=K) rfl (jf (qdk (K:=K) rfl) (pv 7) (jh (qaW (K:=K) rfl yK YG YQ (qar (K:=K) rfl) (pv 7) (qa (pv 6) qd))) jB) (jh (qan zQ qg)))) qd))))
 (qe (qL (qaW (K:=K) rfl yK XF XG qaR (pv 4) (qa (qG (qa (pv 5) (qa (pv 6) qd))) qd))))))))
 (qe (qm (pv 4))))),?_⟩
  ext;show⟨by show 0<=sizeLine;decide,fun l s=>?_⟩;have s1:=qI (Sr H) (o:=.lst []) s;have h1:=h.add (o:=.lst []) s;have Z:upd H l (.lst []) l=some (.lst (([]:List Str).map V.str)):=qb;have bm:lb≠l:=fun z=>by rw[z,s] at L;cases L
  generalize upd H l (.lst [])=H1 at s1 h1 Z;ext;obtain⟨LI,B⟩:∃ LI:Nat->L2.St->Hp->Prop,LI=fun i σ J=>∃(S':FS) (b I:List Str) (y5 y6 y7:Option V),σ=[some (.ref a.x),some (.str v),some (.str w),some (.ref lb),some (.ref l),y5,y6,y7]/\FoA (cc 9) cw H0 J (a.add l) ss ns qs S' ss dn (wt++b) lo/\Bx a.six H J/\J l=some (.lst (I.map V.str))/\(∀ u,u∈I↔∃ c∈R.take i,u=c\/pt qs c=some u)/\I.length=2*i/\b=(R.take i).map (pq qs)/\RR (pt qs) S S' v w (R.take i)/\∀ o,H a.dg=some o->J a.dg=some o:=⟨_,rfl⟩;show .inl ⟨⟨_,.of (s1 _ _ L)⟩,qN (xs:=R.map V.str) LI (by rw[B];show⟨S,[],[],_,_,_,rfl,by rw[Yj];show h1,Bx.of s1,Z,fun u=>by simp,rfl,rfl,⟨rfl,rfl,fun _ _ e=>e,fun _ _ e=>.inl e,fun c hc=>by simp at hc⟩,fun o e=>s1 _ _ e⟩) (fun i σ J _ U=>?_) (fun i y σ J hy U=>?_) fun σ J U=>?_⟩
  .rw [B] at U;obtain⟨S',b,I,y5,y6,y7,rfl,A,X,_⟩:=U;show .of (X _ _ ba L)
  .rw [B] at U;obtain⟨S',b,I,y5,y6,y7,rfl,A,X,eJ,N,m,M,G,W⟩:=U;rw[yd] at hy;obtain⟨c,hc,rfl⟩:=yn.mp hy;have aw:=ye hc;obtain⟨z,rz,t,hz,am,bf,p⟩:=ay c aw;have bh:i<R.length:=(yc.mp hc).1;have D:R.take (i+1)=R.take i++[c]:=by rw[yT,hc];rfl
   have bb:=A.sm _ _ h.prt;obtain⟨kr,r1,r2,r3⟩:=A.row
   have rowOf:∀{u:Str} {r:List Str},S.rows u=some r->∃ t,j7 kr (.inr u:Key)=some (.ref t)/\J t=some (.lst (r.map V.str)):=fun{u r} e=>by
    have:=r3 u;rw[G.old u r e] at this;obtain⟨t,k1,k2,_⟩:=this;show⟨t,k1,k2⟩
   obtain⟨tv,kv,ev⟩:=rowOf hv;obtain⟨tw,kw,ew⟩:=rowOf hw;ext;show .inl (A.obj.rd T 1 rfl ?_);ext;show qeB bb (by rw[jO,hz];rfl) ?_;ext;show .inl (A.obj.rd T 2 rfl ?_);ext;show qeB r1 kv ?_;ext;obtain⟨dx,fs,bd,_,_,_,be⟩:=id A.obj;show⟨a.x,dx,fs,rfl,bd,be _ (by decide +kernel),?_⟩;ext;show .inl (A.obj.rd T 2 rfl ?_);ext;show qeB r1 kw ?_;ext;show qgQ ?_;ext;show⟨.inl ⟨rfl,_,.of ev⟩,?_⟩;ext;show⟨tv,rv,z,rfl,rfl,.of ev,by rw[p];simp,_,rfl,?_⟩;rw[p] at al;have ap:rv.idxOf z=rz.length:=by rw[p];show qc1 al
   rw[ap];ext;show .inl ⟨tv,_,rfl,.of ev,fun c1 as=>?_⟩;have ag:qbS (rv.map V.str) (some ((rz.length:Nat):Int)) none=(z::t).map V.str:=by rw[qcE,p,yF,List.drop_left' (by simp)]
   rw[ag];have t1:=qI (Sr J) (o:=.lst ((z::t).map V.str)) as;have ac:upd J c1 (.lst ((z::t).map V.str)) c1=some (.lst ((z::t).map V.str)):=qb;generalize upd J c1 (.lst ((z::t).map V.str))=J1 at t1 ac;ext;show⟨1,rfl,?_⟩;show⟨_,rfl,rfl,c1,_,rfl,.of ac,fun c2 au=>?_⟩;have t2:=qI t1 (o:=.lst ((z::t).map V.str).reverse) au;have ad:upd J1 c2 (.lst ((z::t).map V.str).reverse) c2=some (.lst ((z::t).reverse.map V.str)):=by rw[qb,List.map_reverse]
   generalize upd J1 c2 (.lst ((z::t).map V.str).reverse)=J2 at t2 ad;have bi:(z::t).length<=14:=by rw[p,yt] at bc;omega
   show qeM (t2 _ _ ew) ad (by rw[ya,ya,Yz];omega) fun c3 ah=>?_;have ar:=A.same t2;have n3:=ar.newA ah;have t3:=qI t2 (o:=.lst (g.map V.str++(z::t).reverse.map V.str)) ah;have ae:upd J2 c3 (.lst (g.map V.str++(z::t).reverse.map V.str)) c3=some (.lst ((g++(z::t).reverse).map V.str)):=by rw[qb,yF]
   generalize upd J2 c3 (.lst (g.map V.str++(z::t).reverse.map V.str))=J3 at t3 ae
   have ai:c∉R.take i:=fun y=>by
    obtain⟨j,hj⟩:=yf y;have az:=(yc.mp hj).1;rw[yX] at az;rw[List.getElem?_take,yG (by omega)] at hj;have:=qy ax hj hc;omega
   have an:S'.rows z=none:=by
    cases e:S'.rows z with
    | none=>rfl
    | some r =>
     exfalso;rcases G.new z r e with y | ⟨O,C,y,_⟩
     .rw [am] at y;cases y
     .have Z:=(qem ak).mp y;rw[(qem ak).mp hz] at Z;rw[<- ym Z] at C;show ai C
   ext;show⟨H0,a.add l,ss,ns,qs,S',ss,dn,wt++b,lo,z,c3,g++(z::t).reverse,rfl,A.same t3,aq,ae,n3,bf,an,fun J4 h4 Y aj=>?_⟩;have ao:l∉a.six:=h.new s;have aa:J4 l=some (.lst (I.map V.str)):=Y _ _ ao (t3 _ _ eJ);ext;show⟨.inl ⟨rfl,_,.of aa⟩,?_⟩;ext;show⟨by show 2<=sizeLine;decide,fun c5 av=>?_⟩;have t5:=qI (Sr J4) (o:=.lst [.str c,.str z]) av;have af:upd J4 c5 (.lst [.str c,.str z]) c5=some (.lst [.str c,.str z]):=qb;generalize upd J4 c5 (.lst [.str c,.str z])=J5 at t5 af;have h5:=h4.same t5;ext;show⟨l,c5,_,_,rfl,rfl,t5 _ _ aa,af,by rw[ya,YD];show _+2<=_;omega,?_⟩;have h6:=h5.updE (c:=l) (o:=.lst (I.map V.str++[.str c,.str z])) yI;rw[B];show⟨S'.setRow z (g++(z::t).reverse),b++[z],I++[c,z],_,_,_,rfl,by rw[<- Yk wt];show h6,?_,by rw[qb,yF];rfl,fun u=>?_,by rw[yt,m];show _+2=_;omega,by rw[M,D,yF];unfold pq;simp[hz],⟨G.par,G.bas,fun u r e=>?_,fun u r e=>?_,fun O C q' e=>?_⟩,fun o e=>?_⟩
   .show fun d o n e=>by
     have ne:d≠l:=fun y=>by rw[y,s] at e;cases e
     rw[qf ne];show t5 _ _ (Y _ _ n (t3 _ _ (X _ _ n e)))
   .rw [D,yA,N];simp only[yA,yv,yM,Yt];constructor
    .rintro (⟨O,h1,h2⟩ | rfl | rfl)
     .show⟨O,.inl h1,h2⟩
     .show⟨u,.inr rfl,.inl rfl⟩
     .show⟨c,.inr rfl,.inr hz⟩
    .rintro ⟨O,h1 | rfl,h2⟩
     .show .inl ⟨O,h1,h2⟩
     .rcases h2 with h2 | h2
      .show .inr (.inl h2)
      .rw [hz] at h2;show .inr (.inr (ym h2).symm)
   .show(if u=z then _ else S'.rows u)=_;rw[yD (fun y=>by rw[y,am] at e;cases e)];show G.old u r e
   .have e':(if u=z then some (g++(z::t).reverse) else S'.rows u)=some r:=e;by_cases y:u=z
    .subst y;rw[yG rfl] at e';show .inr ⟨c,by rw[D];simp,hz,rv,g,rz,t,hv,hw,p,(ym e').symm⟩
    .rw [yD y] at e';rcases G.new u r e' with x | ⟨O,h1,h2⟩
     .show .inl x
     .show .inr ⟨O,by rw[D];show yO _ h1,h2⟩
   .show ∃ r,(if q'=z then some (g++(z::t).reverse) else S'.rows q')=some r;by_cases y:q'=z
    .rw [yG y];show⟨_,rfl⟩
    .rw [yD y];rw[D] at C;rcases yA.mp C with x | x
     .show G.all O x q' e
     .rw [yy.mp x,hz] at e;show absurd (ym e).symm y
   .have ne:a.dg≠l:=fun y=>ao (by rw[<- y];simp[Fo.six]);rw[qf ne];show t5 _ _ (aj o (t3 _ _ (W o e)))
  .rw [B] at U;obtain⟨S',b,I,y5,y6,y7,rfl,A,X,eJ,N,m,M,G,W⟩:=U;rw[ya] at m;rw[ya,yW] at N G M;ext;show q l I b J S' A X s eJ N m M G W
theorem K8:FnScope ["self","ring","meeting","within","place"] ["self","ring","meeting"] (qh jE):=fS
noncomputable def FS.setBas(S:FS)(l:List Str)(m:Str):FS:=⟨S.rows,S.par,fun u=>if u∈l then m else S.bas u⟩
noncomputable def wnL(S:FS)(ss a:List Str)(m:Str):List Str:=ss.filter fun u=>decide (S.bas u∈a++[m])
inductive spFd(cc:Nat->Addr)(cw:Addr)(vs:List V)(H:Hp)(Q:VK)(E:XK):Prop|mk (H0:Hp) (a:Fo) (ss:List Str) (ns:List Nat) (qs:List (Str×Str)) (S:FS) (dn wt:List Str) (lo:V) (lr:Addr) (rg:List Str) (m:Str) (xs:List V) (_:vs=[.ref a.x,.ref lr,.str m]) (_:FoA (cc 9) cw H0 H a ss ns qs S ss dn wt lo) (_:ss.length<=14) (_:H lr=some (.lst (rg.map V.str))) (_:lr∉a.six) (_:rg.length<=100) (_:H a.dg=some (.lst xs)) (_:xs.length<(dn++wt).length) (_:∀ H',FoA (cc 9) cw H0 H' a ss ns qs (S.setBas (wnL S ss rg m) m) ss dn wt lo->Bx a.six H H'->Q .non H')
theorem put_len{k:Key}{v u:V}(h:j7 kvs k=some u):(zC kvs k v).length=kvs.length:=by
 unfold zC;rw[qaa,h];show ya _
theorem qeo{n:Addr}{Q:VK}(a:H n=some (.lst (ss.map V.str)))(q:Q (.bl (decide (z∈ss))) H):qec K false (.str z) (.ref n) H Q:=
 .inl ⟨n,_,rfl,.inl (.of a),rfl,YM.mpr fun x b=>by(obtain⟨s,_,rfl⟩:=yQ.mp b;rfl),by rw[yD (by decide),qc0];show q⟩
theorem FoA.setB{a:Fo}{ks:List (Key×V)}{m:Str}(h:FoA (cc 9) cw H0 H a ss ns qs (S.setBas l m) ss dn wt lo)(v:H a.ds=some (.dK ks))(hz:z∈ss):FoA (cc 9) cw H0 (upd H a.ds (.dK (zC ks (Sum.inr z) (.str m)))) a ss ns qs (S.setBas (l++[z]) m) ss dn wt lo/\ks.length<=ss.length:=by
 obtain⟨B,L,M,N⟩:=h.row;obtain⟨A,I,J,K⟩:=h.par;obtain⟨k,i,j,p⟩:=h.bas;obtain⟨xs,s,t⟩:=h.rng;rw[v] at i;cases i;obtain⟨⟨O,P,F,R,T⟩,⟨U,G,W,X⟩,⟨b,C,D⟩,⟨f,g⟩,E⟩:=(by simpa [Fo.six] using h.sep:(¬a.x=a.dr/\¬a.x=a.da/\¬a.x=a.ds/\¬a.x=a.dg/\¬a.x=a.dw)/\(¬a.dr=a.da/\¬a.dr=a.ds/\¬a.dr=a.dg/\¬a.dr=a.dw)/\(¬a.da=a.ds/\¬a.da=a.dg/\¬a.da=a.dw)/\(¬a.ds=a.dg/\¬a.ds=a.dw)/\¬a.dg=a.dw);have q:Bx a.six H (upd H a.ds (.dK (zC ks (Sum.inr z) (.str m)))):=fun c o n e=>by rw[qf (fun y=>n (by rw[y];simp[Fo.six]))];show e
 show⟨⟨qaH h.sm (h.fr _ (by simp[Fo.six])),h.web,h.prt,h.fr,h.nd,fun c hc=>⟨(h.exf c hc).1,(h.exf c hc).2.1,(h.exf c hc).2.2.elim fun o e=>⟨o,q _ _ (h.exf c hc).2.1 e⟩⟩,h.obj.eq (qf F),⟨B,by rw[qf G];show L,M,fun y=>(N y).mono q Fo.sub⟩,⟨A,by rw[qf b];show I,J,K⟩,⟨_,qb,by rw[put_len (p z hz)];show j,fun u w=>?_⟩,⟨xs,by rw[qf (Yi f)];show s,t⟩,by rw[qf (Yi g)];show h.wai,h.evn,h.evi,h.evs⟩,j⟩;rw[qax,p u w];show(if _ then _ else _)=some (V.str (if u∈l++[z] then m else S.bas u));have r:(S.setBas l m).bas u=if u∈l then m else S.bas u:=rfl;rw[r];by_cases e:u=z
 .subst e;rw[yG rfl,yG (by simp)]
 .rw [yD (fun x=>e (xJ x))];by_cases y:u∈l
  .rw [yG y,yG (yO _ y)]
  .rw [yD y,yD (fun x=>(yA.mp x).elim y fun x=>e (yy.mp x))]
theorem FoA.updG{a:Fo}{bs:List Str}(h:FoA (cc 9) cw H0 H a ss ns qs S bs dn wt lo)(n:xs.length<=(dn++wt).length):FoA (cc 9) cw H0 (upd H a.dg (.lst xs)) a ss ns qs S bs dn wt lo:=by
 obtain⟨q,B,C,D⟩:=h.row;obtain⟨p,w,z,A⟩:=h.par;obtain⟨k,j,l,m⟩:=h.bas;obtain⟨⟨E,F,G,u,I⟩,⟨J,K,v,L⟩,⟨r,b,s⟩,⟨f,t⟩,g⟩:=(by simpa [Fo.six] using h.sep:(¬a.x=a.dr/\¬a.x=a.da/\¬a.x=a.ds/\¬a.x=a.dg/\¬a.x=a.dw)/\(¬a.dr=a.da/\¬a.dr=a.ds/\¬a.dr=a.dg/\¬a.dr=a.dw)/\(¬a.da=a.ds/\¬a.da=a.dg/\¬a.da=a.dw)/\(¬a.ds=a.dg/\¬a.ds=a.dw)/\¬a.dg=a.dw);have i:Bx a.six H (upd H a.dg (.lst xs)):=(Bx.of (Sr H)).upd (by simp[Fo.six]);show⟨qaH h.sm (h.fr _ (by simp[Fo.six])),h.web,h.prt,h.fr,h.nd,fun c hc=>⟨(h.exf c hc).1,(h.exf c hc).2.1,(h.exf c hc).2.2.elim fun o e=>⟨o,i _ _ (h.exf c hc).2.1 e⟩⟩,h.obj.eq (qf u),⟨q,by rw[qf v];show B,C,fun y=>(D y).mono i Fo.sub⟩,⟨p,by rw[qf b];show w,z,A⟩,⟨k,by rw[qf f];show j,l,m⟩,⟨xs,qb,n⟩,by rw[qf (Yi g)];show h.wai,h.evn,h.evi,h.evs⟩
theorem ok_fdF(F:Fun K "fold" "Forest.fold" jE f fd)(T:Txt K mg cc cw)(uq:MethOk P w K mg base CX0 1 cw "places" ["self"] (spPls cw)):FnOk P w K mg base CX0 2 f fd ["self","ring","meeting"] (spFd cc cw):=by
 show F.ok K8 fun _ _ _ _ H vs Q E hr h=>?_
 .obtain⟨H0,a,ss,ns,qs,S,dn,wt,lo,lr,g,m,xs,rfl,h,an,af,aq,ar,ad,as,q⟩:=h;have C:=jY hr;show⟨_,(qc (qaQ (sc:=qh jE) (XN:=["self","ring","meeting","within","place"]) ["place","ring","self","meeting"] 1 [1,0,2] rfl rfl rfl (by decide +kernel) rfl (by decide +kernel) (i:=3) K8.nd rfl rfl
  (qS (K:=K) rfl (jD uq (hmR hr) (qB (K:=K) rfl (pv 0) rfl))) (fun _ _ _ _=>(qu (i:=0) (show(["place","ring","self","meeting"]:List Str).Nodup by decide +kernel) rfl (yL rfl))) jp
  (fun _ _ _ _=>(jC (qj (zr (K:=K) rfl C) (qp (qr (K:=K) rfl C) (qB (K:=K) rfl (pv 2) rfl) (pv 0) (fun _ _=>rfl)) (qz (jV (K:=K) rfl) (pv 1) (qG (qa (pv 3) qd))) (by with_unfolding_all rfl))))
  (fun _ _ _ _=>(pv 0)))
 (qc (qZ yP rfl (qS (K:=K) rfl (pv 3)) (qu (i:=4) K8.nd rfl (yL rfl))
 (qe (jJ (pv 2) (jI (qB (K:=K) rfl (pv 0) rfl) (pv 4) (jL C)))))
 (qe (qL (qaW (K:=K) rfl yK Yc Yd qQ (qB (K:=K) rfl (pv 0) rfl) (qa (pv 3) qd)))))),?_⟩
  have al:=h.few;have B:=h.web.same h.sm;obtain⟨wx,dd,ol,nn,hb,_⟩:=id B;ext;show .inl (h.obj.rd T 0 rfl ?_);show⟨a.b,wx,_,rfl,hb,zg (by decide +kernel),?_⟩;ext;show⟨a.b,ss,ns,rfl,B,fun pl ag=>?_⟩;have s1:=qI (Sr H) (o:=.lst (ss.map V.str)) ag;have Z:upd H pl (.lst (ss.map V.str)) pl=some (.lst (ss.map V.str)):=qb;generalize upd H pl (.lst (ss.map V.str))=H1 at s1 Z;show .inl ⟨⟨_,.of Z⟩,je (xs:=ss.map V.str) (fun i ys J=>L2.Same H1 J/\ys=((ss.take i).filter fun u=>decide (S.bas u∈g++[m])).map V.str) ⟨L2.Same.refl H1,rfl⟩ (fun i ys J _ j=>.of (j.1 _ _ Z)) (fun i y ys J I j=>?_) fun ys J j=>?_⟩
  .obtain⟨L,rfl⟩:=j;rw[yd] at I;obtain⟨z,hz,rfl⟩:=yn.mp I;have l:=s1.trans L;have p:=h.same l;obtain⟨ks,O,b2,b3⟩:=p.bas;have ao:=(yc.mp hz).1
   have s:(ss.take (i+1)).filter (fun u=>decide (S.bas u∈g++[m]))=(ss.take i).filter (fun u=>decide (S.bas u∈g++[m]))++(if S.bas z∈g++[m] then [z] else []):=by
    rw[yT,hz,Yw];show _++[z].filter _=_;rw[yZ];simp only[X6,xq]
   ext;show .inl (p.obj.rd T 4 rfl ?_);ext;show qeB O (b3 z (ye hz)) ?_;ext;show⟨by show 1<=sizeLine;decide,fun X aa=>?_⟩;have t1:=qI (Sr J) (o:=.lst [.str m]) aa;have t:upd J X (.lst [.str m]) X=some (.lst [.str m]):=qb;generalize upd J X (.lst [.str m])=J1 at t1 t;show qeM ((l.trans t1) _ _ af) t (by rw[ya];show _+1<=_;omega) fun Y ac=>?_;have t2:=qI t1 (o:=.lst (g.map V.str++[.str m])) ac;have v:upd J1 Y (.lst (g.map V.str++[.str m])) Y=some (.lst ((g++[m]).map V.str)):=by rw[qb,yF];rfl
   generalize upd J1 Y (.lst (g.map V.str++[.str m]))=J2 at t2 v;show qeo v ⟨_,rfl,?_⟩;rw[s];by_cases r:S.bas z∈g++[m]
   .rw [yB r,yG r];show zE ?_;ext;have ae:=YF (fun u=>decide (S.bas u∈g++[m])) (ss.take i);rw[yX] at ae;show⟨by rw[ya];show qi (by omega),L.trans t2,by rw[yF];rfl⟩
   .rw [yl r,yD r,Yj];show yq ?_;show⟨L.trans t2,rfl⟩
  .obtain⟨L,rfl⟩:=j;rw[show(ss.map V.str).length=ss.length from ya _,yW];have l:=s1.trans L;have ai:(ss.filter fun u=>decide (S.bas u∈g++[m])).length<=ss.length:=YF _ _;show⟨by rw[ya];show Yh (qi (by omega)),fun N D=>?_⟩;have R:=qI l (o:=.lst ((wnL S ss g m).map V.str)) D;have ew:upd J N (.lst ((wnL S ss g m).map V.str)) N=some (.lst ((wnL S ss g m).map V.str)):=qb;have am:(wnL S ss g m).length<=ss.length:=ai;have aj:∀ u∈wnL S ss g m,u∈ss:=fun u C=>(yp.mp C).1;show qgf _ _ _ _ (upd J N (.lst ((wnL S ss g m).map V.str)));generalize wnL S ss g m=M at *;have G:=(h.same l).new D;generalize upd J N (.lst (M.map V.str))=H2 at R ew;have h2:=h.same R;ext;show .inl ⟨⟨_,.of ew⟩,qN (xs:=M.map V.str) (fun i U J=>Bx a.six H2 J/\(∀ o,H2 a.dg=some o->J a.dg=some o)/\FoA (cc 9) cw H0 J a ss ns qs (S.setBas (M.take i) m) ss dn wt lo/\∃ y4,U=[some (.ref a.x),some (.ref lr),some (.str m),some (.ref N),y4]) ⟨fun c o _ e=>e,fun _ e=>e,?_,_,rfl⟩ (fun i U J _ j=>.of (j.1 _ _ G ew)) (fun i y U J I j=>?_) fun U J j=>?_⟩
   .have:S.setBas ([]:List Str) m=S:=by unfold FS.setBas;simp
    rw[List.take_zero,this];show h2
   .obtain⟨W,hg,p,y4,rfl⟩:=j;rw[yd] at I;obtain⟨z,hz,rfl⟩:=yn.mp I;obtain⟨ks,O,b2,b3⟩:=p.bas;have ah:M.take (i+1)=M.take i++[z]:=by rw[yT,hz];rfl
    obtain⟨h3,ap⟩:=p.setB O (aj z (ye hz));ext;show .inl (p.obj.rd T 4 rfl ?_);ext;show .inr ⟨a.ds,_,rfl,DPut.k (k:=Sum.inr z) O (by rw[YD];omega),?_⟩;have ak:a.dg≠a.ds:=fun e=>by have:=h.nd;rw[e] at this;simp at this
    show⟨fun c o n e=>by rw[qf (fun y=>n (by rw[y];simp[Fo.six]))];show W c o n e,fun o e=>by rw[qf ak];show hg o e,by rw[ah];show h3,_,rfl⟩
   .obtain⟨W,hg,p,y4,rfl⟩:=j;rw[ya,yW] at p;have A:=hg _ (R _ _ ad);ext;show .inl (p.obj.rd T 5 rfl ?_);show⟨.inl ⟨rfl,_,.of A⟩,?_⟩;ext;show⟨a.dg,_,_,rfl,rfl,A,qi (by omega),?_⟩;show q _ (p.updG (by rw[yt];simp only[yC,YU];omega)) ((Bx.of R).trans W |>.upd (by simp[Fo.six]))
theorem KA:FnScope ["self","one","other","ones","others","meeting","ring"] ["self","one","other"] (qh qJ):=fS
structure Mono(S S':FS):Prop where
 ba:∀ u v,S.bas u=S.bas v->S'.bas u=S'.bas v
 pa:∀ u,S.par u≠none->S'.par u≠none
 ro:∀ u r,S.rows u=some r->S'.rows u=some r
theorem Mono.refl(S:FS):Mono S S:=⟨fun _ _ e=>e,fun _ e=>e,fun _ _ e=>e⟩
theorem Mono.trans{c:FS}(a:Mono S S')(b:Mono S' c):Mono S c:=⟨fun u v e=>b.ba u v (a.ba u v e),fun u e=>b.pa u (a.pa u e),fun u r e=>b.ro u r (a.ro u r e)⟩
structure Wb(A:Str->Str->Prop)(ss:List Str)(qs:List (Str×Str)):Prop where
 gr:Gr A (pt qs)
 inn:∀ a b,A a b->a∈ss
 qn:(qw qs).Nodup
 few:ss.length<=14
 nd:ss.Nodup
theorem Alt.inn(W:Wb A ss qs)(h:Alt A (pt qs) r v)(hv:v∈ss):r.length<=14/\∀ u∈r,u∈ss:=by
 have a:∀ u∈r,u∈ss:=fun u g=>by
  obtain⟨j,f⟩:=yf g;obtain⟨i,e⟩:=h.tl;by_cases hl:j+1<r.length
  .obtain⟨b,hb⟩:∃ b,r[j+1]?=some b:=⟨_,yb hl⟩;show W.inn _ _ (h.st j u b f hb).1
  .have c:=(yc.mp f).1;have:j=i.length:=by rw[e,yt] at c hl;simp at c hl;omega
   rw[e,this,yJ (yh _),kK] at f;rw[<- ym f];show hv
 show⟨yi (zy h.nd a) W.few,a⟩
theorem qdy(l':List Str):∀{l:List Str},(∃ d∈l,d∈l')->∃ l1 m l2,l=l1++m::l2/\m∈l'/\(∀ d∈l1,d∉l')/\∃ t,l.filter (fun d=>decide (d∈l'))=m::t
 | [],⟨_,h,_⟩=>by cases h
 | x::r,h=>by
  by_cases b:x∈l'
  .show⟨[],x,r,rfl,b,(fun _ h=>by cases h),_,by rw[yZ,yG (yB b)]⟩
  .obtain⟨d,i,a⟩:=h;obtain⟨l1,m,l2,c,e,f,t,g⟩:=qdy l' (l:=r) ⟨d,(yv.mp i).resolve_left (fun z=>b (by rw[<- z];show a)),a⟩;show⟨x::l1,m,l2,by rw[c];rfl,e,fun y hy=>?_,t,by rw[yZ,yD (by simpa using b)];show g⟩;rcases yv.mp hy with rfl | hy
   .show b
   .show f y hy
def BtR(qs:List (Str×Str))(ss:List Str)(S:FS)(v w:Str)(S':FS)(a:List Str):Prop:=∃ l l' rv rw,Ch (pt qs) S (S.bas v) l/\Ch (pt qs) S (S.bas w) l'/\S.rows v=some rv/\rv.Nodup/\S.rows w=some rw/\rw.Nodup/\l.getLast?=l'.getLast? /\
 ((S.bas v=S.bas w/\S'=S/\a=[])\/(S.bas v≠S.bas w/\∃ l1 m l2 m1 S1 S2 b,l=l1++m::l2/\(∀ d∈l1,d∉l')/\m∈l'/\l'=m1++m::l2/\m∉m1/\RR (pt qs) S S1 v w l1/\RR (pt qs) S1 S2 w v m1/\(∀ u,u∈b↔∃ c∈l1++m1,u=c\/pt qs c=some u)/\S'=S2.setBas (wnL S2 ss b m) m/\a=(l1++m1).map (pq qs)))
def BtL(qs:List (Str×Str))(S:FS)(v w:Str)(r:List Str):Prop:=∃ l l' rv rw,Ch (pt qs) S (S.bas v) l/\Ch (pt qs) S (S.bas w) l'/\l.getLast?≠l'.getLast?/\S.rows v=some rv/\S.rows w=some rw/\r=rv++rw.reverse
theorem RR.det{f:Str->Option Str}{w:Str}{b:List Str}(hv:S.rows v=some rv)(l:rv.Nodup)(h:RR f S S1 v w b)(g:RR f S S2 v w b):S1=S2:=by
 have a:∀{S1 S2:FS},RR f S S1 v w b->RR f S S2 v w b->∀ u r,S1.rows u=some r->S2.rows u=some r:=fun{S1 S2} h g u r e=>by
  cases i:S.rows u with
  | some r0 =>
   have:=h.old u r0 i;rw[e] at this;rw[g.old u r0 i,this]
  | none =>
   rcases h.new u r e with z | ⟨c,hc,hu,rv1,rw1,rz,t,k1,k2,k3,k4⟩
   .rw [i] at z;cases z
   .obtain⟨s,j⟩:=g.all c hc u hu;rcases g.new u s j with z | ⟨c',_,_,rv2,rw2,rz',t',k1',k2',k3',k4'⟩
    .rw [i] at z;cases z
    .rw [hv] at k1 k1';cases k1;cases k1';rw[k2] at k2';cases k2';rw[k3] at l k3';obtain⟨_,q⟩:=qek l k3';rw[j,k4',k4,q]
 have m:S1.rows=S2.rows:=by
  funext u
  cases e:S1.rows u with
  | some r=>show(a h g u r e).symm
  | none =>
   cases p:S2.rows u with
   | none=>rfl
   | some r=>rw[a g h u r p] at e;cases e
 obtain⟨x,A,C⟩:=S1;obtain⟨y,B,D⟩:=S2;have n:=h.par.trans g.par.symm;have o:=h.bas.trans g.bas.symm;dsimp only at m n o;rw[m,n,o]
theorem BtR.det{w:Str}(h:BtR qs ss S v w S1 m1)(g:BtR qs ss S v w S2 m2):S1=S2/\m1=m2:=by
 obtain⟨l,l',rv,af,R,T,r1,n1,r2,n2,_,h⟩:=h;obtain⟨k,k',ad,ae,U,W,aa,_,ac,_,_,g⟩:=g;have c:=R.one U;subst c;have t:=T.one W;subst t;have hl:k.Nodup->k'.Nodup->True:=fun _ _=>trivial;rcases h with⟨hb,rfl,rfl⟩ | ⟨hb,j,m,p,b1,T1,L,rg,X,Z,em,Y,en,K,R2,I,rfl,rfl⟩
 .rcases g with⟨_,rfl,rfl⟩ | ⟨f,_⟩
  .show⟨rfl,rfl⟩
  .show absurd hb f
 .rcases g with⟨f,_⟩ | ⟨_,a,n,b,O,M,N,J,A,C,D,B,E,q,s,o,rfl,rfl⟩
  .show absurd f hb
  .have first:∀{j a p b:List Str} {m n:Str} {P:Str->Prop},j++m::p=a++n::b->(∀ d∈j,¬ P d)->P m->(∀ d∈a,¬ P d)->P n->j=a/\m=n:=fun{j}=>by
    induction j with
    | nil=>intro a p b m n P e h1 F G H;cases a with
     | nil=>injection e with c _;show⟨rfl,c⟩
     | cons x r=>injection e with c _;show absurd (c ▸ F) (G x yI)
    | cons y r ih=>intro a p b m n P e h1 F G H;cases a with
     | nil=>injection e with c _;show absurd (c ▸ H) (h1 y yI)
     | cons x r' =>
      injection e with c t
      obtain⟨z1,z2⟩:=ih t (fun d i=>h1 d (yx _ i)) F (fun d i=>G d (yx _ i)) H;show⟨by rw[c,z1],z2⟩
   obtain⟨q1,q2⟩:=first (P:=fun d=>d∈k') (X.symm.trans A) Z em C D;subst q1;subst q2;obtain⟨q3,_⟩:=first (P:=fun d=>d=m) (Y.symm.trans B) (fun d i z=>en (z ▸ i)) rfl (fun d i z=>E (z ▸ i)) rfl;subst q3;have t1:=K.det r1 n1 q;subst t1;have t2:=R2.det (K.old _ _ r2) n2 s;subst t2
   have ew:wnL L ss rg m=wnL L ss J m:=by
    unfold wnL;show xp fun u _=>Yq.mpr ?_;rw[yA,yA,I,o]
   rw[ew];show⟨rfl,rfl⟩
theorem BtL.det{w:Str}{e:List Str}(h:BtL qs S v w r)(g:BtL qs S v w e):r=e:=by
 obtain⟨_,_,_,_,_,_,_,a,b,rfl⟩:=h;obtain⟨_,_,_,_,_,_,_,c,d,rfl⟩:=g;rw[a] at c;rw[b] at d;cases c;cases d;rfl
theorem BtL.not{w:Str}{m:List Str}(h:BtL qs S v w r)(g:BtR qs ss S v w S' m):False:=by
 obtain⟨l,l',_,_,a,b,c,_⟩:=h;obtain⟨k,k',_,_,e,f,_,_,_,_,d,_⟩:=g;rw[a.one e,b.one f] at d;show c d
inductive spBt(cc:Nat->Addr)(cw:Addr)(vs:List V)(H:Hp)(Q:VK)(E:XK):Prop|mk (H0:Hp) (a:Fo) (ss:List Str) (ns:List Nat) (qs:List (Str×Str)) (S:FS) (dn wt:List Str) (v w:Str) (rv rw:List Str) (A:Str->Str->Prop) (_:vs=[.ref a.x,.str v,.str w]) (_:FoA (cc 9) cw H0 H a ss ns qs S ss dn wt .non) (_:Wb A ss qs) (_:FI A (pt qs) S) (_:S.rows v=some rv) (_:S.rows w=some rw) (_:A v w) (_:(∀(H':Hp) (S':FS) (more:List Str),FoA (cc 9) cw H0 H' a ss ns qs S' ss dn (wt++more) .non->Bx a.six H H'->FI A (pt qs) S'->S'.bas v=S'.bas w->Mono S S'->BtR qs ss S v w S' more->Q .non H')) (_:∀(H':Hp) (t:Addr) (r:List Str),FoA (cc 9) cw H0 H' a ss ns qs S ss dn wt (.ref t)->Bx a.six H H'->H' t=some (.lst (r.map V.str))->t∉a.all->Aug A (pt qs) r->r.length<=28->BtL qs S v w r->Q .non H')
theorem qe8{d:Str}{Q:VK}(q:Q (.bl (!decide (c=d))) H):qfw K true (.str c) (.str d) H Q:=by
 show .inl ⟨rfl,rfl,?_⟩;rw[yG rfl]
 have e:eqV (.str c) (.str d)=decide (c=d):=by
  by_cases h:c=d
  .subst h;simp[eqV]
  .simp [eqV,h]
 rw[e];show q
theorem FoA.setL{a:Fo}{bs:List Str}{fs:List (Str×V)}{v:V}(h:FoA (cc 9) cw H0 H a ss ns qs S bs dn wt .non)(t:H a.x=some (.ins (cc 9) dx fs))(hv:v≠.non):fs.length<1000/\FoA (cc 9) cw H0 (upd H a.x (.ins (cc 9) dx (qH "longer" v fs))) a ss ns qs S bs dn wt v:=by
 obtain⟨n,p,i,L,I,J,K⟩:=h.obj;rw[t] at i;cases i;have hl:=I rfl;obtain⟨A,E,F,G⟩:=h.row;obtain⟨w,B,C,D⟩:=h.par;obtain⟨k,j,l,m⟩:=h.bas;obtain⟨xs,q,r⟩:=h.rng;have s:=h.sep;have nx:∀{c:Addr},c∈[a.dr,a.da,a.ds,a.dg,a.dw]->c≠a.x:=fun hc e=>(yo.mp s).1 (by rw[<- e];show hc);have g:Bx a.six H (upd H a.x (.ins (cc 9) dx (qH "longer" v fs))):=(Bx.of (Sr H)).upd (by simp[Fo.six]);show⟨by omega,qaH h.sm (h.fr _ (by simp[Fo.six])),h.web,h.prt,h.fr,h.nd,fun c hc=>⟨(h.exf c hc).1,(h.exf c hc).2.1,(h.exf c hc).2.2.elim fun o e=>⟨o,g _ _ (h.exf c hc).2.1 e⟩⟩,⟨dx,_,qb,yi (jz _ _ _) (by omega),fun e=>absurd e hv,fun f u b=>?_,fun f b=>?_⟩,⟨A,by rw[qf (nx (by simp))];show E,F,fun y=>(G y).mono g Fo.sub⟩,⟨w,by rw[qf (nx (by simp))];show B,C,D⟩,⟨k,by rw[qf (nx (by simp))];show j,l,m⟩,⟨xs,by rw[qf (nx (by simp))];show q,r⟩,by rw[qf (nx (by simp))];show h.wai,h.evn,h.evi,h.evs⟩
 .rw [qD];by_cases e:f="longer"
  .rw [yG e];subst e;have:(Str.ofString "longer",u)∈a.tab v:=b;simp only[Fo.tab,yv,XE,yM,Yt] at this;rcases this with⟨z,_⟩ | ⟨z,_⟩ | ⟨z,_⟩ | ⟨z,_⟩ | ⟨z,_⟩ | ⟨z,_⟩ | ⟨z,_⟩ | ⟨_,z⟩<;>first | show absurd z (by decide +kernel) | show congrArg some z.symm
  .rw [yD e];show J f u ?_;have:(f,u)∈a.tab v:=b;simp only[Fo.tab,yv,XE,yM,Yt] at this ⊢;rcases this with z | z | z | z | z | z | z | ⟨z,_⟩
   all_goals first | show absurd z e | simp[z]
 .rw [qD,yD (fun e=>b (by rw[e];decide +kernel))];show K f b
theorem FoA.rowAt{a:Fo}{bs:List Str}(h:FoA (cc 9) cw H0 H a ss ns qs S bs dn wt lo)(e:S.rows u=some r){Q:VK}(q:∀ t,H t=some (.lst (r.map V.str))->Q (.ref t) H):qgc K (.ref a.dr) (.str u) H Q:=by
 obtain⟨i,f,_,g⟩:=h.row;have:=g u;rw[e] at this;obtain⟨t,b,c,_⟩:=this;show qeB f b (q t c)
theorem ok_bt(F:Fun K "bring_together" "Forest.bring_together" qJ f fd)(T:Txt K mg cc cw)(KU:MethOk P w K mg base CX0 1 (cc 9) "bases_down_from" ["self","place"] (spBd cc cw))(K4:MethOk P w K mg base CX0 2 (cc 9) "reach_round" ["self","one","other","bases"] (spRr cc cw))(u7:MethOk P w K mg base CX0 2 (cc 9) "fold" ["self","ring","meeting"] (spFd cc cw)):FnOk P w K mg base CX0 3 f fd ["self","one","other"] (spBt cc cw):=by
 show F.ok KA fun _ _ _ _ H vs Q E hr h=>?_
 .obtain⟨H0,a,ss,ns,qs,S,dn,wt,v,w,rv,b,B,rfl,h,g,I,hv,hw,ch,q1,q2⟩:=h;have N:=jY hr;have Y:∀{v:Str} {r:List Str},S.rows v=some r->v∈ss:=fun e=>h.evs _ ((h.evi _).mpr (by rw[e];show fun z=>by cases z));obtain⟨l,hl⟩:=I.chainOf hv;obtain⟨l',s⟩:=I.chainOf hw;have an:=hl.nd I hv rfl;have D:=s.nd I hw rfl;have ac:l.length<=14:=yi (zy an fun c hc=>(hl.bs0 I hv hc).elim fun r z=>Y z.1) g.few;have L:l'.length<=14:=yi (zy D fun c hc=>(s.bs0 I hw hc).elim fun r z=>Y z.1) g.few;obtain⟨ba,dw⟩:=(I.alt v rv hv).inn g (Y hv);obtain⟨ap,dy⟩:=(I.alt w b hw).inn g (Y hw);obtain⟨lx,c,ae⟩:∃ lx c,l=lx++[c]:=by obtain⟨t,e⟩:=hl.ne;show⟨_,_,(xr (by rw[e];show Ki _ _)).symm⟩
  obtain⟨ly,d,af⟩:∃ ly d,l'=ly++[d]:=by obtain⟨t,e⟩:=s.ne;show⟨_,_,(xr (by rw[e];show Ki _ _)).symm⟩
  show⟨_,(qc (qk (i:=3) KA.nd rfl (yL rfl) (qF KU (hmR hr) (pv 0) (qa (pv 1) qd)))
 (qc (qk (i:=4) KA.nd rfl (kN rfl) (qF KU (hmR hr) (pv 0) (qa (pv 2) qd)))
 (qe (qM (qj (qaq (K:=K) rfl N) (qp (qr (K:=K) rfl N) (pv 3) (qan zQ qg) (fun _ _=>rfl)) (qp (qr (K:=K) rfl N) (pv 4) (qan zQ qg) (fun _ _=>rfl)) (qA _)) (qe (jN (K:=K) rfl (pv 0) (qz (jV (K:=K) rfl) (qp (qr (K:=K) rfl N) (qB (K:=K) rfl (pv 0) rfl) (pv 1) (fun _ _=>rfl)) (qe3 (K:=K) rfl (qp (qr (K:=K) rfl N) (qB (K:=K) rfl (pv 0) rfl) (pv 2) (fun _ _=>rfl)) (jh (qan zQ qg)))) rfl)) (qe (qM (qj (qaq (K:=K) rfl N) (qp (qr (K:=K) rfl N) (pv 3) qg (fun _ _=>rfl)) (qp (qr (K:=K) rfl N) (pv 4) qg (fun _ _=>rfl)) (qA _)) (qc (qk (i:=5) KA.nd rfl (yL rfl) (qp (qr (K:=K) rfl N) (jM (sc:=qh qJ) (XN:=["self","one","other","ones","others","meeting","ring"]) ["base","others"] 1 [4] rfl rfl rfl (by decide +kernel) rfl (by decide +kernel)
  (qS (K:=K) rfl (pv 3)) (fun _ _ _ _=>(qu (i:=0) (show(["base","others"]:List Str).Nodup by decide +kernel) rfl (yL rfl))) jp
  (fun _ _ _ _=>(jC (qj (zr (K:=K) rfl N) (pv 0) (pv 1) (by with_unfolding_all rfl))))
  (fun _ _ _ _=>(pv 0))) qg (fun _ _=>rfl)))
 (qc (qk (i:=6) KA.nd rfl (yL rfl) (qF K4 (hmR hr) (pv 0) (qa (pv 1) (qa (pv 2) (qa (jf (qdk (K:=K) rfl) (pv 3) jB (jh (qaW (K:=K) rfl yK YG YQ (qar (K:=K) rfl) (pv 3) (qa (pv 5) qd)))) qd)))))
 (qc (qL (qaW (K:=K) rfl yK XF XG qaR (pv 6) (qa (qF K4 (hmR hr) (pv 0) (qa (pv 2) (qa (pv 1) (qa (jf (qdk (K:=K) rfl) (pv 4) jB (jh (qaW (K:=K) rfl yK YG YQ (qar (K:=K) rfl) (pv 4) (qa (pv 5) qd)))) qd)))) qd)))
 (qe (qL (qF u7 (hmR hr) (pv 0) (qa (pv 6) (qa (pv 5) qd)))))))) qx)))))),?_⟩
  ext;obtain⟨dx,fs,ao,_,_,_,be⟩:=id h.obj;show⟨a.x,dx,fs,rfl,ao,be _ (by decide +kernel),?_⟩;ext;show⟨H0,a,ss,ns,qs,S,dn,wt,.non,v,rv,l,B,rfl,h,g.few,I,hv,hl,ac,fun o1 H1 s1 dm cx=>?_⟩;ext;show⟨a.x,dx,fs,rfl,s1 _ _ ao,be _ (by decide +kernel),?_⟩;ext;show⟨H0,a,ss,ns,qs,S,dn,wt,.non,w,b,l',B,rfl,h.same s1,g.few,I,hw,s,L,fun o2 H2 s2 dp aq=>?_⟩;have au:=s1.trans s2;have h2:=h.same au;have U:=s2 _ _ cx;have du:=h.newA dm;have dv:=(h.same s1).newA dp;ext;show⟨1,rfl,?_⟩;show .inl (zq U (v:=.str c) (by rw[ae];show atI_last) ?_);ext;show⟨1,rfl,?_⟩;show .inl (zq aq (v:=.str d) (by rw[af];show atI_last) ?_);show qe8 ⟨_,rfl,?_⟩;by_cases aa:c=d
  .rw [yB aa];show yq ?_;obtain⟨t0,X⟩:=hl.ne;obtain⟨eg,C⟩:=s.ne;ext;show .inl (zq U (v:=.str (S.bas v)) (qo (j:=0) (by rw[X];rfl)) ?_);ext;show .inl (zq aq (v:=.str (S.bas w)) (qo (j:=0) (by rw[C];rfl)) ?_);show qe8 ⟨_,rfl,?_⟩;by_cases Z:S.bas v=S.bas w
   .rw [yB Z];show yq ?_;show q1 H2 S [] (by rw[Yj];show h2) (Bx.of au) I Z (Mono.refl S) ⟨l,l',rv,b,hl,s,hv,(I.alt v rv hv).nd,hw,(I.alt w b hw).nd,by rw[ae,af,xo,xo,aa],.inl ⟨Z,rfl,rfl⟩⟩
   .rw [yl Z];show zE ?_;obtain⟨l1,m,l2,R,ad,am,tf,bw⟩:=qdy l' (l:=l) ⟨c,by rw[ae];simp,by rw[af,aa];simp⟩;obtain⟨m1,m2,M⟩:=Yr ad;obtain⟨cv,dh⟩:=hl.meet I hv hw s R M am;rw[cv] at M;have cd:m∉m1:=fun z=>by rw[M] at D;show(Yg.mp D).2.2 m z m (by simp) rfl
    have dz:m∉l1:=fun z=>am m z ad;ext;show .inl ⟨⟨_,.of U⟩,je (xs:=l.map V.str) (fun i ys J=>J=H2/\ys=((l.take i).filter fun d=>decide (d∈l')).map V.str) ⟨rfl,rfl⟩ (fun i ys J _ hp=>by rw[hp.1];show .of U) (fun i y ys J hy hp=>?_) fun ys J hp=>?_⟩
    .obtain⟨rfl,rfl⟩:=hp;rw[yd] at hy;obtain⟨z,hz,rfl⟩:=yn.mp hy
     have bd:(l.take (i+1)).filter (fun d=>decide (d∈l'))=(l.take i).filter (fun d=>decide (d∈l'))++(if z∈l' then [z] else []):=by
      rw[yT,hz,Yw];show _++[z].filter _=_;rw[yZ];simp only[X6,xq]
     have ed:=(yc.mp hz).1;have dj:=YF (fun d=>decide (d∈l')) (l.take i);rw[yX] at dj;ext;show qeo aq ⟨_,rfl,?_⟩;rw[bd];by_cases G:z∈l'
     .rw [yB G,yG G];show zE ?_;ext;show⟨by rw[ya];show qi (by omega),rfl,by rw[yF];rfl⟩
     .rw [yl G,yD G,Yj];show yq ?_;show⟨rfl,rfl⟩
    .obtain⟨rfl,rfl⟩:=hp;rw[show(l.map V.str).length=l.length from ya _,yW,bw];have dr:=YF (fun d=>decide (d∈l')) l;rw[bw] at dr;show⟨by rw[ya];show Yh (qi (by omega)),fun cl bz=>?_⟩;have s3:=qI au (o:=.lst ((m::tf).map V.str)) bz;have bg:=qI (Sr J) (o:=.lst ((m::tf).map V.str)) bz;have bn:upd J cl (.lst ((m::tf).map V.str)) cl=some (.lst ((m::tf).map V.str)):=qb;generalize upd J cl (.lst ((m::tf).map V.str))=H3 at s3 bg bn;ext;show .inl (zq bn (v:=.str m) (qo (j:=0) rfl) ?_);have h3:=h.same s3;have aj:=bg _ _ U;have bq:=bg _ _ aq;ext;show⟨a.x,dx,fs,rfl,s3 _ _ ao,be _ (by decide +kernel),?_⟩;ext;show⟨.inl ⟨rfl,_,.of aj⟩,?_⟩;ext;show⟨o1,l,m,rfl,rfl,.of aj,by rw[R];simp,_,rfl,?_⟩;rw[show l.idxOf m=l1.length by rw[R] at an ⊢;show qc1 an];ext;show .inl ⟨o1,_,rfl,.of aj,fun c1 ag=>?_⟩;have bo:qbS (l.map V.str) none (some ((l1.length:Nat):Int))=l1.map V.str:=by rw[qbt,R,yF,List.take_left' (by simp)]
     rw[bo];have s4:=qI s3 (o:=.lst (l1.map V.str)) ag;have cq:=qI (Sr H3) (o:=.lst (l1.map V.str)) ag;have ah:upd H3 c1 (.lst (l1.map V.str)) c1=some (.lst (l1.map V.str)):=qb;have n1:=h3.new ag;generalize upd H3 c1 (.lst (l1.map V.str))=H4 at s4 cq ah;have h4:=h.same s4
     have bb:∀{x y:Str} {rx k W:List Str},S.rows x=some rx->(∀ u∈rx,u∈ss)->Ch (pt qs) S (S.bas x) k->k=W++m::l2->∀ c∈W,∃ q rz t,pt qs c=some q/\S.rows q=none/\q∈ss/\rx=rz++q::t:=fun{x y rx k W} hx hs hk ek c hc=>by
      obtain⟨a',b',ea⟩:=Yr hc;have bp:k=a'++c::(b'++m::l2):=by rw[ek,ea];simp
      obtain⟨_,_,_,_,g3,_⟩:=hk.up I hx rfl bp;rcases g3.cases' with⟨_,z⟩ | ⟨q,_,hq,_⟩
      .simp at z
      .obtain⟨rz,t,W,_,k3,_⟩:=hk.suf I hx bp hq;show⟨q,rz,_,hq,k3,hs q (by rw[W];simp),W⟩
     ext;show⟨H0,a,ss,ns,qs,S,dn,wt,.non,v,w,c1,l1,rv,b,rfl,h4,g.few,ah,n1,hv,hw,ba,ap,(I.alt v rv hv).nd,?_,?_,g.qn,bb (y:=v) hv dw hl R,fun O p ar H5 S1 h5 bi cg br ay ce aw R1 dk=>?_⟩
     .rw [R] at an;show(Yg.mp an).1
     .rw [R,yt] at ac;omega
     have ec:o1∉a.six:=fun z=>du (Fo.sub _ z);have cp:o2∉a.six:=fun z=>dv (Fo.sub _ z);have ak:=bi _ _ cp (cq _ _ bq);ext;show⟨.inl ⟨rfl,_,.of br⟩,?_⟩;ext;obtain⟨ct,db,cj,_,_,_,cm⟩:=id h5.obj;show⟨a.x,ct,db,rfl,cj,cm _ (by decide +kernel),?_⟩;ext;show⟨.inl ⟨rfl,_,.of ak⟩,?_⟩;ext;show⟨o2,l',m,rfl,rfl,.of ak,ad,_,rfl,?_⟩;rw[show l'.idxOf m=m1.length by rw[M] at D ⊢;show qc1 D];ext;show .inl ⟨o2,_,rfl,.of ak,fun c2 al=>?_⟩;have bc:qbS (l'.map V.str) none (some ((m1.length:Nat):Int))=m1.map V.str:=by rw[qbt,M,yF,List.take_left' (by simp)]
     rw[bc];have s6:=qI (Sr H5) (o:=.lst (m1.map V.str)) al;have ai:upd H5 c2 (.lst (m1.map V.str)) c2=some (.lst (m1.map V.str)):=qb;have n2:=h5.new al;generalize upd H5 c2 (.lst (m1.map V.str))=H6 at s6 ai;have h6:=h5.same s6
     have co:∀ c∈m1,∀ q,pt qs c=some q->S.rows q=none->S1.rows q=none:=fun c hc q hq hn=>by
      cases e:S1.rows q with
      | none=>rfl
      | some r =>
       exfalso;rcases R1.new q r e with z | ⟨c',hc',z,_⟩
       .rw [hn] at z;cases z
       .have e1:=g.gr.fs z;rw[g.gr.fs hq] at e1;rw[<- ym e1] at hc';show am c hc' (by rw[M];show yO _ hc)
     ext;show⟨H0,a.add O,ss,ns,qs,S1,dn,wt++ar,.non,w,v,c2,m1,b,rv,rfl,h6,g.few,ai,n2,R1.old _ _ hw,R1.old _ _ hv,ap,ba,(I.alt w b hw).nd,?_,?_,g.qn,fun c hc=>?_,fun t2 A bf H7 S2 h7 bj ee cy az cf ax R2 dl=>?_⟩
     .rw [M] at D;show(Yg.mp D).1
     .rw [M,yt] at L;omega
     .obtain⟨q,rz,t,W,k2,k3,k4⟩:=bb (y:=v) hw dy s M c hc;show⟨q,rz,t,W,co c hc q W k2,k3,k4⟩
     have bh:O∉a.six:=h4.new cg;have bu:H7 O=some (.lst (p.map V.str)):=bj _ _ bh (s6 _ _ br);ext;show⟨O,t2,_,_,rfl,rfl,bu,cy,by rw[ya,ya,YD];rw[R,yt] at ac;rw[M,yt] at L;omega,?_⟩;have h8:=h7.updE (c:=O) (o:=.lst (p.map V.str++A.map V.str)) (by simp[Fo.add]);obtain⟨xs,di,ef⟩:=h.rng;have ca:=dl _ (s6 _ _ (dk _ (s4 _ _ di)));have dt:a.dg≠O:=fun z=>bh (by rw[<- z];simp[Fo.six]);have bv:upd H7 O (.lst (p.map V.str++A.map V.str)) O=some (.lst ((p++A).map V.str)):=by rw[qb,yF]
     have av:upd H7 O (.lst (p.map V.str++A.map V.str)) a.dg=some (.lst xs):=by rw[qf dt];show ca
     have bm:Bx a.six H (upd H7 O (.lst (p.map V.str++A.map V.str))):=fun e o n k=>by
      have ne:e≠O:=fun z=>by rw[z,s4.free cg] at k;cases k
      rw[qf ne];show bj _ _ n (s6 _ _ (bi _ _ n (s4 _ _ k)))
     generalize upd H7 O (.lst (p.map V.str++A.map V.str))=H8 at h8 bv av bm
     have eb:0<ar.length+bf.length:=by
      rw[aw,ax,ya,ya];rcases l1 with _ | ⟨x,r⟩
      .rcases m1 with _ | ⟨x,r⟩
       .rw [R] at X;rw[M] at C;show absurd ((xx X).1.symm.trans (xx C).1) Z
       .simp
      .simp;omega
     ext;obtain⟨cu,dc,ck,_,_,_,cn⟩:=id h8.obj;show⟨a.x,cu,dc,rfl,ck,cn _ (by decide +kernel),?_⟩;ext;show⟨H0,(a.add O).add t2,ss,ns,qs,S2,dn,wt++ar++bf,.non,O,p++A,m,xs,rfl,h8,g.few,bv,bh,?_,av,?_,fun H9 h9 cs=>?_⟩
     .rw [yt,ce,cf];rw[R,yt] at ac;rw[M,yt] at L;omega
     .rw [<- Yk,<- Yk,yt,yt (as:=dn++wt)];omega
     have dq:∀ u,u∈p++A++[m]↔InR (pt qs) m (l1++m1) u:=fun u=>by
      rw[yA,yA,ay,az,yy];unfold InR;constructor
      .rintro ((⟨c,hc,z⟩ | ⟨c,hc,z⟩) | z)
       .show .inr ⟨c,yO _ hc,z⟩
       .show .inr ⟨c,yN _ hc,z⟩
       .show .inl z
      .rintro (z | ⟨c,hc,z⟩)
       .show .inr z
       .rcases yA.mp hc with y | y
        .show .inl (.inl ⟨c,y,z⟩)
        .show .inl (.inr ⟨c,y,z⟩)
     have bx:S2.bas=S.bas:=by rw[R2.bas,R1.bas]
     have cb:∀ u,InR (pt qs) m (l1++m1) (S.bas u)->u∈ss:=fun u N=>by
      cases e:S.rows u with
      | some r=>show Y e
      | none =>
       rw[I.own e] at N;rcases N with z | ⟨c,hc,z⟩
       .obtain⟨r,k,_⟩:=hl.bs0 I hv (c:=m) (by rw[R];simp);rw[z];show Y k
       .have df:∃ r,S.rows c=some r:=by
         rcases yA.mp hc with y | y
         .show(hl.bs0 I hv (by rw[R];show yO _ y)).elim fun r k=>⟨r,k.1⟩
         .show(s.bs0 I hw (by rw[M];show yO _ y)).elim fun r k=>⟨r,k.1⟩
        obtain⟨r,k⟩:=df;rcases z with z | z
        .rw [z];show Y k
        .show g.inn _ _ (g.gr.as (g.gr.fa z))
     have hM:Mg (pt qs) S (S2.setBas (wnL S2 ss (p++A) m) m) v w m l1 m1:=by
      have ci:∀ u,u∈wnL S2 ss (p++A) m↔u∈ss/\InR (pt qs) m (l1++m1) (S.bas u):=fun u=>by
       unfold wnL;rw[yp,yU,dq,bx]
      have nr:∀{u:Str} {r:List Str},NewRow S1 w v u r->NewRow S w v u r:=fun⟨a1,a2,a3,a4,W,k2,k3⟩=>by
       rw[R1.old _ _ hw] at W;rw[R1.old _ _ hv] at k2;cases W;cases k2;show⟨_,_,a3,a4,hw,hv,k3⟩
      show⟨by show S2.par=S.par;rw[R2.par,R1.par],fun u r e=>R2.old _ _ (R1.old _ _ e),fun u r e=>?_,fun c hc q hq=>?_,fun u N=>?_,fun u N=>?_⟩
      .rcases R2.new u r e with z | ⟨c,hc,W,k2⟩
       .rcases R1.new u r z with z | z
        .show .inl z
        .show .inr (.inl z)
       .show .inr (.inr ⟨c,hc,W,nr k2⟩)
      .rcases yA.mp hc with y | y
       .obtain⟨r,k⟩:=R1.all c y q hq;show⟨r,R2.old _ _ k⟩
       .show R2.all c y q hq
      .show(if u∈wnL S2 ss (p++A) m then m else S2.bas u)=m;rw[yG ((ci u).mpr ⟨cb u N,N⟩)]
      .show(if u∈wnL S2 ss (p++A) m then m else S2.bas u)=S.bas u;rw[yD (fun z=>N ((ci u).mp z).2),bx]
     have hI:=I.merge g.gr hv hw (R ▸ hl) (M ▸ s) (M ▸ am) (R ▸ dh) ch Z hM
     have dd:InR (pt qs) m (l1++m1) (S.bas v):=by
      rcases l1 with _ | ⟨x,r⟩
      .rw [R] at X;cases X;show .inl rfl
      .rw [R] at X;cases X;show .inr ⟨_,by simp,.inl rfl⟩
     have de:InR (pt qs) m (l1++m1) (S.bas w):=by
      rcases m1 with _ | ⟨x,r⟩
      .rw [M] at C;cases C;show .inl rfl
      .rw [M] at C;cases C;show .inr ⟨_,by simp,.inl rfl⟩
     show q1 H9 _ (ar++bf) ?_ (bm.trans cs) hI ((hM.inn v dd).trans (hM.inn w de).symm) ⟨fun u z e=>?_,fun u e=>by rw[hM.par];show e,hM.old⟩ ⟨l,l',rv,b,hl,s,hv,(I.alt v rv hv).nd,hw,(I.alt w b hw).nd,by rw[ae,af,xo,xo,aa],.inr ⟨Z,l1,m,l2,m1,S1,S2,p++A,R,am,ad,M,cd,R1,R2,fun u=>?_,rfl,by rw[aw,ax,yF]⟩⟩
     .rw [<- Yk];show h9.drop (l:=a.ex) fun c hc=>by simp[Fo.add,hc]
     .by_cases G:InR (pt qs) m (l1++m1) (S.bas u)
      .rw [hM.inn u G,hM.inn z (by rw[<- e];show G)]
      .rw [hM.out u G,hM.out z (by rw[<- e];show G),e]
     .rw [yA,ay,az];constructor
      .rintro (⟨c,hc,z⟩ | ⟨c,hc,z⟩)
       .show⟨c,yO _ hc,z⟩
       .show⟨c,yN _ hc,z⟩
      .rintro ⟨c,hc,z⟩;rcases yA.mp hc with y | y
       .show .inl ⟨c,y,z⟩
       .show .inr ⟨c,y,z⟩
  .rw [yl aa];show zE ?_;ext;show .inl (h2.obj.rd T 2 rfl ?_);ext;show h2.rowAt hv fun tv cz=>?_;ext;show qgQ ?_;ext;show .inl (h2.obj.rd T 2 rfl ?_);ext;show h2.rowAt hw fun tw da=>?_;ext;show⟨1,rfl,?_⟩;show⟨_,rfl,rfl,tw,_,rfl,.of da,fun c1 ag=>?_⟩;have O:=qI au (o:=.lst (b.map V.str).reverse) ag;have cr:=qI (Sr H2) (o:=.lst (b.map V.str).reverse) ag;have ah:upd H2 c1 (.lst (b.map V.str).reverse) c1=some (.lst (b.reverse.map V.str)):=by rw[qb,List.map_reverse]
   generalize upd H2 c1 (.lst (b.map V.str).reverse)=H3 at O cr ah;show qeM (cr _ _ cz) ah (by rw[ya,ya,Yz];omega) fun c2 al=>?_;have n2:=(h.same O).newA al;have t2:=qI O (o:=.lst (rv.map V.str++b.reverse.map V.str)) al;have ai:upd H3 c2 (.lst (rv.map V.str++b.reverse.map V.str)) c2=some (.lst ((rv++b.reverse).map V.str)):=by rw[qb,yF]
   generalize upd H3 c2 (.lst (rv.map V.str++b.reverse.map V.str))=H4 at t2 ai;obtain⟨W,k2⟩:=(h.same t2).setL (v:=.ref c2) (t2 _ _ ao) (fun e=>by cases e);ext;show .inl ⟨a.x,cc 9,dx,fs,rfl,t2 _ _ ao,T.fcl,T.fa _ (by decide +kernel),W,?_⟩;have ds:c2≠a.x:=fun z=>n2 (Fo.sub _ (by rw[z];simp[Fo.six]));show q2 _ c2 _ k2 ((Bx.of t2).upd (by simp[Fo.six])) (by rw[qf ds];show ai) n2 (I.aug g.gr hv hw hl s (by rw[ae,af];simpa using aa) ch) (by rw[yt,Yz];omega) ⟨l,l',rv,b,hl,s,by rw[ae,af,xo,xo];show fun z=>aa (ym z),hv,hw,rfl⟩
theorem KM:FnScope ["self","place","other","partner"] ["self","place"] (qh jc):=fS
noncomputable def FS.setPar(S:FS)(u p:Str):FS:=⟨S.rows,fun s=>if s=u then some p else S.par s,S.bas⟩
noncomputable def nbL(ss:List Str)(ns:List Nat)(v:Str):List Str:=inB ss 0 (ns.getD (ss.idxOf v) 0)
inductive LaR(qs:List (Str×Str))(ss:List Str)(v:Str):List Str->FS->FS->List Str->Option (List Str)->Prop
 | nil {S:FS}:LaR qs ss v [] S S [] none
 | bt {S S1 S2:FS} {u:Str} {l m1 m2:List Str} {o:Option (List Str)}:S.rows u≠none->BtR qs ss S v u S1 m1->LaR qs ss v l S1 S2 m2 o->LaR qs ss v (u::l) S S2 (m1++m2) o
 | row {S:FS} {u:Str} {l r:List Str}:S.rows u≠none->BtL qs S v u r->LaR qs ss v (u::l) S S [] (some r)
 | old {S S1:FS} {u:Str} {l m:List Str} {o:Option (List Str)}:S.rows u=none->S.par u≠none->LaR qs ss v l S S1 m o->LaR qs ss v (u::l) S S1 m o
 | new {S S1:FS} {u y:Str} {l m rv:List Str} {o:Option (List Str)}:S.rows u=none->S.par u=none->pt qs u=some y->S.rows v=some rv->LaR qs ss v l ((S.setPar u v).setRow y (rv++[u,y])) S1 m o->LaR qs ss v (u::l) S S1 ([y]++m) o
theorem LaR.det{m a:List Str}{o:Option (List Str)}(h:LaR qs ss v l S S1 m o):LaR qs ss v l S S2 a o'->S1=S2/\m=a/\o=o':=by
 induction h generalizing S2 a o' with
 | nil=>intro g;cases g;show⟨rfl,rfl,rfl⟩
 | bt h1 h2 _ ih =>
  intro g
  cases g with
  | bt g1 g2 g3 =>
   obtain⟨rfl,rfl⟩:=h2.det g2;obtain⟨rfl,rfl,rfl⟩:=ih g3;show⟨rfl,rfl,rfl⟩
  | row g1 g2=>show(g2.not h2).elim
  | old g1 _ _=>show absurd g1 h1
  | new g1 _ _ _ _=>show absurd g1 h1
 | row h1 h2 =>
  intro g
  cases g with
  | bt g1 g2 g3=>show(h2.not g2).elim
  | row g1 g2=>rw[h2.det g2];show⟨rfl,rfl,rfl⟩
  | old g1 _ _=>show absurd g1 h1
  | new g1 _ _ _ _=>show absurd g1 h1
 | old h1 h2 _ ih =>
  intro g
  cases g with
  | bt g1 g2 g3=>show absurd h1 g1
  | row g1 g2=>show absurd h1 g1
  | old _ _ g3=>show ih g3
  | new _ g2 _ _ _=>show absurd g2 h2
 | new h1 h2 h3 h4 _ ih =>
  intro g
  cases g with
  | bt g1 g2 g3=>show absurd h1 g1
  | row g1 g2=>show absurd h1 g1
  | old _ g2 _=>show absurd h2 g2
  | new _ _ g3 g4 g5 =>
   rw[h3] at g3;cases g3;rw[h4] at g4;cases g4;obtain⟨rfl,rfl,rfl⟩:=ih g5;show⟨rfl,rfl,rfl⟩
theorem drop_at(h:l[i]?=some u):l.drop i=u::l.drop (i+1):=by
 obtain⟨hi,e⟩:=yc.mp h;rw[List.drop_eq_getElem_cons hi,e]
inductive spLa(cc:Nat->Addr)(cw:Addr)(vs:List V)(H:Hp)(Q:VK)(E:XK):Prop|mk (H0:Hp) (a:Fo) (ss:List Str) (ns:List Nat) (qs:List (Str×Str)) (S:FS) (dn wt:List Str) (v:Str) (A:Str->Str->Prop) (_:vs=[.ref a.x,.str v]) (_:FoA (cc 9) cw H0 H a ss ns qs S ss (dn++[v]) wt .non) (_:Wb A ss qs) (_:(∀ s∈ss,zf s=true)) (_:(∀(j:Nat) z u,ss[j]?=some z->(u∈inB ss 0 (ns.getD j 0)↔A z u))) (_:(∀ z∈ss,pt qs z=none->S.rows z≠none)) (_:FI A (pt qs) S) (_:CI A S (fun u=>u∈dn)) (_:(∀(H':Hp) (S':FS) (more:List Str),FoA (cc 9) cw H0 H' a ss ns qs S' ss (dn++[v]) (wt++more) .non->Bx a.six H H'->FI A (pt qs) S'->CI A S' (fun u=>u∈dn++[v])->Mono S S'->LaR qs ss v (nbL ss ns v) S S' more none->Q .non H')) (_:∀(H':Hp) (S':FS) (more:List Str) (t:Addr) (r:List Str),FoA (cc 9) cw H0 H' a ss ns qs S' ss (dn++[v]) (wt++more) (.ref t)->Bx a.six H H'->H' t=some (.lst (r.map V.str))->t∉a.all->Aug A (pt qs) r->r.length<=28->LaR qs ss v (nbL ss ns v) S S' more (some r)->Q .non H')
theorem CI.on(h:CI A S Pd)(m:Mono S S'):CI A S' Pd:=h.mono m.ba m.pa fun u a=>by
 cases e:S.rows u with
 | none=>show absurd e a
 | some r=>rw[m.ro u r e];show fun z=>by cases z
theorem FoA.setP{a:Fo}{bs:List Str}{f:List (Key×V)}{p:Str}(h:FoA (cc 9) cw H0 H a ss ns qs S bs dn wt lo)(D:H a.da=some (.dK f))(i:u∈ss)(g:S.par u=none):FoA (cc 9) cw H0 (upd H a.da (.dK (zC f (Sum.inr u) (.str p)))) a ss ns qs (S.setPar u p) bs dn wt lo/\f.length<=ss.length:=by
 obtain⟨F,R,T,U⟩:=h.row;obtain⟨k',t,N,O⟩:=h.par;obtain⟨k,v,w,A⟩:=h.bas;obtain⟨xs,B,C⟩:=h.rng;rw[D] at t;cases t;obtain⟨⟨W,K,X,Y,Z⟩,⟨L,n7,n8,n9⟩,⟨j,l,m⟩,⟨G,I⟩,J⟩:=(by simpa [Fo.six] using h.sep:(¬a.x=a.dr/\¬a.x=a.da/\¬a.x=a.ds/\¬a.x=a.dg/\¬a.x=a.dw)/\(¬a.dr=a.da/\¬a.dr=a.ds/\¬a.dr=a.dg/\¬a.dr=a.dw)/\(¬a.da=a.ds/\¬a.da=a.dg/\¬a.da=a.dw)/\(¬a.ds=a.dg/\¬a.ds=a.dw)/\¬a.dg=a.dw);have q:Bx a.six H (upd H a.da (.dK (zC f (Sum.inr u) (.str p)))):=(Bx.of (Sr H)).upd (by simp[Fo.six]);obtain⟨P,M,r,n⟩:=N;show⟨⟨qaH h.sm (h.fr _ (by simp[Fo.six])),h.web,h.prt,h.fr,h.nd,fun c hc=>⟨(h.exf c hc).1,(h.exf c hc).2.1,(h.exf c hc).2.2.elim fun o e=>⟨o,q _ _ (h.exf c hc).2.1 e⟩⟩,h.obj.eq (qf K),⟨F,by rw[qf L];show R,T,fun y=>(U y).mono q Fo.sub⟩,⟨_,qb,⟨P++[u],by have:=ji f (Sum.inr u:Key) (.str p);rw[yt];show _<=_+1;omega,Yg.mpr ⟨r,XV _ _,fun x b y E e=>(n u (by rw[<- yy.mp E,<- e];show b)).2 g⟩,fun x b=>?_⟩,fun s=>?_⟩,⟨k,by rw[qf (Yi j)];show v,w,A⟩,⟨xs,by rw[qf (Yi l)];show B,C⟩,by rw[qf (Yi m)];show h.wai,h.evn,h.evi,h.evs⟩,yi M (zy r fun x b=>(n x b).1)⟩
 .show x∈ss/\(if x=u then some p else S.par x)≠none;by_cases e:x=u
  .rw [yG e,e];show⟨i,fun z=>by cases z⟩
  .rw [yD e];show n x ((yA.mp b).resolve_right fun z=>e (yy.mp z))
 .rw [qax,O];show _=(if s=u then some p else S.par s).map V.str;by_cases e:s=u
  .subst e;rw[yG rfl,yG rfl];rfl
  .rw [yD (fun x=>e (xJ x)),yD e]
theorem ok_la(F:Fun K "look_around" "Forest.look_around" jc f fd)(T:Txt K mg cc cw)(um:MethOk P w K mg base CX0 6 cw "beside" ["self","place"] (spBs cw))(ur:MethOk P w K mg base CX0 3 (cc 9) "bring_together" ["self","one","other"] (spBt cc cw))(KL:MethOk P w K mg base CX0 1 (cc 9) "reach" ["self","place","row"] (spRe cc cw)):FnOk P w K mg base CX0 7 f fd ["self","place"] (spLa cc cw):=by
 show F.ok KM fun _ _ _ s H vs Q E hr h=>?_
 .obtain⟨H0,a,ss,ns,qs,S,dn,wt,v,B,rfl,h,g,bi,ax,bd,I,hC,q1,q2⟩:=h;have Y:=jY hr;show⟨_,(qe (qZ yP rfl (qS (K:=K) rfl (qF um (hmR hr) (qB (K:=K) rfl (pv 0) rfl) (qa (pv 1) qd))) (qu (i:=2) KM.nd rfl (yL rfl))
 (qc (qM (qj (zr (K:=K) rfl Y) (pv 2) (qB (K:=K) rfl (pv 0) rfl) (by with_unfolding_all rfl)) (qe (qL (qF ur (hmR hr) (pv 0) (qa (pv 1) (qa (pv 2) qd))))) (qe (qM (qj (zH (K:=K) rfl Y) (pv 2) (qB (K:=K) rfl (pv 0) rfl) (by with_unfolding_all rfl)) (qc (qk (i:=3) KM.nd rfl (yL rfl) (qp (qr (K:=K) rfl Y) (qB (K:=K) rfl (pv 0) rfl) (pv 2) (fun _ _=>rfl)))
 (qc (jJ (pv 1) (jI (qB (K:=K) rfl (pv 0) rfl) (pv 2) (jL Y)))
 (qe (qL (qF KL (hmR hr) (pv 0) (qa (pv 3) (qa (qz (jV (K:=K) rfl) (qp (qr (K:=K) rfl Y) (qB (K:=K) rfl (pv 0) rfl) (pv 1) (fun _ _=>rfl)) (qG (qa (pv 2) (qa (pv 3) qd)))) qd))))))) qx)))
 (qe (qM (qj qdR (qB (K:=K) rfl (pv 0) rfl) j8 (qA _)) (qe ps_retN) qx))))),?_⟩
  have ao:v∈ss:=h.evs v (by simp)
  obtain⟨rv,bc⟩:∃ r,S.rows v=some r:=by
   cases e:S.rows v with
   | none=>show absurd e ((h.evi v).mp (by simp))
   | some r=>show⟨r,rfl⟩
  obtain⟨j,hj⟩:=yf ao;have ah:=h.web.same h.sm;obtain⟨wx,dd,ol,nn,hb,_⟩:=id ah;ext;show .inl (h.obj.rd T 0 rfl ?_);show⟨a.b,wx,_,rfl,hb,zg (by decide +kernel),?_⟩;ext;show⟨a.b,ss,ns,v,j,rfl,ah,hj,fun H1 s1 bl ai=>?_⟩;have n:=fun u=>ax j v u hj;have U:(inB ss 0 (ns.getD j 0)).length<=14:=yi (qbx _ _ _) g.few;unfold nbL at q1 q2;rw[qby g.nd hj] at q1 q2;generalize inB ss 0 (ns.getD j 0)=bes at n U q1 q2 ⊢;have bg:=(h.same s1).new ai;have s2:=qI s1 (o:=.lst (bes.map V.str)) ai;have eb:upd H1 bl (.lst (bes.map V.str)) bl=some (.lst (bes.map V.str)):=qb;generalize upd H1 bl (.lst (bes.map V.str))=H2 at s2 eb;have h2:=h.same s2;show .inl ⟨⟨_,.of eb⟩,qN (xs:=bes.map V.str) (fun i σ J=>∃(S':FS) (c:List Str) (y2 y3:Option V),σ=[some (.ref a.x),some (.str v),y2,y3]/\FoA (cc 9) cw H0 J a ss ns qs S' ss (dn++[v]) (wt++c) .non/\Bx a.six H2 J/\FI B (pt qs) S'/\Mono S S'/\(∀ Sf mf o,LaR qs ss v (bes.drop i) S' Sf mf o->LaR qs ss v bes S Sf (c++mf) o)/\∀ u∈bes.take i,S'.bas u=S'.bas v\/(S'.par u≠none/\u∉dn++[v])) ⟨S,[],_,_,rfl,by rw[Yj];show h2,fun _ _ _ e=>e,I,Mono.refl S,(fun _ _ _ z=>z),(fun u Y=>by simp at Y)⟩ (fun i σ J _ hp=>?_) (fun i y σ J hy hp=>?_) fun σ J hp=>?_⟩
  .obtain⟨S',c,y2,y3,rfl,_,D,_⟩:=hp;show .of (D _ _ bg eb)
  .obtain⟨S',c,y2,y3,rfl,m,D,L,G,R,O⟩:=hp;rw[yd] at hy;obtain⟨u,Z,rfl⟩:=yn.mp hy;have aa:B v u:=(n u).mp (ye Z);have am:u∈ss:=g.inn _ _ (g.gr.as aa);have l:=G.ro v rv bc;have X:bes.take (i+1)=bes.take i++[u]:=by rw[yT,Z];rfl
   rw[drop_at Z] at R;obtain⟨kr,r1,r2,r3⟩:=m.row;have C:=r3 u;ext;show .inl (m.obj.rd T 2 rfl ?_);show .inr (.inl ⟨a.dr,_,rfl,DGet.k (k:=Sum.inr u) r1,?_⟩)
   cases q:S'.rows u with
   | some ru =>
    rw[q] at C;obtain⟨tu,k1,k2,_⟩:=C;rw[k1];show⟨_,rfl,zE ?_⟩;ext;obtain⟨dx,fs,ac,_,_,_,ad⟩:=id m.obj;show⟨a.x,dx,fs,rfl,ac,ad _ (by decide +kernel),?_⟩;ext;show⟨H0,a,ss,ns,qs,S',dn++[v],wt++c,v,u,rv,ru,B,rfl,m,g,L,l,q,aa,fun H5 S5 bf h5 M I5 aw m5 N=>?_,fun H5 t5 r5 h5 M e5 n5 au az N=>?_⟩
    .ext;show .inl (h5.obj.rd T 7 rfl ?_);ext;show⟨rfl,_,rfl,qP (fun h=>by simp at h) fun _=>?_⟩;show⟨S5,c++bf,_,_,rfl,by rw[<- Yk wt];show h5,D.trans M,I5,G.trans m5,(fun Sf mf o z=>by rw[Yk];show R _ _ _ (.bt (by rw[q];show fun z=>by cases z) N z)),fun z hz=>?_⟩;rw[X] at hz;rcases yA.mp hz with hz | hz
     .show(O z hz).imp (m5.ba z v) fun y=>⟨m5.pa z y.1,y.2⟩
     .rw [yy.mp hz];show .inl aw.symm
    .ext;show .inl (h5.obj.rd T 7 rfl ?_);ext;show⟨rfl,_,rfl,zE ?_⟩;show q2 H5 S' c t5 r5 h5 (((Bx.of s2).trans D).trans M) e5 n5 au az (by have:=R _ _ _ (.row (by rw[q];show fun z=>by cases z) N);rwa[Yj] at this)
   | none =>
    rw[q] at C;have ak:j7 kr (.inr u:Key)=none:=C;rw[ak];have al:u∉dn++[v]:=fun z=>(m.evi u).mp (yO _ z) q;show⟨_,rfl,qP (fun h=>by cases h) fun _=>?_⟩;obtain⟨ka,p1,p2,p3⟩:=m.par;ext;show .inl (m.obj.rd T 3 rfl ?_);show .inr (.inl ⟨a.da,_,rfl,DGet.k (k:=Sum.inr u) p1,?_⟩);rw[p3]
    cases ep:S'.par u with
    | some z =>
     show⟨_,rfl,qP (fun h=>by cases h) fun _=>?_⟩;ext;show .inl (m.obj.rd T 7 rfl ?_);ext;show⟨rfl,_,rfl,qP (fun h=>by simp at h) fun _=>?_⟩;show⟨S',c,_,_,rfl,m,D,L,G,(fun Sf mf o z=>R _ _ _ (.old q (by rw[ep];show fun z=>by cases z) z)),fun z hz=>?_⟩;rw[X] at hz;rcases yA.mp hz with hz | hz
     .show O z hz
     .rw [yy.mp hz];show .inr ⟨by rw[ep];show(fun y=>by cases y),al⟩
    | none =>
     show⟨_,rfl,zE ?_⟩
     obtain⟨y,t⟩:∃ y,pt qs u=some y:=by
      cases e:pt qs u with
      | some y=>show⟨y,rfl⟩
      | none =>
       exfalso;have k:=bd u am e
       cases e2:S.rows u with
       | none=>show k e2
       | some r=>rw[G.ro u r e2] at q;cases q
     have be:y∈ss:=g.inn _ _ (g.gr.as (g.gr.fa t));have ap:=L.fresh g.gr q ep t;have bb:=m.sm _ _ h.prt;obtain⟨h3,bh⟩:=m.setP (p:=v) p1 am ep;have bm:=g.few;ext;show .inl (m.obj.rd T 1 rfl ?_);ext;show qeB bb (by rw[jO,t];rfl) ?_;ext;show .inl (m.obj.rd T 3 rfl ?_);ext;show .inr ⟨a.da,_,rfl,DPut.k (k:=Sum.inr u) p1 (by rw[YD];omega),?_⟩;have ae:Bx a.six H2 (upd J a.da (.dK (zC ka (Sum.inr u) (.str v)))):=D.upd (by simp[Fo.six]);generalize upd J a.da (.dK (zC ka (Sum.inr u) (.str v)))=J3 at h3 ae;ext;obtain⟨dx,fs,ac,_,_,_,ad⟩:=id h3.obj;show⟨a.x,dx,fs,rfl,ac,ad _ (by decide +kernel),?_⟩;ext;show .inl (h3.obj.rd T 2 rfl ?_);ext;show h3.rowAt (S:=S'.setPar u v) l fun tv ar=>?_;ext;show⟨by show 2<=sizeLine;decide,fun c1 ay=>?_⟩;have t1:=qI (Sr J3) (o:=.lst [.str u,.str y]) ay;have af:upd J3 c1 (.lst [.str u,.str y]) c1=some (.lst [.str u,.str y]):=qb;generalize upd J3 c1 (.lst [.str u,.str y])=J4 at t1 af;have bj:=((L.alt v rv l).inn g ao).1;show qeM (t1 _ _ ar) af (by rw[ya];show _+2<=_;omega) fun c2 aj=>?_;have n2:=(h3.same t1).newA aj;have t2:=qI t1 (o:=.lst (rv.map V.str++[.str u,.str y])) aj;have ag:upd J4 c2 (.lst (rv.map V.str++[.str u,.str y])) c2=some (.lst ((rv++[u,y]).map V.str)):=by rw[qb,yF];rfl
     generalize upd J4 c2 (.lst (rv.map V.str++[.str u,.str y]))=J5 at t2 ag;ext;show⟨H0,a,ss,ns,qs,S'.setPar u v,ss,dn++[v],wt++c,.non,y,c2,rv++[u,y],rfl,h3.same t2,g.few,ag,n2,be,ap,fun H6 h6 aq _=>?_⟩;have W:Gw S' ((S'.setPar u v).setRow y (rv++[u,y])) v u y rv:=⟨yG rfl,fun s hs=>yD hs,yG rfl,fun s hs=>yD hs,rfl⟩;have I6:=L.grow g.gr l aa q ep t W
     have m6:Mono S' ((S'.setPar u v).setRow y (rv++[u,y])):=⟨fun _ _ e=>e,fun z hz=>by
      show(if z=u then some v else S'.par z)≠none;split
      .show fun x=>by cases x
      .show hz,fun z r e=>by rw[W.ro z (fun x=>by rw[x,ap] at e;cases e)];show e⟩
     ext;show .inl (h6.obj.rd T 7 rfl ?_);ext;show⟨rfl,_,rfl,qP (fun h=>by simp at h) fun _=>?_⟩;show⟨_,c++[y],_,_,rfl,by rw[<- Yk wt];show h6,(ae.trans (Bx.of t2)).trans aq,I6,G.trans m6,(fun Sf mf o z=>by rw[Yk];show R _ _ _ (.new q ep t l z)),fun z hz=>?_⟩;rw[X] at hz;rcases yA.mp hz with hz | hz
     .show(O z hz).imp (m6.ba z v) fun y=>⟨m6.pa z y.1,y.2⟩
     .rw [yy.mp hz];show .inr ⟨by rw[W.pu];show(fun x=>by cases x),al⟩
  .obtain⟨S',c,y2,y3,rfl,m,D,L,G,R,O⟩:=hp;rw[ya,yW] at O;show q1 J S' c m ((Bx.of s2).trans D) L ?_ G (by have:=R _ _ _ (by rw[ya,List.drop_length];show .nil);rwa[Yj] at this);have av:=hC.on G;show⟨fun z u hz A=>?_,fun z hz=>?_⟩
   .rcases yA.mp hz with hz1 | hz1
    .by_cases an:u=v
     .rw [an] at A ⊢;rcases O z ((n z).mpr (g.gr.as A)) with y | y
      .show .inl y.symm
      .show absurd (yO _ hz1) y.2
     .rcases av.cl z u hz1 A with y | ⟨y1,y2⟩
      .show .inl y
      .show .inr ⟨y1,fun x=>(yA.mp x).elim y2 fun x=>an (yy.mp x)⟩
    .rw [yy.mp hz1] at A ⊢;show O u ((n u).mpr A)
   .show(m.evi z).mp (yO _ hz)
theorem uz:FnScope ["self","place"] ["self"] (qh j3):=fS
noncomputable def S0:FS:=⟨fun _=>none,fun _=>none,fun s=>s⟩
noncomputable def SI(qs:List (Str×Str))(l:List Str):FS:=⟨fun s=>if s∈l/\pt qs s=none then some [s] else none,fun _=>none,fun s=>s⟩
inductive GwR(qs:List (Str×Str))(ss:List Str)(ns:List Nat):FS->List Str->FS->Option (List Str)->Prop
 | nil {S:FS}:GwR qs ss ns S [] S none
 | row {S S1:FS} {v:Str} {wt m r:List Str}:LaR qs ss v (nbL ss ns v) S S1 m (some r)->GwR qs ss ns S (v::wt) S1 (some r)
 | on {S S1 S2:FS} {v:Str} {wt m:List Str} {o:Option (List Str)}:LaR qs ss v (nbL ss ns v) S S1 m none->GwR qs ss ns S1 (wt++m) S2 o->GwR qs ss ns S (v::wt) S2 o
theorem GwR.det{o:Option (List Str)}(h:GwR qs ss ns S wt S1 o):GwR qs ss ns S wt S2 o'->S1=S2/\o=o':=by
 induction h generalizing S2 o' with
 | nil=>intro g;cases g;show⟨rfl,rfl⟩
 | row h =>
  intro g
  cases g with
  | row g =>
   obtain⟨a,_,c⟩:=h.det g;show⟨a,c⟩
  | on g _=>cases (h.det g).2.2
 | on h _ ih =>
  intro g
  cases g with
  | row g=>cases (h.det g).2.2
  | on g k =>
   obtain⟨a,b,_⟩:=h.det g;subst a;subst b;show ih k
def LoV(H:Hp)(lo:V)(o:Option (List Str)):Prop:=(lo=.non/\o=none)\/∃ t r,lo=.ref t/\H t=some (.lst (r.map V.str))/\o=some r
noncomputable def sgL(qs:List (Str×Str))(l:List Str):List Str:=l.filter fun s=>(pt qs s).isNone
structure FoD(cf cw:Addr)(H0 H:Hp)(a:Fo)(ss:List Str)(ns:List Nat)(qs:List (Str×Str))(S:FS)(dn wt:List Str)(lo:V)(A:Str->Str->Prop):Prop where
 fo:FoA cf cw H0 H a ss ns qs S ss dn wt lo
 en:(lo=.non/\wt=[]/\FI A (pt qs) S/\CI A S (fun u=>u∈dn)/\∀ z∈ss,pt qs z=none->S.rows z≠none)\/∃ t r,lo=.ref t/\H t=some (.lst (r.map V.str))/\t∉a.all/\Aug A (pt qs) r/\r.length<=28
 gw:∃ o,GwR qs ss ns (SI qs ss) (sgL qs ss) S o/\LoV H lo o
theorem SI_nil(qs:List (Str×Str)):SI qs []=S0:=by unfold SI S0;simp
theorem SI_on(h:pt qs z=none):SI qs (l++[z])=(SI qs l).setRow z [z]:=by
 unfold SI FS.setRow
 congr 1
 funext s;dsimp only;by_cases e:s=z
 .subst e;rw[yG ⟨by simp,h⟩,yG rfl]
 .rw [yD e];have:s∈l++[z]↔s∈l:=by simp[e]
  simp only[this]
theorem SI_off(h:pt qs z≠none):SI qs (l++[z])=SI qs l:=by
 unfold SI
 congr 1
 funext s;by_cases e:s=z
 .subst e;rw[yD (fun k=>h k.2),yD (fun k=>h k.2)]
 .have:s∈l++[z]↔s∈l:=by simp[e]
  simp only[this]
inductive spGw(cc:Nat->Addr)(cw:Addr)(vs:List V)(H:Hp)(Q:VK)(E:XK):Prop|mk (H0:Hp) (a:Fo) (ss:List Str) (ns:List Nat) (qs:List (Str×Str)) (A:Str->Str->Prop) (_:vs=[.ref a.x]) (_:FoA (cc 9) cw H0 H a ss ns qs S0 [] [] [] .non) (_:Wb A ss qs) (_:(∀ s∈ss,zf s=true)) (_:(∀(j:Nat) z u,ss[j]?=some z->(u∈inB ss 0 (ns.getD j 0)↔A z u))) (_:∀(H':Hp) (S:FS) (dn wt:List Str) (lo:V),FoD (cc 9) cw H0 H' a ss ns qs S dn wt lo A->Bx a.six H H'->Q .non H')
theorem ix_natF{k:Nat}(h:k<n):seqIndex? (k:Int) n=some k:=by
 unfold seqIndex?;simp;omega
theorem nin_prF{d:Addr}{Q:VK}(a:H d=some (.dK (prK qs)))(q:Q (.bl (!(pt qs s).isSome)) H):qec K true (.str s) (.ref d) H Q:=by
 show .inr (.inl ⟨d,_,rfl,DGet.k (k:=Sum.inr s) a,?_⟩);rw[jO,yG rfl,Xr];show q
theorem FoA.ne{a:Fo}{bs:List Str}(h:FoA (cc 9) cw H0 H a ss ns qs S bs dn wt lo):(¬a.x=a.dr/\¬a.x=a.da/\¬a.x=a.ds/\¬a.x=a.dg/\¬a.x=a.dw)/\(¬a.dr=a.da/\¬a.dr=a.ds/\¬a.dr=a.dg/\¬a.dr=a.dw)/\(¬a.da=a.ds/\¬a.da=a.dg/\¬a.da=a.dw)/\(¬a.ds=a.dg/\¬a.ds=a.dw)/\¬a.dg=a.dw:=by simpa [Fo.six] using h.sep
theorem FoA.setN{a:Fo}{bs:List Str}{ks:List (Key×V)}(h:FoA (cc 9) cw H0 H a ss ns qs S bs dn wt lo)(q:H a.ds=some (.dK ks))(hz:S.bas z=z):FoA (cc 9) cw H0 (upd H a.ds (.dK (zC ks (Sum.inr z) (.str z)))) a ss ns qs S (bs++[z]) dn wt lo/\ks.length<=bs.length:=by
 obtain⟨t,G,I,J⟩:=h.row;obtain⟨s,D,E,F⟩:=h.par;obtain⟨k,i,l,m⟩:=h.bas;obtain⟨xs,n,p⟩:=h.rng;rw[q] at i;cases i;obtain⟨⟨K,L,B,M,N⟩,⟨O,C,P,R⟩,⟨b,v,w⟩,⟨f,g⟩,A⟩:=h.ne;have j:Bx a.six H (upd H a.ds (.dK (zC ks (Sum.inr z) (.str z)))):=(Bx.of (Sr H)).upd (by simp[Fo.six]);show⟨⟨qaH h.sm (h.fr _ (by simp[Fo.six])),h.web,h.prt,h.fr,h.nd,fun c hc=>⟨(h.exf c hc).1,(h.exf c hc).2.1,(h.exf c hc).2.2.elim fun o e=>⟨o,j _ _ (h.exf c hc).2.1 e⟩⟩,h.obj.eq (qf B),⟨t,by rw[qf C];show G,I,fun y=>(J y).mono j Fo.sub⟩,⟨s,by rw[qf b];show D,E,F⟩,⟨_,qb,by have:=ji ks (Sum.inr z:Key) (.str z);rw[yt];show _<=_+1;omega,fun u r=>?_⟩,⟨xs,by rw[qf (Yi f)];show n,p⟩,by rw[qf (Yi g)];show h.wai,h.evn,h.evi,h.evs⟩,l⟩;rw[qax];by_cases e:u=z
 .subst e;rw[yG rfl,hz]
 .rw [yD (fun x=>e (xJ x))];show m u ((yA.mp r).resolve_right fun y=>e (yy.mp y))
theorem FoA.pop{a:Fo}{bs:List Str}(h:FoA (cc 9) cw H0 H a ss ns qs S bs dn (v::wt) lo):FoA (cc 9) cw H0 (upd H a.dw (.lst (wt.map V.str))) a ss ns qs S bs (dn++[v]) wt lo:=by
 obtain⟨s,D,E,F⟩:=h.row;obtain⟨r,A,B,C⟩:=h.par;obtain⟨k,l,m,n⟩:=h.bas;obtain⟨xs,p,q⟩:=h.rng;obtain⟨⟨G,I,J,K,x⟩,⟨L,M,N,z⟩,⟨t,u,f⟩,⟨w,g⟩,i⟩:=h.ne;have b:dn++[v]++wt=dn++v::wt:=by simp
 have j:Bx a.six H (upd H a.dw (.lst (wt.map V.str))):=(Bx.of (Sr H)).upd (by simp[Fo.six]);show⟨qaH h.sm (h.fr _ (by simp[Fo.six])),h.web,h.prt,h.fr,h.nd,fun c hc=>⟨(h.exf c hc).1,(h.exf c hc).2.1,(h.exf c hc).2.2.elim fun o e=>⟨o,j _ _ (h.exf c hc).2.1 e⟩⟩,h.obj.eq (qf x),⟨s,by rw[qf z];show D,by rw[b];show E,fun y=>(F y).mono j Fo.sub⟩,⟨r,by rw[qf f];show A,B,C⟩,⟨k,by rw[qf g];show l,m,n⟩,⟨xs,by rw[qf i];show p,by rw[b];show q⟩,qb,by rw[b];show h.evn,by rw[b];show h.evi,by rw[b];show h.evs⟩
theorem ok_gw(F:Fun K "grow" "Forest.grow" j3 f fd)(T:Txt K mg cc cw)(uq:MethOk P w K mg base CX0 1 cw "places" ["self"] (spPls cw))(KL:MethOk P w K mg base CX0 1 (cc 9) "reach" ["self","place","row"] (spRe cc cw))(uB:MethOk P w K mg base CX0 7 (cc 9) "look_around" ["self","place"] (spLa cc cw)):FnOk P w K mg base CX0 8 f fd ["self"] (spGw cc cw):=by
 show F.ok uz fun _ _ _ _ H vs Q E hr h=>?_
 .obtain⟨H0,a,ss,ns,qs,B,rfl,h,L,an,aj,q⟩:=h;have hu:=jY hr;have ap:=L.few;show⟨_,(qc (qZ yP rfl (qS (K:=K) rfl (jD uq (hmR hr) (qB (K:=K) rfl (pv 0) rfl))) (qu (i:=1) uz.nd rfl (yL rfl))
 (qc (jJ (pv 1) (jI (qB (K:=K) rfl (pv 0) rfl) (pv 1) (jL hu)))
 (qe (qM (qj (zH (K:=K) rfl hu) (pv 1) (qB (K:=K) rfl (pv 0) rfl) (by with_unfolding_all rfl)) (qe (qL (qF KL (hmR hr) (pv 0) (qa (pv 1) (qa (qG (qa (pv 1) qd)) qd))))) qx))))
 (qe (qaZ yP (PW.pt (qbh (qj qdQ (qv (zR (K:=K) rfl) rfl T.b_len xn (qa (qB (K:=K) rfl (pv 0) rfl) qd)) qg (qA _)) (qbg (qj qga (qB (K:=K) rfl (pv 0) rfl) j8 (qA _)))))
 (qe (qL (qF uB (hmR hr) (pv 0) (qa (qaW (K:=K) rfl yK PySem.F.slot_list_pop PySem.F.type_list_pop mtR_popAt (qB (K:=K) rfl (pv 0) rfl) (qa qg qd)) qd))))))),?_⟩
  have ac:=h.web.same h.sm;obtain⟨wx,dd,ol,nn,hb,_⟩:=id ac;ext;show .inl (h.obj.rd T 0 rfl ?_);show⟨a.b,wx,_,rfl,hb,zg (by decide +kernel),?_⟩;ext;show⟨a.b,ss,ns,rfl,ac,fun pl ae=>?_⟩;have as:=h.new ae;have s1:=qI (Sr H) (o:=.lst (ss.map V.str)) ae;have e1:upd H pl (.lst (ss.map V.str)) pl=some (.lst (ss.map V.str)):=qb;generalize upd H pl (.lst (ss.map V.str))=H1 at s1 e1;show .inl ⟨⟨_,.of e1⟩,qN (xs:=ss.map V.str) (fun i X J=>∃(y1:Option V),X=[some (.ref a.x),y1]/\FoA (cc 9) cw H0 J a ss ns qs (SI qs (ss.take i)) (ss.take i) [] (sgL qs (ss.take i)) .non/\Bx a.six H1 J) ⟨_,rfl,by rw[List.take_zero,SI_nil];show h.same s1,fun _ _ _ e=>e⟩ (fun i X J _ p=>?_) (fun i y X J hy p=>?_) fun X J p=>?_⟩
  .obtain⟨y1,rfl,_,bx⟩:=p;show .of (bx _ _ as e1)
  .obtain⟨y1,rfl,Z,bx⟩:=p;rw[yd] at hy;obtain⟨z,hz,rfl⟩:=yn.mp hy;have aw:=(yc.mp hz).1;have ar:=ye hz;have af:ss.take (i+1)=ss.take i++[z]:=by rw[yT,hz];rfl
   obtain⟨ks,b1,b2,b3⟩:=Z.bas;rw[yX] at b2;obtain⟨D,_⟩:=Z.setN (z:=z) b1 rfl;ext;show .inl (Z.obj.rd T 4 rfl ?_);ext;show .inr ⟨a.ds,_,rfl,DPut.k (k:=Sum.inr z) b1 (by rw[YD];omega),?_⟩;have s:Bx a.six H1 (upd J a.ds (.dK (zC ks (Sum.inr z) (.str z)))):=bx.upd (by simp[Fo.six]);generalize upd J a.ds (.dK (zC ks (Sum.inr z) (.str z)))=J2 at D s;have ao:=D.sm _ _ h.prt;ext;show .inl (D.obj.rd T 1 rfl ?_);show nin_prF ao ⟨_,rfl,?_⟩
   cases ez:pt qs z with
   | some y =>
    show yq ?_;have es:sgL qs (ss.take i++[z])=sgL qs (ss.take i):=by unfold sgL;rw[Yw,yZ,ez];simp
    show⟨_,rfl,by rw[af,SI_off (by rw[ez];show fun k=>nomatch k),es];show D,s⟩
   | none =>
    show zE ?_;ext;obtain⟨dx,fs,R,_,_,_,U⟩:=id D.obj;show⟨a.x,dx,fs,rfl,R,U _ (by decide +kernel),?_⟩;ext;show⟨by show 1<=sizeLine;decide,fun c1 ad=>?_⟩;have n1:=D.newA ad;have t1:=qI (Sr J2) (o:=.lst [.str z]) ad;have aa:upd J2 c1 (.lst [.str z]) c1=some (.lst ([z].map V.str)):=qb;generalize upd J2 c1 (.lst [.str z])=J3 at t1 aa
    have aq:z∉ss.take i:=fun y=>by
     obtain⟨j,hj⟩:=yf y;have ak:=(yc.mp hj).1;rw[yX] at ak;rw[List.getElem?_take,yG (by omega)] at hj;have:=qy L.nd hj hz;omega
    ext;show⟨H0,a,ss,ns,qs,SI qs (ss.take i),ss.take i++[z],[],sgL qs (ss.take i),.non,z,c1,[z],rfl,D.same t1,ap,aa,n1,ar,yD (fun k=>aq k.1),fun H6 h6 ah _=>?_⟩;have es:sgL qs (ss.take i++[z])=sgL qs (ss.take i)++[z]:=by unfold sgL;rw[Yw,yZ,ez];simp
    show⟨_,rfl,by rw[af,SI_on ez,es];show h6,(s.trans (Bx.of t1)).trans ah⟩
  .obtain⟨y1,rfl,Z,bx⟩:=p;rw[ya,yW] at Z;have ag:Bx a.six H J:=(Bx.of s1).trans bx
   have IJ:FI B (pt qs) (SI qs ss):=FI.start (fun v r e=>by
    have e':(if v∈ss/\pt qs v=none then some [v] else none)=some r:=e;split at e'
    .rename_i k;show⟨k.2,(ym e').symm⟩
    .cases e') (fun _=>rfl) fun _=>rfl
   ext;obtain⟨W,l⟩:∃ W:Nat->L2.St->Hp->Prop,W=fun m X J=>∃(S:FS) (dn wt:List Str) (lo:V) (y1:Option V),X=[some (.ref a.x),y1]/\Bx a.six H J/\((lo=.non/\m=15-dn.length/\(∀ Sf o,GwR qs ss ns S wt Sf o->GwR qs ss ns (SI qs ss) (sgL qs ss) Sf o)/\FoA (cc 9) cw H0 J a ss ns qs S ss dn wt .non/\FI B (pt qs) S/\CI B S (fun u=>u∈dn)/\∀ z∈ss,pt qs z=none->S.rows z≠none)\/(lo≠.non/\m=0/\FoD (cc 9) cw H0 J a ss ns qs S dn wt lo B)):=⟨_,rfl⟩;show⟨W,⟨15,by rw[l];show⟨SI qs ss,[],_,.non,_,rfl,ag,.inl ⟨rfl,rfl,(fun _ _ z=>z),Z,IJ,⟨(fun v u k=>by cases k),(fun v k=>by cases k)⟩,fun z hz e=>by show(if _ then _ else _)≠none;rw[yG ⟨hz,e⟩];show fun k=>by cases k⟩⟩⟩,fun m X J hW=>?_⟩;rw[l] at hW;obtain⟨S,dn,wt,lo,ax,rfl,g,M⟩:=hW;rcases M with⟨rfl,hm,N,n,I,hC,O⟩ | ⟨am,hm,Y⟩
   .have c:=n.wai;ext;show .inl (n.obj.rd T 6 rfl ?_);ext;show qbC c ?_;rw[ya];ext
    cases wt with
    | nil =>
     show qP (fun h=>by simp at h) fun _=>qP (fun h=>by cases h) fun _=>?_;show q J S dn [] .non ⟨n,.inl ⟨rfl,rfl,I,hC,O⟩,none,N _ _ .nil,.inl ⟨rfl,rfl⟩⟩ g
    | cons v wt =>
     show qP (fun _=>?_) fun h=>absurd (yB (by simp)) h;ext;show .inl (n.obj.rd T 7 rfl ?_);ext;show⟨_,rfl,zE ⟨fun au H'=>∃ m',m'<m/\W m' au H',fun _ _ z=>z,?_⟩⟩;have av:dn.length+1<=14:=by have:=n.few;rw[yt,yC] at this;omega
     ext;obtain⟨dx,fs,R,_,_,_,U⟩:=id n.obj;show⟨a.x,dx,fs,rfl,R,U _ (by decide +kernel),?_⟩;ext;show .inl (n.obj.rd T 6 rfl ?_);show⟨.inl ⟨rfl,_,.of c⟩,?_⟩;ext;show⟨a.dw,_,0,0,.str v,rfl,rfl,c,by decide,by decide,by rw[ya];show ix_natF (by simp),rfl,?_⟩;have p:=n.pop;have C:Bx a.six H (upd J a.dw (.lst (wt.map V.str))):=g.upd (by simp[Fo.six]);ext;show spLa cc cw _ (upd J a.dw (.lst (wt.map V.str))) _ _;generalize upd J a.dw (.lst (wt.map V.str))=J2 at p C;show⟨H0,a,ss,ns,qs,S,dn,wt,v,B,rfl,p,L,an,aj,O,I,hC,fun H5 S5 mo h5 A I5 C5 m5 G=>?_,fun H5 S5 mo t5 r5 h5 A e5 n5 ai al G=>?_⟩
     .show⟨15-(dn++[v]).length,by rw[hm,yt];show _-(_+1)<_;omega,?_⟩;rw[l]
      show⟨S5,dn++[v],wt++mo,.non,_,rfl,C.trans A,.inl ⟨rfl,rfl,(fun Sf o z=>N _ _ (.on G z)),h5,I5,C5,fun z hz e=>(by
       have k:=O z hz e
       cases e2:S.rows z with
       | none=>show absurd e2 k
       | some r=>rw[m5.ro z r e2];show fun x=>by cases x)⟩⟩
     .show⟨0,by omega,?_⟩;rw[l];show⟨S5,dn++[v],wt++mo,.ref t5,_,rfl,C.trans A,.inr ⟨(fun e=>by cases e),rfl,⟨h5,.inr ⟨t5,r5,rfl,e5,n5,ai,al⟩,some r5,N _ _ (.row G),.inr ⟨t5,r5,rfl,e5,rfl⟩⟩⟩⟩
   .have c:=Y.fo.wai;rcases Y.en with k | ⟨t,r,rfl,_⟩
    .show absurd k.1 am
    ext;show .inl (Y.fo.obj.rd T 6 rfl ?_);ext;show qbC c ?_;ext;show qP (fun _=>?_) (fun _=>qP (fun h=>by cases h) fun _=>q J S dn wt _ Y g);ext;show .inl (Y.fo.obj.rd T 7 rfl ?_);ext;show⟨_,rfl,qP (fun h=>by cases h) fun _=>?_⟩;show q J S dn wt _ Y g
theorem uY:FnScope ["self","web","pairs"] ["self","web","pairs"] (qh j4):=fS
theorem u8:FnScope ["self"] ["self"] (qh zo):=fS
noncomputable def qfq(p:Addr)(H:Hp):Hp:=fun b=>if b=p then none else H b
theorem zM{b:Addr}(h:b≠p):qfq p H b=H b:=yD h
theorem lkn{f g:Str}{v:V}{fs:List (Str×V)}(h:f≠g)(k:fs.lookup f=none):(qH g v fs).lookup f=none:=by rw[qD,yD h];show k
inductive spFi(cc:Nat->Addr)(cw:Addr)(vs:List V)(H:Hp)(Q:VK)(E:XK):Prop|mk (x dx b r:Addr) (ss:List Str) (ns:List Nat) (us:List Addr) (tps qs:List (Str×Str)) (A:Str->Str->Prop) (_:vs=[.ref x,.ref b,.ref r]) (_:H x=some (.ins (cc 9) dx [])) (_:WebAt cw H b ss ns) (_:Adj ss ns tps) (_:Wb A ss qs) (_:(∀ s∈ss,zf s=true)) (_:(∀(j:Nat) z u,ss[j]?=some z->(u∈inB ss 0 (ns.getD j 0)↔A z u))) (_:PL H r us qs) (_:qs.length<=30) (_:(∀ q∈qs,(q∈tps\/(q.2,q.1)∈tps)/\q.1∈ss/\q.2∈ss/\q.1≠q.2)) (_:∀(H0 H':Hp) (a:Fo) (S:FS) (dn wt:List Str) (lo:V),a.x=x->a.ex=[]->FoD (cc 9) cw H0 H' a ss ns qs S dn wt lo A->L2.Same (qfq x H) H0->Q .non H')
theorem WebAt.out{b:Addr}{fs:List (Str×V)}(h:WebAt cw H b ss ns)(a:H x=some (.ins (cc 9) dx fs))(hb:b≠x):WebAt cw (qfq x H) b ss ns:=by
 obtain⟨i,d,ol,n,h1,c,e,f,g⟩:=h;show⟨i,d,ol,n,(zM hb).trans h1,(zM ?_).trans c,(zM ?_).trans e,(zM ?_).trans f,g⟩
 .show qam c a (fun z=>by cases z)
 .show qam e a (fun z=>by cases z)
 .show qam f a (fun z=>by cases z)
theorem ok_fi(F:Fun K "__init__" "Forest.__init__" j4 f fd)(T:Txt K mg cc cw)(KB:DefOk P w K mg base CX0 9 "partners_in" ["web","pairs"] (spPn cw))(u9:MethOk P w K mg base CX0 8 (cc 9) "grow" ["self"] (spGw cc cw)):FnOk P w K mg base CX0 10 f fd ["self","web","pairs"] (spFi cc cw):=by
 show F.ok uY fun _ _ _ s H vs Q E hr h=>?_
 .obtain⟨x,dx,b,r,ss,ns,us,tps,qs,B,rfl,hx,hW,hA,bu,ch,cf,hP,ci,cj,q⟩:=h;have hu:=jY hr;show⟨_,(qc (jN (K:=K) rfl (pv 0) (pv 1) rfl)
 (qc (jN (K:=K) rfl (pv 0) (qt KB (hmR hr) qC (qa (pv 1) (qa (pv 2) qd))) rfl)
 (qc (jN (K:=K) rfl (pv 0) jQ rfl)
 (qc (jN (K:=K) rfl (pv 0) jQ rfl)
 (qc (jN (K:=K) rfl (pv 0) jQ rfl)
 (qc (jN (K:=K) rfl (pv 0) (qG qd) rfl)
 (qc (jN (K:=K) rfl (pv 0) (qG qd) rfl)
 (qc (jN (K:=K) rfl (pv 0) j8 rfl)
 (qe (qL (jD u9 (hmR hr) (pv 0)))))))))))),?_⟩
  have ca:b≠x:=fun e=>by
   obtain⟨wx,d,ol,n,hb,_⟩:=id hW;subst e;rw[hx] at hb;injection hb with hb;injection hb with _ _ hb;cases hb
  have cq:r≠x:=qam hP.1 hx (fun z=>by cases z)
  have cr:∀ u∈us,u≠x:=fun u hu=>by
   obtain⟨q,_,eu⟩:=hP.2.mem hu;show qam eu hx (fun z=>by cases z)
  have fa:∀ i,(h:i<8)->NoAttr K (cc 9) (fAtt.getD i ""):=fun i h=>T.fa _ (by have:i<fAtt.length:=h;rw[Ye,yb this];show xi this);ext;show .inl ⟨x,cc 9,dx,[],rfl,hx,T.fcl,fa 0 (by decide),by decide,?_⟩;have b1:=(But.refl x H).put (o:=.ins (cc 9) dx (qH "board" (.ref b) []));have bp:upd H x (.ins (cc 9) dx (qH "board" (.ref b) [])) x=some (.ins (cc 9) dx (qH "board" (.ref b) [])):=qb;generalize upd H x (.ins (cc 9) dx (qH "board" (.ref b) []))=H1 at b1 bp ⊢
  have keepW:∀{J:Hp},But x H J->WebAt cw J b ss ns:=fun k=>by
   obtain⟨wx,d,ol,n,h1,h2,h3,h4,h5⟩:=hW;show⟨wx,d,ol,n,k _ _ ca h1,k _ _ (qam h2 hx (fun z=>by cases z)) h2,k _ _ (qam h3 hx (fun z=>by cases z)) h3,k _ _ (qam h4 hx (fun z=>by cases z)) h4,h5⟩
  have cd:PL H1 r us qs:=⟨b1 _ _ cq hP.1,hP.2.len,fun k t ab ht ce=>b1 _ _ (cr t (ye ht)) (hP.2.at_ k t ab ht ce)⟩;ext;show⟨b,r,ss,ns,us,tps,qs,rfl,keepW b1,hA,cd,⟨cj,bu.qn,ci⟩,fun dp H2 s2 bg cg=>?_⟩;have bw:=s2 _ _ bp;have b2:=b1.same s2;have cp:dp≠x:=fun e=>by rw[e,bp] at bg;cases bg
  have hl:∀{f:Str} {v:V} {fs:List (Str×V)} {n:Nat},fs.length<=n->(qH f v fs).length<=n+1:=fun h=>yi (jz _ _ _) (by omega);ext;show .inl ⟨x,cc 9,dx,_,rfl,bw,T.fcl,fa 1 (by decide),Yp (hl (n:=0) (yh _)) (by decide),?_⟩
  have c3:L2.Same (qfq x H2) (upd H2 x (.ins (cc 9) dx (qH "partners" (.ref dp) (qH "board" (.ref b) [])))):=fun c o e=>by
   have hc:c≠x:=fun z=>by rw[z] at e;unfold qfq at e;rw[yG rfl] at e;cases e
   rw[zM hc] at e;rw[qf hc];show e
  have ap:upd H2 x (.ins (cc 9) dx (qH "partners" (.ref dp) (qH "board" (.ref b) []))) x=some (.ins (cc 9) dx (qH "partners" (.ref dp) (qH "board" (.ref b) []))):=qb;obtain⟨H0,ac⟩:∃ H0,H0=qfq x H2:=⟨_,rfl⟩;rw[<- ac] at c3;have D:H0 x=none:=by rw[ac];show yG rfl
  have l3:(qH "partners" (.ref dp) (qH "board" (.ref b) [])).length<=2:=hl (hl (n:=0) (yh _));generalize upd H2 x (.ins (cc 9) dx (qH "partners" (.ref dp) (qH "board" (.ref b) [])))=H3 at c3 ap ⊢;obtain⟨f3,bh⟩:∃ f3,f3=qH "partners" (.ref dp) (qH "board" (.ref b) []):=⟨_,rfl⟩;rw[<- bh] at ap l3;ext;intro m ao;have C:m≠x:=fun e=>by rw[e,ap] at ao;cases ao
  have cv:H0 m=none:=c3.free ao;have ck:upd H3 m (.dK []) x=some (.ins (cc 9) dx f3):=by rw[qf C.symm];show ap
  ext;show .inl ⟨x,cc 9,dx,_,rfl,ck,T.fcl,fa 2 (by decide),Yp l3 (by decide),?_⟩;have c4:L2.Same H0 (upd (upd H3 m (.dK [])) x (.ins (cc 9) dx (qH "rows" (.ref m) f3))):=qaH (qI c3 ao) D;have aq:(upd (upd H3 m (.dK [])) x (.ins (cc 9) dx (qH "rows" (.ref m) f3))) x=some (.ins (cc 9) dx (qH "rows" (.ref m) f3)):=qb;have l4:(qH "rows" (.ref m) f3).length<=3:=hl l3;have U:(upd (upd H3 m (.dK [])) x (.ins (cc 9) dx (qH "rows" (.ref m) f3))) m=some (.dK []):=by rw[qf C,qb]
  generalize upd (upd H3 m (.dK [])) x (.ins (cc 9) dx (qH "rows" (.ref m) f3))=H4 at c4 aq U ⊢;obtain⟨f4,bi⟩:∃ f,f=qH "rows" (.ref m) f3:=⟨_,rfl⟩;rw[<- bi] at aq l4;ext;intro l G;have I:l≠x:=fun e=>by rw[e,aq] at G;cases G
  have ct:H0 l=none:=c4.free G;have ad:l≠m:=fun e=>by rw[e,U] at G;cases G
  have cl:upd H4 l (.dK []) x=some (.ins (cc 9) dx f4):=by rw[qf I.symm];show aq
  ext;show .inl ⟨x,cc 9,dx,_,rfl,cl,T.fcl,fa 3 (by decide),Yp l4 (by decide),?_⟩;have c5:L2.Same H0 (upd (upd H4 l (.dK [])) x (.ins (cc 9) dx (qH "parents" (.ref l) f4))):=qaH (qI c4 G) D;have ar:(upd (upd H4 l (.dK [])) x (.ins (cc 9) dx (qH "parents" (.ref l) f4))) x=some (.ins (cc 9) dx (qH "parents" (.ref l) f4)):=qb;have l5:(qH "parents" (.ref l) f4).length<=4:=hl l4;have M:(upd (upd H4 l (.dK [])) x (.ins (cc 9) dx (qH "parents" (.ref l) f4))) l=some (.dK []):=by rw[qf I,qb]
  have W:(upd (upd H4 l (.dK [])) x (.ins (cc 9) dx (qH "parents" (.ref l) f4))) m=some (.dK []):=by rw[qf C,qf (Yi ad)];show U
  generalize upd (upd H4 l (.dK [])) x (.ins (cc 9) dx (qH "parents" (.ref l) f4))=H5 at c5 ar W M ⊢;obtain⟨f5,bj⟩:∃ f,f=qH "parents" (.ref l) f4:=⟨_,rfl⟩;rw[<- bj] at ar l5;ext;intro j A;have ah:j≠x:=fun e=>by rw[e,ar] at A;cases A
  have cx:H0 j=none:=c5.free A;have aj:j≠m:=fun e=>by rw[e,W] at A;cases A
  have ai:j≠l:=fun e=>by rw[e,M] at A;cases A
  have cm:upd H5 j (.dK []) x=some (.ins (cc 9) dx f5):=by rw[qf ah.symm];show ar
  ext;show .inl ⟨x,cc 9,dx,_,rfl,cm,T.fcl,fa 4 (by decide),Yp l5 (by decide),?_⟩;have c6:L2.Same H0 (upd (upd H5 j (.dK [])) x (.ins (cc 9) dx (qH "bases" (.ref j) f5))):=qaH (qI c5 A) D;have as:(upd (upd H5 j (.dK [])) x (.ins (cc 9) dx (qH "bases" (.ref j) f5))) x=some (.ins (cc 9) dx (qH "bases" (.ref j) f5)):=qb;have l6:(qH "bases" (.ref j) f5).length<=5:=hl l5;have Z:(upd (upd H5 j (.dK [])) x (.ins (cc 9) dx (qH "bases" (.ref j) f5))) j=some (.dK []):=by rw[qf ah,qb]
  have X:(upd (upd H5 j (.dK [])) x (.ins (cc 9) dx (qH "bases" (.ref j) f5))) m=some (.dK []):=by rw[qf C,qf (Yi aj)];show W
  have N:(upd (upd H5 j (.dK [])) x (.ins (cc 9) dx (qH "bases" (.ref j) f5))) l=some (.dK []):=by rw[qf I,qf (Yi ai)];show M
  generalize upd (upd H5 j (.dK [])) x (.ins (cc 9) dx (qH "bases" (.ref j) f5))=H6 at c6 as X N Z ⊢;obtain⟨f6,bm⟩:∃ f,f=qH "bases" (.ref j) f5:=⟨_,rfl⟩;rw[<- bm] at as l6;ext;show⟨by show 0<=sizeLine;decide,fun g y=>?_⟩;have av:g≠x:=fun e=>by rw[e,as] at y;cases y
  have cu:H0 g=none:=c6.free y;have af:g≠m:=fun e=>by rw[e,X] at y;cases y
  have ae:g≠l:=fun e=>by rw[e,N] at y;cases y
  have ag:g≠j:=fun e=>by rw[e,Z] at y;cases y
  have cn:upd H6 g (.lst []) x=some (.ins (cc 9) dx f6):=by rw[qf av.symm];show as
  ext;show .inl ⟨x,cc 9,dx,_,rfl,cn,T.fcl,fa 5 (by decide),Yp l6 (by decide),?_⟩;have c7:L2.Same H0 (upd (upd H6 g (.lst [])) x (.ins (cc 9) dx (qH "rings" (.ref g) f6))):=qaH (qI c6 y) D;have au:(upd (upd H6 g (.lst [])) x (.ins (cc 9) dx (qH "rings" (.ref g) f6))) x=some (.ins (cc 9) dx (qH "rings" (.ref g) f6)):=qb;have l7:(qH "rings" (.ref g) f6).length<=6:=hl l6;have R:(upd (upd H6 g (.lst [])) x (.ins (cc 9) dx (qH "rings" (.ref g) f6))) g=some (.lst []):=by rw[qf av,qb]
  have Y:(upd (upd H6 g (.lst [])) x (.ins (cc 9) dx (qH "rings" (.ref g) f6))) m=some (.dK []):=by rw[qf C,qf (Yi af)];show X
  have O:(upd (upd H6 g (.lst [])) x (.ins (cc 9) dx (qH "rings" (.ref g) f6))) l=some (.dK []):=by rw[qf I,qf (Yi ae)];show N
  have aa:(upd (upd H6 g (.lst [])) x (.ins (cc 9) dx (qH "rings" (.ref g) f6))) j=some (.dK []):=by rw[qf ah,qf (Yi ag)];show Z
  generalize upd (upd H6 g (.lst [])) x (.ins (cc 9) dx (qH "rings" (.ref g) f6))=H7 at c7 au Y O aa R ⊢;obtain⟨L,bn⟩:∃ f,f=qH "rings" (.ref g) f6:=⟨_,rfl⟩;rw[<- bn] at au l7;ext;show⟨by show 0<=sizeLine;decide,fun a p=>?_⟩;have br:a≠x:=fun e=>by rw[e,au] at p;cases p
  have cy:H0 a=none:=c7.free p;have am:a≠m:=fun e=>by rw[e,Y] at p;cases p
  have ak:a≠l:=fun e=>by rw[e,O] at p;cases p
  have an:a≠j:=fun e=>by rw[e,aa] at p;cases p
  have al:a≠g:=fun e=>by rw[e,R] at p;cases p
  have co:upd H7 a (.lst []) x=some (.ins (cc 9) dx L):=by rw[qf br.symm];show au
  ext;show .inl ⟨x,cc 9,dx,_,rfl,co,T.fcl,fa 6 (by decide),Yp l7 (by decide),?_⟩;have c8:L2.Same H0 (upd (upd H7 a (.lst [])) x (.ins (cc 9) dx (qH "waiting" (.ref a) L))):=qaH (qI c7 p) D;have bq:(upd (upd H7 a (.lst [])) x (.ins (cc 9) dx (qH "waiting" (.ref a) L))) x=some (.ins (cc 9) dx (qH "waiting" (.ref a) L)):=qb;have l8:(qH "waiting" (.ref a) L).length<=7:=hl l7;have be:(upd (upd H7 a (.lst [])) x (.ins (cc 9) dx (qH "waiting" (.ref a) L))) a=some (.lst []):=by rw[qf br,qb]
  have ba:(upd (upd H7 a (.lst [])) x (.ins (cc 9) dx (qH "waiting" (.ref a) L))) m=some (.dK []):=by rw[qf C,qf (Yi am)];show Y
  have aw:(upd (upd H7 a (.lst [])) x (.ins (cc 9) dx (qH "waiting" (.ref a) L))) l=some (.dK []):=by rw[qf I,qf (Yi ak)];show O
  have bc:(upd (upd H7 a (.lst [])) x (.ins (cc 9) dx (qH "waiting" (.ref a) L))) j=some (.dK []):=by rw[qf ah,qf (Yi an)];show aa
  have ay:(upd (upd H7 a (.lst [])) x (.ins (cc 9) dx (qH "waiting" (.ref a) L))) g=some (.lst []):=by rw[qf av,qf (Yi al)];show R
  generalize upd (upd H7 a (.lst [])) x (.ins (cc 9) dx (qH "waiting" (.ref a) L))=H8 at c8 bq ba aw bc ay be ⊢;obtain⟨f8,bo⟩:∃ f,f=qH "waiting" (.ref a) L:=⟨_,rfl⟩;rw[<- bo] at bq l8;ext;show .inl ⟨x,cc 9,dx,_,rfl,bq,T.fcl,fa 7 (by decide),Yp l8 (by decide),?_⟩;have c9:L2.Same H0 (upd H8 x (.ins (cc 9) dx (qH "longer" .non f8))):=qaH c8 D;have bz:(upd H8 x (.ins (cc 9) dx (qH "longer" .non f8))) x=some (.ins (cc 9) dx (qH "longer" .non f8)):=qb;have l9:(qH "longer" .non f8).length<=8:=hl l8;have bb:(upd H8 x (.ins (cc 9) dx (qH "longer" .non f8))) m=some (.dK []):=by rw[qf C];show ba
  have ax:(upd H8 x (.ins (cc 9) dx (qH "longer" .non f8))) l=some (.dK []):=by rw[qf I];show aw
  have bd:(upd H8 x (.ins (cc 9) dx (qH "longer" .non f8))) j=some (.dK []):=by rw[qf ah];show bc
  have az:(upd H8 x (.ins (cc 9) dx (qH "longer" .non f8))) g=some (.lst []):=by rw[qf av];show ay
  have bf:(upd H8 x (.ins (cc 9) dx (qH "longer" .non f8))) a=some (.lst []):=by rw[qf br];show be
  generalize upd H8 x (.ins (cc 9) dx (qH "longer" .non f8))=H9 at c9 bz bb ax bd az bf ⊢
  have hF:FoA (cc 9) cw H0 H9 ⟨x,b,dp,m,l,j,g,a,[]⟩ ss ns qs S0 [] [] [] .non:=by
   show⟨c9,?_,?_,fun c hc=>?_,?_,(fun c hc=>by cases hc),⟨dx,_,bz,kS l9,fun _=>l9,fun f v hf=>?_,fun f hf=>?_⟩,⟨[],bb,yh _,fun _=>rfl⟩,⟨[],ax,⟨[],yh _,.nil,(fun u hu=>by cases hu)⟩,fun _=>rfl⟩,⟨[],bd,yh _,(fun s hs=>by cases hs)⟩,⟨[],az,yh _⟩,bf,.nil,fun v=>⟨(fun k=>by cases k),fun k=>absurd rfl k⟩,(fun v hv=>by cases hv)⟩
   .rw [ac];show(keepW b2).out bw ca
   .rw [ac];show(zM cp).trans cg
   .simp only[Fo.six,yv,yM,Yt] at hc;rcases hc with rfl | rfl | rfl | rfl | rfl | rfl<;>assumption
   .simp [ad.symm,aj.symm,af.symm,am.symm,ai.symm,ae.symm,ak.symm,ag.symm,an.symm,al.symm]
   .simp only[Fo.tab,yv,XE,yM,Yt] at hf;rw[bo,bn,bm,bj,bi,bh];rcases hf with⟨rfl,rfl⟩ | ⟨rfl,rfl⟩ | ⟨rfl,rfl⟩ | ⟨rfl,rfl⟩ | ⟨rfl,rfl⟩ | ⟨rfl,rfl⟩ | ⟨rfl,rfl⟩ | ⟨rfl,rfl⟩<;>rfl
   .rw [bo,bn,bm,bj,bi,bh];have no:∀ i,i<8->f≠fAtt.getD i "":=fun i hi e=>hf (by rw[e,Ye,yb (show i<fAtt.length from hi)];show xi _);show lkn (no 7 (by decide)) (lkn (no 6 (by decide)) (lkn (no 5 (by decide)) (lkn (no 4 (by decide)) (lkn (no 3 (by decide)) (lkn (no 2 (by decide)) (lkn (no 1 (by decide)) (lkn (no 0 (by decide)) rfl)))))))
  ext;obtain⟨cb,fs,bv,_,_,_,bx⟩:=id hF.obj;show⟨x,cb,fs,rfl,bv,bx _ (by decide +kernel),?_⟩;ext;show⟨H0,_,ss,ns,qs,B,rfl,hF,bu,ch,cf,fun HA S dn wt lo hD cs=>?_⟩;show q H0 HA _ S dn wt lo rfl rfl hD fun c o e=>?_;have hc:c≠x:=fun z=>by rw[z] at e;unfold qfq at e;rw[yG rfl] at e;cases e
  rw[zM hc] at e;rw[ac,zM hc];show b2 _ _ hc e
inductive spFr(cc:Nat->Addr)(cw:Addr)(vs:List V)(H:Hp)(Q:VK)(E:XK):Prop|mk (H0:Hp) (a:Fo) (ss:List Str) (ns:List Nat) (qs:List (Str×Str)) (S:FS) (dn wt:List Str) (lo:V) (A:Str->Str->Prop) (_:vs=[.ref a.x]) (_:FoD (cc 9) cw H0 H a ss ns qs S dn wt lo A) (_:(lo=.non->Q .non H)) (_:∀(t:Addr) (r:List Str),lo=.ref t->H t=some (.lst (r.map V.str))->Aug A (pt qs) r->∀ l,H l=none->Q (.ref l) (upd H l (.lst (r.map V.str))))
inductive spFd2(cc:Nat->Addr)(cw:Addr)(vs:List V)(H:Hp)(Q:VK)(E:XK):Prop|mk (H0:Hp) (a:Fo) (ss:List Str) (ns:List Nat) (qs:List (Str×Str)) (S:FS) (dn wt:List Str) (lo:V) (A:Str->Str->Prop) (_:vs=[.ref a.x]) (_:FoD (cc 9) cw H0 H a ss ns qs S dn wt lo A) (_:ss.length<=14) (_:(lo≠.non->Q .non H)) (_:(lo=.non->∀(l:Addr) (H':Hp),L2.Same H H'->H l=none->H' l=some (.lst ((ss.filter fun s=>(S.rows s).isSome).map V.str))->Q (.ref l) H'))
theorem ok_fr(F:Fun K "row" "Forest.row" zo f fd)(T:Txt K mg cc cw):FnOk P w K mg base CX0 1 f fd ["self"] (spFr cc cw):=by
 show F.ok u8 fun _ _ _ _ H vs Q E j h=>?_
 .obtain⟨H0,a,ss,ns,qs,S,dn,wt,lo,B,rfl,b,g,i⟩:=h;show⟨_,(qe (qm (qbQ (qj qga (qB (K:=K) rfl (pv 0) rfl) j8 (qA _)) j8 (zw (qbs (K:=K) rfl rfl) rfl T.b_list xI (qa (qB (K:=K) rfl (pv 0) rfl) qd))))),?_⟩;ext;show .inl (b.fo.obj.rd T 7 rfl ?_);ext;rcases b.en with⟨rfl,_⟩ | ⟨t,r,rfl,c,l,e,_⟩
  .show⟨_,rfl,zE ?_⟩;ext;show g rfl
  .show⟨_,rfl,qP (fun h=>by cases h) fun _=>?_⟩;ext;show .inl (b.fo.obj.rd T 7 rfl ?_);ext;show .inl ⟨t,_,rfl,.inl (.of c),i t r rfl c e⟩
theorem uD:FnScope ["web","pairs","partners"] ["web","pairs"] (qh jX):=fS
theorem KQ:FnScope ["web","thing","seen","place"] ["web","thing"] (qh jd):=fS
theorem eqv_str(a b:Str):eqV (.str a) (.str b)=decide (a=b):=by
 unfold eqV;by_cases h:a=b<;>simp[h]
theorem vEqS{i j:Str}{Q:VK}(q:Q (.bl (decide (i=j))) H):qgd K (.str i) (.str j) H Q:=.inl (.inl (.inl ⟨rfl,rfl,by rw[yD (by decide),eqv_str];show q⟩))
noncomputable def qaT(a qs:List (Str×Str)):List (Str×Str):=a.filter fun q=>decide (pt qs q.1=some q.2)
inductive spTp(cw:Addr)(vs:List V)(H:Hp)(Q:VK)(E:XK):Prop|mk (x l:Addr) (ss:List Str) (ns:List Nat) (us:List Addr) (tps qs:List (Str×Str)) (_:vs=[.ref x,.ref l]) (_:WebAt cw H x ss ns) (_:Adj ss ns tps) (_:PL H l us qs) (_:PGo ss tps qs) (_:∀(l:Addr) (ls:List Addr) (H':Hp),L2.Same H H'->H l=none->H' l=some (.lst (ls.map V.ref))->ls.length<=196->All2 (PrAt H H' l) ls (qaT (qE ss ns ss.length) qs)->Q (.ref l) H')
noncomputable def stp(rs:List Str):List (Str×Str):=rs.zip rs.tail
noncomputable def prB(qs:List (Str×Str))(ab:Str×Str):Bool:=decide (pt qs ab.1=some ab.2)
theorem stp_at:(stp rs)[j]?=some ab↔rs[j]?=some ab.1/\rs[j+1]?=some ab.2:=by
 unfold stp;rw[List.getElem?_zip_eq_some,Xh]
theorem qas(rs:List Str):(stp rs).length=rs.length-1:=by unfold stp;rw[List.length_zip,Xc];omega
structure RowG(ss:List Str)(tps qs:List (Str×Str))(rs:List Str):Prop where
 nd:rs.Nodup
 two:2<=rs.length
 few:rs.length<=1000
 inn:∀ r∈rs,r∈ss
 tie:∀(j:Nat) ab,(stp rs)[j]?=some ab->(ab∈tps\/(ab.2,ab.1)∈tps)/\prB qs ab=decide (j % 2=1)
 hd:∀ s,rs[0]?=some s->pt qs s=none
 tl:∀ s,rs[rs.length-1]?=some s->pt qs s=none
structure Rw(cw:Addr)(H:Hp)(x l a:Addr)(ss:List Str)(ns:List Nat)(us:List Addr)(tps qs:List (Str×Str))(rs:List Str):Prop where
 web:WebAt cw H x ss ns
 adj:Adj ss ns tps
 prs:PL H l us qs
 pgo:PGo ss tps qs
 row:H a=some (.lst (rs.map V.str))
 rok:RowG ss tps qs rs
theorem Rw.same{l a:Addr}(h:Rw cw H x l a ss ns us tps qs rs)(s:L2.Same H H'):Rw cw H' x l a ss ns us tps qs rs:=
 ⟨h.web.same s,h.adj,h.prs.same s,h.pgo,s _ _ h.row,h.rok⟩
inductive spUl(cw:Addr)(vs:List V)(H:Hp)(Q:VK)(E:XK):Prop|mk (x a:Addr) (ss:List Str) (ns:List Nat) (rs:List Str) (_:vs=[.ref x,.ref a]) (_:WebAt cw H x ss ns) (_:H a=some (.lst (rs.map V.str))) (_:rs.Nodup) (_:rs.length<=1000) (_:(∀ r∈rs,r∈ss)) (_:∀ H',L2.Same H H'->Q (.bl true) H')
inductive spGt(cw:Addr)(vs:List V)(H:Hp)(Q:VK)(E:XK):Prop|mk (x l d a:Addr) (ss:List Str) (ns:List Nat) (us:List Addr) (tps qs:List (Str×Str)) (rs:List Str) (_:vs=[.ref x,.ref d,.ref a]) (_:Rw cw H x l a ss ns us tps qs rs) (_:H d=some (.dK (prK qs))) (_:∀ H',L2.Same H H'->Q (.bl true) H')
inductive spIr(cw:Addr)(vs:List V)(H:Hp)(Q:VK)(E:XK):Prop|mk (x l a:Addr) (ss:List Str) (ns:List Nat) (us:List Addr) (tps qs:List (Str×Str)) (rs:List Str) (_:vs=[.ref x,.ref l,.ref a]) (_:Rw cw H x l a ss ns us tps qs rs) (_:∀ H',L2.Same H H'->Q (.bl true) H')
theorem qfr{Q:VK}(q:Q (.bl (decide (pt qs s=some t))) H):qgd K (((pt qs s).map V.str).getD .non) (.str t) H Q:=by
 cases e:pt qs s with
 | none=>rw[e] at q;show .inl (.inl (.inl ⟨rfl,rfl,q⟩))
 | some u =>
  show vEqS ?_;rw[e] at q
  rwa[show decide (u=t)=decide (some u=some t) from Yq.mpr ⟨congrArg some,ym⟩]
theorem ok_tp(F:Fun K "told_pairs" "told_pairs" jX f fd)(T:Txt K mg cc cw)(R:DefOk P w K mg base CX0 9 "partners_in" ["web","pairs"] (spPn cw))(S:MethOk P w K mg base CX0 7 cw "ties" ["self"] (spTs cw)):FnOk P w K mg base CX0 10 f fd ["web","pairs"] (spTp cw):=by
 show F.ok uD fun _ _ _ _ H vs Q E J h=>?_
 .obtain⟨x,pl,ss,ns,ps,tps,qs,rfl,C,U,X,W,q⟩:=h;have A:=jY J;obtain⟨wx,dd,ol,nn,hb,_⟩:=id C;show⟨_,(qc (qk (i:=2) uD.nd rfl (kN rfl) (qt R (hmR J) qC (qa (pv 0) (qa (pv 1) qd))))
 (qe (qm (jM (sc:=qh jX) (XN:=["web","pairs","partners"]) ["tie","partners"] 1 [2] rfl rfl rfl (by decide +kernel) rfl (by decide +kernel)
  (qS (K:=K) rfl (jD S (hmR J) (pv 0))) (fun _ _ _ _=>(qu (i:=0) (show(["tie","partners"]:List Str).Nodup by decide +kernel) rfl (yL rfl))) jp
  (fun _ _ _ _=>(jC (qj (zI (K:=K) rfl A) (qay (qfW A) (pv 1) (qp (qr (K:=K) rfl A) (pv 0) qg (fun _ _=>rfl)) ⟨rfl,rfl,rfl,rfl⟩) (qp (qr (K:=K) rfl A) (pv 0) qg (fun _ _=>rfl)) (qA _))))
  (fun _ _ _ _=>(pv 0)))))),?_⟩
  ext;show⟨x,pl,ss,ns,ps,tps,qs,rfl,C,U,X,W,fun d H1 B Z Y=>?_⟩;ext;show⟨x,wx,_,rfl,B _ _ hb,zg (by decide +kernel),?_⟩;ext;show⟨x,ss,ns,rfl,C.same B,fun l ts H2 O aa hl D b=>?_⟩;have p:=O _ _ Y;have s:=B.trans O;show .inl ⟨⟨_,.of hl⟩,je (xs:=ts.map V.ref) (fun i ys G=>G=H2/\∃ us:List Addr,ys=us.map V.ref/\us.length<=i/\All2 (fun t ab=>H1 t=none/\H2 t=some (.tup [.str ab.1,.str ab.2])) us (qaT ((qE ss ns ss.length).take i) qs)) ⟨rfl,[],rfl,yh _,.nil⟩ (fun i ys G _ a=>by rw[a.1];show .of hl) (fun i y ys G N a=>?_) fun ys G a=>?_⟩
  .obtain⟨rfl,us,rfl,r,m⟩:=a;rw[yd] at N;obtain⟨t,M,rfl⟩:=yn.mp N;have hi:i<ts.length:=(yc.mp M).1;obtain⟨ab,n⟩:∃ ab,(qE ss ns ss.length)[i]?=some ab:=⟨_,yb (by rw[<- b.len];show hi)⟩;obtain⟨z1,z2,L⟩:=b.at_ i t ab M n
   have c:qaT ((qE ss ns ss.length).take (i+1)) qs=qaT ((qE ss ns ss.length).take i) qs++(if pt qs ab.1=some ab.2 then [ab] else []):=by
    unfold qaT;rw[yT,n,Yw];show _++[ab].filter _=_;rw[yZ];simp only[X6,xq]
   ext;show qcF ?_;ext;show⟨d,rfl,.inl ⟨_,.inl p⟩,?_⟩;ext;show .inl (qap L (v:=.str ab.1) (qo (j:=0) rfl) ?_);show⟨_,DGet.k (k:=Sum.inr ab.1) p,?_⟩;rw[jO];ext;show .inl (qap L (v:=.str ab.2) (qo (j:=1) rfl) ?_);show qfr ?_;ext;rw[c];show qP (fun I=>?_) (fun I=>?_)
   .rw [yG (yk I)];ext;show⟨by rw[ya];show qi (by omega),rfl,us++[t],by rw[yF];rfl,by rw[yt];simp;omega,m.snoc ⟨z1,L⟩⟩
   .rw [yD (fun e=>I (yB e)),Yj];show⟨rfl,us,rfl,by omega,m⟩
  .obtain⟨rfl,us,rfl,r,m⟩:=a;have e:(ts.map V.ref).length=(qE ss ns ss.length).length:=by rw[ya,b.len]
   rw[e,yW] at m;rw[ya] at r;show⟨by rw[ya];show Yh (qi (by omega)),fun g u=>?_⟩;have s3:=qI s (o:=.lst (us.map V.ref)) u;show q g us _ s3 (s.free u) qb (by omega) (m.mono fun t ab z=>⟨B.free z.1,(fun e=>by rw[e,u] at z;cases z.2),by rw[qf (fun e=>by rw[e,u] at z;cases z.2)];show z.2⟩)
theorem ok_ul(F:Fun K "are_unlike_places" "are_unlike_places" jd f fd)(T:Txt K mg cc cw)(L:MethOk P w K mg base CX0 3 cw "has_place" ["self","thing"] (spHas cw)):FnOk P w K mg base CX0 4 f fd ["web","thing"] (spUl cw):=by
 show F.ok KQ fun _ _ _ _ H vs Q E D h=>?_
 .obtain⟨x,a,ss,ns,rs,rfl,A,l,n,hl,m,q⟩:=h;have G:=jY D;show⟨_,(qc (qM (qX (qW (qv (qaX (K:=K) rfl) rfl T.b_isinstance YL (qa (pv 1) (qa (jx (v:=.ty "list") rfl T.b_list xI rfl) qd))))) (qe (qm jl)) qx)
 (qc (qk (i:=2) KQ.nd rfl (yL rfl) jQ)
 (qc (qZ yP rfl (qS (K:=K) rfl (pv 1)) (qu (i:=3) KQ.nd rfl (yL rfl))
 (qc (qM (PW.pt (qak (qX (qW (qF L (hmR D) (pv 0) (qa (pv 3) qd)))) (zO (qj (zr (K:=K) rfl G) (pv 3) (pv 2) (by with_unfolding_all rfl))))) (qe (qm jl)) qx)
 (qe (jJ jl (jI (pv 2) (pv 3) (jL G))))))
 (qe (qm jl))))),?_⟩
  ext;show qbY (.inl (.lst l)) rfl (zV K "list" (by simp) "list" (by simp)) ?_;ext;show yq ?_;ext;intro d B;have p:=qI (Sr H) (o:=.dK []) B;have t:upd H d (.dK []) d=some (.dK (qb5 [])):=qb;generalize upd H d (.dK [])=H1 at p t;obtain⟨N,R,ol,S,hb,_⟩:=id A;ext;show .inl ⟨⟨_,.of (p _ _ l)⟩,qN (xs:=rs.map V.str) (fun i j J=>L2.Same H J/\∃ s,j=[some (.ref x),some (.ref a),some (.ref d),s]/\J d=some (.dK (qb5 (rs.take i)))) ⟨p,_,rfl,t⟩ (fun i j J _ c=>.of (c.1 _ _ l)) (fun i y j J I c=>?_) fun j J c=>?_⟩
  .obtain⟨g,s,rfl,b⟩:=c;rw[yd] at I;obtain⟨z,hz,rfl⟩:=yn.mp I;have M:i<rs.length:=(yc.mp hz).1;have e:rs.take (i+1)=rs.take i++[z]:=by rw[yT,hz];rfl
   have C:z∉rs.take i:=fun y=>by
    have u:(rs.take (i+1)).Nodup:=n.sublist (XY _ _);rw[e] at u;show(Yg.mp u).2.2 _ y z (by simp) rfl
   ext;show⟨x,N,_,rfl,g _ _ hb,zg (by decide +kernel),?_⟩;ext;show⟨x,ss,ns,z,rfl,A.same g,m z (ye hz),fun O r=>?_⟩;ext;show yq ?_;ext;show .inr (.inl ⟨d,_,rfl,DGet.k (k:=Sum.inr z) (r _ _ b),?_⟩);rw[yD (by decide),zW,yl C];ext;show yq ?_;ext;show .inr ⟨d,_,rfl,DPut.k (k:=Sum.inr z) (r _ _ b) (qi (by unfold qb5;rw[ya,yX];omega)),?_⟩;show⟨qaH (g.trans r) B,_,rfl,?_⟩;rw[qb,qb6 C,e]
  .obtain⟨g,s,rfl,b⟩:=c;ext;show q J g
theorem uZ:FnScope ["web","pairs","thing","partners"] ["web","pairs","thing"] (qh qa6):=fS
theorem K2:FnScope ["web","partners","names","steps","paired"] ["web","partners","names"] (qh qU):=fS
theorem ua:FnScope ["web","pairs","thing","partners","first","last"] ["web","pairs","thing"] (qh qag):=fS
theorem qa7(rs:List V):qbS rs (some 1) none=rs.tail:=by
 have:=qcE rs 1
 rwa[List.drop_one] at this
theorem qf1:∀{bs:List Bool},(∀ b∈bs,b=true)->bs.all id=true:=fun h=>YM.mpr h
theorem qep{l:Addr}{xs ys:List Str}(Z:Zl H H' l ts (xs.map V.str) (ys.map V.str))(hl:qs.length=min xs.length ys.length)(h:∀(j:Nat) q,qs[j]?=some q->xs[j]?=some q.1/\ys[j]?=some q.2):All2 (fun t ab=>H' t=some (.tup [.str ab.1,.str ab.2])) ts qs:=by
 show⟨by rw[Z.len,ya,ya,hl],fun j t ab i c=>?_⟩;obtain⟨f,g⟩:=h j ab c;obtain⟨_,u,v,a,b,e⟩:=Z.tp j t i;rw[yd,f] at a;rw[yd,g] at b;cases a;cases b;show e
theorem atI_back{xs:List α}{v:α}(a:1<=j)(h1:j<=xs.length)(h:xs[xs.length-j]?=some v):atI xs (-(j:Int))=some v:=by
 have e:ixN xs.length (-(j:Int))=some (xs.length-j):=by
  unfold ixN;rw[yD (by omega),yG (by omega)]
  congr 1
  omega
 unfold atI;rw[e];show h
theorem ok_gt(F:Fun K "goes_by_turns" "goes_by_turns" qU f fd)(T:Txt K mg cc cw)(uf:MethOk P w K mg base CX0 7 cw "has_tie" ["self","thing"] (spHt cw)):FnOk P w K mg base CX0 8 f fd ["web","partners","names"] (spGt cw):=by
 show F.ok K2 fun _ _ _ _ H vs Q E hr h=>?_
 .obtain⟨x,l,d,a,ss,ns,us,tps,qs,rs,rfl,R,hd,q⟩:=h;have hu:=jY hr;obtain⟨wx,dd,ol,nn,hb,_⟩:=id R.web;have ha:=R.row;have M:=R.rok;have hl:=M.few;show⟨_,(qc (qk (i:=3) K2.nd rfl (yL rfl) (qcY (K:=K) rfl rfl rfl rfl T.b_list T.b_zip (qa (pv 2) (qa (jf (qdk (K:=K) rfl) (pv 2) (jh qg) jB) qd))))
 (qc (qM (qX (qW (qv (qeI (K:=K) rfl rfl) rfl T.b_all boot_all (qa (jM (sc:=qh qU) (XN:=["web","partners","names","steps","paired"]) ["step","web"] 1 [0] rfl rfl rfl (by decide +kernel) rfl (by decide +kernel)
  (qS (K:=K) rfl (pv 3)) (fun _ _ _ _=>(qu (i:=0) (show(["step","web"]:List Str).Nodup by decide +kernel) rfl (yL rfl))) jp
  (fun _ _ _ _=>zi)
  (fun _ _ _ _=>(qF uf (hmR hr) (pv 1) (qa (pv 0) qd)))) qd)))) (qe (qm jl)) qx)
 (qc (qaQ (sc:=qh qU) (XN:=["web","partners","names","steps","paired"]) ["step","partners"] 1 [1] rfl rfl rfl (by decide +kernel) rfl (by decide +kernel) (i:=4) K2.nd rfl rfl
  (qS (K:=K) rfl (pv 3)) (fun _ _ _ _=>(qu (i:=0) (show(["step","partners"]:List Str).Nodup by decide +kernel) rfl (yL rfl))) jp
  (fun _ _ _ _=>zi)
  (fun _ _ _ _=>(jy (zI (K:=K) rfl hu) (qay (qfW hu) (pv 1) (qp (qr (K:=K) rfl hu) (pv 0) qg (fun _ _=>rfl)) ⟨rfl,rfl,rfl,rfl⟩) (qp (qr (K:=K) rfl hu) (pv 0) qg (fun _ _=>rfl)) (qA _))))
 (qe (qm (qv (qeI (K:=K) rfl rfl) rfl T.b_all boot_all (qa (jM (sc:=qh qU) (XN:=["web","partners","names","steps","paired"]) ["one","other"] 2 [] rfl rfl rfl (by decide +kernel) rfl (by decide +kernel)
  (pi_zip (K:=K) rfl rfl T.b_zip (qa (pv 4) (qa (jf (qdk (K:=K) rfl) (pv 4) (jh qg) jB) qd))) (fun _ _ _ _=>(qcj (n:=2) rfl (jP (qu (i:=0) (show(["one","other"]:List Str).Nodup by decide +kernel) rfl (yL rfl)) (jP (qu (i:=1) (show(["one","other"]:List Str).Nodup by decide +kernel) rfl (yL rfl)) qbi)))) qef
  (fun _ _ _ _=>zi)
  (fun _ _ _ _=>(jy (qaq (K:=K) rfl hu) (pv 0) (pv 1) (qA _)))) qd))))))),?_⟩
  ext;show vLZ ?_;ext;show .inl ⟨a,_,rfl,SqL.of ha,fun c hc=>?_⟩;rw[qa7,<- k8];have s1:=qI (Sr H) (o:=.lst (rs.tail.map V.str)) hc;have Y:upd H c (.lst (rs.tail.map V.str)) c=some (.lst (rs.tail.map V.str)):=qb;generalize upd H c (.lst (rs.tail.map V.str))=H1 at s1 Y;ext;show⟨a,c,_,_,rfl,SqL.of (s1 _ _ ha),SqL.of Y,by rw[ya];show hl,fun l ts H2 Z=>?_⟩;have L:=s1.trans Z.sm;have aj:(stp rs).length<=1000:=by rw[qas];omega
  have W:=qep (qs:=stp rs) Z (by rw[qas,Xc];omega) fun j q e=>by
   obtain⟨z1,z2⟩:=stp_at.mp e;show⟨z1,by rw[Xh];show z2⟩
  have tl:=W.len;have C:=Z.ls
  have ah:∀{i:Nat} {y:V},(ts.map V.ref)[i]?=some y->∃ t ab,y=.ref t/\(stp rs)[i]?=some ab/\H2 t=some (.tup [.str ab.1,.str ab.2]):=fun{i y} O=>by
   rw[yd] at O;obtain⟨t,ht,rfl⟩:=yn.mp O;obtain⟨ab,p⟩:∃ ab,(stp rs)[i]?=some ab:=⟨_,yb (by rw[<- tl];show(yc.mp ht).1)⟩;show⟨t,ab,rfl,p,W.at_ i t ab ht p⟩
  ext;show .inl ⟨⟨_,.of C⟩,je (xs:=ts.map V.ref) (fun i ys G=>L2.Same H2 G/\ys=(((stp rs).take i).map fun _=>true).map V.bl) ⟨L2.Same.refl H2,rfl⟩ (fun i ys G _ m=>.of (m.1 _ _ C)) (fun i y ys G O m=>?_) fun ys G m=>?_⟩
  .obtain⟨S,rfl⟩:=m;obtain⟨t,ab,rfl,p,N⟩:=ah O;obtain⟨e1,U⟩:=stp_at.mp p;ext;show zE ?_;ext;show⟨x,wx,_,rfl,(L.trans S) _ _ hb,zg (by decide +kernel),?_⟩;ext;show⟨x,t,ss,ns,tps,ab,rfl,R.web.same (L.trans S),R.adj,S _ _ N,(M.tie i ab p).1,M.inn _ (ye e1),M.inn _ (ye U),fun z=>?_,fun G2 al=>?_⟩
   .rw [<- z] at U;show absurd (qy M.nd e1 U) (by omega)
   .show⟨by rw[ya,ya,yX];show qi (by omega),S.trans al,?_⟩;rw[yT,p,yF,yF];rfl
  .obtain⟨S,rfl⟩:=m;rw[show(ts.map V.ref).length=(stp rs).length by rw[ya,tl],yW];show⟨by rw[ya,ya];show Yh (qi (by omega)),fun g hg=>?_⟩;have s3:=qI S (o:=.lst (((stp rs).map fun _=>true).map V.bl)) hg;have eg:upd G g (.lst (((stp rs).map fun _=>true).map V.bl)) g=some (.lst (((stp rs).map fun _=>true).map V.bl)):=qb;generalize upd G g (.lst (((stp rs).map fun _=>true).map V.bl))=G3 at s3 eg;ext;show⟨g,_,rfl,SqL.of eg,_,rfl,?_⟩;rw[qf1 (fun b hb=>by obtain⟨_,_,rfl⟩:=yQ.mp hb;rfl)];have af:=L.trans s3;show yq ?_;have r:=s3 _ _ C;have ac:=af _ _ hd;ext;show .inl ⟨⟨_,.of r⟩,je (xs:=ts.map V.ref) (fun i ys G=>G=G3/\ys=(((stp rs).take i).map (prB qs)).map V.bl) ⟨rfl,rfl⟩ (fun i ys G _ m=>by rw[m.1];show .of r) (fun i y ys G O m=>?_) fun ys G m=>?_⟩
   .obtain⟨rfl,rfl⟩:=m;obtain⟨t,ab,rfl,p,N⟩:=ah O;have N:=s3 _ _ N;ext;show zE ?_;ext;show qcF ?_;ext;show⟨d,rfl,.inl ⟨_,.inl ac⟩,?_⟩;ext;show .inl (qap N (v:=.str ab.1) (qo (j:=0) rfl) ?_);show⟨_,DGet.k (k:=Sum.inr ab.1) ac,?_⟩;rw[jO];ext;show .inl (qap N (v:=.str ab.2) (qo (j:=1) rfl) ?_);show qfr ?_;show⟨by rw[ya,ya,yX];show qi (by omega),rfl,?_⟩;rw[yT,p,yF,yF];rfl
   .obtain⟨rfl,rfl⟩:=m;rw[show(ts.map V.ref).length=(stp rs).length by rw[ya,tl],yW];show⟨by rw[ya,ya];show Yh (qi (by omega)),fun b ai=>?_⟩;obtain⟨bs,B⟩:∃ bs,bs=(stp rs).map (prB qs):=⟨_,rfl⟩;rw[<- B];have am:bs.length<=1000:=by rw[B,ya];show aj
    have X:∀(i:Nat) b,bs[i]?=some b->b=decide (i % 2=1):=fun i b e=>by
     rw[B,yd] at e;obtain⟨ab,p,rfl⟩:=yn.mp e;show(M.tie i ab p).2
    have s4:=qI af (o:=.lst (bs.map V.bl)) ai;have eb:upd G b (.lst (bs.map V.bl)) b=some (.lst (bs.map V.bl)):=qb;generalize upd G b (.lst (bs.map V.bl))=G4 at s4 eb;ext;show vZip ?_;ext;show .inl ⟨b,_,rfl,SqL.of eb,fun c2 aa=>?_⟩;rw[qa7,<- k8];have s5:=qI s4 (o:=.lst (bs.tail.map V.bl)) aa;have s:=qI (Sr G4) (o:=.lst (bs.tail.map V.bl)) aa _ _ eb;have A:upd G4 c2 (.lst (bs.tail.map V.bl)) c2=some (.lst (bs.tail.map V.bl)):=qb;generalize upd G4 c2 (.lst (bs.tail.map V.bl))=G5 at s5 s A;ext;show⟨b,c2,_,_,rfl,SqL.of s,SqL.of A,comp_zip (xs:=bs.map V.bl) (ys:=bs.tail.map V.bl) (by simp) (fun i zs J=>L2.Same G5 J/\zs=(List.replicate i true).map V.bl) ⟨L2.Same.refl G5,rfl⟩ (fun i zs J _ m=>⟨SqL.of (m.1 _ _ s),SqL.of (m.1 _ _ A)⟩) (fun i u v t zs J D I ht m=>?_) fun zs J m=>?_⟩
    .obtain⟨sJ,rfl⟩:=m;rw[yd] at D I;obtain⟨u,ad,rfl⟩:=yn.mp D;obtain⟨v,ae,rfl⟩:=yn.mp I;clear D I;have an:=(yc.mp ad).1;rw[Xh] at ae;have e1:=X _ _ ad;have U:=X _ _ ae;have ag:=qI sJ (o:=.tup [.bl u,.bl v]) ht;show⟨t,_,rfl,.of qb,rfl,_,_,rfl,_,_,rfl,rfl,?_⟩;generalize upd J t (.tup [.bl u,.bl v])=J3 at ag;ext;show zE ?_;ext;show .inl ⟨rfl,rfl,?_⟩;show⟨by rw[ya,YN];show qi (by omega),ag,?_⟩
     have ak:v=!u:=by
      rw[e1,U];rcases Xv i with z | z
      .rw [z,yB (by omega)];rfl
      .rw [z,yl (by omega)];rfl
     rw[List.replicate_succ',yF,ak];cases u<;>rfl
    .obtain⟨sJ,rfl⟩:=m;rw[show(bs.tail.map V.bl).length=bs.length-1 by rw[ya,Xc]];show⟨by rw[ya,YN];show Yh (qi (by omega)),fun e he=>?_⟩;have s6:=qI (s5.trans sJ) (o:=.lst ((List.replicate (bs.length-1) true).map V.bl)) he;have ee:upd J e (.lst ((List.replicate (bs.length-1) true).map V.bl)) e=some (.lst ((List.replicate (bs.length-1) true).map V.bl)):=qb;generalize upd J e (.lst ((List.replicate (bs.length-1) true).map V.bl))=J6 at s6 ee;ext;show⟨e,_,rfl,SqL.of ee,?_⟩;rw[qf1 (fun b hb=>(List.mem_replicate.mp hb).2)];show q J6 s6
theorem ok_ir(F:Fun K "is_row" "is_row" qa6 f fd)(T:Txt K mg cc cw)(m:DefOk P w K mg base CX0 9 "partners_in" ["web","pairs"] (spPn cw))(r:DefOk P w K mg base CX0 4 "are_unlike_places" ["web","thing"] (spUl cw))(s:DefOk P w K mg base CX0 8 "goes_by_turns" ["web","partners","names"] (spGt cw)):FnOk P w K mg base CX0 10 f fd ["web","pairs","thing"] (spIr cw):=by
 show F.ok uZ fun _ _ _ _ H vs Q E c h=>?_
 .obtain⟨x,l,a,ss,ns,us,tps,qs,rs,rfl,R,q⟩:=h;have u:=jY c;have G:=R.rok;have t:=G.two;show⟨_,(qc (qk (i:=3) uZ.nd rfl (yL rfl) (qt m (hmR c) qC (qa (pv 0) (qa (pv 1) qd))))
 (qc (qM (PW.pt (qak (qX (qW (qt r (hmR c) qC (qa (pv 0) (qa (pv 2) qd))))) (zO (qj qdP (qv (zR (K:=K) rfl) rfl T.b_len xn (qa (pv 2) qd)) qg (qA _))))) (qe (qm jl)) qx)
 (qe (qm (qt s (hmR c) qC (qa (pv 0) (qa (pv 3) (qa (pv 2) qd)))))))),?_⟩
  ext;show⟨x,l,ss,ns,us,tps,qs,rfl,R.web,R.adj,R.prs,R.pgo,fun d H1 e o n=>?_⟩;ext;show⟨x,a,ss,ns,rs,rfl,R.web.same e,e _ _ R.row,G.nd,G.few,G.inn,fun H2 g=>?_⟩;have b:=e.trans g;ext;show yq ?_;ext;show .inl ⟨_,.inl (SqL.of (b _ _ R.row)),?_⟩;rw[ya];ext;show qP (fun h=>absurd (yk h) (by omega)) fun _=>?_;ext;show⟨x,l,d,a,ss,ns,us,tps,qs,rs,rfl,R.same b,g _ _ n,fun j p=>q j (b.trans p)⟩
theorem qe9{t:Addr}{n:Str}{Q:VK}(e:H t=some (.tup [.non,.str n]))(q:Q (.bl true) H):qec K false .non (.ref t) H Q:=
 .inl ⟨t,_,rfl,.inr (SqT.of e),rfl,rfl,q⟩
theorem ok_ct(F:Fun K "can_turn" "can_turn" qag f fd)(T:Txt K mg cc cw)(I:DefOk P w K mg base CX0 9 "partners_in" ["web","pairs"] (spPn cw))(J:DefOk P w K mg base CX0 10 "is_row" ["web","pairs","thing"] (spIr cw)):FnOk P w K mg base CX0 11 f fd ["web","pairs","thing"] (spIr cw):=by
 show F.ok ua fun _ _ _ _ H vs Q E u h=>?_
 .obtain⟨x,l,a,ss,ns,us,tps,qs,rs,rfl,R,q⟩:=h;have b:=jY u;have G:=R.rok;have W:=G.two;show⟨_,(qc (qM (qX (qW (qt J (hmR u) qC (qa (pv 0) (qa (pv 1) (qa (pv 2) qd)))))) (qe (qm jl)) qx)
 (qc (qk (i:=3) ua.nd rfl (yL rfl) (qt I (hmR u) qC (qa (pv 0) (qa (pv 1) qd))))
 (qc (qk (i:=4) ua.nd rfl (yL rfl) (qay (qfW b) (pv 3) (qp (qr (K:=K) rfl b) (pv 2) qg (fun _ _=>rfl)) ⟨rfl,rfl,rfl,rfl⟩))
 (qc (qk (i:=5) ua.nd rfl (yL rfl) (qay (qfW b) (pv 3) (qp (qr (K:=K) rfl b) (pv 2) (qan zQ qg) (fun _ _=>rfl)) ⟨rfl,rfl,rfl,rfl⟩))
 (qe (qm (qbF (jy (zr (K:=K) rfl b) (pv 4) (jK (qa j8 (qa (qp (qr (K:=K) rfl b) (pv 2) qg (fun _ _=>rfl)) qd))) (by with_unfolding_all rfl)) (qbE (jy (zr (K:=K) rfl b) (pv 5) (jK (qa j8 (qa (qp (qr (K:=K) rfl b) (pv 2) (qan zQ qg) (fun _ _=>rfl)) qd))) (by with_unfolding_all rfl)))))))))),?_⟩
  ext;show⟨x,l,a,ss,ns,us,tps,qs,rs,rfl,R,fun H1 z=>?_⟩;show⟨_,rfl,qP (fun h=>by cases h) fun _=>?_⟩;ext;show⟨x,l,ss,ns,us,tps,qs,rfl,R.web.same z,R.adj,R.prs.same z,R.pgo,fun d H2 S M p=>?_⟩;obtain⟨s,B⟩:∃ s,rs[0]?=some s:=⟨_,yb (by omega)⟩;obtain⟨g,L⟩:∃ g,rs[1]?=some g:=⟨_,yb (by omega)⟩;obtain⟨r,D⟩:∃ r,rs[rs.length-1]?=some r:=⟨_,yb (by omega)⟩;obtain⟨m1,O⟩:∃ m1,rs[rs.length-2]?=some m1:=⟨_,yb (by omega)⟩;have m:=z.trans S;have C:=R.row;have c:=m _ _ C;have at_:∀{j:Nat} {n:Str},rs[j]?=some n->(rs.map V.str)[j]?=some (.str n):=fun e=>by rw[yd,e];rfl
  have back:∀{j:Nat} {n:Str},1<=j->j<=rs.length->rs[rs.length-j]?=some n->atI (rs.map V.str) (-(j:Int))=some (.str n):=fun l1 l2 e=>atI_back l1 (by rw[ya];show l2) (by rw[ya];show at_ e);ext;show qcF ?_;ext;show⟨d,rfl,.inl ⟨_,.inl p⟩,?_⟩;ext;show .inl (zq c (v:=.str s) (qo (j:=0) (at_ B)) ?_);show⟨_,DGet.k (k:=Sum.inr s) p,?_⟩;rw[jO,G.hd _ B];ext;show qcF ?_;ext;show⟨d,rfl,.inl ⟨_,.inl p⟩,?_⟩;ext;show⟨1,rfl,?_⟩;show .inl (zq c (v:=.str r) (back (j:=1) (by decide) (by omega) D) ?_);show⟨_,DGet.k (k:=Sum.inr r) p,?_⟩;rw[jO,G.tl _ D];ext;show .inl (zq c (v:=.str g) (qo (j:=1) (at_ L)) ?_);ext;show⟨by show 2<=sizeLine;decide,fun t N=>qe9 qb ?_⟩;have A:=qI m (o:=.tup [.non,.str g]) N;generalize upd H2 t (.tup [.non,.str g])=U at A;show⟨_,rfl,zE ?_⟩;ext;show⟨2,rfl,?_⟩;show .inl (zq (A _ _ C) (v:=.str m1) (back (j:=2) (by decide) (by omega) O) ?_);ext;show⟨by show 2<=sizeLine;decide,fun X y=>qe9 qb (q _ (qI A y))⟩
theorem uG:FnScope ["web","pairs","row","partners","steps"] ["web","pairs","row"] (qh qaK):=fS
noncomputable def qeq(rs:List Str):List (Str×Str):=stp rs++(stp rs).map fun q=>(q.2,q.1)
noncomputable def flT(a qs:List (Str×Str))(rs:List Str):List (Str×Str):=a.filter fun q=>decide (pt qs q.1=some q.2) != decide (q∈qeq rs)
inductive spTu(cw:Addr)(vs:List V)(H:Hp)(Q:VK)(E:XK):Prop|mk (x l a:Addr) (ss:List Str) (ns:List Nat) (us:List Addr) (tps qs:List (Str×Str)) (rs:List Str) (_:vs=[.ref x,.ref l,.ref a]) (_:Rw cw H x l a ss ns us tps qs rs) (_:∀(l:Addr) (ls:List Addr) (H':Hp),L2.Same H H'->H l=none->H' l=some (.lst (ls.map V.ref))->ls.length<=196->All2 (PrAt H H' l) ls (flT (qE ss ns ss.length) qs rs)->Q (.ref l) H')
theorem All2.app9{R:α->β->Prop}{l1 l2:List α}{m1 m2:List β}(a:All2 R l1 m1)(b:All2 R l2 m2):All2 R (l1++l2) (m1++m2):=by
 show⟨by rw[yt,yt,a.len,b.len],fun k x y c e=>?_⟩;by_cases f:k<l1.length
 .rw [yV f] at c;rw[yV (by rw[<- a.len];show f)] at e;show a.at_ k x y c e
 .rw [yJ (by omega)] at c;rw[yJ (by rw[<- a.len];omega),<- a.len] at e;show b.at_ _ x y c e
theorem cat_W{a b:Addr}{Q:VK}(c:G a=some (.lst xs))(e:G b=some (.lst ys))(hl:xs.length+ys.length<=2000)(q:∀ p,G p=none->Q (.ref p) (upd G p (.lst (xs++ys)))):qdE K (.ref a) (.ref b) G Q:=.inl ⟨a,b,_,_,rfl,rfl,c,e,yi hl (by decide),q⟩
theorem ok_tu(F:Fun K "turned" "turned" qaK f fd)(T:Txt K mg cc cw)(KB:DefOk P w K mg base CX0 9 "partners_in" ["web","pairs"] (spPn cw))(KR:MethOk P w K mg base CX0 7 cw "ties" ["self"] (spTs cw))(Ul:DefOk P w K mg base CX0 11 "can_turn" ["web","pairs","thing"] (spIr cw)):FnOk P w K mg base CX0 12 f fd ["web","pairs","row"] (spTu cw):=by
 show F.ok uG fun _ _ _ _ H vs Q E hr h=>?_
 .obtain⟨x,pl,a,ss,ns,ps,tps,qs,rs,rfl,R,q⟩:=h;have u:=jY hr;obtain⟨wx,dd,ol,nn,hb,_⟩:=id R.web;have ha:=R.row;have ah:=R.rok.few;have h2:=R.rok.two;show⟨_,(qc (qM (qX (qW (qt Ul (hmR hr) qC (qa (pv 0) (qa (pv 1) (qa (pv 2) qd)))))) (qe ju) qx)
 (qc (qk (i:=3) uG.nd rfl (kN rfl) (qt KB (hmR hr) qC (qa (pv 0) (qa (pv 1) qd))))
 (qc (qk (i:=4) uG.nd rfl (kN rfl) (qz (jV (K:=K) rfl) (qcY (K:=K) rfl rfl rfl rfl T.b_list T.b_zip (qa (pv 2) (qa (jf (qdk (K:=K) rfl) (pv 2) (jh qg) jB) qd))) (qcY (K:=K) rfl rfl rfl rfl T.b_list T.b_zip (qa (jf (qdk (K:=K) rfl) (pv 2) (jh qg) jB) (qa (pv 2) qd)))))
 (qe (qm (jM (sc:=qh qaK) (XN:=["web","pairs","row","partners","steps"]) ["tie","steps","partners"] 1 [4,3] rfl rfl rfl (by decide +kernel) rfl (by decide +kernel)
  (qS (K:=K) rfl (jD KR (hmR hr) (pv 0))) (fun _ _ _ _=>(qu (i:=0) (show(["tie","steps","partners"]:List Str).Nodup by decide +kernel) rfl (yL rfl))) jp
  (fun _ _ _ _=>(jC (qj (qaq (K:=K) rfl u) (jy (zI (K:=K) rfl u) (qay (qfW u) (pv 2) (qp (qr (K:=K) rfl u) (pv 0) qg (fun _ _=>rfl)) ⟨rfl,rfl,rfl,rfl⟩) (qp (qr (K:=K) rfl u) (pv 0) qg (fun _ _=>rfl)) (qA _)) (jy (zr (K:=K) rfl u) (pv 0) (pv 1) (by with_unfolding_all rfl)) (qA _))))
  (fun _ _ _ _=>(pv 0)))))))),?_⟩
  ext;show⟨x,pl,a,ss,ns,ps,tps,qs,rs,rfl,R,fun H1 s1=>?_⟩;show⟨_,rfl,qP (fun h=>by cases h) fun _=>?_⟩;ext;show⟨x,pl,ss,ns,ps,tps,qs,rfl,R.web.same s1,R.adj,R.prs.same s1,R.pgo,fun d H2 s2 ai hd=>?_⟩;have N:=s1.trans s2;have n:=N _ _ ha;ext;show vLZ ?_;ext;show .inl ⟨a,_,rfl,SqL.of n,fun Z ac=>?_⟩;rw[qa7,<- k8];have t1:=qI (Sr H2) (o:=.lst (rs.tail.map V.str)) ac;have A:upd H2 Z (.lst (rs.tail.map V.str)) Z=some (.lst (rs.tail.map V.str)):=qb;generalize upd H2 Z (.lst (rs.tail.map V.str))=G1 at t1 A;ext;show⟨a,Z,_,_,rfl,SqL.of (t1 _ _ n),SqL.of A,by rw[ya];show ah,fun l1 b G2 Z1=>?_⟩;have t2:=t1.trans Z1.sm;ext;show vLZ ?_;ext;show .inl ⟨a,_,rfl,SqL.of (t2 _ _ n),fun c2 ad=>?_⟩;rw[qa7,<- k8];have t3:=qI (Sr G2) (o:=.lst (rs.tail.map V.str)) ad;have B:upd G2 c2 (.lst (rs.tail.map V.str)) c2=some (.lst (rs.tail.map V.str)):=qb;generalize upd G2 c2 (.lst (rs.tail.map V.str))=G3 at t3 B;have S:=t2.trans t3;ext;show⟨c2,a,_,_,rfl,SqL.of B,SqL.of (S _ _ n),by rw[ya,Xc];omega,fun l2 c G4 Y=>?_⟩;have t4:=S.trans Y.sm;have U:=t3.trans Y.sm
  have A1:=qep (qs:=stp rs) Z1 (by rw[qas,Xc];omega) fun j q e=>by
   obtain⟨X,z2⟩:=stp_at.mp e;show⟨X,by rw[Xh];show z2⟩
  have A2:=qep (qs:=(stp rs).map fun q=>(q.2,q.1)) Y (by rw[ya,qas,Xc];omega) fun j q e=>by
   rw[yd] at e;obtain⟨q',e',rfl⟩:=yn.mp e;obtain⟨X,z2⟩:=stp_at.mp e';show⟨by rw[Xh];show z2,X⟩
  have ak:b.length<=1000:=by rw[A1.len,qas];omega
  have al:c.length<=1000:=by rw[A2.len,ya,qas];omega
  show cat_W (U _ _ Z1.ls) Y.ls (by rw[ya,ya,A1.len,A2.len,ya,qas];omega) fun st ag=>?_;have t5:=qI (Sr G4) (o:=.lst (b.map V.ref++c.map V.ref)) ag;have C:upd G4 st (.lst (b.map V.ref++c.map V.ref)) st=some (.lst (b.map V.ref++c.map V.ref)):=qb;generalize upd G4 st (.lst (b.map V.ref++c.map V.ref))=G5 at t5 C;have W:=t4.trans t5;have aa:PL G5 st (b++c) (qeq rs):=⟨by rw[yF];show C,All2.app9 (A1.mono fun _ _ z=>(U.trans t5) _ _ z) (A2.mono fun _ _ z=>t5 _ _ z)⟩;have p:=N.trans W;have ae:=W _ _ hd;ext;show⟨x,wx,_,rfl,p _ _ hb,zg (by decide +kernel),?_⟩;ext;show⟨x,ss,ns,rfl,R.web.same p,fun l ts G6 s6 aj hl af r=>?_⟩;have O:=p.trans s6;have L:=s6 _ _ ae;have D:=aa.same s6;show .inl ⟨⟨_,.of hl⟩,je (xs:=ts.map V.ref) (fun i ys G=>G=G6/\∃ us:List Addr,ys=us.map V.ref/\us.length<=i/\All2 (fun t ab=>G5 t=none/\G6 t=some (.tup [.str ab.1,.str ab.2])) us (flT ((qE ss ns ss.length).take i) qs rs)) ⟨rfl,[],rfl,yh _,.nil⟩ (fun i ys G _ m=>by rw[m.1];show .of hl) (fun i y ys G hy m=>?_) fun ys G m=>?_⟩
  .obtain⟨rfl,us,rfl,M,I⟩:=m;rw[yd] at hy;obtain⟨t,ht,rfl⟩:=yn.mp hy;have hi:i<ts.length:=(yc.mp ht).1;obtain⟨ab,J⟩:∃ ab,(qE ss ns ss.length)[i]?=some ab:=⟨_,yb (by rw[<- r.len];show hi)⟩;obtain⟨X,z2,z3⟩:=r.at_ i t ab ht J
   have s:flT ((qE ss ns ss.length).take (i+1)) qs rs=flT ((qE ss ns ss.length).take i) qs rs++(if (decide (pt qs ab.1=some ab.2) != decide (ab∈qeq rs))=true then [ab] else []):=by
    unfold flT;rw[yT,J,Yw];show _++[ab].filter _=_;rw[yZ,xq]
   ext;show qcF ?_;ext;show⟨d,rfl,.inl ⟨_,.inl L⟩,?_⟩;ext;show .inl (qap z3 (v:=.str ab.1) (qo (j:=0) rfl) ?_);show⟨_,DGet.k (k:=Sum.inr ab.1) L,?_⟩;rw[jO];ext;show .inl (qap z3 (v:=.str ab.2) (qo (j:=1) rfl) ?_);show qfr ?_;ext;show pl_in D z3 ?_;show .inl ⟨rfl,rfl,?_⟩;have eb:eqV (.bl (decide (pt qs ab.1=some ab.2))) (.bl (decide ((ab.1,ab.2)∈qeq rs)))=(decide (pt qs ab.1=some ab.2)==decide (ab∈qeq rs)):=rfl;rw[yG rfl,eb,s];show⟨_,rfl,?_⟩;show if (decide (pt qs ab.1=some ab.2) != decide (ab∈qeq rs))=true then _ else _
   cases am:(decide (pt qs ab.1=some ab.2) != decide (ab∈qeq rs)) with
   | true =>
    show zE ?_;rw[yG rfl];ext;show⟨by rw[ya];show qi (by omega),rfl,us++[t],by rw[yF];rfl,by rw[yt];simp;omega,I.snoc ⟨X,z3⟩⟩
   | false =>
    show yq ?_;rw[yD (by decide),Yj];show⟨rfl,us,rfl,by omega,I⟩
  .obtain⟨rfl,us,rfl,M,I⟩:=m;have e:(ts.map V.ref).length=(qE ss ns ss.length).length:=by rw[ya,r.len]
   rw[e,yW] at I;rw[ya] at M;show⟨by rw[ya];show Yh (qi (by omega)),fun g hg=>?_⟩;have s7:=qI O (o:=.lst (us.map V.ref)) hg;show q g us _ s7 (O.free hg) qb (by omega) (I.mono fun t ab z=>⟨p.free z.1,(fun e=>by rw[e,hg] at z;cases z.2),by rw[qf (fun e=>by rw[e,hg] at z;cases z.2)];show z.2⟩)
def adjR(rs:List Str)(a b:Str):Prop:=∃ j:Nat,(rs[j]?=some a/\rs[j+1]?=some b)\/(rs[j]?=some b/\rs[j+1]?=some a)
theorem adjR.symm(h:adjR rs a b):adjR rs b a:=h.elim fun j z=>⟨j,z.symm⟩
theorem adjR.mem(h:adjR rs a b):a∈rs/\b∈rs:=h.elim fun j z=>z.elim (fun y=>⟨ye y.1,ye y.2⟩) fun y=>⟨ye y.2,ye y.1⟩
structure TurnR(f:Str->Option Str)(rs:List Str):Prop where
 nd:rs.Nodup
 two:2<=rs.length
 sym:∀ a b,f a=some b->f b=some a
 alt:∀(j:Nat) r s t,rs[j]?=some r->rs[j+1]?=some s->rs[j+2]?=some t->(f s=some r↔¬ f s=some t)
 fst:∀ s t,rs[0]?=some s->rs[1]?=some t->f s=none\/f s=some t
 lst:∀ s t,rs[rs.length-1]?=some s->rs[rs.length-2]?=some t->f s=none\/f s=some t
theorem TurnR.near{f:Str->Option Str}(h:TurnR f rs)(n:a∈rs)(c:f a=some b):adjR rs a b:=by
 obtain⟨i,hi⟩:=yf n;have o:i<rs.length:=(yc.mp hi).1;have p:=h.two;by_cases m:i=0
 .subst m;obtain⟨t,e⟩:∃ t,rs[1]?=some t:=⟨_,yb (by omega)⟩;rcases h.fst a t hi e with z | z
  .rw [z] at c;cases c
  .rw [c] at z;cases z;show⟨0,.inl ⟨hi,e⟩⟩
 .by_cases hl:i=rs.length-1
  .obtain⟨t,e⟩:∃ t,rs[rs.length-2]?=some t:=⟨_,yb (by omega)⟩;rcases h.lst a t (by rw[<- hl];show hi) e with z | z
   .rw [z] at c;cases c
   .rw [c] at z;cases z;show⟨rs.length-2,.inr ⟨e,by rw[show rs.length-2+1=i by omega];show hi⟩⟩
  .obtain⟨r,l⟩:∃ r,rs[i-1]?=some r:=⟨_,yb (by omega)⟩;obtain⟨t,e⟩:∃ t,rs[i+1]?=some t:=⟨_,yb (by omega)⟩;have g:i-1+1=i:=by omega
   have j:i-1+2=i+1:=by omega
   have:=h.alt (i-1) r a t l (by rw[g];show hi) (by rw[j];show e);by_cases z:f a=some t
   .rw [c] at z;cases z;show⟨i,.inl ⟨hi,e⟩⟩
   .have z:=this.mpr z;rw[c] at z;cases z;show⟨i-1,.inr ⟨l,by rw[g];show hi⟩⟩
def flipR(f:Str->Option Str)(rs:List Str)(a b:Str):Prop:=(a∉rs/\f a=some b)\/(adjR rs a b/\f a≠some b)
theorem TurnR.xor{f:Str->Option Str}(h:TurnR f rs):flipR f rs a b↔¬ (f a=some b↔adjR rs a b):=by
 unfold flipR;constructor
 .rintro (⟨h1,c⟩ | ⟨h1,c⟩) e
  .show h1 (e.mp c).mem.1
  .show c (e.mpr h1)
 .intro e;by_cases h1:f a=some b
  .show .inl ⟨fun g=>e ⟨fun _=>h.near g h1,fun _=>h1⟩,h1⟩
  .by_cases c:adjR rs a b
   .show .inr ⟨c,h1⟩
   .show absurd ⟨fun z=>absurd z h1,fun z=>absurd z c⟩ e
theorem flipR.symm{f:Str->Option Str}(h:TurnR f rs)(e:flipR f rs a b):flipR f rs b a:=by
 rcases e with⟨h1,c⟩ | ⟨h1,c⟩
 .show .inl ⟨fun g=>?_,h.sym _ _ c⟩;show h1 (h.near g (h.sym _ _ c)).mem.2
 .show .inr ⟨h1.symm,fun z=>c (h.sym _ _ z)⟩
theorem adjR.at_(nd:rs.Nodup)(hi:rs[i]?=some a)(h:adjR rs a b):rs[i+1]?=some b\/(1<=i/\rs[i-1]?=some b):=by
 obtain⟨j,⟨h1,c⟩ | ⟨h1,c⟩⟩:=h
 .have:=qy nd hi h1;subst this;show .inl c
 .have:=qy nd hi c;subst this;show .inr ⟨by omega,by simpa using h1⟩
theorem flipR.one{f:Str->Option Str}(h:TurnR f rs)(p:flipR f rs a b)(o:flipR f rs a c):b=c:=by
 rcases p with⟨h1,l⟩ | ⟨h1,l⟩
 .rcases o with⟨g,e⟩ | ⟨g,e⟩
  .rw [l] at e;show ym e
  .show absurd g.mem.1 h1
 .rcases o with⟨g,e⟩ | ⟨g,e⟩
  .show absurd h1.mem.1 g
  .obtain⟨i,hi⟩:=yf h1.mem.1
   have j:∀{b c:Str},rs[i+1]?=some b->1<=i->rs[i-1]?=some c->f a≠some b->f a≠some c->False:=fun hb q hc r s=>by
    have m:i-1+1=i:=by omega
    have n:i-1+2=i+1:=by omega
    show s ((h.alt (i-1) _ a _ hc (by rw[m];show hi) (by rw[n];show hb)).mpr r)
   rcases h1.at_ h.nd hi with z1 | ⟨l1,z1⟩<;>rcases g.at_ h.nd hi with z2 | ⟨l2,z2⟩
   .rw [z1] at z2;show ym z2
   .show(j z1 l2 z2 l e).elim
   .show(j z2 l1 z1 e l).elim
   .rw [z1] at z2;show ym z2
theorem TurnR.again{f:Str->Option Str}(h:TurnR f rs)(m:∀ a b,g a=some b↔flipR f rs a b):TurnR g rs:=by
 have on:∀{a b:Str},adjR rs a b->(g a=some b↔¬ f a=some b):=fun l=>by
  rw[m,h.xor];constructor
  .show fun e z=>e ⟨fun _=>l,fun _=>z⟩
  .show fun e z=>e (z.mpr l)
 have only:∀{a b:Str},a∈rs->g a=some b->adjR rs a b:=fun q e=>by
  rcases(m _ _).mp e with⟨h1,_⟩ | ⟨h1,_⟩
  .show absurd q h1
  .show h1
 show⟨h.nd,h.two,fun a b e=>(m _ _).mpr (((m _ _).mp e).symm h),fun j r s t n c i=>?_,fun s t c i=>?_,fun s t c i=>?_⟩
 .have o:adjR rs s r:=⟨j,.inr ⟨n,c⟩⟩;have p:adjR rs s t:=⟨j+1,.inl ⟨c,i⟩⟩;rw[on o,on p,h.alt j r s t n c i]
 .cases e:g s with
  | none=>show .inl rfl
  | some b =>
   have:=(only (ye c) e).at_ h.nd c;rcases this with z | ⟨z,_⟩
   .rw [i] at z;show .inr (by rw[<- e,e];show z.symm ▸ rfl)
   .omega
 .cases e:g s with
  | none=>show .inl rfl
  | some b =>
   have u:=h.two;have:=(only (ye c) e).at_ h.nd c;rcases this with z | ⟨_,z⟩
   .have:=(yc.mp z).1;omega
   .rw [show rs.length-1-1=rs.length-2 by omega,i] at z;show .inr (by rw[<- z])
theorem TurnR.inner{f:Str->Option Str}(h:TurnR f rs)(g:0<i)(h1:i+1<rs.length)(b:rs[i]?=some s):(f s).isSome=true:=by
 obtain⟨r,a⟩:∃ r,rs[i-1]?=some r:=⟨_,yb (by omega)⟩;obtain⟨t,c⟩:∃ t,rs[i+1]?=some t:=⟨_,yb h1⟩;have:=h.alt (i-1) r s t a (by rw[show i-1+1=i by omega];show b) (by rw[show i-1+2=i+1 by omega];show c)
 cases e:f s with
 | some _=>rfl
 | none =>
  rw[e] at this;have:=this.mpr (fun z=>by cases z);cases this
theorem qdz{f:Str->Option Str}(h:TurnR f rs)(i:∀ a b,g a=some b↔flipR f rs a b)(c:adjR rs a t)(j:f a=none\/f a=some t)(e:g a=none\/g a=some t):(g a).isSome=!(f a).isSome:=by
 rcases j with z | z
 .rw [(i a t).mpr (.inr ⟨c,by rw[z];show fun y=>by cases y⟩),z];rfl
 .rcases e with y | y
  .rw [y,z];rfl
  .show absurd ⟨fun _=>c,fun _=>z⟩ (h.xor.mp ((i a t).mp y))
theorem qer{f:Str->Option Str}(h:TurnR f rs)(j:rs[0]?=some a)(hb:rs[rs.length-1]?=some b):(rs.filter fun s=>(f s).isSome).length+2=rs.length+(if (f a).isSome then 1 else 0)+(if (f b).isSome then 1 else 0):=by
 have g:=h.two
 obtain⟨m,n⟩:∃ m,rs=a::(m++[b]):=by
  match rs,j,hb,g with
  | x::r,j,hb,g =>
   have t:x=a:=ym j;have p:r≠[]:=fun z=>by rw[z] at g;simp at g
   show⟨r.dropLast,?_⟩
   have e:r.getLast p=b:=by
    have hl:0<r.length:=List.length_pos_iff.mpr p;rw[show(x::r).length-1=r.length-1+1 by simp;omega,List.getElem?_cons_succ] at hb;rw[List.getLast_eq_getElem];show(yc.mp hb).2
   rw[t,<- e,xr]
 have o:rs.length=m.length+2:=by rw[n];simp
 have c:(m.filter fun s=>(f s).isSome)=m:=kH.mpr fun s q=>by
  obtain⟨i,hi⟩:=yf q;have l:=(yc.mp hi).1;show h.inner (i:=i+1) (by omega) (by omega) ?_;rw[n,List.getElem?_cons_succ,yV l];show hi
 rw[o,n,yZ,Yw,c,yZ,xq];cases (f a).isSome<;>cases (f b).isSome<;>simp<;>omega
theorem qcL(g:ss.Nodup)(j:rs.Nodup)(c:∀ s∈rs,s∈ss)(p:Str->Bool):(ss.filter p).length=(rs.filter p).length+(ss.filter fun s=>p s&&!decide (s∈rs)).length:=by
 have f:(rs.filter p).length=(ss.filter fun s=>p s&&decide (s∈rs)).length:=Xl
  (qdL (j.filter _) fun s e=>by
   obtain⟨a,b⟩:=yp.mp e;show yp.mpr ⟨c s a,by rw[b,yB a];rfl⟩)
  (qdL (g.filter _) fun s e=>by
   obtain⟨a,b⟩:=yp.mp e;obtain⟨h,i⟩:=(yY _ _).mp b;show yp.mpr ⟨yk i,h⟩)
 rw[f];clear f g c
 induction ss with
 | nil=>rfl
 | cons x r ih =>
  rw[yZ,yZ,yZ];cases p x<;>cases decide (x∈rs)<;>simp<;>omega
theorem qbN:∀{qs:List (Str×Str)},(∀ q∈qs,q.1≠q.2)->qs.Pairwise (fun q r=>q.1≠r.1/\q.1≠r.2/\q.2≠r.1/\q.2≠r.2)->(qw qs).Nodup
 | [],_,_=>List.nodup_nil
 | q::r,h,hp=>by
  obtain⟨j,l⟩:=List.pairwise_cons.mp hp;have i:=qbN (fun x f=>h x (yx _ f)) l;show(q.1::q.2::qw r).Nodup
  have out:∀ n∈qw r,q.1≠n/\q.2≠n:=fun n g=>by
   obtain⟨x,f,e⟩:=xj.mp g;obtain⟨a,b,c,d⟩:=j x f;simp only[yv,yM,Yt] at e;rcases e with rfl | rfl
   .show⟨a,c⟩
   .show⟨b,d⟩
  show yo.mpr ⟨fun z=>?_,yo.mpr ⟨fun z=>(out _ z).2 rfl,i⟩⟩;rcases yv.mp z with z | z
  .show h q yI z
  .show(out _ z).1 rfl
theorem stpB_adj:(a,b)∈qeq rs↔adjR rs a b:=by
 unfold qeq adjR;rw[yA,yQ];constructor
 .rintro (h | ⟨q,h,e⟩)
  .obtain⟨j,f⟩:=yf h;show⟨j,.inl (stp_at.mp f)⟩
  .obtain⟨j,f⟩:=yf h;cases e;show⟨j,.inr (stp_at.mp f)⟩
 .rintro ⟨j,⟨h1,c⟩ | ⟨h1,c⟩⟩
  .show .inl (ye (stp_at.mpr ⟨h1,c⟩))
  .show .inr ⟨(b,a),ye (stp_at.mpr ⟨h1,c⟩),rfl⟩
theorem flT_flip{e:List (Str×Str)}(h:TurnR (pt qs) rs):(a,b)∈flT e qs rs↔(a,b)∈e/\flipR (pt qs) rs a b:=by
 unfold flT;rw[yp,h.xor];show and_congr_right fun _=>?_;show(decide (pt qs a=some b) != decide ((a,b)∈qeq rs))=true↔_;by_cases h1:pt qs a=some b<;>by_cases c:(a,b)∈qeq rs
 .rw [yB h1,yB c];show⟨(fun z=>by cases z),fun z=>absurd ⟨fun _=>stpB_adj.mp c,fun _=>h1⟩ z⟩
 .rw [yB h1,yl c];show⟨fun _ z=>c (stpB_adj.mpr (z.mp h1)),fun _=>rfl⟩
 .rw [yl h1,yB c];show⟨fun _ z=>h1 (z.mpr (stpB_adj.mp c)),fun _=>rfl⟩
 .rw [yl h1,yl c];show⟨(fun z=>by cases z),fun z=>absurd ⟨fun y=>absurd y h1,fun y=>absurd (stpB_adj.mpr y) c⟩ z⟩
def tA(tps:List (Str×Str))(a b:Str):Prop:=(a,b)∈tps\/(b,a)∈tps
theorem pt_some:s∈qw qs↔(pt qs s).isSome=true:=by
 cases e:pt qs s with
 | none=>show⟨fun z=>absurd z (pt_none.mp e),(fun z=>by cases z)⟩
 | some b=>show⟨fun _=>rfl,fun _=>YJ fun z=>by rw[pt_none.mpr z] at e;cases e⟩
structure PFn(ss:List Str)(tps:List (Str×Str))(f:Str->Option Str):Prop where
 sym:∀ a b,f a=some b->f b=some a
 tie:∀ a b,f a=some b->tA tps a b
noncomputable def qbO(f:Str->Option Str)(ss:List Str):Nat:=(ss.filter fun s=>(f s).isSome).length
section
variable{ss:List Str}{ns:List Nat}{tps qs:List (Str×Str)}{f g:Str->Option Str}
theorem PGo.fn(h:PGo ss tps qs):PFn ss tps (pt qs):=⟨fun a b e=>(qem h.nd).mp e,fun a b e=>by
 rcases qdx e with z | z
 .show(h.inn _ z).1
 .show(h.inn _ z).1.symm⟩
theorem PGo.cnt(h:PGo ss tps qs)(c:ss.Nodup):2*qs.length=qbO (pt qs) ss:=by
 rw[<- zL];show Xl (qdL h.nd fun s a=>yp.mpr ⟨?_,pt_some.mp a⟩) (qdL (c.filter _) fun s a=>pt_some.mpr (yp.mp a).2);obtain⟨q,b,a⟩:=xj.mp a;simp only[yv,yM,Yt] at a;rcases a with rfl | rfl
 .show(h.inn q b).2.1
 .show(h.inn q b).2.2.1
theorem qfa:(snL f ss).length+qbO f ss=ss.length:=by
 unfold snL qbO
 induction ss with
 | nil=>rfl
 | cons x r ih =>
  rw[yZ,yZ];cases (f x).isSome
  .rw [yG (show(!false)=true from rfl),yD Yo,yC,yC];omega
  .rw [yD (show ¬ (!true)=true by decide),yG (show true=true from rfl),yC,yC];omega
theorem zc(hw:WOk ss ns)(p:Adj ss ns tps):(a,b)∈qE ss ns ss.length↔tA tps a b/\∃ i j:Nat,i<j/\ss[i]?=some a/\ss[j]?=some b:=by
 unfold qE;rw[xj];constructor
 .rintro ⟨i,hi,h⟩;have hi:=xX.mp hi;obtain⟨s,l⟩:∃ s,ss[i]?=some s:=⟨_,yb hi⟩;have f:ss.getD i ""=s:=by rw[Ye,l];rfl
  unfold qeK at h;rw[f] at h;obtain⟨o,t,e⟩:=yQ.mp h;cases e;obtain⟨h1,c⟩:=yp.mp t;obtain⟨q,r⟩:=qcZ hw.nd h1;have n:ss[ss.idxOf b]?=some b:=by rw[yb (yR q),Ym]
  show⟨(p i _ _ _ l n).mp r,i,_,yk c,l,n⟩
 .rintro ⟨h,i,j,g,h1,c⟩;show⟨i,xX.mpr (yc.mp h1).1,?_⟩;have f:ss.getD i ""=a:=by rw[Ye,h1];rfl
  have m:ss.idxOf b=j:=by
   have hb:=ye c;show qy hw.nd (by rw[yb (yR hb),Ym]) c
  unfold qeK;rw[f];show yQ.mpr ⟨b,yp.mpr ⟨?_,yB (by rw[m];show g)⟩,rfl⟩;rw[qae hw.nd];show yp.mpr ⟨ye c,by rw[m];show(p i j a b h1 c).mpr h⟩
theorem qes(hw:WOk ss ns):(qE ss ns ss.length).Nodup:=by
 show List.pairwise_flatMap.mpr ⟨fun i _=>?_,?_⟩
 .unfold qeK;show kc.mpr ?_;have nd:((inB ss 0 (ns.getD i 0)).filter fun o=>decide (i<ss.idxOf o)).Nodup:=by rw[qae hw.nd];show(hw.nd.filter _).filter _
  show nd.imp fun b e=>b (Prod.mk.inj e).2
 .show xl (fun{i j} hi a g q c r f e=>?_) (List.pairwise_lt_range (n:=ss.length));have hi:=xX.mp hi;have a:=xX.mp a;unfold qeK at c f;obtain⟨_,_,rfl⟩:=yQ.mp c;obtain⟨_,_,rfl⟩:=yQ.mp f;have e:=(Prod.mk.inj e).1;rw[Ye,Ye,yb hi,yb a] at e;have:=qy hw.nd (yb hi) (by rw[yb a];show congrArg some e.symm);omega
theorem qfb(hw:WOk ss ns)(B:Adj ss ns tps)(u:∀ ab∈tps,ab.1∈ss/\ab.2∈ss/\ab.1≠ab.2)(h:PFn ss tps g){L:List (Str×Str)}(n:∀ a b,(a,b)∈L↔(a,b)∈qE ss ns ss.length/\g a=some b)(H:L.Sublist (qE ss ns ss.length)):PGo ss tps L/\pt L=g:=by
 have mem:∀ q∈L,g q.1=some q.2/\tA tps q.1 q.2/\∃ i j:Nat,i<j/\ss[i]?=some q.1/\ss[j]?=some q.2:=fun q c=>by
  obtain⟨h1,G⟩:=(n q.1 q.2).mp c;show⟨G,(zc hw B).mp h1⟩
 have inn:∀{a b:Str},tA tps a b->a∈ss/\b∈ss/\a≠b:=fun z=>z.elim (fun y=>u _ y) fun y=>⟨(u _ y).2.1,(u _ y).1,(u _ y).2.2.symm⟩
 have nd:(qw L).Nodup:=by
  show qbN (fun q c=>(inn (mem q c).2.1).2.2) (xl (fun{q r} c I o=>?_) (H.nodup (qes hw)));obtain⟨f,_,i,j,l1,p,t⟩:=mem q c;obtain⟨A,_,J,K,l2,D,E⟩:=mem r I;have x:=h.sym _ _ f;have F:=h.sym _ _ A;show⟨fun z=>?_,fun z=>?_,fun z=>?_,fun z=>?_⟩
  .rw [z,A] at f;show o (Xk z (ym f).symm)
  .rw [z,F] at f;have e:=ym f;rw[z] at p;rw[<- e] at t;have:=qy hw.nd p E;have:=qy hw.nd t D;omega
  .rw [z,A] at x;have e:=ym x;rw[z] at t;rw[<- e] at p;have:=qy hw.nd p E;have:=qy hw.nd t D;omega
  .rw [z,F] at x;show o (Xk (ym x).symm z)
 have C:∀ q∈L,(q∈tps\/(q.2,q.1)∈tps)/\q.1∈ss/\q.2∈ss/\q.1≠q.2:=fun q c=>⟨(mem q c).2.1,inn (mem q c).2.1⟩
 have hl:L.length<=30:=by
  have:=qdL (l:=qw L) (m:=ss) nd fun s w=>by
   obtain⟨q,c,w⟩:=xj.mp w;simp only[yv,yM,Yt] at w;rcases w with rfl | rfl
   .show(C q c).2.1
   .show(C q c).2.2.1
  rw[zL] at this;have:=hw.few;omega
 show⟨⟨C,nd,hl⟩,funext fun a=>qen fun b=>?_⟩;rw[qel nd];constructor
 .rintro (z | z)
  .show((n _ _).mp z).2
  .show h.sym _ _ ((n _ _).mp z).2
 .intro e;obtain⟨m1,m2,ne⟩:=inn (h.tie _ _ e);obtain⟨i,hi⟩:=yf m1;obtain⟨j,v⟩:=yf m2;rcases kW i j with l | l | l
  .show .inl ((n _ _).mpr ⟨(zc hw B).mpr ⟨h.tie _ _ e,i,j,l,hi,v⟩,e⟩)
  .subst l;rw[hi] at v;show absurd (ym v) ne
  .show .inr ((n _ _).mpr ⟨(zc hw B).mpr ⟨(h.tie _ _ e).symm,j,i,l,v,hi⟩,h.sym _ _ e⟩)
theorem tps_ok(hw:WOk ss ns)(c:Adj ss ns tps)(e:∀ ab∈tps,ab.1∈ss/\ab.2∈ss/\ab.1≠ab.2)(h:PGo ss tps qs):PGo ss tps (qaT (qE ss ns ss.length) qs)/\pt (qaT (qE ss ns ss.length) qs)=pt qs:=
 qfb hw c e h.fn (fun a b=>by unfold qaT;rw[yp,yU]) XC
end
theorem flip_ex{f:Str->Option Str}(h:TurnR f rs):∃ g:Str->Option Str,∀ a b,g a=some b↔flipR f rs a b:=
 ⟨fun a=>@dite _ (∃ b,flipR f rs a b) (Classical.propDecidable _) (fun z=>some z.choose) fun _=>none,fun a b=>by
  dsimp only;split
  .rename_i z
   show⟨fun e=>by rw[<- ym e];show z.choose_spec,fun e=>congrArg some (z.choose_spec.one h e)⟩
  .rename_i z
   show⟨(fun e=>by cases e),fun e=>absurd ⟨b,e⟩ z⟩⟩
section
variable{ss:List Str}{tps qs:List (Str×Str)}{f g:Str->Option Str}{rs:List Str}
theorem flip_fn(h:TurnR f rs)(j:PFn ss tps f)(i:∀ a b,adjR rs a b->tA tps a b)(c:∀ a b,g a=some b↔flipR f rs a b):PFn ss tps g:=
 ⟨fun a b e=>(c _ _).mpr (((c _ _).mp e).symm h),fun a b e=>((c _ _).mp e).elim (fun z=>j.tie _ _ z.2) fun z=>i _ _ z.1⟩
theorem flip_cnt(h:TurnR f rs)(i:∀ a b,g a=some b↔flipR f rs a b)(q:ss.Nodup)(e:∀ s∈rs,s∈ss)(c:rs[0]?=some a)(hb:rs[rs.length-1]?=some b):qbO g ss+2=qbO f ss+(if (f a).isSome then 0 else 2)+(if (f b).isSome then 0 else 2):=by
 have C:=h.two;have l:=h.again i;unfold qbO;rw[qcL q h.nd e,qcL (p:=fun s=>(f s).isSome) q h.nd e];have o:=qer h c hb;have j:=qer l c hb
 have B:(ss.filter fun s=>(g s).isSome&&!decide (s∈rs))=ss.filter fun s=>(f s).isSome&&!decide (s∈rs):=xp fun s _=>by
  by_cases z:s∈rs
  .rw [yB z];simp
  .have:g s=f s:=qen fun b=>by
    rw[i];show⟨fun y=>y.elim (fun x=>x.2) fun x=>absurd x.1.mem.1 z,fun y=>.inl ⟨z,y⟩⟩
   rw[this]
 rw[B];obtain⟨t,m⟩:∃ t,rs[1]?=some t:=⟨_,yb (by omega)⟩;obtain⟨u,n⟩:∃ u,rs[rs.length-2]?=some u:=⟨_,yb (by omega)⟩;have r:=qdz h i ⟨0,.inl ⟨c,m⟩⟩ (h.fst a t c m) (l.fst a t c m);have v:=qdz h i (a:=b) (t:=u) ⟨rs.length-2,.inr ⟨n,by rw[show rs.length-2+1=rs.length-1 by omega];show hb⟩⟩ (h.lst b u hb n) (l.lst b u hb n);rw[r,v] at j;generalize (rs.filter fun s=>(g s).isSome).length=D at j ⊢;generalize (rs.filter fun s=>(f s).isSome).length=E at o ⊢;cases w:(f a).isSome<;>cases A:(f b).isSome<;>rw[w,A] at o j<;>simp at o j ⊢<;>omega
theorem turns_turn(c:∀ a b,f a=some b->f b=some a)(nd:rs.Nodup)(two:2<=rs.length)(st:Turns A f rs)(h:∀ s,rs[0]?=some s->f s=none)(tl:∀ s t,rs[rs.length-1]?=some s->rs[rs.length-2]?=some t->f s=none\/f s=some t):TurnR f rs:=by
 show⟨nd,two,c,fun j r s t i h1 l=>?_,fun s t h1 _=>.inl (h s h1),tl⟩;have e:=(st j r s i h1).2;have g:=(st (j+1) s t h1 l).2;have:f s=some r↔f r=some s:=⟨fun z=>c _ _ z,fun z=>c _ _ z⟩;rw[this,e,g];omega
theorem turns_adj(st:Turns (tA tps) f rs):∀ a b,adjR rs a b->tA tps a b:=fun a b h=>by
 obtain⟨j,⟨h1,c⟩ | ⟨h1,c⟩⟩:=h
 .show(st j _ _ h1 c).1
 .show(st j _ _ h1 c).1.symm
theorem Aug.row(h:Aug (tA tps) (pt qs) rs)(hl:rs.length<=1000)(c:∀ ab∈tps,ab.1∈ss/\ab.2∈ss/\ab.1≠ab.2):RowG ss tps qs rs:=by
 show⟨h.nd,h.two,hl,fun r n=>?_,fun j ab e=>?_,h.hd,h.tl⟩
 .obtain⟨i,hi⟩:=yf n;have m:=(yc.mp hi).1;have q:=h.two;have inn:∀{a b:Str},tA tps a b->a∈ss/\b∈ss:=fun z=>z.elim (fun y=>⟨(c _ y).1,(c _ y).2.1⟩) fun y=>⟨(c _ y).2.1,(c _ y).1⟩;by_cases l:i+1<rs.length
  .show(inn (h.st i r _ hi (yb l)).1).1
  .show(inn (h.st (i-1) _ r (yb (by omega)) (by rw[show i-1+1=i by omega];show hi)).1).2
 .obtain⟨f,g⟩:=stp_at.mp e;obtain⟨o,p⟩:=h.st j _ _ f g;show⟨o,Yq.mpr p⟩
theorem Aug.turn(h:Aug (tA tps) (pt qs) rs)(c:∀ a b,pt qs a=some b->pt qs b=some a):TurnR (pt qs) rs:=
 turns_turn c h.nd h.two h.st h.hd fun s t e _=>.inl (h.tl s e)
theorem turn_ok(hw:WOk ss ns)(n:Adj ss ns tps)(i:∀ ab∈tps,ab.1∈ss/\ab.2∈ss/\ab.1≠ab.2)(f:PGo ss tps qs)(h:Aug (tA tps) (pt qs) rs)(hl:rs.length<=1000):PGo ss tps (flT (qE ss ns ss.length) qs rs)/\(flT (qE ss ns ss.length) qs rs).length=qs.length+1:=by
 have c:=h.turn f.fn.sym;obtain⟨g,e⟩:=flip_ex c;obtain⟨l,o⟩:=qfb hw n i (flip_fn c f.fn (turns_adj h.st) e) (L:=flT (qE ss ns ss.length) qs rs) (fun a b=>by rw[flT_flip c,e]) XC;show⟨l,?_⟩;have p:=f.cnt hw.nd;have m:=l.cnt hw.nd;rw[o] at m;have q:=h.two;obtain⟨a,j⟩:∃ t,rs[0]?=some t:=⟨_,yb (by omega)⟩;obtain⟨b,hb⟩:∃ t,rs[rs.length-1]?=some t:=⟨_,yb (by omega)⟩;have:=flip_cnt c e hw.nd (h.row hl i).inn j hb;rw[h.hd a j,h.tl b hb] at this;simp at this;omega
end
theorem KF:FnScope ["web","pairs","now","rows","row"] ["web","pairs"] (qh jF):=fS
def MxF(ss:List Str)(tps qs:List (Str×Str)):Prop:=∃ S:FS,Fn (tA tps) (pt qs) S ss
structure Wt(cw:Addr)(H:Hp)(x:Addr)(ss:List Str)(ns:List Nat)(tps:List (Str×Str)):Prop where
 web:WebAt cw H x ss ns
 adj:Adj ss ns tps
 ok:∀ ab∈tps,ab.1∈ss/\ab.2∈ss/\ab.1≠ab.2
theorem Wt.same(h:Wt cw H x ss ns tps)(s:L2.Same H H'):Wt cw H' x ss ns tps:=⟨h.web.same s,h.adj,h.ok⟩
theorem Wt.wok(h:Wt cw H x ss ns tps):WOk ss ns:=by obtain⟨_,_,_,_,_,_,_,_,z⟩:=h.web;show z
theorem Wt.wb(h:Wt cw H x ss ns tps)(g:PGo ss tps qs):Wb (tA tps) ss qs:=by
 show⟨⟨fun z=>Or.symm z,fun z e=>?_,fun{a b} e=>g.fn.sym a b e,fun{a b} e=>g.fn.tie a b e⟩,fun a b z=>z.elim (fun y=>(h.ok _ y).1) fun y=>(h.ok _ y).2.1,g.nd,h.wok.few,h.wok.nd⟩;rcases z with z | z
 .show(h.ok _ z).2.2 e
 .show(h.ok _ z).2.2 e.symm
theorem Wt.bes(h:Wt cw H x ss ns tps):∀(j:Nat) z u,ss[j]?=some z->(u∈inB ss 0 (ns.getD j 0)↔tA tps z u):=fun j z u e=>by
 rw[qae h.wok.nd,yp];constructor
 .rintro ⟨h1,b⟩;show(h.adj j _ z u e (by rw[yb (yR h1),Ym])).mp b
 .intro t;have a:u∈ss:=t.elim (fun y=>(h.ok _ y).2.1) fun y=>(h.ok _ y).1;show⟨a,(h.adj j _ z u e (by rw[yb (yR a),Ym])).mpr t⟩
theorem mx_of{c:Addr}{a:Fo}(h:FoD c cw H0 H a ss ns qs S dn wt .non (tA tps))(W:Wb (tA tps) ss qs):Fn (tA tps) (pt qs) S ss:=by
 rcases h.en with⟨_,rfl,I,C,sg⟩ | ⟨t,r,e,_⟩
 .have b:∀ v,v∈dn↔S.rows v≠none:=fun v=>by have:=h.fo.evi v;rwa[Yj] at this
  show⟨I,W.gr,W.inn,W.nd,fun v u hv f=>(C.cl v u ((b v).mpr hv) f).imp id fun z=>⟨z.1,YJ fun y=>z.2 ((b u).mpr y)⟩,sg,fun v hv=>h.fo.evs v ((h.fo.evi v).mpr hv)⟩
 .cases e
def FiR(ss:List Str)(ns:List Nat)(qs:List (Str×Str))(o:Option (List Str)):Prop:=∃ S,GwR qs ss ns (SI qs ss) (sgL qs ss) S o
theorem FiR.det{o:Option (List Str)}(h:FiR ss ns qs o)(g:FiR ss ns qs o'):o=o':=by
 obtain⟨_,h⟩:=h;obtain⟨_,g⟩:=g;show(h.det g).2
inductive GfR(ss:List Str)(ns:List Nat):List (Str×Str)->List (Str×Str)->Prop
 | nil {ps:List (Str×Str)}:FiR ss ns ps none->GfR ss ns ps ps
 | on {ps rs:List (Str×Str)} {r:List Str}:FiR ss ns ps (some r)->GfR ss ns (flT (qE ss ns ss.length) ps r) rs->GfR ss ns ps rs
theorem GfR.det{rs:List (Str×Str)}(h:GfR ss ns ps rs):GfR ss ns ps rs'->rs=rs':=by
 induction h with
 | nil h=>intro g;cases g with
  | nil _=>rfl
  | on g _=>cases h.det g
 | on h _ ih=>intro g;cases g with
  | nil g=>cases h.det g
  | on g k=>cases h.det g;show ih k
theorem GfR.fil{rs:List (Str×Str)}(h:GfR ss ns ps rs)(a:∃ p,ps=(qE ss ns ss.length).filter p):∃ p,rs=(qE ss ns ss.length).filter p:=by
 induction h with
 | nil _=>show a
 | on _ _ ih=>show ih ⟨_,rfl⟩
def FRow(ss:List Str)(ns:List Nat)(tps qs:List (Str×Str))(H:Hp)(v:V)(H':Hp):Prop:=L2.Same H H'/\((v=.non/\MxF ss tps qs/\FiR ss ns qs none)\/∃(r:Addr) (rs:List Str),v=.ref r/\H r=none/\H' r=some (.lst (rs.map V.str))/\rs.length<=1000/\Aug (tA tps) (pt qs) rs/\FiR ss ns qs (some rs))
inductive spGf(cw:Addr)(vs:List V)(H:Hp)(Q:VK)(E:XK):Prop|mk (x l:Addr) (ss:List Str) (ns:List Nat) (us:List Addr) (tps qs:List (Str×Str)) (_:vs=[.ref x,.ref l]) (_:Wt cw H x ss ns tps) (_:PL H l us qs) (_:PGo ss tps qs) (_:∀(t l2 r2:Addr) (ls:List Addr) (ws:List V) (rs:List (Str×Str)) (H':Hp),L2.Same H H'->H' t=some (.tup [.ref l2,.ref r2])->H l2=none->PL H' l2 ls rs->H' r2=some (.lst ws)->rs.length=qs.length+ws.length->PGo ss tps rs->MxF ss tps rs->GfR ss ns (qaT (qE ss ns ss.length) qs) rs->Q (.ref t) H')
theorem qf2{l y:Addr}{Q:VK}(W:Wt cw G x ss ns tps)(p:PL G l us qs)(b:PGo ss tps qs)(g:G y=none)(j:G dx=none)(f:dx≠y)
  (h:∀ H0 H2 a S dn wt lo,a.x=y->FoD (cc 9) cw H0 H2 a ss ns qs S dn wt lo (tA tps)->L2.Same G H2->Q .non H2):spFi cc cw [.ref y,.ref x,.ref l] (upd (upd G dx (.own y)) y (.ins (cc 9) dx [])) Q E:=by
 have m:=qI (qI (Sr G) (o:=.own y) j) (o:=.ins (cc 9) dx []) (show upd G dx (.own y) y=none by rw[qf (Yi f)];show g);show⟨y,dx,x,l,ss,ns,us,tps,qs,tA tps,rfl,qb,W.web.same m,W.adj,W.wb b,W.wok.nm,W.bes,p.same m,b.few,b.inn,fun H0 H' a S dn wt lo n _ i q=>h H0 H' a S dn wt lo n i fun c o e=>?_⟩;show i.fo.sm c o (q c o ?_);rw[zM (fun z=>by rw[z,g] at e;cases e),qf (fun z=>by rw[z,g] at e;cases e),qf (fun z=>by rw[z,j] at e;cases e)];show e
theorem qgS{a:Fo}{Q:VK}(g:FoD (cc 9) cw H0 H2 a ss ns qs S dn wt lo (tA tps))(q:Wb (tA tps) ss qs)(h:∀ v H',FRow ss ns tps qs H2 v H'->Q v H'):spFr cc cw [.ref a.x] H2 Q E:=by
 show⟨H0,a,ss,ns,qs,S,dn,wt,lo,_,rfl,g,fun e=>?_,fun t r e n p l hl=>?_⟩
 .subst e;obtain⟨o,i,j⟩:=g.gw;rcases j with⟨_,rfl⟩ | ⟨t,r,e,_⟩
  .show h _ _ ⟨L2.Same.refl _,.inl ⟨rfl,⟨S,mx_of g q⟩,S,i⟩⟩
  .cases e
 .obtain⟨o,i,j⟩:=g.gw
  have u:o=some r:=by
   rcases j with⟨c,_⟩ | ⟨t',m,c,f,rfl⟩
   .rw [e] at c;cases c
   .rw [e] at c;cases c;rw[n] at f;have:=show r.map V.str=m.map V.str by injection (ym f)
    rw[List.map_inj_right (fun a b z=>by injection z)] at this;rw[this]
  subst u;show h _ _ ⟨qI (Sr _) hl,.inr ⟨l,r,rfl,hl,qb,?_,p,S,i⟩⟩;rcases g.en with⟨c,_⟩ | ⟨t',m,c,f,_,_,s⟩
  .rw [e] at c;cases c
  .rw [e] at c;cases c;rw[n] at f;have:=congrArg List.length (show r.map V.str=m.map V.str by injection (ym f));rw[ya,ya] at this;omega
theorem ok_gf(F:Fun K "greatest_from" "greatest_from" jF f fd)(T:Txt K mg cc cw)(Uc:DefOk P w K mg base CX0 10 "told_pairs" ["web","pairs"] (spTp cw))(Ud:MakeOk P w K mg base CX0 10 (cc 9) "Forest" ["self","web","pairs"] (spFi cc cw))(uH:MethOk P w K mg base CX0 1 (cc 9) "row" ["self"] (spFr cc cw))(Ux:DefOk P w K mg base CX0 12 "turned" ["web","pairs","row"] (spTu cw)):FnOk P w K mg base CX0 13 f fd ["web","pairs"] (spGf cw):=by
 show F.ok KF fun _ _ _ _ H vs Q E U h=>?_
 .obtain⟨x,l,ss,ns,us,tps,qs,rfl,W,hP,hG,q⟩:=h;have hu:=jY U;show⟨_,(qc (qk (i:=2) KF.nd rfl (yL rfl) (qt Uc (hmR U) qC (qa (pv 0) (qa (pv 1) qd))))
 (qc (qk (i:=3) KF.nd rfl (yL rfl) (qG qd))
 (qc (qk (i:=4) KF.nd rfl (yL rfl) (jD uH (hmR U) (qaF Ud (hmR U) (qa (pv 0) (qa (pv 2) qd)))))
 (qc (qaZ yP (qj qdR (pv 4) j8 (qA _))
 (qc (qL (qaW (K:=K) rfl yK Yc Yd qQ (pv 3) (qa (pv 4) qd)))
 (qc (qk (i:=2) KF.nd rfl (yL rfl) (qt Ux (hmR U) qC (qa (pv 0) (qa (pv 2) (qa (pv 4) qd)))))
 (qe (qk (i:=4) KF.nd rfl (yL rfl) (jD uH (hmR U) (qaF Ud (hmR U) (qa (pv 0) (qa (pv 2) qd)))))))))
 (qe (qm (jK (qa (pv 2) (qa (pv 3) qd))))))))),?_⟩
  ext;show⟨x,l,ss,ns,us,tps,qs,rfl,W.web,W.adj,hP,hG,fun l1 al H1 s1 aw O _ hA1=>?_⟩;ext;show⟨by decide,fun c X=>?_⟩;have s2:=qI (Sr H1) (o:=.lst []) X;have g:upd H1 c (.lst []) c=some (.lst []):=qb;have W2:=W.same (s1.trans s2);have A:=tps_ok W.wok W.adj W.ok hG
  have M:(qaT (qE ss ns ss.length) qs).length=qs.length+0:=by
   have c1:=hG.cnt W.wok.nd;have c2:=A.1.cnt W.wok.nd;rw[A.2] at c2;omega
  have j:PL (upd H1 c (.lst [])) l1 al (qaT (qE ss ns ss.length) qs):=⟨s2 _ _ O,hA1.mono fun _ _ z=>s2 _ _ z.2.2⟩;have ao:=s1.trans s2;generalize upd H1 c (.lst [])=G at ao g W2 j;obtain⟨p,C⟩:∃ p,p=qaT (qE ss ns ss.length) qs:=⟨_,rfl⟩;rw[<- C] at q j A M;clear C;obtain⟨ps,aj⟩:∃ ps,ps=p:=⟨_,rfl⟩;rw[<- aj] at j A M;replace A:=A.1;ext;show fun y dx hy N R=>qf2 W2 j A hy N R fun H0 H3 a S dn wt lo ea hD s3=>?_;subst ea;obtain⟨fx,ff,aq,_,_,_,ar⟩:=id hD.fo.obj;show⟨rfl,a.x,fx,ff,rfl,aq,ar _ (by decide +kernel),?_⟩;ext;show qgS hD (W2.wb A) fun v H4 hv=>?_;have az:=ao.trans s3;have ak:H c=none:=s1.free X;have an:l1≠c:=fun e=>by rw[e,X] at O;cases O
  ext;obtain⟨Wv,L⟩:∃ Wv:Nat->L2.St->Hp->Prop,Wv=fun m σ J=>∃(u:Addr) (us:List Addr) (ps:List (Str×Str)) (s:List V) (v:V),σ=[some (.ref x),some (.ref l),some (.ref u),some (.ref c),some v]/\L2.Same H J/\H u=none/\PL J u us ps/\u≠c/\PGo ss tps ps/\J c=some (.lst s)/\ps.length=qs.length+s.length/\m=8-ps.length/\(∀ rs,GfR ss ns ps rs->GfR ss ns p rs) /\
   ((v=.non/\MxF ss tps ps/\FiR ss ns ps none)\/∃(r:Addr) (rs:List Str),v=.ref r/\r≠c/\J r=some (.lst (rs.map V.str))/\rs.length<=1000/\Aug (tA tps) (pt ps) rs/\FiR ss ns ps (some rs)):=⟨_,rfl⟩
  show⟨Wv,⟨_,by
   rw[L];show⟨l1,al,ps,[],v,rfl,az.trans hv.1,aw,j.same (s3.trans hv.1),an,A,hv.1 _ _ (s3 _ _ g),M,rfl,(fun rs z=>aj ▸ z),hv.2.imp id ?_⟩;rintro⟨r,rs,e1,Y,e3,e4,e5,e6⟩;show⟨r,rs,e1,(fun z=>by rw[z,s3 _ _ g] at Y;cases Y),e3,e4,e5,e6⟩⟩,fun m σ J ag=>?_⟩
  rw[L] at ag;obtain⟨u,us,ps,s,v,rfl,sJ,ai,I,ay,gJ,g,hc,hm,ah,hv⟩:=ag;ext
  have bb:2*ps.length<=14:=by
   have:=gJ.cnt W.wok.nd;have h2:qbO (pt ps) ss<=ss.length:=YF _ _;have:=W.wok.few;omega
  rcases hv with⟨rfl,mx,fi⟩ | ⟨r,rs,rfl,nr,er,hl,au,fi⟩
  .show⟨rfl,_,rfl,qP (fun h=>by simp at h) fun _=>?_⟩;ext;show⟨by show 2<=sizeLine;decide,fun t ht=>?_⟩;have s9:=qI (Sr J) (o:=.tup [.ref u,.ref c]) ht;show q t u c us s ps _ (sJ.trans s9) qb ai (I.same s9) (s9 _ _ g) hc gJ mx (ah _ (.nil fi))
  .show⟨rfl,_,rfl,zE ⟨fun ba H'=>∃ m',m'<m/\Wv m' ba H',fun _ _ z=>z,?_⟩⟩;ext;show⟨.inl ⟨rfl,_,SqL.of g⟩,?_⟩;ext;show⟨c,_,_,rfl,rfl,g,qi (by omega),?_⟩;have sU:=qaH sJ (o:=.lst (s++[.ref r])) ak;have af:PL (upd J c (.lst (s++[.ref r]))) u us ps:=⟨by rw[qf ay];show I.1,I.2.mono fun t ab z=>by rw[qf (qam z g (fun e=>by cases e))];show z⟩;have aa:upd J c (.lst (s++[.ref r])) r=some (.lst (rs.map V.str)):=by rw[qf nr];show er
   have D:upd J c (.lst (s++[.ref r])) c=some (.lst (s++[.ref r])):=qb;generalize upd J c (.lst (s++[.ref r]))=G1 at sU af aa D ⊢;have WU:=W.same sU;ext;show⟨x,u,r,ss,ns,us,tps,ps,rs,rfl,⟨WU.web,WU.adj,af,gJ,aa,au.row hl W.ok⟩,fun l3 am H5 s5 n ax _ ac=>?_⟩;obtain⟨g3,c3⟩:=turn_ok W.wok W.adj W.ok gJ au hl;have B:∀ rs',GfR ss ns (flT (qE ss ns ss.length) ps rs) rs'->GfR ss ns p rs':=fun rs' z=>ah _ (.on fi z);generalize flT (qE ss ns ss.length) ps rs=p3 at ac g3 c3 B;have n3:l3≠c:=fun e=>by rw[e,D] at n;cases n
   have ae:PL H5 l3 am p3:=⟨ax,ac.mono fun _ _ z=>z.2.2⟩;have ap:=sU.trans s5;have W5:=W.same ap;have Z:=s5 _ _ D;ext;show fun y dx hy N R=>qf2 W5 ae g3 hy N R fun H6 H7 b S5 bc be bd eb ad s7=>?_;subst eb;obtain⟨fy,fg,as,_,_,_,av⟩:=id ad.fo.obj;show⟨rfl,b.x,fy,fg,rfl,as,av _ (by decide +kernel),?_⟩;ext;show qgS ad (W5.wb g3) fun v H8 hv=>?_;ext;show⟨8-p3.length,by omega,?_⟩;rw[L];show⟨l3,am,p3,s++[.ref r],v,rfl,(ap.trans s7).trans hv.1,sU.free n,ae.same (s7.trans hv.1),n3,g3,hv.1 _ _ (s7 _ _ Z),by rw[c3,hc,yt];rfl,rfl,B,hv.2.imp id ?_⟩;rintro⟨r',rs',e1,Y,e3,e4,e5,e6⟩;show⟨r',rs',e1,(fun z=>by rw[z,s7 _ _ Z] at Y;cases Y),e3,e4,e5,e6⟩
theorem Uh:FnScope ["web"] ["web"] (qh qah):=fS
theorem Ui:FnScope ["web"] ["web"] (qh qai):=fS
def GrR(ss:List Str)(ns:List Nat)(rs:List (Str×Str)):Prop:=GfR ss ns (qaT (qE ss ns ss.length) []) rs
inductive spGr(cw:Addr)(vs:List V)(H:Hp)(Q:VK)(E:XK):Prop|mk (x:Addr) (ss:List Str) (ns:List Nat) (tps:List (Str×Str)) (_:vs=[.ref x]) (_:Wt cw H x ss ns tps) (_:∀(l:Addr) (ls:List Addr) (rs:List (Str×Str)) (H':Hp),L2.Same H H'->H l=none->PL H' l ls rs->PGo ss tps rs->MxF ss tps rs->GrR ss ns rs->Q (.ref l) H')
inductive spCo(cw:Addr)(vs:List V)(H:Hp)(Q:VK)(E:XK):Prop|mk (x:Addr) (ss:List Str) (ns:List Nat) (tps:List (Str×Str)) (_:vs=[.ref x]) (_:Wt cw H x ss ns tps) (_:∀(rs:List (Str×Str)) (H':Hp),L2.Same H H'->PGo ss tps rs->MxF ss tps rs->Q (.int rs.length) H')
theorem ok_gr(F:Fun K "greatest" "greatest" qah f fd)(T:Txt K mg cc cw)(u:DefOk P w K mg base CX0 13 "greatest_from" ["web","pairs"] (spGf cw)):FnOk P w K mg base CX0 14 f fd ["web"] (spGr cw):=by
 show F.ok Uh fun _ _ _ _ H vs Q E c h=>?_
 .obtain⟨x,ss,ns,tps,rfl,W,q⟩:=h;have p:=jY c;show⟨_,(qe (qm (qp (qr (K:=K) rfl p) (qt u (hmR c) qC (qa (pv 0) (qa (qG qd) qd))) qg (fun _ _=>rfl)))),?_⟩;ext;show⟨by decide,fun l hl=>?_⟩;have b:=qI (Sr H) (o:=.lst []) hl;ext;show⟨x,l,ss,ns,[],tps,[],rfl,W.same b,⟨qb,.nil⟩,⟨(fun q h=>by cases h),List.nodup_nil,by decide⟩,fun t l2 y r z rs H' s e a m _ _ g i n=>?_⟩;show .inl (qap e (v:=.ref l2) (qo (j:=0) rfl) (q l2 r rs H' (b.trans s) (b.free a) m g i n))
theorem ok_co(F:Fun K "count_of" "count_of" qai f fd)(T:Txt K mg cc cw)(c:DefOk P w K mg base CX0 14 "greatest" ["web"] (spGr cw)):FnOk P w K mg base CX0 15 f fd ["web"] (spCo cw):=by
 show F.ok Ui fun _ _ _ _ H vs Q E b h=>?_
 .obtain⟨x,ss,ns,tps,rfl,W,q⟩:=h;have j:=jY b;show⟨_,(qe (qm (qv (zR (K:=K) rfl) rfl T.b_len xn (qa (qt c (hmR b) qC (qa (pv 0) qd)) qd)))),?_⟩;ext;show⟨x,ss,ns,tps,rfl,W,fun l m rs H' i _ a e g _=>?_⟩;show qbC a.1 ?_;rw[ya,a.2.len];show q rs H' i e g
noncomputable def tB(tps:List (Str×Str))(a b:Str):Bool:=decide ((a,b)∈tps)||decide ((b,a)∈tps)
theorem tB_iff:tB tps a b=true↔tA tps a b:=by
 unfold tB tA;rw[kz,yU,yU]
noncomputable def del(l:List Str)(y:Str):List Str:=l.filter fun a=>!decide (a=y)
noncomputable def mo(tps:List (Str×Str)):Nat->List Str->Nat
 | 0,_=>0
 | _,[]=>0
 | n+1,x::r=>(r.filter (tB tps x)).foldl (fun m y=>max m (1+mo tps n (del r y))) (mo tps n r)
theorem qa8(h:α->Nat):∀(L:List α) (i:Nat),i<=L.foldl (fun m y=>max m (h y)) i/\(∀ y∈L,h y<=L.foldl (fun m y=>max m (h y)) i)/\(L.foldl (fun m y=>max m (h y)) i=i\/∃ y∈L,L.foldl (fun m y=>max m (h y)) i=h y)
 | [],i=>⟨yh _,(fun y hy=>by cases hy),.inl rfl⟩
 | a::r,i=>by
  obtain⟨h1,b,c⟩:=qa8 h r (max i (h a));rw[List.foldl_cons];show⟨yi (Kq _ _) h1,fun y hy=>?_,?_⟩
  .rcases yv.mp hy with rfl | hy
   .show yi (Nat.le_max_right _ _) h1
   .show b y hy
  .rcases c with z | ⟨y,hy,z⟩
   .rw [z];rcases Nat.le_total i (h a) with k | k
    .show .inr ⟨a,yI,Nat.max_eq_right k⟩
    .show .inl (Nat.max_eq_left k)
   .show .inr ⟨y,yx _ hy,z⟩
structure Mt(tps:List (Str×Str))(l:List Str)(f:Str->Option Str):Prop where
 sym:∀ a b,f a=some b->f b=some a
 tie:∀ a b,f a=some b->tA tps a b
 inn:∀ a b,f a=some b->a∈l
theorem qaj{f:Str->Option Str}{x:Str}:qbO f (x::r)=qbO f r+(if (f x).isSome=true then 1 else 0):=by
 unfold qbO;rw[yZ];split
 .rw [yC]
 .rfl
theorem qcM{f:Str->Option Str}(h:∀ s∈l,(f s).isSome=(g s).isSome):qbO f l=qbO g l:=by
 unfold qbO;rw[xp h]
theorem mem_del:a∈del l y↔a∈l/\a≠y:=by
 unfold del;rw[yp,X4,XU]
theorem qc2{f:Str->Option Str}:∀{r:List Str},r.Nodup->y∈r->qbO f r=qbO f (del r y)+(if (f y).isSome=true then 1 else 0)
 | [],_,h=>by cases h
 | x::r,hn,h=>by
  obtain⟨g,i⟩:=yo.mp hn;by_cases e:x=y
  .subst e
   have:del (x::r) x=r:=by
    unfold del;rw[yZ,yD (by rw[yB rfl];decide)];show kH.mpr fun a b=>by rw[yl (fun z=>g (by rw[<- z];show b))];rfl
   rw[this,qaj]
  .have c:=(yv.mp h).resolve_left (Yi e);have:del (x::r) y=x::del r y:=by unfold del;rw[yZ,yG (by rw[yl e];rfl)]
   rw[this,qaj,qaj,qc2 i c];omega
theorem qb7(l:List Str)(y:Str):(del l y).length<=l.length:=YF _ _
section
variable{tps:List (Str×Str)}
theorem qdI(hi:∀ a b,tA tps a b->a≠b):∀(n:Nat) {l:List Str} {f:Str->Option Str},l.length<=n->l.Nodup->Mt tps l f->qbO f l<=2*mo tps n l
 | n,[],f,_,_,_=>YC _
 | 0,x::r,f,h,_,_=>by simp at h
 | n+1,x::r,f,h,hn,hf=>by
  obtain⟨A,o⟩:=yo.mp hn;have hl:r.length<=n:=by simpa using h
  obtain⟨B,v,_⟩:=qa8 (fun y=>1+mo tps n (del r y)) (r.filter (tB tps x)) (mo tps n r);rw[qaj];show _<=2*(r.filter (tB tps x)).foldl (fun m y=>max m (1+mo tps n (del r y))) (mo tps n r)
  cases e:f x with
  | none =>
   have:=qdI hi n hl o (f:=f) ⟨hf.sym,hf.tie,fun a b z=>(yv.mp (hf.inn a b z)).resolve_left fun y=>by rw[y,e] at z;cases z⟩;simp only[Option.isSome_none,YT,Xj];omega
  | some y =>
   have j:=hi _ _ (hf.tie _ _ e);have i:=hf.sym _ _ e;have p:=(yv.mp (hf.inn y x i)).resolve_left (Yi j);have t:=v y (yp.mpr ⟨p,tB_iff.mpr (hf.tie _ _ e)⟩);have:=qdI hi n (l:=del r y) (f:=fun a=>if a=x\/a=y then none else f a) (yi (qb7 r y) hl) (o.filter _) ⟨fun a b z=>?_,fun a b z=>?_,fun a b z=>?_⟩
   .rw [qc2 o p,i,qcM (g:=fun a=>if a=x\/a=y then none else f a) fun s u=>?_]
    .simp only[XS,XH]
     (try dsimp only at t)
     omega
    .obtain⟨h1,q⟩:=mem_del.mp u;rw[yD (fun z=>z.elim (fun z=>A (by rw[<- z];show h1)) q)]
   ·(try dsimp only at z ⊢)
    split at z
    .cases z
    .rename_i hne
     have c:=hf.sym _ _ z;rw[yD (fun w=>?_)]
     .show c
     .rcases w with w | w
      .rw [w,e] at c;show hne (.inr (ym c).symm)
      .rw [w,i] at c;show hne (.inl (ym c).symm)
   ·(try dsimp only at z)
    split at z
    .cases z
    .show hf.tie _ _ z
   ·(try dsimp only at z)
    split at z
    .cases z
    .rename_i hne
     have:=(yv.mp (hf.inn a b z)).resolve_left fun w=>hne (.inl w);show mem_del.mpr ⟨this,fun w=>hne (.inr w)⟩
theorem qdJ(hi:∀ a b,tA tps a b->a≠b):∀(n:Nat) {l:List Str},l.length<=n->l.Nodup->∃ f,Mt tps l f/\qbO f l=2*mo tps n l
 | n,[],_,_=>⟨fun _=>none,⟨(fun a b z=>by cases z),(fun a b z=>by cases z),(fun a b z=>by cases z)⟩,by cases n<;>rfl⟩
 | 0,x::r,h,_=>by simp at h
 | n+1,x::r,h,hn=>by
  obtain⟨q,t⟩:=yo.mp hn;have hl:r.length<=n:=by simpa using h
  obtain⟨_,_,B⟩:=qa8 (fun y=>1+mo tps n (del r y)) (r.filter (tB tps x)) (mo tps n r);show ∃ f,_/\_=2*(r.filter (tB tps x)).foldl (fun m y=>max m (1+mo tps n (del r y))) (mo tps n r);rcases B with z | ⟨y,o,z⟩
  .obtain⟨f,i,c⟩:=qdJ hi n hl t;show⟨f,⟨i.sym,i.tie,fun a b e=>yx _ (i.inn a b e)⟩,?_⟩
   have A:f x=none:=by
    cases e:f x with
    | none=>rfl
    | some b=>show absurd (i.inn _ _ e) q
   rw[qaj,A,z,c];rfl
  .obtain⟨o,ty⟩:=yp.mp o;have ty:=tB_iff.mp ty;have j:=hi _ _ ty;obtain⟨f,i,c⟩:=qdJ hi n (l:=del r y) (yi (qb7 r y) hl) (t.filter _)
   have out:∀{a b:Str},f a=some b->a≠x/\a≠y:=fun e=>by
    obtain⟨h1,p⟩:=mem_del.mp (i.inn _ _ e);show⟨fun w=>q (by rw[<- w];show h1),p⟩
   show⟨fun a=>if a=x then some y else if a=y then some x else f a,⟨fun a b e=>?_,fun a b e=>?_,fun a b e=>?_⟩,?_⟩
   ·(try dsimp only at e ⊢)
    split at e
    .cases e;rename_i w;rw[yD (Yi j),yG rfl,w]
    .split at e
     .cases e;rename_i w;rw[yG rfl,w]
     .have u:=i.sym _ _ e;obtain⟨C,D⟩:=out u;rw[yD C,yD D];show u
   ·(try dsimp only at e)
    split at e
    .cases e;rename_i w;rw[w];show ty
    .split at e
     .cases e;rename_i w;rw[w];show Or.symm ty
     .show i.tie _ _ e
   ·(try dsimp only at e)
    split at e
    .rename_i w;rw[w];show yI
    .split at e
     .rename_i w;rw[w];show yx _ o
     .show yx _ (mem_del.mp (i.inn _ _ e)).1
   .rw [qaj,qc2 t o,yG rfl,yD (Yi j),yG rfl,qcM (g:=f) fun s v=>?_]
    .simp only[XS,XH];rw[c,z];omega
    .obtain⟨h1,p⟩:=mem_del.mp v;rw[yD (fun w=>q (by rw[<- w];show h1)),yD p]
theorem qfs(hi:∀ a b,tA tps a b->a≠b)(h1:l.length<=n)(h:l.length<=m)(e:l.Nodup):mo tps n l=mo tps m l:=by
 obtain⟨f,i,c⟩:=qdJ hi n h1 e;obtain⟨g,j,d⟩:=qdJ hi m h e;have:=qdI hi m h e i;have:=qdI hi n h1 e j;omega
variable{ss:List Str}{qs:List (Str×Str)}{S:FS}
theorem Mt.gr{f:Str->Option Str}(hi:∀ a b,tA tps a b->a≠b)(h:Mt tps ss f):Gr (tA tps) f:=⟨fun z=>Or.symm z,fun z=>hi _ _ z,fun{a b} e=>h.sym a b e,fun{a b} e=>h.tie a b e⟩
theorem PGo.mt(g:PGo ss tps qs):Mt tps ss (pt qs):=⟨g.fn.sym,g.fn.tie,fun a b e=>by
 rcases qdx e with z | z
 .show(g.inn _ z).2.1
 .show(g.inn _ z).2.2.1⟩
theorem qf3(hi:∀ a b,tA tps a b->a≠b)(e:ss.Nodup)(g:PGo ss tps qs)(m:MxF ss tps qs):qs.length=mo tps ss.length ss:=by
 obtain⟨S,F⟩:=m;have c:=g.cnt e;have:=qdI hi _ (yh _) e g.mt;obtain⟨f,i,d⟩:=qdJ hi _ (yh _) e;have k:=F.most (i.gr hi)
 have o:(ss.filter fun u=>!(f u).isSome&&(S.rows u).isSome).length<=(snL f ss).length:=qdL (e.filter _) fun u j=>by
  obtain⟨h1,h⟩:=yp.mp j;show yp.mpr ⟨h1,((yY _ _).mp h).1⟩
 have l:=qfa (f:=f) (ss:=ss);have n:=qfa (f:=pt qs) (ss:=ss);omega
end
theorem Uq:FnScope ["_law_script","_law_k"] ["_law_script","_law_k"] (qh qa9):=fS
theorem Um:FnScope ["_law_cell_here"] ["_law_cell_here"] (qh qaL):=fS
theorem ud:FnScope ["_law_purse_here","_law_many_here","_law_digit","_law_number"] ["_law_purse_here","_law_many_here"] (qh qba):=fS
theorem Ur:FnScope ["_law_purse_here","_law_most"] ["_law_purse_here","_law_most"] (qh qbb):=fS
inductive spCe(K:W.Frag)(vs:List V)(H:Hp)(Q:VK)(E:XK):Prop|mk (a:Addr) (ns:List Int) (k:Nat) (_:vs=[.ref a,.int (k:Int)]) (_:SqL K H a (ns.map V.int)) (_:k<1000) (_:∀ i:Int,Q (.int i) H)
def Pu(H:Hp)(p:Addr):Prop:=∃ a b c:Int,H p=some (.lst [.int a,.int b,.int c])/\0<=a/\0<=b/\b<2147483629/\0<=c
inductive spPu(vs:List V)(H:Hp)(Q:VK)(E:XK):Prop|mk (c:Int) (_:vs=[.int c]) (_:∀(p:Addr) (H':Hp),L2.Same H H'->H p=none->Pu H' p->Q (.ref p) H')
inductive spTkP(vs:List V)(H:Hp)(Q:VK)(E:XK):Prop|mk (p:Addr) (m:Nat) (_:vs=[.ref p,.int (m:Int)]) (_:Pu H p) (_:0<m) (_:m<1000) (_:∀(d:Nat) (H':Hp),d<m->But p H H'->Pu H' p->Q (.int (d:Int)) H')
inductive spMyP(vs:List V)(H:Hp)(Q:VK)(E:XK):Prop|mk (p:Addr) (m:Nat) (_:vs=[.ref p,.int (m:Int)]) (_:Pu H p) (_:m<=14) (_:∀(d:Nat) (H':Hp),d<=max 8 m->But p H H'->Pu H' p->Q (.int (d:Int)) H')
theorem But.trans7(a:But p H H1)(b:But p H1 H2):But p H H2:=fun c o n e=>b c o n (a c o n e)
theorem But.new7{l:Addr}(a:But p H H1)(hl:H1 l=none):But p H (upd H1 l o):=fun c u n e=>by
 have:=a c u n e;have ne:c≠l:=fun z=>by rw[z,hl] at this;cases this
 rw[qf ne];show this
theorem But.free7{l:Addr}(a:But p H H1)(b:l≠p)(hl:H1 l=none):H l=none:=by
 cases e:H l with
 | none=>rfl
 | some o=>rw[a l o b e] at hl;cases hl
noncomputable abbrev iV(k:Nat):V:=.int (k:Int)
theorem ok_ce(F:Fun K "_law_cell" "_law_cell" qa9 f fd)(T:Txt K mg cc cw):FnOk P w K mg base CX0 1 f fd ["_law_script","_law_k"] (spCe K):=by
 show F.ok Uq fun _ _ _ _ H vs Q E e h=>?_
 .obtain⟨a,ns,k,rfl,b,h1,q⟩:=h;have g:=jY e;show⟨_,(qc (qM (qj qdP (pv 1) (qv (zR (K:=K) rfl) rfl T.b_len xn (qa (pv 0) qd)) (qA _)) (qe (qm (qp (qr (K:=K) rfl g) (pv 0) (pv 1) (fun _ _=>rfl)))) qx)
 (qe (qm (qz (jV (K:=K) rfl) (qz qbT qg (pv 1)) qg)))),?_⟩
  ext;show vLenLs b ?_;rw[ya];ext;by_cases c:k<ns.length
  .rw [yB (show(k:Int)<(ns.length:Int) by omega)];show zE ?_;ext;show .inl (vIxLs b (v:=.int ns[k]) (qo (by rw[yd,yb c];rfl)) ?_);show q _
  .rw [yl (show ¬ (k:Int)<(ns.length:Int) by omega)];show yq ?_;ext;show qbU (.inl ⟨by decide,by decide⟩) ?_;ext;show q _
theorem ok_pu(F:Fun K "_law_purse" "_law_purse" qaL f fd)(T:Txt K mg cc cw):FnOk P w K mg base CX0 1 f fd ["_law_cell_here"] spPu:=by
 show F.ok Um fun _ _ _ _ H vs Q E e h=>?_
 .obtain⟨c,rfl,q⟩:=h;show⟨_,(qe (qm (qG (qa (qv (qcm rfl) rfl T.b_max boot_max (qa qg (qa (qz qc7 (pv 0) (qz op_pow qg qg)) qd))) (qa (qz zP (pv 0) qg) (qa qg qd)))))),?_⟩;ext;show vI ⟨by decide,by decide,by decide⟩ ?_;ext;show⟨_,_,rfl,?_⟩;ext;show vI (by decide) ?_;ext;show⟨by show 3<=sizeLine;decide,fun p a=>?_⟩;have h1:=XM c (show(2147483629:Int)≠0 by decide);have b:=Xi c (show(0:Int)<2147483629 by decide);show q p _ (qI (Sr H) a) a ⟨_,_,_,qb,by split<;>omega,h1,b,by decide⟩
theorem ok_tkp(F:Fun K "_law_take" "_law_take" qba f fd)(T:Txt K mg cc cw):FnOk P w K mg base CX0 1 f fd ["_law_purse_here","_law_many_here"] spTkP:=by
 show F.ok ud fun _ _ _ _ H vs Q E S h=>?_
 .obtain⟨p,m,rfl,⟨a,b,c,J,B,hb,l,hc⟩,W,h1,q⟩:=h;have j:=jY S;have r:(0:Int)<(m:Int):=by omega
  show⟨_,(qc (jJ (qz (jV (K:=K) rfl) (qp (qr (K:=K) rfl j) (pv 0) qg (fun _ _=>rfl)) qg) (jI (pv 0) qg (jL j)))
 (qc (qM (qj qdQ (qp (qr (K:=K) rfl j) (pv 0) qg (fun _ _=>rfl)) qg (qA _)) (qc (qk (i:=2) ud.nd rfl (yL rfl) (qz zP (qp (qr (K:=K) rfl j) (pv 0) qg (fun _ _=>rfl)) (pv 1)))
 (qc (jJ (qz qdN (qp (qr (K:=K) rfl j) (pv 0) qg (fun _ _=>rfl)) (pv 1)) (jI (pv 0) qg (jL j)))
 (qe (qm (pv 2))))) qx)
 (qc (qk (i:=3) ud.nd rfl (yL rfl) (qz zP (qz (jV (K:=K) rfl) (qz (jV (K:=K) rfl) (qz qbT (qp (qr (K:=K) rfl j) (pv 0) qg (fun _ _=>rfl)) qg) (qz qbT qg (qp (qr (K:=K) rfl j) (pv 0) qg (fun _ _=>rfl)))) qg) qg))
 (qc (qk (i:=3) ud.nd rfl (yL rfl) (qz zP (qz qbT (pv 3) (pv 3)) qg))
 (qc (qk (i:=3) ud.nd rfl (yL rfl) (qz zP (qz qbT (qz (jV (K:=K) rfl) (pv 3) (qz qbT qg (qp (qr (K:=K) rfl j) (pv 0) qg (fun _ _=>rfl)))) qg) qg))
 (qe (qm (qz zP (qz qdN (qz zP (qz qbT (pv 3) (pv 3)) qg) qg) (pv 1))))))))),?_⟩
  ext;show .inl (zq J rfl ?_);ext;show .inl (qdG J rfl ?_);have z:But p H (upd H p (.lst [.int a,.int b,.int (c+1)])):=fun x o n e=>by rw[qf n];show e
  have g:upd H p (.lst [.int a,.int b,.int (c+1)]) p=some (.lst [.int a,.int b,.int (c+1)]):=qb;have N:upd H p (.lst (([V.int a,.int b,.int c]).set (2:Int).toNat (.int (c+1))))=upd H p (.lst [.int a,.int b,.int (c+1)]):=rfl;ext;rw[N];generalize upd H p (.lst [.int a,.int b,.int (c+1)])=H1 at z g;show .inl (zq g rfl ?_);ext;show qP (fun O=>?_) (fun O=>?_)
  .ext;show .inl (zq g rfl ?_);ext;show vI r ?_;ext;show .inl (zq g rfl ?_);ext;show vI ⟨r,by omega⟩ ?_;ext;show .inl (qdG g rfl ?_);ext;have L:=XM a (show(m:Int)≠0 by omega);have M:=Xi a r;have A:a % (m:Int)=(((a % (m:Int)).toNat:Nat):Int):=by omega
   rw[A];show q _ _ (by omega) (fun x o n e=>by rw[qf n];show z x o n e) ⟨_,_,_,qb,Int.ediv_nonneg B (by omega),hb,l,by omega⟩
  .ext;show .inl (zq g rfl ?_);ext;show qbU (.inr ⟨by decide,by decide⟩) ?_;ext;show .inl (zq g rfl ?_);ext;show qbU (.inl ⟨by decide,by decide⟩) ?_;ext;show vI (by decide) ?_;ext;generalize s:(b*48271+7919*(c+1)+11) % 2147483647=u;have C:0<=u:=by rw[<- s];show XM _ (by decide)
   have D:u<2147483647:=by rw[<- s];show Xi _ (by decide)
   show qbU (.inl ⟨by omega,by omega⟩) ?_;ext;show vI (by decide) ?_;ext;generalize R:u*u % 2147483629=U;show .inl (zq g rfl ?_);ext;show qbU (.inl ⟨by decide,by decide⟩) ?_;ext;show qbU (.inr ⟨by decide,by decide⟩) ?_;ext;show vI (by decide) ?_;ext;generalize t:(U+31*(c+1))*69621 % 2147483587=v;have G:0<=v:=by rw[<- t];show XM _ (by decide)
   have I:v<2147483587:=by rw[<- t];show Xi _ (by decide)
   show qbU (.inl ⟨by omega,by omega⟩) ?_;ext;show vI (by decide) ?_;ext;show vI ⟨by decide,by decide⟩ ?_;ext;show vI r ?_;generalize v*v % 2147483579 / 8=y;have L:=XM y (show(m:Int)≠0 by omega);have M:=Xi y r;have A:y % (m:Int)=(((y % (m:Int)).toNat:Nat):Int):=by omega
   rw[A];show q _ _ (by omega) z ⟨_,_,_,g,B,hb,l,by omega⟩
theorem ok_my(F:Fun K "_law_many" "_law_many" qbb f fd)(T:Txt K mg cc cw)(A:DefOk P w K mg base CX0 1 "_law_take" ["_law_purse_here","_law_many_here"] spTkP):FnOk P w K mg base CX0 2 f fd ["_law_purse_here","_law_most"] spMyP:=by
 show F.ok Ur fun _ _ _ _ H vs Q E s h=>?_
 .obtain⟨p,m,rfl,N,W,q⟩:=h;have R:=jY s;show⟨_,(qe (qm (qt A (hmR s) qC (qa (pv 0) (qa (qp (qr (K:=K) rfl R) (qG (qa qg (qa qg (qa qg (qa qg (qa qg (qa qg (qa qg (qa (qz (jV (K:=K) rfl) (pv 1) qg) qd))))))))) (qt A (hmR s) qC (qa (pv 0) (qa qg qd))) (fun _ _=>rfl)) qd))))),?_⟩;ext;obtain⟨a,b,c,G,t⟩:=id N;show⟨by show 8<=sizeLine;decide,fun e g=>?_⟩;have j:p≠e:=fun z=>by rw[<- z,G] at g;cases g
  obtain⟨xs,i⟩:∃ xs:List Nat,xs=[3,5,7,8,8,9,9,m+1]:=⟨_,rfl⟩;have B:But p H (upd H e (.lst (xs.map iV))):=But.new7 (fun x o _ z=>z) g;have D:upd H e (.lst (xs.map iV)) e=some (.lst (xs.map iV)):=qb;have hB1:Pu (upd H e (.lst (xs.map iV))) p:=⟨a,b,c,by rw[qf j];show G,t⟩;have M:upd H e (.lst [V.int 3,.int 5,.int 7,.int 8,.int 8,.int 9,.int 9,.int ((m:Int)+1)])=upd H e (.lst (xs.map iV)):=by rw[i];rfl
  have u:∀ x∈xs,0<x/\x<=max 8 m+1:=fun x l=>by
   rw[i] at l;simp only[yv,yM,Yt] at l;omega
  have S:xs.length=8:=by rw[i];rfl
  rw[M];generalize upd H e (.lst (xs.map iV))=H1 at B D hB1;ext;show⟨p,8,rfl,hB1,by decide,by decide,fun d H2 U C n=>?_⟩;obtain⟨x,l⟩:∃ x,xs[d]?=some x:=⟨_,yb (by omega)⟩;have y:=u x (ye l);show .inl (zq (C _ _ j.symm D) (v:=iV x) (qo (by rw[yd,l];rfl)) ?_);ext;show⟨p,x,rfl,n,y.1,by omega,fun L I O J r=>q L I (by omega) ((B.trans7 C).trans7 J) r⟩
theorem KJ:FnScope ["_law_purse_here","_law_many_here","_law_letters","_law_first","_law_step","_law_way","_law_stem","_law_found","_law_k","_law_sign"] ["_law_purse_here","_law_many_here"] (qh zX):=fS
theorem qb8{X:L2.Cx}{st:List PySem.Stmt}{t:L2.TS}(t':L2.TS)(h:L2.PSs X st t)(k:∀ D b H,t' D b H->t D b H):L2.PSs X st t':=fun a s b H D I q=>h a s b H D I (k D b H q)
noncomputable def stepsJ:List Nat:=[1,3,5,7,9,11]
noncomputable def cJ(first step j:Nat):Nat:=97+(first+step*j) % 26
theorem cJ_sg(first step j:Nat):sg (cJ first step j)=true:=by unfold cJ;show qfZ (by omega) (by omega)
theorem qfc{step:Nat}(a:step∈stepsJ){k:Nat}(b:j<14)(c:k<14)(e:cJ first step j=cJ first step k):j=k:=by
 unfold cJ at e;simp only[stepsJ,yv,yM,Yt] at a;rcases a with rfl | rfl | rfl | rfl | rfl | rfl<;>omega
def NmJ(a first step j:Nat)(s:Str):Prop:=zf s=true/\if a=2 then s.cps.toList.head?=some (cJ first step j) else s.cps.toList.getLast?=some (cJ first step j)
theorem NmJ.inj{a step:Nat}(i:step∈stepsJ){k:Nat}(e:j<14)(f:k<14)(h:NmJ a first step j s)(g:NmJ a first step k s):j=k:=by
 have c:=h.2;have b:=g.2;by_cases hw:a=2
 .rw [yG hw] at c b;rw[c] at b;show qfc i e f (ym b)
 .rw [yD hw] at c b;rw[c] at b;show qfc i e f (ym b)
theorem j5(a b:Int):(if false=true then !eqV (V.int a) (V.int b) else eqV (V.int a) (V.int b))=decide (a=b):=by
 rw[yD (by decide)];unfold eqV;by_cases h:a=b<;>simp[h]
inductive spNmJ(vs:List V)(H:Hp)(Q:VK)(E:XK):Prop|mk (p:Addr) (m:Nat) (_:vs=[.ref p,.int (m:Int)]) (_:Pu H p) (_:m<=14) (_:∀(l:Addr) (ss:List Str) (H':Hp),But p H H'->Pu H' p->H l=none->l≠p->H' l=some (.lst (ss.map V.str))->NOk ss->ss.length=m->Q (.ref l) H')
theorem Pu.new{l:Addr}(h:Pu H p)(hl:H l=none):Pu (upd H l o) p:=by
 obtain⟨a,b,c,e,r⟩:=h;have ne:p≠l:=fun z=>by rw[<- z,e] at hl;cases hl
 show⟨a,b,c,by rw[qf ne];show e,r⟩
theorem Pu.apart{l:Addr}(h:Pu H p)(hl:H l=none):l≠p:=fun z=>by obtain⟨a,b,c,e,r⟩:=h;rw[z,e] at hl;cases hl
theorem ok_nmJ(F:Fun K "_law_names" "_law_names" zX f fd)(T:Txt K mg cc cw)(Ky:DefOk P w K mg base CX0 1 "_law_take" ["_law_purse_here","_law_many_here"] spTkP):FnOk P w K mg base CX0 2 f fd ["_law_purse_here","_law_many_here"] spNmJ:=by
 show F.ok KJ fun _ _ _ s H vs Q E hr h=>?_
 .obtain⟨p,m,rfl,hB,hm,q⟩:=h;have hu:=jY hr;obtain⟨TC5,U⟩:∃ t:TS,t=fun D σ H'=>(∀ u H',Q u H'->D.rt u H')/\∃(x7 W X:Option V) (b first step:Nat) (a:Str),σ=[some (.ref p),some (.int (m:Int)),some (.str L26),some (.int (first:Int)),some (.int (step:Int)),some (.int (b:Int)),some (.str a),x7,W,X]/\But p H H'/\Pu H' p/\step∈stepsJ/\a.length=5/\a.cps.toList.all sg=true:=⟨_,rfl⟩;show⟨_,(qc (qk (i:=2) KJ.nd rfl (kN rfl) zu)
 (qc (qk (i:=3) KJ.nd rfl (yL rfl) (qt Ky (hmR hr) qC (qa (pv 0) (qa qg qd))))
 (qc (qk (i:=4) KJ.nd rfl (yL rfl) (qp (qr (K:=K) rfl hu) (qG (qa qg (qa qg (qa qg (qa qg (qa qg (qa qg qd))))))) (qt Ky (hmR hr) qC (qa (pv 0) (qa qg qd))) (fun _ _=>rfl)))
 (qc (qk (i:=5) KJ.nd rfl (yL rfl) (qt Ky (hmR hr) qC (qa (pv 0) (qa qg qd))))
 (qc (qk (i:=6) KJ.nd rfl (yL rfl) (qaW (K:=K) rfl PySem.F.plainAttrs_str PySem.F.slot_str_join PySem.F.type_str_join (k_join (K:=K) rfl) zu (qa (jM (sc:=qh zX) (XN:=["_law_purse_here","_law_many_here","_law_letters","_law_first","_law_step","_law_way","_law_stem","_law_found","_law_k","_law_sign"]) ["_law_k","_law_letters","_law_purse_here"] 1 [2,0] rfl rfl rfl (by decide +kernel) rfl (by decide +kernel)
  (zv rfl T.b_range (qa qg qd)) (fun _ _ _ _=>(qu (i:=0) (show(["_law_k","_law_letters","_law_purse_here"]:List Str).Nodup by decide +kernel) rfl (yL rfl))) jp
  (fun _ _ _ _=>zi)
  (fun _ _ _ _=>(qp (qr (K:=K) rfl hu) (pv 1) (qt Ky (hmR hr) qC (qa (pv 2) (qa qg qd))) (fun _ _=>rfl)))) qd)))
 (qb8 TC5 (qc (qk (i:=7) KJ.nd rfl (yL rfl) (qG qd))
 (qc (qZ yP rfl (zv rfl T.b_range (qa (pv 1) qd)) (qu (i:=8) KJ.nd rfl (yL rfl))
 (qc (qk (i:=9) KJ.nd rfl (yL rfl) (qp (qr (K:=K) rfl hu) (pv 2) (qz zP (qz (jV (K:=K) rfl) (pv 3) (qz qbT (pv 4) (pv 8))) qg) (fun _ _=>rfl)))
 (qe (qM (qj (zI (K:=K) rfl hu) (pv 5) qg (qA _)) (qe (qL (qaW (K:=K) rfl yK Yc Yd qQ (pv 7) (qa (pv 9) qd)))) (qe (qM (qj (zI (K:=K) rfl hu) (pv 5) qg (qA _)) (qe (qL (qaW (K:=K) rfl yK Yc Yd qQ (pv 7) (qa (qz (jV (K:=K) rfl) (jf (qdk (K:=K) rfl) (pv 6) jB (jh qg)) (pv 9)) qd)))) (qe (qM (qj (zI (K:=K) rfl hu) (pv 5) qg (qA _)) (qe (qL (qaW (K:=K) rfl yK Yc Yd qQ (pv 7) (qa (qz (jV (K:=K) rfl) (pv 9) (jf (qdk (K:=K) rfl) (pv 6) jB (jh (qz zP (pv 8) qg)))) qd)))) (qe (qL (qaW (K:=K) rfl yK Yc Yd qQ (pv 7) (qa (qz (jV (K:=K) rfl) (jf (qdk (K:=K) rfl) (pv 6) jB (jh (qz zP (pv 8) qg))) (pv 9)) qd))))))))))))
 (qe (qm (pv 7))))) ?cut5)))))),?_⟩
  case cut5 =>
   intro D σ H1 h;rw[U] at h;obtain⟨hD,x7,W,X,b,first,step,a,rfl,b1,hB1,M,g,y⟩:=h;have lS:a.cps.toList.length=5:=by rw[<- g];simp[Str.length]
   have ac:∀ k,(a.cps.toList.take k).all sg=true:=fun k=>YM.mpr fun c hc=>YM.mp y c (kt hc)
   have af:∀ k:Nat,(Txt.slice a none (some (k:Int))).length=min k 5:=fun k=>by
    have:(Txt.slice a none (some (k:Int))).length=(Txt.slice a none (some (k:Int))).cps.toList.length:=by simp[Str.length]
    rw[this,qaS,yX,lS]
   have as:0<step/\step<=11:=by
    have h:=M;simp only[stepsJ,yv,yM,Yt] at h;omega
   ext;show⟨by show 0<=sizeLine;decide,fun l hl=>?_⟩;have ae:=hB1.apart hl;ext;show⟨(m:Int),rfl,by omega,by omega,?_⟩;rw[Yb];show j9 (lo:=0) (n:=m) (fun i σ H'=>∃(ss:List Str) (W X:Option V),σ=[some (.ref p),some (.int (m:Int)),some (.str L26),some (.int (first:Int)),some (.int (step:Int)),some (.int (b:Int)),some (.str a),some (.ref l),W,X]/\H'=upd H1 l (.lst (ss.map V.str))/\ss.length=i/\∀(j:Nat) s,ss[j]?=some s->NmJ b first step j s) ⟨[],_,_,rfl,rfl,rfl,fun j s h=>by simp at h⟩ (fun i σ H' hi hp=>?_) fun σ H' hp=>?_
   .obtain⟨ss,W,X,rfl,rfl,I,L⟩:=hp;have A:upd H1 l (.lst (ss.map V.str)) l=some (.lst (ss.map V.str)):=qb;rw[Km];ext;show qbU (.inl ⟨by omega,by omega⟩) ?_;ext;show vI (by decide) ?_;have ec:((first:Int)+(step:Int)*(i:Int)) % 26=(((first+step*i) % 26:Nat):Int):=by omega
    rw[ec];show .inl (qgK (by decide +kernel) (qe6 (by omega) (by omega)) ?_);rw[Yb];have ak:97+(first+step*i) % 26=cJ first step i:=rfl;rw[ak];have N:=cJ_sg first step i;generalize R:cJ first step i=B at N
    have O:∀(s:Str),NmJ b first step i s->∃(aa:List Str) (W X:Option V),[some (V.ref p),some (.int (m:Int)),some (.str L26),some (.int (first:Int)),some (.int (step:Int)),some (.int (b:Int)),some (.str a),some (.ref l),some (.int (i:Int)),some (V.str ⟨#[B]⟩)]=[some (.ref p),some (.int (m:Int)),some (.str L26),some (.int (first:Int)),some (.int (step:Int)),some (.int (b:Int)),some (.str a),some (.ref l),W,X]/\upd (upd H1 l (.lst (ss.map V.str))) l (.lst (ss.map V.str++[.str s]))=upd H1 l (.lst (aa.map V.str))/\aa.length=i+1/\∀(j:Nat) s,aa[j]?=some s->NmJ b first step j s:=fun s hs=>by
     show⟨ss++[s],_,_,rfl,?_,by rw[yt,I];rfl,fun j s' G=>?_⟩
     .rw [yF];funext c;by_cases hc:c=l
      .subst hc;rw[qb,qb];rfl
      .rw [qf hc,qf hc,qf hc]
     .by_cases al:j<ss.length
      .rw [yV al] at G;show L j s' G
      .rw [yJ (by omega)] at G
       have e0:j-ss.length=0:=by
        have:=(yc.mp G).1;simp only[yC,YU] at this;omega
       rw[e0] at G;cases G;have:j=i:=by omega
       rw[this];show hs
    have C:(ss.map V.str).length<sizeLine:=by rw[ya];show qi (by omega)
    ext;show .inl (.inl (.inl ⟨rfl,rfl,?_⟩));rw[j5];ext;show qP (fun h=>?_) (fun h=>?_)
    .have hw:(b:Int)=0:=yk h;ext;show⟨.inl ⟨rfl,_,.of A⟩,?_⟩;ext;show⟨l,_,_,rfl,rfl,A,C,?_⟩;show O _ ⟨qa5 rfl (by simp) (by simp) (by simp[N]),?_⟩;rw[yD (by omega),R];rfl
    .have au:(b:Int)≠0:=fun e=>h (yB e);ext;show .inl (.inl (.inl ⟨rfl,rfl,?_⟩));rw[j5];ext;show qP (fun h=>?_) (fun h=>?_)
     .have hw:(b:Int)=1:=yk h;ext;show⟨.inl ⟨rfl,_,.of A⟩,?_⟩;ext;show qgo (yi (XW g) (by decide)) ?_;have h2:=af 2;have t2:=qaS a 2;rw[show((2:Nat):Int)=2 from rfl] at h2 t2;ext;show qfn (by rw[h2];show _+1<=sizeLine;show Yh (qi (by omega))) ?_;ext;show⟨l,_,_,rfl,rfl,A,C,?_⟩;have S:(Txt.slice a none (some 2)++(⟨#[B]⟩:Str)).cps.toList=a.cps.toList.take 2++[B]:=by rw[qaJ,t2]
      show O _ ⟨qa5 S (by simp) (by simp[lS]) (by rw[kD,ac];simp[N]),?_⟩;rw[yD (by omega),R,S,Xu];rfl
     .have av:(b:Int)≠1:=fun e=>h (yB e);ext;show .inl (.inl (.inl ⟨rfl,rfl,?_⟩));rw[j5];ext;have e6:(i:Int) % 6=((i % 6:Nat):Int):=by omega
      have h6:=af (i % 6);have t6:=qaS a (i % 6);show qP (fun h=>?_) (fun h=>?_)
      .have hw:(b:Int)=2:=yk h;ext;show⟨.inl ⟨rfl,_,.of A⟩,?_⟩;ext;show vI (by decide) ?_;ext;show qgo (yi (XW g) (by decide)) ?_;rw[e6];show qfn (by rw[h6];show 1+_<=sizeLine;show Yh (qi (by omega))) ?_;ext;show⟨l,_,_,rfl,rfl,A,C,?_⟩;have S:((⟨#[B]⟩:Str)++Txt.slice a none (some ((i % 6:Nat):Int))).cps.toList=B::a.cps.toList.take (i % 6):=by rw[qaJ,t6];rfl
       show O _ ⟨qa5 S (by simp) (by simp[lS];omega) (by rw[kh,ac,N];rfl),?_⟩;rw[yG (by omega),R,S];rfl
      .have aw:(b:Int)≠2:=fun e=>h (yB e);ext;show⟨.inl ⟨rfl,_,.of A⟩,?_⟩;ext;show vI (by decide) ?_;ext;show qgo (yi (XW g) (by decide)) ?_;rw[e6];ext;show qfn (by rw[h6];show _+1<=sizeLine;show Yh (qi (by omega))) ?_;ext;show⟨l,_,_,rfl,rfl,A,C,?_⟩;have S:(Txt.slice a none (some ((i % 6:Nat):Int))++(⟨#[B]⟩:Str)).cps.toList=a.cps.toList.take (i % 6)++[B]:=by rw[qaJ,t6]
       show O _ ⟨qa5 S (by simp) (by simp[lS];omega) (by rw[kD,ac];simp[N]),?_⟩;rw[yD (by omega),R,S,Xu];rfl
   .obtain⟨ss,W,X,rfl,rfl,I,L⟩:=hp;ext;show hD _ _ (q l ss _ (b1.new7 hl) (hB1.new hl) (b1.free7 ae hl) ae qb ⟨by omega,nodup_key fun j k s G hk=>?_,fun s hs=>?_⟩ I)
    .have ap:j<ss.length:=(yc.mp G).1;have aq:k<ss.length:=(yc.mp hk).1;show NmJ.inj M (by omega) (by omega) (L j s G) (L k s hk)
    .obtain⟨j,G⟩:=yf hs;show(L j s G).1
  ext;show⟨p,26,rfl,hB,by decide,by decide,fun first H1 hf b1 hB1=>?_⟩;ext;show⟨by show 6<=sizeLine;decide,fun m2 Z=>?_⟩;have am:=hB1.apart Z;have b2:=b1.new7 (o:=.lst (stepsJ.map iV)) Z;have em:upd H1 m2 (.lst (stepsJ.map iV)) m2=some (.lst (stepsJ.map iV)):=qb;have ad:Pu (upd H1 m2 (.lst (stepsJ.map iV))) p:=hB1.new Z;have eu:upd H1 m2 (.lst [V.int 1,V.int 3,V.int 5,V.int 7,V.int 9,V.int 11])=upd H1 m2 (.lst (stepsJ.map iV)):=rfl;rw[eu];generalize upd H1 m2 (.lst (stepsJ.map iV))=H2 at b2 em ad;ext;show⟨p,6,rfl,ad,by decide,by decide,fun d H3 hd b3 ah=>?_⟩;obtain⟨st,M⟩:∃ st,stepsJ[d]?=some st:=⟨_,yb hd⟩;show .inl (zq (b3 _ _ am em) (v:=iV st) (qo (by rw[yd,M];rfl)) ?_);ext;show⟨p,4,rfl,ah,by decide,by decide,fun b H4 hw b4 ai=>?_⟩;have ag:=(b2.trans7 b3).trans7 b4;ext;show⟨rfl,?_⟩;ext;show⟨5,rfl,by decide,by decide,qbK (lo:=0) (n:=5) (fun i ys J=>But p H J/\Pu J p/\∃ xs:List Str,ys=xs.map V.str/\xs.length=i/\∀ x∈xs,x.length=1/\x.cps.toList.all sg=true) ⟨ag,ai,[],rfl,rfl,fun _ h=>by cases h⟩ (fun i ys J hi hs=>?_) fun ys J hs=>?_⟩
  .obtain⟨bJ,Y,xs,rfl,ao,an⟩:=hs;ext;show zE ?_;ext;show⟨p,26,rfl,Y,by decide,by decide,fun r J2 ar b5 aj=>?_⟩;show .inl (qgK (by decide +kernel) (qe6 (by omega) (by omega)) ?_);show⟨by rw[ya];show qi (by omega),bJ.trans7 b5,aj,xs++[_],by rw[yF];rfl,by rw[yt,ao];rfl,fun x hx=>?_⟩;rcases yA.mp hx with z | z
   .show an x z
   .rw [yy.mp z];show⟨rfl,?_⟩;have:=qfZ (c:=97+r) (by omega) (by omega);simp[this]
  .obtain⟨bJ,Y,zs,rfl,hn,h1⟩:=hs;show⟨by rw[ya,hn];decide,fun l5 h5=>?_⟩;ext;show⟨_,l5,zs,rfl,rfl,SqL.of qb,by rw[sum_ones fun x hx=>(h1 x hx).1,show("":Str).length=0 by decide +kernel];omega,?_⟩;have g:(Txt.join "" zs).length=5:=by rw[join_len fun x hx=>(h1 x hx).1];omega
   have y:(Txt.join "" zs).cps.toList.all sg=true:=by
    have e:Txt.join "" zs=Str.join "" zs:=Yn.mp (join_plain_closes "" zs);rw[e];show qdv fun x hx=>(h1 x hx).2
   generalize Txt.join "" zs=a at g y ⊢;ext;rw[U];show⟨fun _ _ z=>z,_,_,_,b,first,st,a,rfl,bJ.new7 h5,Y.new h5,ye M,g,y⟩
theorem KP:FnScope ["_law_purse_here","_law_many_here","_law_way","_law_thin","_law_found","_law_d","_law_k","_law_pair"] ["_law_purse_here","_law_many_here"] (qh qbc):=fS
noncomputable abbrev iT(q:Nat×Nat):HO:=.tup [.int (q.1:Int),.int (q.2:Int)]
def IPL(H:Hp)(l:Addr)(ts:List Addr)(TI:List (Nat×Nat)):Prop:=H l=some (.lst (ts.map V.ref))/\All2 (fun t q=>H t=some (iT q)) ts TI
theorem IPL.same{l:Addr}{TI:List (Nat×Nat)}(h:IPL H l ts TI)(s:L2.Same H H'):IPL H' l ts TI:=⟨s _ _ h.1,h.2.mono fun _ _ z=>s _ _ z⟩
theorem qft{a:TA}{b:L2.St}{R:It->Hp->Prop}(h:a b H fun vs H1=>∃ i j:Int,vs=[.int i,.int j]/\(-(2 ^ 62)<=i/\i<2 ^ 62/\-(2 ^ 62)<=j/\j<2 ^ 62)/\R (Itr i (j-i).toNat) H1):qfG a b H R:=h
theorem qb9{i j:Int}{Q:VK}(q:Q (.bl (decide (i=j))) H):qgd K (.int i) (.int j) H Q:=.inl (.inl (.inl ⟨rfl,rfl,by rw[j5];show q⟩))
theorem qet(h:some (iT q')=some (iT q)):q'=q:=by
 injection h with h
 injection h with h
 injection h with h1 h2
 injection h1 with h1
 injection h2 with h2 _
 injection h2 with h2
 show Xk (by omega) (by omega)
theorem qcN{a b:Addr}(hb:H b=some (iT q'))(g:H a=some (iT q)):EqD K H 1 (.ref b) (.ref a) (decide (q'=q)):=by
 by_cases e:b=a
 .subst e;rw[hb] at g;have:q'=q:=qet g;rw[yB this];show .self
 .have z:=EqT.tup (K:=K) (H:=H) (n:=0) (e:=fun j=>if j=0 then eqV (iV q'.1) (iV q.1) else eqV (iV q'.2) (iV q.2)) (SqT.of hb) (SqT.of g) fun j x y c f=>by
   match j,c,f with
   | 0,c,f=>cases c;cases f;show .flat rfl rfl
   | 1,c,f=>cases c;cases f;show .flat rfl rfl
   | n+2,c,f=>simp at c
  have m:((List.range (min [iV q'.1,iV q'.2].length [iV q.1,iV q.2].length)).all (fun j=>if j=0 then eqV (iV q'.1) (iV q.1) else eqV (iV q'.2) (iV q.2))&&[iV q'.1,iV q'.2].length==[iV q.1,iV q.2].length)=decide (q'=q):=by
   have i:eqV (iV q'.1) (iV q.1)=decide (q'.1=q.1):=by
    have:=j5 (q'.1:Int) (q.1:Int);rw[yD (by decide)] at this;rw[this];show Yq.mpr (by omega)
   have l:eqV (iV q'.2) (iV q.2)=decide (q'.2=q.2):=by
    have:=j5 (q'.2:Int) (q.2:Int);rw[yD (by decide)] at this;rw[this];show Yq.mpr (by omega)
   show((if (0:Nat)=0 then eqV (iV q'.1) (iV q.1) else eqV (iV q'.2) (iV q.2))&&((if (1:Nat)=0 then eqV (iV q'.1) (iV q.1) else eqV (iV q'.2) (iV q.2))&&true)&&true)=_;rw[yG rfl,yD (by decide),i,l,Ku,Ku];rw[YZ,yY,yU,yU,yU];show⟨fun h=>Xk h.1 h.2,fun h=>by rw[h];show⟨rfl,rfl⟩⟩
  rw[m] at z;show .deep z e
theorem ipl_nin{l a:Addr}{TI:List (Nat×Nat)}{c:Nat×Nat}{Q:VK}(h:IPL H l ts TI)(o:H a=some (iT c))(q:Q (.bl (!decide (c∈TI))) H):qec K true (.ref a) (.ref l) H Q:=by
 classical
 show .inr (.inr ⟨l,ts.map V.ref,fun z=>decide (∃ t,z=.ref t/\H t=some (iT c)),1,rfl,SqL.of h.1,by decide,fun z hz=>?_,?_⟩)
 .obtain⟨b,hb,rfl⟩:=yQ.mp hz;obtain⟨q',_,r⟩:=h.2.mem hb;have e:=qcN (K:=K) r o
  have n:decide (∃ t,V.ref b=.ref t/\H t=some (iT c))=decide (q'=c):=by
   apply Yq.mpr;constructor
   .rintro ⟨t,i,f⟩;cases i;rw[r] at f;show qet f
   .rintro rfl;show⟨b,rfl,r⟩
  show EqD K H 1 (.ref b) (.ref a) (decide (∃ t,V.ref b=.ref t/\H t=some (iT c)));rw[n];show e
 .have e:((ts.map V.ref).any fun z=>decide (∃ t,z=.ref t/\H t=some (iT c)))=decide (c∈TI):=by
   rw[YZ,Y9,yU];constructor
   .rintro ⟨z,hz,e⟩;obtain⟨t,s,rfl⟩:=yQ.mp hz;obtain⟨q',j,r⟩:=h.2.mem s;obtain⟨t',i,f⟩:=yk e;cases i;rw[r] at f;have:q'=c:=qet f;rw[<- this];show j
   .intro p;obtain⟨k,m,e⟩:=kG p;have g:k<ts.length:=by rw[h.2.len];show m
    have r:=h.2.at_ k ts[k] TI[k] (yb g) (yb m);show⟨.ref ts[k],yQ.mpr ⟨_,xi g,rfl⟩,yB ⟨ts[k],rfl,by rw[r,e]⟩⟩
  rw[yG rfl,e];show q
def TJ(m:Nat)(TI:List (Nat×Nat)):Prop:=TI.length<=30/\(∀ q∈TI,q.1<q.2/\q.2<m)/\TI.Nodup
inductive spTsJ(vs:List V)(H:Hp)(Q:VK)(E:XK):Prop|mk (p:Addr) (m:Nat) (_:vs=[.ref p,.int (m:Int)]) (_:Pu H p) (_:m<=14) (_:∀(l:Addr) (ts:List Addr) (TI:List (Nat×Nat)) (H':Hp),But p H H'->Pu H' p->H l=none->l≠p->IPL H' l ts TI->TJ m TI->Q (.ref l) H')
theorem IPL.butJ{l:Addr}{TI:List (Nat×Nat)}(h:IPL H l ts TI)(b:But p H H')(f:Pu H p)(hl:l≠p):IPL H' l ts TI:=
 ⟨b _ _ hl h.1,h.2.mono fun t q z=>b _ _ (fun e=>by obtain⟨x,y,c,a,_⟩:=f;rw[e,a] at z;cases z) z⟩
theorem ok_tsJ(F:Fun K "_law_ties" "_law_ties" qbc f fd)(T:Txt K mg cc cw)(Ky:DefOk P w K mg base CX0 1 "_law_take" ["_law_purse_here","_law_many_here"] spTkP):FnOk P w K mg base CX0 2 f fd ["_law_purse_here","_law_many_here"] spTsJ:=by
 show F.ok KP fun _ _ _ _ H vs Q E hr h=>?_
 .obtain⟨p,m,rfl,hB,hm,q⟩:=h;have hu:=jY hr;obtain⟨TC102,hTC102⟩:∃ t0:TS,t0=fun D X J=>∃(l t:Addr) (B j:Nat) (vd vk:Int) (ts:List Addr) (TI:List (Nat×Nat)) (M:Nat×Nat),X=[some (.ref p),some (.int (m:Int)),some (.int (B:Int)),some (.int (j:Int)),some (.ref l),some (.int vd),some (.int vk),some (.ref t)]/\But p H J/\Pu J p/\H l=none/\l≠p/\IPL J l ts TI/\TJ m TI/\J t=some (iT M)/\M.2<m/\0<j/\j<=4 /\
   ∀(J':Hp) (W:List Addr) (L:List (Nat×Nat)),But p H J'->Pu J' p->IPL J' l W L->TJ m L->D.nx [some (.ref p),some (.int (m:Int)),some (.int (B:Int)),some (.int (j:Int)),some (.ref l),some (.int vd),some (.int vk),some (.ref t)] J':=⟨_,rfl⟩
  show⟨_,(qc (qk (i:=2) KP.nd rfl (yL rfl) (qt Ky (hmR hr) qC (qa (pv 0) (qa qg qd))))
 (qc (qk (i:=3) KP.nd rfl (yL rfl) (qp (qr (K:=K) rfl hu) (qG (qa qg (qa qg (qa qg (qa qg (qa qg (qa qg qd))))))) (qt Ky (hmR hr) qC (qa (pv 0) (qa qg qd))) (fun _ _=>rfl)))
 (qc (qk (i:=4) KP.nd rfl (yL rfl) (qG qd))
 (qc (qZ yP rfl (qbj rfl T.b_range (qa qg (qa (pv 1) qd))) (qu (i:=5) KP.nd rfl (yL rfl))
 (qe (qZ yP rfl (zv rfl T.b_range (qa (qz qc7 (pv 1) (pv 5)) qd)) (qu (i:=6) KP.nd rfl (yL rfl))
 (qc (qk (i:=7) KP.nd rfl (yL rfl) (qp (qr (K:=K) rfl hu) (qG (qa (jK (qa (pv 6) (qa (qz (jV (K:=K) rfl) (pv 6) (pv 5)) qd))) (qa (jK (qa (qz qc7 (pv 5) qg) (qa (qz (jV (K:=K) rfl) (pv 5) (pv 6)) qd))) (qa (jK (qa (qz zP (pv 5) qg) (qa (qz (jV (K:=K) rfl) (pv 6) (pv 5)) qd))) (qa (jK (qa (pv 6) (qa (qz (jV (K:=K) rfl) (pv 6) (pv 5)) qd))) qd))))) (pv 2) (fun _ _=>rfl)))
 (qc (qM (qj (zI (K:=K) rfl hu) (pv 2) qg (qA _)) (qe (qk (i:=7) KP.nd rfl (yL rfl) (jK (qa (qt Ky (hmR hr) qC (qa (pv 0) (qa (pv 5) qd))) (qa (pv 5) qd))))) qx)
 (qb8 TC102 (qe (qM (PW.pt (qbh (qj qdP (qp (qr (K:=K) rfl hu) (pv 7) qg (fun _ _=>rfl)) (qp (qr (K:=K) rfl hu) (pv 7) qg (fun _ _=>rfl)) (qA _)) (qbh (qj (zH (K:=K) rfl hu) (pv 7) (pv 4) (by with_unfolding_all rfl)) (qbh (qj qdP (qv (zR (K:=K) rfl) rfl T.b_len xn (qa (pv 4) qd)) qg (qA _)) (qbg (qj (zI (K:=K) rfl hu) (qt Ky (hmR hr) qC (qa (pv 0) (qa (pv 3) qd))) qg (qA _))))))) (qe (qL (qaW (K:=K) rfl yK Yc Yd qQ (pv 4) (qa (pv 7) qd)))) qx)) ?cut102))))))
 (qe (qm (pv 4))))))),?_⟩
  case cut102 =>
   intro D X J h;rw[hTC102] at h;obtain⟨l,t,B,j,vd,vk,ts,TI,M,rfl,N,A,U,C,G,s,ht,hq,bj,bo,nx⟩:=h;ext;show .inl (.inr (.inl ⟨t,_,_,_,rfl,rfl,SqT.of ht,rfl,?_⟩));ext;show .inl (.inr (.inl ⟨t,_,_,_,rfl,rfl,SqT.of ht,rfl,?_⟩));ext;show qP (fun h1=>?_) (fun h1=>?_)
   .have aw:M.1<M.2:=by have:=yk h1;omega
    ext;show ipl_nin G ht ?_;ext;show qP (fun h2=>?_) (fun h2=>?_)
    .have ax:M∉TI:=by simpa using h2
     ext;show qbC G.1 ?_;rw[ya,G.2.len];ext;show qP (fun h3=>?_) (fun h3=>?_)
     .have bm:TI.length<30:=by have:=yk h3;omega
      ext;show⟨p,j,rfl,A,bj,by omega,fun Y J2 ba b2 O=>?_⟩;have S:=G.butJ b2 A C;have Z:J2 t=some (iT M):=b2 _ _ (fun e=>by obtain⟨x,y,c,e2,_⟩:=A;rw[e,e2] at ht;cases ht) ht;have b3:=N.trans7 b2;ext;show qb9 ?_;ext;show qP (fun h4=>?_) (fun h4=>?_)
      .ext;show⟨.inl ⟨rfl,_,.of S.1⟩,?_⟩;ext;show⟨l,_,_,rfl,rfl,S.1,by rw[ya,G.2.len];show qi (by omega),?_⟩;have as:∀{c:Addr} {o:HO},J2 c=some o->(∀ xs,o≠.lst xs)->c≠l:=fun e bd z=>by rw[z,S.1] at e;cases e;show bd _ rfl
       ext;show nx _ (ts++[t]) (TI++[M]) (fun c u n e=>by rw[qf (fun z=>by rw[z,U] at e;cases e)];show b3 c u n e) (by obtain⟨x,y,c,e2,r⟩:=O;show⟨x,y,c,by rw[qf (Yi C)];show e2,r⟩) ⟨by rw[qb,yF];rfl,All2.snoc (S.2.mono fun t' q z=>?_) ?_⟩ ⟨by rw[yt];show TI.length+1<=30;omega,fun q hq=>?_,?_⟩
       .rw [qf (as z fun xs e=>by cases e)];show z
       .rw [qf (as Z fun xs e=>by cases e)];show Z
       .rcases yA.mp hq with z | z
        .show s.2.1 q z
        .rw [yy.mp z];show⟨aw,by assumption⟩
       .show Yg.mpr ⟨s.2.2,XV _ _,fun a ha b hb e=>by rw[yy.mp hb] at e;show ax (e ▸ ha)⟩
      .ext;show nx _ ts TI b3 O S s
     .ext;show nx _ ts TI N A G s
    .ext;show nx _ ts TI N A G s
   .ext;show nx _ ts TI N A G s
  ext;show⟨p,4,rfl,hB,by decide,by decide,fun B H1 hw b1 hB1=>?_⟩;ext;show⟨by show 6<=sizeLine;decide,fun m2 aa=>?_⟩;have bc:=hB1.apart aa;obtain⟨xs,ad⟩:∃ xs:List Nat,xs=[1,1,2,2,3,4]:=⟨_,rfl⟩
  have bi:∀ x∈xs,0<x/\x<=4:=fun x hx=>by
   rw[ad] at hx;simp only[yv,yM,Yt] at hx;omega
  have bn:xs.length=6:=by rw[ad];rfl
  have b2:=b1.new7 (o:=.lst (xs.map iV)) aa;have em:upd H1 m2 (.lst (xs.map iV)) m2=some (.lst (xs.map iV)):=qb;have O:Pu (upd H1 m2 (.lst (xs.map iV))) p:=hB1.new aa;have eu:upd H1 m2 (.lst [V.int 1,V.int 1,V.int 2,V.int 2,V.int 3,V.int 4])=upd H1 m2 (.lst (xs.map iV)):=by rw[ad];rfl
  rw[eu];generalize upd H1 m2 (.lst (xs.map iV))=H2 at b2 em O;ext;show⟨p,6,rfl,O,by decide,by decide,fun d H3 hd b3 an=>?_⟩;obtain⟨j,au⟩:∃ st,xs[d]?=some st:=⟨_,yb (by omega)⟩;have I:=bi j (ye au);show .inl (zq (b3 _ _ bc em) (v:=iV j) (qo (by rw[yd,au];rfl)) ?_);have af:=b2.trans7 b3;ext;show⟨by show 0<=sizeLine;decide,fun l hl=>?_⟩;have C:=an.apart hl;have U:=af.free7 C hl;have b4:=af.new7 (o:=.lst []) hl;have ao:Pu (upd H3 l (.lst [])) p:=an.new hl;have aq:IPL (upd H3 l (.lst [])) l [] []:=⟨qb,.nil⟩;generalize upd H3 l (.lst [])=H4 at b4 ao aq;ext;show qft ?_;ext;show⟨_,_,rfl,⟨by decide,by decide,by omega,by omega⟩,?_⟩;rw[show((m:Int)-1).toNat=m-1 by omega];show j9 (lo:=1) (n:=m-1) (fun i X J=>But p H J/\Pu J p/\∃(ts:List Addr) (TI:List (Nat×Nat)) (y5 y6 y7:Option V),X=[some (.ref p),some (.int (m:Int)),some (.int (B:Int)),some (.int (j:Int)),some (.ref l),y5,y6,y7]/\IPL J l ts TI/\TJ m TI) ⟨b4,ao,[],[],_,_,_,rfl,aq,by decide,fun q hq=>(by cases hq),.nil⟩ (fun i X J hi hp=>?_) fun X J hp=>?_
  .obtain⟨N,A,ts,TI,y5,y6,y7,rfl,G,s⟩:=hp;ext;show⟨_,rfl,by omega,by omega,?_⟩;rw[show((m:Int)-(1+(i:Int))).toNat=m-(1+i) by omega];show j9 (lo:=0) (n:=m-(1+i)) (fun k X J=>But p H J/\Pu J p/\∃(ts:List Addr) (TI:List (Nat×Nat)) (y6 y7:Option V),X=[some (.ref p),some (.int (m:Int)),some (.int (B:Int)),some (.int (j:Int)),some (.ref l),some (.int (1+(i:Int))),y6,y7]/\IPL J l ts TI/\TJ m TI) ⟨N,A,ts,TI,_,_,rfl,G,s⟩ (fun k X J hk hp=>?_) fun X J hp=>?_
   .obtain⟨N,A,ts,TI,y6,y7,rfl,G,s⟩:=hp;rw[Km];ext;show⟨by show 2<=sizeLine;decide,fun t1 bf=>?_⟩;have s1:=qI (Sr J) (o:=.tup [.int ((k:Int)),.int ((k:Int)+(1+(i:Int)))]) bf
    have ai:upd J t1 (.tup [.int ((k:Int)),.int ((k:Int)+(1+(i:Int)))]) t1=some (iT (k,k+(1+i))):=by
     rw[qb];show _=some (HO.tup [V.int ((k:Nat):Int),V.int ((k+(1+i):Nat):Int)]);rw[show((k:Nat):Int)=(k:Int) by omega,show((k+(1+i):Nat):Int)=(k:Int)+(1+(i:Int)) by omega]
    generalize upd J t1 (.tup [.int ((k:Int)),.int ((k:Int)+(1+(i:Int)))])=J1 at s1 ai;ext;show⟨by show 2<=sizeLine;decide,fun t2 Z=>?_⟩;have s2:=qI (Sr J1) (o:=.tup [.int (1+(i:Int)-1),.int (1+(i:Int)+(k:Int))]) Z
    have aj:upd J1 t2 (.tup [.int (1+(i:Int)-1),.int (1+(i:Int)+(k:Int))]) t2=some (iT (1+i-1,1+i+k)):=by
     rw[qb];show _=some (HO.tup [V.int ((1+i-1:Nat):Int),V.int ((1+i+k:Nat):Int)]);rw[show((1+i-1:Nat):Int)=1+(i:Int)-1 by omega,show((1+i+k:Nat):Int)=1+(i:Int)+(k:Int) by omega]
    generalize upd J1 t2 (.tup [.int (1+(i:Int)-1),.int (1+(i:Int)+(k:Int))])=J2 at s2 aj;ext;show vI (by decide) ?_;ext;show⟨by show 2<=sizeLine;decide,fun t3 bg=>?_⟩;have s3:=qI (Sr J2) (o:=.tup [.int ((1+(i:Int)) % 3),.int ((k:Int)+(1+(i:Int)))]) bg
    have ak:upd J2 t3 (.tup [.int ((1+(i:Int)) % 3),.int ((k:Int)+(1+(i:Int)))]) t3=some (iT ((1+i) % 3,k+(1+i))):=by
     rw[qb];show _=some (HO.tup [V.int (((1+i) % 3:Nat):Int),V.int ((k+(1+i):Nat):Int)]);rw[show(((1+i) % 3:Nat):Int)=(1+(i:Int)) % 3 by omega,show((k+(1+i):Nat):Int)=(k:Int)+(1+(i:Int)) by omega]
    generalize upd J2 t3 (.tup [.int ((1+(i:Int)) % 3),.int ((k:Int)+(1+(i:Int)))])=J3 at s3 ak;ext;show⟨by show 2<=sizeLine;decide,fun t4 bh=>?_⟩;have s4:=qI (Sr J3) (o:=.tup [.int ((k:Int)),.int ((k:Int)+(1+(i:Int)))]) bh
    have al:upd J3 t4 (.tup [.int ((k:Int)),.int ((k:Int)+(1+(i:Int)))]) t4=some (iT (k,k+(1+i))):=by
     rw[qb];show _=some (HO.tup [V.int ((k:Nat):Int),V.int ((k+(1+i):Nat):Int)]);rw[show((k:Nat):Int)=(k:Int) by omega,show((k+(1+i):Nat):Int)=(k:Int)+(1+(i:Int)) by omega]
    generalize upd J3 t4 (.tup [.int ((k:Int)),.int ((k:Int)+(1+(i:Int)))])=J4 at s4 al;ext;show⟨by show 4<=sizeLine;decide,fun g hg=>?_⟩;have s5:=qI (Sr J4) (o:=.lst [.ref t1,.ref t2,.ref t3,.ref t4]) hg;have eg:upd J4 g (.lst [.ref t1,.ref t2,.ref t3,.ref t4]) g=some (.lst [.ref t1,.ref t2,.ref t3,.ref t4]):=qb;generalize upd J4 g (.lst [.ref t1,.ref t2,.ref t3,.ref t4])=J5 at s5 eg;have ae:=(((s1.trans s2).trans s3).trans s4).trans s5
    obtain⟨t,M,bb,ht,be⟩:∃(t:Addr) (M:Nat×Nat),[V.ref t1,V.ref t2,V.ref t3,V.ref t4][B]?=some (.ref t)/\J5 t=some (iT M)/\M.2<m:=by
     have e1:=s5 _ _ (s4 _ _ (s3 _ _ (s2 _ _ ai)));have e2:=s5 _ _ (s4 _ _ (s3 _ _ aj));have e3:=s5 _ _ (s4 _ _ ak);have e4:=s5 _ _ al
     match B,hw with
     | 0,_=>show⟨t1,_,rfl,e1,by show k+(1+i)<m;omega⟩
     | 1,_=>show⟨t2,_,rfl,e2,by show 1+i+k<m;omega⟩
     | 2,_=>show⟨t3,_,rfl,e3,by show k+(1+i)<m;omega⟩
     | 3,_=>show⟨t4,_,rfl,e4,by show k+(1+i)<m;omega⟩
    ext;show .inl (zq eg (qo bb) ?_);have ah:=fun(c:Addr) (o:HO) (n:c≠p) (e:H c=some o)=>ae _ _ (N c o n e);have R:Pu J5 p:=by obtain⟨x,y,c,e2,r⟩:=A;show⟨x,y,c,ae _ _ e2,r⟩
    have ar:=G.same ae;ext;show qb9 ?_;ext;show qP (fun h3=>?_) (fun h3=>?_)
    .ext;show⟨p,1+i,?_,R,by omega,by omega,fun Y J6 ba b6 ay=>?_⟩
     .show [V.ref p,V.int (1+(i:Int))]=_;rw[show((1+i:Nat):Int)=1+(i:Int) by omega]
     have az:=ar.butJ b6 R C;ext;show⟨by show 2<=sizeLine;decide,fun t6 ac=>?_⟩;have av:=qI (Sr J6) (o:=.tup [.int (Y:Int),.int (1+(i:Int))]) ac
     have am:upd J6 t6 (.tup [.int (Y:Int),.int (1+(i:Int))]) t6=some (iT (Y,1+i)):=by
      rw[qb];show _=some (HO.tup [V.int (Y:Int),V.int ((1+i:Nat):Int)]);rw[show((1+i:Nat):Int)=1+(i:Int) by omega]
     have ag:But p H (upd J6 t6 (.tup [.int (Y:Int),.int (1+(i:Int))])):=(But.trans7 ah b6).new7 ac;have ap:Pu (upd J6 t6 (.tup [.int (Y:Int),.int (1+(i:Int))])) p:=ay.new ac;generalize upd J6 t6 (.tup [.int (Y:Int),.int (1+(i:Int))])=J7 at av am ag ap;ext;rw[hTC102];show⟨l,t6,B,j,_,_,ts,TI,(Y,1+i),rfl,ag,ap,U,C,az.same av,s,am,by show 1+i<m;omega,I.1,I.2,fun J' W L h1 h2 h3 h4=>⟨h1,h2,W,L,_,_,rfl,h3,h4⟩⟩
    .ext;rw[hTC102];show⟨l,t,B,j,_,_,ts,TI,M,rfl,ah,R,U,C,ar,s,ht,be,I.1,I.2,fun J' W L h1 h2 h3 h4=>⟨h1,h2,W,L,_,_,rfl,h3,h4⟩⟩
   .obtain⟨N,A,ts,TI,y6,y7,rfl,G,s⟩:=hp;ext;show⟨N,A,ts,TI,_,_,_,rfl,G,s⟩
  .obtain⟨N,A,ts,TI,y5,y6,y7,rfl,G,s⟩:=hp;ext;show q l ts TI J N A U C G s
theorem uu:FnScope ["_law_names_here","_law_ties_here","_law_handed","_law_one","_law_other"] ["_law_names_here","_law_ties_here"] (qh qbd):=fS
theorem Wt.ir(W:Wt cw H x ss ns tps):∀ a b,tA tps a b->a≠b:=fun a b z e=>by
 rcases z with z | z
 .show(W.ok _ z).2.2 e
 .show(W.ok _ z).2.2 e.symm
noncomputable def tn(ss:List Str)(i:Nat):Str:=ss.getD i ""
noncomputable def nmP(ss:List Str)(p:Nat×Nat):Str×Str:=(tn ss p.1,tn ss p.2)
theorem qaU(h:i<ss.length):ss[i]?=some (tn ss i):=by unfold tn;rw[Ye,yb h];rfl
theorem qbz(h:i<ss.length):tn ss i∈ss:=ye (qaU h)
theorem qcO(b:ss.Nodup)(hi:i<ss.length)(a:j<ss.length)(e:tn ss i=tn ss j):i=j:=qy b (qaU hi) (by rw[e];show qaU a)
theorem qcP{n:Addr}{Q:VK}(h:H n=some (.lst (ss.map V.str)))(hi:i<ss.length)(q:Q (.str (tn ss i)) H):qgc K (.ref n) (.int (i:Int)) H Q:=
 .inl (zq h (v:=.str (tn ss i)) (qo (by rw[yd,qaU hi];rfl)) q)
theorem qdA:∀{l m:List (Str×Str)},l.Nodup->(∀ x∈l,x∈m)->l.length<=m.length
 | [],_,_,_=>YC _
 | x::r,m,hn,h=>by
  obtain⟨h1,c⟩:=yo.mp hn;have a:=h x yI;have f:=qdA (l:=r) (m:=m.erase x) c fun y b=>(kq (fun e=>h1 (by rw[<- e];show b))).mpr (h y (yx _ b));rw[xk a] at f;have:0<m.length:=xw a;simp only[yC];omega
noncomputable def hdP(ss:List Str)(q:Nat×Nat):Str×Str:=if (q.1+q.2) % 2=0 then nmP ss q else((nmP ss q).2,(nmP ss q).1)
theorem qeu(ss:List Str)(q:Nat×Nat):hdP ss q=nmP ss q\/hdP ss q=((nmP ss q).2,(nmP ss q).1):=by
 unfold hdP;split
 .show .inl rfl
 .show .inr rfl
theorem nm_one(a:ss.Nodup){p:Nat×Nat}(b:p.1<p.2/\p.2<ss.length)(c:q.1<q.2/\q.2<ss.length)(e:nmP ss p=nmP ss q\/nmP ss p=((nmP ss q).2,(nmP ss q).1)):p=q:=by
 rcases e with e | e
 .show Xk (qcO a (by omega) (by omega) (congrArg Prod.fst e)) (qcO a b.2 c.2 (congrArg Prod.snd e))
 .have h1:p.1=q.2:=qcO a (by omega) (by omega) (congrArg Prod.fst e);have f:p.2=q.1:=qcO a (by omega) (by omega) (congrArg Prod.snd e);omega
theorem qfu(b:ss.Nodup){TI:List (Nat×Nat)}(h:TJ ss.length TI):∀ ab∈TI.map (nmP ss),ab.1∈ss/\ab.2∈ss/\ab.1≠ab.2:=fun ab a=>by
 obtain⟨q,c,rfl⟩:=yQ.mp a;have:=h.2.1 q c;show⟨qbz (by omega),qbz this.2,fun e=>by have:=qcO b (by omega) this.2 e;omega⟩
theorem hd_tgo(j:ss.Nodup){TI:List (Nat×Nat)}(h:TJ ss.length TI):TGo ss (TI.map (hdP ss)):=by
 show⟨by rw[ya];show h.1,fun ab b=>?_,?_⟩
 .obtain⟨q,f,rfl⟩:=yQ.mp b;obtain⟨h1,g,i⟩:=qfu j h _ (kI f);rcases qeu ss q with e | e<;>rw[e]
  .show⟨h1,g,i⟩
  .show⟨g,h1,i.symm⟩
 .show kc.mpr (h.2.2.imp_of_mem fun{p q} l f c=>?_);have k:¬ (nmP ss p=nmP ss q\/nmP ss p=((nmP ss q).2,(nmP ss q).1)):=fun e=>c (nm_one j (h.2.1 p l) (h.2.1 q f) e);have a:∀{x y:Str×Str},(x.2,x.1)=y->x=(y.2,y.1):=fun{x y} e=>by rw[<- e]
  rcases qeu ss p with e | e<;>rcases qeu ss q with e' | e'<;>show⟨fun z=>k ?_,fun z=>k ?_⟩<;>rw[e,e'] at z
  .show .inl z
  .show .inr z
  .show .inr z
  .show .inl z
  .show .inr (a z)
  .show .inl (a z)
  .show .inl (a z)
  .show .inr (a z)
theorem hd_tA{TI:List (Nat×Nat)}:tA (TI.map (hdP ss)) a b↔tA (TI.map (nmP ss)) a b:=by
 have k:∀{a b:Str},(a,b)∈TI.map (hdP ss)->tA (TI.map (nmP ss)) a b:=fun{a b} h=>by
  obtain⟨q,c,e⟩:=yQ.mp h;have m:nmP ss q∈TI.map (nmP ss):=kI c;rcases qeu ss q with z | z<;>rw[z] at e
  .rw [e] at m;show .inl m
  .have:nmP ss q=(b,a):=Xk (congrArg Prod.snd e) (congrArg Prod.fst e);rw[this] at m;show .inr m
 have k':∀{a b:Str},(a,b)∈TI.map (nmP ss)->tA (TI.map (hdP ss)) a b:=fun{a b} h=>by
  obtain⟨q,c,e⟩:=yQ.mp h;have m:hdP ss q∈TI.map (hdP ss):=kI c;rcases qeu ss q with z | z<;>rw[z,e] at m
  .show .inl m
  .show .inr m
 show⟨fun h=>h.elim k fun z=>(k z).symm,fun h=>h.elim k' fun z=>(k' z).symm⟩
theorem tj_few{TI:List (Nat×Nat)}(hw:WOk ss ns)(n:Adj ss ns (TI.map (nmP ss)))(f:TJ ss.length TI):(qE ss ns ss.length).length<=30:=by
 show yi (qdA (m:=TI.map (nmP ss)) (qes hw) fun ab h=>?_) (by rw[ya];show f.1);obtain⟨z,i,j,o,hi,p⟩:=(zc hw n (a:=ab.1) (b:=ab.2)).mp h;rcases z with z | z
 .show z
 .obtain⟨q,r,e⟩:=yQ.mp z;have c:=f.2.1 q r;have g:tn ss q.1=ab.2:=congrArg Prod.fst e;have l:tn ss q.2=ab.1:=congrArg Prod.snd e;have:=qy hw.nd (by rw[<- g];show qaU (by omega)) p;have:=qy hw.nd (by rw[<- l];show qaU c.2) hi;omega
theorem wt_new{y:Addr}(h:WebN H0 cw H y ss ns)(hb:qbw ss ns kps)(g:TGo ss kps):Wt cw H y ss ns kps:=
 ⟨h.web,fun a b s t e c=>by rw[hb.2.2 a b s t e c,yU],g.inn⟩
theorem Wt.to{y:Addr}(h:Wt cw H y ss ns kps)(ok:∀ ab∈tps,ab.1∈ss/\ab.2∈ss/\ab.1≠ab.2)(e:∀ a b,a∈ss->b∈ss->(tA kps a b↔tA tps a b)):Wt cw H y ss ns tps:=
 ⟨h.web,fun a b s t c hb=>(h.adj a b s t c hb).trans (e s t (ye c) (ye hb)),ok⟩
theorem WebN.older(h:WebN H1 cw H x ss ns)(s:L2.Same H0 H1):WebN H0 cw H x ss ns:=by
 obtain⟨j,d,ol,n,h1,a,b,c,e,f,g,i⟩:=h;show⟨j,d,ol,n,h1,a,b,c,e,s.free f,s.free g,s.free i⟩
inductive spMdJ(cw:Addr)(vs:List V)(H:Hp)(Q:VK)(E:XK):Prop|mk (n l:Addr) (ss:List Str) (ts:List Addr) (TI:List (Nat×Nat)) (_:vs=[.ref n,.ref l]) (_:H n=some (.lst (ss.map V.str))) (_:NOk ss) (_:IPL H l ts TI) (_:TJ ss.length TI) (_:∀(b:Addr) (ns:List Nat) (H':Hp),L2.Same H H'->H b=none->WebN H cw H' b ss ns->Wt cw H' b ss ns (TI.map (nmP ss))->Q (.ref b) H')
noncomputable def qf4(ns:List Nat)(a b:Nat):Bool:=(ns.getD a 0).testBit b
def BtJ(n:Nat)(TI:List (Nat×Nat))(bs:List Nat):Prop:=bs.length=n/\(∀ a,bs.getD a 0<2 ^ n)/\∀ a b,qf4 bs a b=true↔((a,b)∈TI\/(b,a)∈TI)
inductive spBtJ(vs:List V)(H:Hp)(Q:VK)(E:XK):Prop|mk (l:Addr) (n:Nat) (ts:List Addr) (TI:List (Nat×Nat)) (_:vs=[.int (n:Int),.ref l]) (_:n<=14) (_:IPL H l ts TI) (_:TJ n TI) (_:∀(b:Addr) (bs:List Nat) (H':Hp),L2.Same H H'->H b=none->H' b=some (.lst (zt bs))->BtJ n TI bs->Q (.ref b) H')
theorem qev{m:Addr}{Q:VK}(e:H m=some (.lst (l.map V.str)))(q:Q (.bl (decide (s∈l))) H):qec K false (.str s) (.ref m) H Q:=
 .inl ⟨m,_,rfl,.inl (SqL.of e),rfl,flat_strs l,by rw[yD (by decide),qc0];show q⟩
theorem qf5{m l y:Addr}{Q:VK}(F:G m=some (.lst (ss.map V.str)))(g:ss.length<=14)(nd:ss.Nodup)(H:∀ s∈ss,zf s=true)(C:PL G l us kps)(j:TGo ss kps)(p:G y=none)(D:G dx=none)(i:dx≠y)
  (h:∀ ns H2,L2.Same G H2->WebN G cw H2 y ss ns->Wt cw H2 y ss ns kps->Q .non H2):spWeb cw [.ref y,.ref m,.ref l] (upd (upd G dx (.own y)) y (.ins cw dx [])) Q E:=by
 have f:=qI (qI (Sr G) (o:=.own y) D) (o:=.ins cw dx []) (show upd G dx (.own y) y=none by rw[qf (Yi i)];show p);show⟨y,dx,m,l,ss,us,kps,rfl,qb,f _ _ F,g,nd,H,C.same f,j,fun ns H' b B A=>?_⟩
 have a:WebN G cw H' y ss ns:=by
  obtain⟨I,d,ol,n,h1,q,r,t,u,v,w,x⟩:=B
  have k:∀ c,upd (upd G dx (.own y)) y (.ins cw dx []) c=none->G c=none:=fun c z=>by
   cases e:G c with
   | none=>rfl
   | some o=>rw[f _ _ e] at z;cases z
  show⟨I,d,ol,n,h1,q,r,t,u,k _ v,k _ w,k _ x⟩
 show h ns H' (fun c o e=>b c o (fun z=>by rw[z,p] at e;cases e) (f _ _ e)) a (wt_new a A j)
theorem ok_mdJ(F:Fun K "_law_made" "_law_made" qbd f fd)(T:Txt K mg cc cw)(uV:MakeOk P w K mg base CX0 5 cw "Web" ["self","names","ties"] (spWeb cw)):FnOk P w K mg base CX0 7 f fd ["_law_names_here","_law_ties_here"] (spMdJ cw):=by
 show F.ok uu fun _ _ _ _ H vs Q E hr h=>?_
 .obtain⟨n,l,ss,ts,TI,rfl,hn,L,I,hT,q⟩:=h;have S:=jY hr;show⟨_,(qc (qk (i:=2) uu.nd rfl (yL rfl) (qG qd))
 (qc (qZ yP rfl (qdq (K:=K) rfl (pv 1)) (qcj rfl (jP (qu (i:=3) uu.nd rfl (yL rfl)) (jP (qu (i:=4) uu.nd rfl (yL rfl)) qbi)))
 (qe (qL (qaW (K:=K) rfl yK Yc Yd qQ (pv 2) (qa (qp (qr (K:=K) rfl S) (qG (qa (jK (qa (qp (qr (K:=K) rfl S) (pv 0) (pv 3) (fun _ _=>rfl)) (qa (qp (qr (K:=K) rfl S) (pv 0) (pv 4) (fun _ _=>rfl)) qd))) (qa (jK (qa (qp (qr (K:=K) rfl S) (pv 0) (pv 4) (fun _ _=>rfl)) (qa (qp (qr (K:=K) rfl S) (pv 0) (pv 3) (fun _ _=>rfl)) qd))) qd))) (qz zP (qz (jV (K:=K) rfl) (pv 3) (pv 4)) qg) (fun _ _=>rfl)) qd)))))
 (qe (qm (qaF uV (hmR hr) (qa (zw (qbs (K:=K) rfl rfl) rfl T.b_list xI (qa (pv 0) qd)) (qa (pv 2) qd))))))),?_⟩
  ext;show⟨by show 0<=sizeLine;decide,fun h N=>?_⟩;have s1:=qI (Sr H) (o:=.lst []) N;have eh:upd H h (.lst []) h=some (.lst []):=qb;generalize upd H h (.lst [])=H1 at s1 eh;ext;show qeJ ?_;ext;have hh:H h=none:=N;show⟨l,_,rfl,.of (s1 _ _ I.1),qN (xs:=ts.map V.ref) (fun i σ J=>L2.Same H J/\∃(us:List Addr) (y3 y4:Option V),σ=[some (.ref n),some (.ref l),some (.ref h),y3,y4]/\J h=some (.lst (us.map V.ref))/\All2 (fun t ab=>J t=some (.tup [.str ab.1,.str ab.2])) us ((TI.take i).map (hdP ss))) ⟨s1,[],_,_,rfl,eh,.nil⟩ (fun i σ J _ R=>.of (R.1 _ _ I.1)) (fun i x σ J hx R=>?_) fun σ J R=>?_⟩
  .obtain⟨y,us,y3,y4,rfl,Z,G⟩:=R;rw[yd] at hx;obtain⟨u,U,rfl⟩:=yn.mp hx;have hi:i<TI.length:=by rw[<- I.2.len];show(yc.mp U).1
   obtain⟨j,B⟩:∃ j,TI[i]?=some j:=⟨_,yb hi⟩;have ah:=y _ _ (I.2.at_ i u j U B);have hq:=hT.2.1 j (ye B);have p:=y _ _ hn;have ak:=hT.1;show⟨u,_,rfl,.of ah,rfl,_,_,rfl,_,_,rfl,rfl,?_⟩;ext;show⟨.inl ⟨rfl,_,.of Z⟩,?_⟩;ext;show qcP p (by omega) ?_;ext;show qcP p hq.2 ?_;ext;show⟨by show 2<=sizeLine;decide,fun s af=>?_⟩;have m:=qI (Sr J) (o:=.tup [.str (tn ss j.1),.str (tn ss j.2)]) af;have C:upd J s (.tup [.str (tn ss j.1),.str (tn ss j.2)]) s=some (.tup [.str (tn ss j.1),.str (tn ss j.2)]):=qb;generalize upd J s (.tup [.str (tn ss j.1),.str (tn ss j.2)])=Y at m C;ext;show qcP (m _ _ p) hq.2 ?_;ext;show qcP (m _ _ p) (by omega) ?_;ext;show⟨by show 2<=sizeLine;decide,fun v ag=>?_⟩;have X:=qI (Sr Y) (o:=.tup [.str (tn ss j.2),.str (tn ss j.1)]) ag;have D:upd Y v (.tup [.str (tn ss j.2),.str (tn ss j.1)]) v=some (.tup [.str (tn ss j.2),.str (tn ss j.1)]):=qb;generalize upd Y v (.tup [.str (tn ss j.2),.str (tn ss j.1)])=J3 at X D;ext;show⟨by show 2<=sizeLine;decide,fun g hg=>?_⟩;have s4:=qI (Sr J3) (o:=.lst [.ref s,.ref v]) hg;have eg:upd J3 g (.lst [.ref s,.ref v]) g=some (.lst [.ref s,.ref v]):=qb;generalize upd J3 g (.lst [.ref s,.ref v])=J4 at s4 eg;ext;show vI (by decide) ?_
   obtain⟨t,ae,ht⟩:∃ t,atI [V.ref s,V.ref v] (((j.1:Int)+(j.2:Int)) % 2)=some (.ref t)/\J4 t=some (.tup [.str (hdP ss j).1,.str (hdP ss j).2]):=by
    by_cases h0:(j.1+j.2) % 2=0
    .rw [show((j.1:Int)+(j.2:Int)) % 2=((0:Nat):Int) by omega];show⟨s,qo rfl,?_⟩;unfold hdP;rw[yG h0];show s4 _ _ (X _ _ C)
    .rw [show((j.1:Int)+(j.2:Int)) % 2=((1:Nat):Int) by omega];show⟨v,qo rfl,?_⟩;unfold hdP;rw[yD h0];show s4 _ _ D
   show .inl (zq eg ae ?_);have r:=(m.trans X).trans s4;have e4:=r _ _ Z;ext;have ai:us.length<=30:=by rw[G.len,ya,yX];omega
   show⟨h,_,_,rfl,rfl,e4,by rw[ya];show qi (by omega),?_⟩;have O:∀{c:Addr} {o:HO},J4 c=some o->(∀ xs,o≠.lst xs)->c≠h:=fun e A z=>by rw[z,e4] at e;cases e;show A _ rfl
   show⟨fun c o e=>?_,us++[t],_,_,rfl,by rw[qb,yF];rfl,?_⟩
   .rw [qf (fun z=>by rw[z,hh] at e;cases e)];show(y.trans r) c o e
   .rw [yT,B,yF];show All2.snoc (G.mono fun t' ab z=>?_) ?_
    .rw [qf (O (r _ _ z) fun xs e=>by cases e)];show r _ _ z
    .rw [qf (O ht fun xs e=>by cases e)];show ht
  .obtain⟨y,us,y3,y4,rfl,Z,G⟩:=R;have e:(ts.map V.ref).length=TI.length:=by rw[ya,I.2.len]
   rw[e,yW] at G;ext;show .inl ⟨n,_,rfl,.inl (.of (y _ _ hn)),fun c1 ad=>?_⟩;have m:=qI (Sr J) (o:=.lst (ss.map V.str)) ad;have ec:upd J c1 (.lst (ss.map V.str)) c1=some (.lst (ss.map V.str)):=qb;generalize upd J c1 (.lst (ss.map V.str))=Y at m ec;ext;show fun x' aj W M A=>?_;show qf5 ec L.few L.nd L.nm ⟨m _ _ Z,G.mono fun t ab z=>m _ _ z⟩ (hd_tgo L.nd hT) W M A fun ns H3 X aa ac=>⟨rfl,q x' ns H3 ((y.trans m).trans X) ((y.trans m).free W) (aa.older (y.trans m)) (ac.to (qfu L.nd hT) fun a b _ _=>hd_tA)⟩
theorem uv:FnScope ["_law_many_here","_law_ties_here","_law_found","_law_one","_law_other"] ["_law_many_here","_law_ties_here"] (qh qbe):=fS
theorem btJ_zero(n:Nat):BtJ n [] (List.replicate n 0):=by
 have z:∀ a,(List.replicate n 0).getD a 0=0:=fun a=>by
  rw[Ye,xZ];split<;>rfl
 show⟨YN,fun a=>by rw[z a];show XI n,fun a b=>?_⟩;unfold qf4;rw[z a];simp
theorem btJ_put{TI:List (Nat×Nat)}{bs:List Nat}(h:BtJ n TI bs)(i:q.1<q.2/\q.2<n):BtJ n (TI++[q]) ((bs.set q.1 (bs.getD q.1 0 ||| 2 ^ q.2)).set q.2 (bs.getD q.2 0 ||| 2 ^ q.1)):=by
 obtain⟨hl,hb,j⟩:=h;have l1:q.1<bs.length:=by omega
 have l2:q.2<(bs.set q.1 (bs.getD q.1 0 ||| 2 ^ q.2)).length:=by rw[xF];omega
 have c:q.1≠q.2:=by omega
 have g:∀ a,((bs.set q.1 (bs.getD q.1 0 ||| 2 ^ q.2)).set q.2 (bs.getD q.2 0 ||| 2 ^ q.1)).getD a 0=if q.2=a then bs.getD q.2 0 ||| 2 ^ q.1 else if q.1=a then bs.getD q.1 0 ||| 2 ^ q.2 else bs.getD a 0:=fun a=>by rw[zk l2,zk l1]
 show⟨by rw[xF,xF,hl],fun a=>?_,fun a b=>?_⟩
 .rw [g a];split
  .show X8 (hb _) (Xs (by decide) (by omega))
  .split
   .show X8 (hb _) (Xs (by decide) i.2)
   .show hb a
 .have base:=j a b;unfold qf4 at base ⊢;rw[g a,yA,yA,yy,yy];by_cases f:q.2=a
  .subst f;rw[yG rfl,X9,YV,kz,base,yU];constructor
   .rintro ((z | z) | z)
    .show .inl (.inl z)
    .show .inr (.inl z)
    .show .inr (.inr (by rw[<- z]))
   .rintro ((z | z) | (z | z))
    .show .inl (.inl z)
    .show absurd (congrArg Prod.fst z) (Yi c)
    .show .inl (.inr z)
    .show .inr (congrArg Prod.fst z).symm
  .rw [yD f];by_cases e:q.1=a
   .subst e;rw[yG rfl,X9,YV,kz,base,yU];constructor
    .rintro ((z | z) | z)
     .show .inl (.inl z)
     .show .inr (.inl z)
     .show .inl (.inr (by rw[<- z]))
    .rintro ((z | z) | (z | z))
     .show .inl (.inl z)
     .show .inr (congrArg Prod.snd z).symm
     .show .inl (.inr z)
     .show absurd (congrArg Prod.snd z) c
   .rw [yD e,base];constructor
    .rintro (z | z)
     .show .inl (.inl z)
     .show .inr (.inl z)
    .rintro ((z | z) | (z | z))
     .show .inl z
     .show absurd (congrArg Prod.fst z).symm e
     .show .inr z
     .show absurd (congrArg Prod.snd z).symm f
theorem ok_btJ(F:Fun K "_law_bits" "_law_bits" qbe f fd)(T:Txt K mg cc cw):FnOk P w K mg base CX0 1 f fd ["_law_many_here","_law_ties_here"] spBtJ:=by
 show F.ok uv fun _ _ _ _ H vs Q E W h=>?_
 .obtain⟨l,n,ts,TI,rfl,X,m,S,q⟩:=h;have v:=jY W;show⟨_,(qc (qk (i:=2) uv.nd rfl (yL rfl) (qz qd2 (qG (qa qg qd)) (pv 0)))
 (qc (qZ yP rfl (qdq (K:=K) rfl (pv 1)) (qcj rfl (jP (qu (i:=3) uv.nd rfl (yL rfl)) (jP (qu (i:=4) uv.nd rfl (yL rfl)) qbi)))
 (qc (jJ (qz qeE (qp (qr (K:=K) rfl v) (pv 2) (pv 3) (fun _ _=>rfl)) (qz qav qg (pv 4))) (jI (pv 2) (pv 3) (jL v)))
 (qe (jJ (qz qeE (qp (qr (K:=K) rfl v) (pv 2) (pv 4) (fun _ _=>rfl)) (qz qav qg (pv 3))) (jI (pv 2) (pv 4) (jL v))))))
 (qe (qm (pv 2))))),?_⟩
  ext;show⟨by show 1<=sizeLine;decide,fun z D=>?_⟩;have O:=qI (Sr H) (o:=.lst [.int 0]) D;ext;show⟨z,_,_,rfl,rfl,qb,by omega,by omega,by show 1*_<=sizeLine;rw[Yb];show Yh (qi (by omega)),fun b hb=>?_⟩;rw[Yb,qcJ];have G:=qI O (o:=.lst (zt (List.replicate n 0))) hb;have p:H b=none:=O.free hb;have M:upd (upd H z (.lst [.int 0])) b (.lst (zt (List.replicate n 0))) b=some (.lst (zt (List.replicate n 0))):=qb;generalize upd (upd H z (.lst [.int 0])) b (.lst (zt (List.replicate n 0)))=H2 at G M;ext;show qeJ ?_;ext;show⟨l,_,rfl,.of (G _ _ m.1),qN (xs:=ts.map V.ref) (fun i A J=>L2.Same H J/\∃(bs:List Nat) (I L:Option V),A=[some (.int (n:Int)),some (.ref l),some (.ref b),I,L]/\J b=some (.lst (zt bs))/\BtJ n (TI.take i) bs) ⟨G,_,_,_,rfl,M,btJ_zero n⟩ (fun i A J _ r=>.of (r.1 _ _ m.1)) (fun i x A J N r=>?_) fun A J r=>?_⟩
  .obtain⟨y,bs,I,L,rfl,t,j⟩:=r;rw[yd] at N;obtain⟨u,s,rfl⟩:=yn.mp N;have hi:i<TI.length:=by rw[<- m.2.len];show(yc.mp s).1
   obtain⟨a,g⟩:∃ a,TI[i]?=some a:=⟨_,yb hi⟩;have C:=y _ _ (m.2.at_ i u a s g);have U:=S.2.1 a (ye g);have l1:a.1<bs.length:=by rw[j.1];omega
   have l2:a.2<bs.length:=by rw[j.1];omega
   have B:a.1≠a.2:=by omega
   show⟨u,_,rfl,.of C,rfl,_,_,rfl,_,_,rfl,rfl,?_⟩;ext;show .inl (zq t (qo (jS l1)) ?_);ext;show vI ⟨by omega,by omega,by decide⟩ ?_;ext;rw[qdu];show .inl (qdG t (qb3 (by unfold zt;rw[ya];show l1)) ?_);rw[qa2];ext;have R:(bs.set a.1 (bs.getD a.1 0 ||| 2 ^ a.2)).getD a.2 0=bs.getD a.2 0:=by rw[zk l1,yD B]
   show .inl (zq qb (qo (jS (by simpa using l2))) ?_);ext;show vI ⟨by omega,by omega,by decide⟩ ?_;ext;rw[qdu,R];show .inl (qdG qb (qb3 (by unfold zt;rw[ya];simpa using l2)) ?_);rw[qa2];ext;show⟨fun c o e=>?_,_,_,_,rfl,qb,?_⟩
   .have hc:c≠b:=fun z=>by rw[z,p] at e;cases e
    rw[qf hc,qf hc];show y c o e
   .rw [yT,g];show btJ_put j U
  .obtain⟨y,bs,I,L,rfl,t,j⟩:=r;have e:(ts.map V.ref).length=TI.length:=by rw[ya,m.2.len]
   rw[e,yW] at j;ext;show q b bs J y p t j
noncomputable def ze(m k:Nat):Nat:=m-(m &&& k)
theorem and_or_dis:∀(a b:Nat),a &&& b=0->a+b=a ||| b:=by
 intro a
 induction a using Nat.strongRecOn with
 | ind a ih =>
  intro b h;by_cases f:a=0
  .subst f;simp
  .have c:(a / 2) &&& (b / 2)=0:=by rw[<- Nat.and_div_two,h]
   have e:=ih (a / 2) (by omega) (b / 2) c
   have h1:(a % 2) &&& (b % 2)=0:=by
    have:=congrArg (· % 2) h;simpa [Nat.and_mod_two_pow (n:=1)] using this
   have l:(a ||| b) / 2=a / 2 ||| b / 2:=Nat.or_div_two
   have j:(a ||| b) % 2=(a % 2) ||| (b % 2):=by
    simpa using Nat.or_mod_two_pow (a:=a) (b:=b) (n:=1)
   have i:(a % 2) ||| (b % 2)=a % 2+b % 2:=by
    rcases Xv a with x | x<;>rcases Xv b with y | y<;>rw[x,y] at h1 ⊢<;>first | rfl | show absurd h1 (by decide)
   have g:=Nat.div_add_mod (a ||| b) 2;rw[l,j,i,<- e] at g;omega
theorem qca(m k c:Nat):(ze m k).testBit c=(m.testBit c&&!k.testBit c):=by
 have a:(m &&& k) &&& (m ^^^ (m &&& k))=0:=by
  apply Xw;intro i;simp only[Xm,Kr,Nat.zero_testBit];cases m.testBit i<;>cases k.testBit i<;>rfl
 have h1:=and_or_dis _ _ a
 have e:(m &&& k) ||| (m ^^^ (m &&& k))=m:=by
  apply Xw;intro i;simp only[Xm,Kr,X9];cases m.testBit i<;>cases k.testBit i<;>rfl
 have b:ze m k=m ^^^ (m &&& k):=by unfold ze;omega
 rw[b];simp only[Xm,Kr];cases m.testBit c<;>cases k.testBit c<;>rfl
theorem qat(m k:Nat):Builtin.bitAnd (m:Int) (Builtin.bitNot (k:Int))=((ze m k:Nat):Int):=by
 have a:Builtin.bitNot (k:Int)=-(k:Int)-1:=rfl;have b:Builtin.bitNot (-(k:Int)-1)=(k:Int):=by unfold Builtin.bitNot;omega
 unfold Builtin.bitAnd;rw[a,yB (by omega),yl (by omega)];dsimp only;rw[b,Yb,Yb];have:(m &&& k)<=m:=Nat.and_le_left;unfold ze;omega
theorem and_nat(m k:Nat):Builtin.bitAnd (m:Int) (k:Int)=((m &&& k:Nat):Int):=by
 unfold Builtin.bitAnd;rw[yB (by omega),yB (by omega)];dsimp only;rw[Yb,Yb]
inductive Rr(bs:List Nat)(r k:Nat):Nat->Prop
 | zero:Rr bs r k k
 | step {a b:Nat} (h:Rr bs r k a) (t:qf4 bs a b=true) (i:r.testBit b=true):Rr bs r k b
noncomputable def cnt(n P:Nat):Nat:=((List.range n).filter fun c=>P.testBit c).length
theorem Kz:FnScope ["self","places","out","place","names","kept"] ["self","places"] (qh qT):=fS
noncomputable def zA(l:List Str)(tps:List (Str×Str)):List (Str×Str):=tps.filter fun q=>decide (q.1∈l)&&decide (q.2∈l)
noncomputable def jU(l a:List Str):List Str:=l.filter fun s=>!decide (s∈a)
theorem qcb(l a:List Str):(jU l a).length<=l.length:=YF _ _
theorem mem_out{b:List Str}:a∈jU l b↔a∈l/\a∉b:=by unfold jU;rw[yp];simp
def OutN(ss:List Str)(kvs:List (Key×V))(xs:List Str):Prop:=∀(j:Nat) (s:Str),ss[j]?=some s->(j7 kvs (.inl (j:Int):Key)).isSome=decide (s∈xs)
inductive spWo(cw:Addr)(vs:List V)(H:Hp)(Q:VK)(E:XK):Prop|mk (x a:Addr) (ss:List Str) (ns:List Nat) (tps:List (Str×Str)) (bar:List Str) (_:vs=[.ref x,.ref a]) (_:Wt cw H x ss ns tps) (_:(qE ss ns ss.length).length<=30) (_:H a=some (.lst (bar.map V.str))) (_:(∀ s∈bar,s∈ss)) (_:bar.length<=14) (_:∀(y:Addr) (ms:List Nat) (H':Hp),L2.Same H H'->Wt cw H' y (jU ss bar) ms (zA (jU ss bar) tps)->Q (.ref y) H')
theorem ok_wo(F:Fun K "without" "Web.without" qT f fd)(T:Txt K mg cc cw)(KD:MethOk P w K mg base CX0 4 cw "number_of" ["self","place"] (spNum cw))(KR:MethOk P w K mg base CX0 7 cw "ties" ["self"] (spTs cw))(uV:MakeOk P w K mg base CX0 5 cw "Web" ["self","names","ties"] (spWeb cw)):FnOk P w K mg base CX0 8 f fd ["self","places"] (spWo cw):=by
 show F.ok Kz fun _ _ _ _ H vs Q E hr h=>?_
 .obtain⟨x,a,ss,ns,tps,c,rfl,W,ah,A,hv,aq,q⟩:=h;have hu:=jY hr;obtain⟨wx,dd,ol,nn,hb,aj,an,aw,hw⟩:=id W.web;have few:=hw.few;show⟨_,(qc (qM (qX (qW (qv (qbX (K:=K) rfl) rfl T.b_isinstance YL (qa (pv 1) (qa (jK (qa (jx (v:=.ty "list") rfl T.b_list xI rfl) (qa (jx (v:=.ty "tuple") rfl T.b_tuple kO rfl) qd))) qd))))) (qe ju) qx)
 (qc (qk (i:=2) Kz.nd rfl (kN rfl) jQ)
 (qc (qZ yP rfl (qS (K:=K) rfl (pv 1)) (qu (i:=3) Kz.nd rfl (yL rfl))
 (qe (jJ jl (jI (pv 2) (qF KD (hmR hr) (pv 0) (qa (pv 3) qd)) (jL hu)))))
 (qc (qk (i:=4) Kz.nd rfl (kN rfl) (jM (sc:=qh qT) (XN:=["self","places","out","place","names","kept"]) ["name","out","self"] 1 [2,0] rfl rfl rfl (by decide +kernel) rfl (by decide +kernel)
  (qS (K:=K) rfl (qB (K:=K) rfl (pv 0) rfl)) (fun _ _ _ _=>(qu (i:=0) (show(["name","out","self"]:List Str).Nodup by decide +kernel) rfl (yL rfl))) jp
  (fun _ _ _ _=>(jC (qj (zH (K:=K) rfl hu) (qp (qr (K:=K) rfl hu) (qB (K:=K) rfl (pv 2) rfl) (pv 0) (fun _ _=>rfl)) (pv 1) (by with_unfolding_all rfl))))
  (fun _ _ _ _=>(pv 0))))
 (qc (qaQ (sc:=qh qT) (XN:=["self","places","out","place","names","kept"]) ["tie","names"] 1 [4] rfl rfl rfl (by decide +kernel) rfl (by decide +kernel) (i:=5) Kz.nd rfl rfl
  (qS (K:=K) rfl (jD KR (hmR hr) (pv 0))) (fun _ _ _ _=>(qu (i:=0) (show(["tie","names"]:List Str).Nodup by decide +kernel) rfl (yL rfl))) jp
  (fun _ _ _ _=>(jC (PW.pt (qbh (qj (zr (K:=K) rfl hu) (qp (qr (K:=K) rfl hu) (pv 0) qg (fun _ _=>rfl)) (pv 1) (by with_unfolding_all rfl)) (qbg (qj (zr (K:=K) rfl hu) (qp (qr (K:=K) rfl hu) (pv 0) qg (fun _ _=>rfl)) (pv 1) (by with_unfolding_all rfl)))))))
  (fun _ _ _ _=>(pv 0)))
 (qe (qm (qaF uV (hmR hr) (qa (pv 4) (qa (pv 5) qd)))))))))),?_⟩
  ext;show⟨by show 2<=sizeLine;decide,fun g hg=>?_⟩;have s0:=qI (Sr H) (o:=.tup [.ty "list",.ty "tuple"]) hg;ext;show qb2 (s0 _ _ A) qb ?_;ext;show yq ?_;ext;intro d hd;have s1:=qI s0 (o:=.dK []) hd;have ed:upd (upd H g (.tup [.ty "list",.ty "tuple"])) d (.dK []) d=some (.dK []):=qb;have ai:H d=none:=s0.free hd;generalize upd (upd H g (.tup [.ty "list",.ty "tuple"])) d (.dK [])=H1 at s1 ed;ext;show .inl ⟨⟨_,.of (s1 _ _ A)⟩,qN (xs:=c.map V.str) (fun i σ J=>L2.Same H J/\∃(kvs:List (Key×V)) (y3 y4 y5:Option V),σ=[some (.ref x),some (.ref a),some (.ref d),y3,y4,y5]/\J d=some (.dK kvs)/\kvs.length<=i/\OutN ss kvs (c.take i)) ⟨s1,[],_,_,_,rfl,ed,yh _,fun j s' _=>by simp[j7]⟩ (fun i σ J _ D=>.of (D.1 _ _ A)) (fun i y σ J O D=>?_) fun σ J D=>?_⟩
  .obtain⟨R,kvs,y3,y4,y5,rfl,U,Y,s⟩:=D;obtain⟨v,gv,rfl⟩:=str_eq_list O;have al:=(yc.mp gv).1;have ao:c.take (i+1)=c.take i++[v]:=by rw[yT,gv];rfl
   obtain⟨j,gj⟩:=yf (hv v (ye gv));ext;show⟨x,wx,_,rfl,R _ _ hb,zg (by decide +kernel),?_⟩;ext;show⟨x,ss,ns,v,j,rfl,W.web.same R,gj,fun J2 s2=>?_⟩;show .inr ⟨d,_,rfl,DPut.k (k:=Sum.inl (j:Int)) (s2 _ _ U) (qi (by omega)),?_⟩;show⟨qaH (R.trans s2) ai,_,_,_,_,rfl,qb,?_,fun j' s' M=>?_⟩
   .have:=ji kvs (Sum.inl (j:Int):Key) (V.bl true);omega
   .rw [qax,ao];by_cases e:j'=j
    .subst e;rw[yG rfl];have:s'=v:=by rw[M] at gj;show ym gj
     simp[this]
    .rw [yD (fun z=>e (by have:=Sum.inl.inj z;omega)),s j' s' M];have C:¬ s'=v:=fun z=>e (qy hw.nd (by rw[z] at M;show M) gj);simp[C]
  .obtain⟨R,kvs,y3,y4,y5,rfl,U,_,s⟩:=D;rw[show(c.map V.str).length=c.length from ya _,yW] at s;have S:=R _ _ an;ext;show .inl ⟨x,cw,wx,_,.ref ol,rfl,R _ _ hb,T.wcl,T.wo,qa3,?_⟩;show .inl ⟨⟨_,SqL.of S⟩,je (K:=K) (fun i ys H'=>H'=J/\ys=(jU (ss.take i) c).map V.str) ⟨rfl,rfl⟩ (fun i ys H' _ D=>by rw[D.1];show SqL.of S) (fun i y ys H' O D=>?_) fun ys H' D=>?_⟩
   .obtain⟨rfl,rfl⟩:=D;rw[yd] at O;obtain⟨sy,gi,rfl⟩:=yn.mp O;have al:=(yc.mp gi).1;obtain⟨i',as,ag,vi⟩:=jW (i:=0) (ye gi);rw[xQ,qy hw.nd ag gi] at vi;have av:(jU (ss.take i) c).length<=i:=yi (qcb _ _) (by rw[yX];omega)
    have Z:jU (ss.take (i+1)) c=jU (ss.take i) c++(if (!decide (sy∈c))=true then [sy] else []):=by
     unfold jU;rw[yT,gi,Yw];show _++[sy].filter _=_;rw[yZ,xq]
    ext;show .inl ⟨x,cw,wx,_,.ref dd,rfl,R _ _ hb,T.wcl,T.wn,jA,?_⟩;ext;show .inr ⟨dd,.int i,rfl,?_,?_⟩
    .have:=DGet.k (k:=Sum.inr sy) (R _ _ aj);rw[vi] at this;show this
    ext;show .inr (.inl ⟨d,_,rfl,DGet.k (k:=Sum.inl (i:Int)) U,?_⟩);have ev:(if true=true then !(j7 kvs (Sum.inl (i:Int):Key)).isSome else(j7 kvs (Sum.inl (i:Int):Key)).isSome)=!decide (sy∈c):=by rw[yG rfl,s i sy gi]
    rw[ev,Z];show⟨_,rfl,?_⟩
    cases (!decide (sy∈c)) with
    | true =>
     show zE ?_;ext;show⟨by rw[ya];show qi (by omega),rfl,by rw[yG rfl,yF];rfl⟩
    | false=>show qP (fun h=>by cases h) fun _=>⟨rfl,by rw[yD (by decide),Yj]⟩
   .obtain⟨rfl,rfl⟩:=D;rw[show(ss.map V.str).length=ss.length from ya _,yW];have ar:=qcb ss c;show⟨by rw[ya];show Yh (qi (by omega)),fun m hm=>?_⟩;have s3:=qI R (o:=.lst ((jU ss c).map V.str)) hm;have em:upd H' m (.lst ((jU ss c).map V.str)) m=some (.lst ((jU ss c).map V.str)):=qb;generalize upd H' m (.lst ((jU ss c).map V.str))=J3 at s3 em;ext;show⟨x,wx,_,rfl,s3 _ _ hb,zg (by decide +kernel),?_⟩;ext;show⟨x,ss,ns,rfl,W.web.same s3,fun l ts J4 s4 au hl am N=>?_⟩;have X:=s4 _ _ em;obtain⟨n,u⟩:∃ n,n=qE ss ns ss.length:=⟨_,rfl⟩;rw[<- u] at N;show .inl ⟨⟨_,.of hl⟩,je (xs:=ts.map V.ref) (fun i ys G=>G=J4/\∃ us:List Addr,ys=us.map V.ref/\us.length<=i/\All2 (fun t ab=>J4 t=some (.tup [.str ab.1,.str ab.2])) us (zA (jU ss c) (n.take i))) ⟨rfl,[],rfl,yh _,.nil⟩ (fun i ys G _ I=>by rw[I.1];show .of hl) (fun i y ys G O I=>?_) fun ys G I=>?_⟩
    .obtain⟨rfl,us,rfl,ae,hU⟩:=I;rw[yd] at O;obtain⟨t,ht,rfl⟩:=yn.mp O;have hi:=(yc.mp ht).1;obtain⟨ab,p⟩:∃ ab,n[i]?=some ab:=⟨_,yb (by rw[<- N.len];show hi)⟩;obtain⟨_,_,z3⟩:=N.at_ i t ab ht p
     have Z:zA (jU ss c) (n.take (i+1))=zA (jU ss c) (n.take i)++(if (decide (ab.1∈jU ss c)&&decide (ab.2∈jU ss c))=true then [ab] else []):=by
      unfold zA;rw[yT,p,Yw];show _++[ab].filter _=_;rw[yZ,xq]
     rw[Z];ext;show .inl (qap z3 (v:=.str ab.1) (qo (j:=0) rfl) ?_);ext;show qev X ?_;show⟨_,rfl,?_⟩
     cases decide (ab.1∈jU ss c) with
     | false=>show qP (fun h=>by cases h) fun _=>qP (fun h=>by cases h) fun _=>⟨rfl,us,rfl,by omega,by rw[Bool.false_and,yD (by decide),Yj];show hU⟩
     | true =>
      show zE ?_;ext;show .inl (qap z3 (v:=.str ab.2) (qo (j:=1) rfl) ?_);ext;show qev X ?_;show⟨_,rfl,?_⟩;rw[Bool.true_and]
      cases decide (ab.2∈jU ss c) with
      | false=>show qP (fun h=>by cases h) fun _=>⟨rfl,us,rfl,by omega,by rw[yD (by decide),Yj];show hU⟩
      | true =>
       show zE ?_;ext;show⟨by rw[ya];show qi (by omega),rfl,us++[t],by rw[yF];rfl,by rw[yt];simp;omega,by rw[yG rfl];show hU.snoc z3⟩
    .obtain⟨rfl,us,rfl,ae,hU⟩:=I;rw[show(ts.map V.ref).length=n.length by rw[ya,N.len],yW] at hU;rw[ya] at ae;show⟨by rw[ya];show Yh (qi (by omega)),fun kl Y=>?_⟩;have ap:=s3.trans s4;have s5:=qI ap (o:=.lst (us.map V.ref)) Y;have af:=qI (Sr G) (o:=.lst (us.map V.ref)) Y;have aa:upd G kl (.lst (us.map V.ref)) kl=some (.lst (us.map V.ref)):=qb;have ad:PL (upd G kl (.lst (us.map V.ref))) kl us (zA (jU ss c) n):=⟨aa,hU.mono fun _ _ z=>af _ _ z⟩;have ac:=af _ _ X;generalize upd G kl (.lst (us.map V.ref))=G5 at s5 aa ad ac
     have L:∀{a b:Str},(a,b)∈zA (jU ss c) n↔(a,b)∈n/\a∈jU ss c/\b∈jU ss c:=fun{a b}=>by
      unfold zA;rw[yp,yY,yU,yU]
     have hg:TGo (jU ss c) (zA (jU ss c) n):=by
      show⟨yi (YF _ _) (by rw[u];show ah),fun ab p=>?_,?_⟩
      .obtain⟨h1,h2,h3⟩:=L.mp p;rw[u] at h1;show⟨h2,h3,W.ir _ _ ((zc hw W.adj).mp h1).1⟩
      .show xl (fun{q r} hq hr C=>⟨C,fun z=>?_⟩) ((XC).nodup (by rw[u];show qes hw):(zA (jU ss c) n).Nodup);have q1:=(L.mp hq).1;have r1:=(L.mp hr).1;rw[u] at q1 r1;obtain⟨_,i1,j1,l1,a1,b1⟩:=(zc hw W.adj).mp q1;obtain⟨_,i2,j2,l2,a2,b2⟩:=(zc hw W.adj).mp r1;rw[z] at a1 b1;have:=qy hw.nd a1 b2;have:=qy hw.nd b1 a2;omega
     ext;show fun y dx O ak C=>qf5 ac (by omega) (hw.nd.filter _) (fun z hz=>hw.nm z (mem_out.mp hz).1) ad hg O ak C fun ms H9 s9 _ W9=>⟨rfl,?_⟩;show q y ms H9 (s5.trans s9) (W9.to (fun ab p=>?_) fun a b A B=>?_)
     .unfold zA at p;obtain⟨h1,h2⟩:=yp.mp p;rw[yY,yU,yU] at h2;show⟨h2.1,h2.2,(W.ok _ h1).2.2⟩
     .have k1:∀{a b:Str},a∈jU ss c->b∈jU ss c->((a,b)∈zA (jU ss c) tps↔(a,b)∈tps):=fun A hb=>by
       unfold zA;rw[yp,yY,yU,yU];show⟨fun z=>z.1,fun z=>⟨z,A,hb⟩⟩
      unfold tA;rw[k1 A B,k1 B A,L,L,u];constructor
      .rintro (z | z)
       .show((zc hw W.adj).mp z.1).1
       .show((zc hw W.adj).mp z.1).1.symm
      .intro z;obtain⟨ia,ga⟩:=yf (mem_out.mp A).1;obtain⟨ib,gb⟩:=yf (mem_out.mp B).1;rcases kW ia ib with k | k | k
       .show .inl ⟨(zc hw W.adj).mpr ⟨z,ia,ib,k,ga,gb⟩,A,B⟩
       .subst k;rw[ga] at gb;show absurd (ym gb) (W.ir _ _ z)
       .show .inr ⟨(zc hw W.adj).mpr ⟨z.symm,ib,ia,k,gb,ga⟩,B,A⟩
noncomputable def rmN(ss:List Str)(m:Nat):List Str:=ss.filter fun s=>m.testBit (ss.idxOf s)
theorem rmN_len(ss:List Str)(m:Nat):(rmN ss m).length<=ss.length:=YF _ _
theorem qc3(b:ss.Nodup){k:Nat}(a:ss[k]?=some y):y∈rmN ss m↔m.testBit k=true:=by
 unfold rmN;rw[yp,qby b a];show⟨fun z=>z.2,fun z=>⟨ye a,z⟩⟩
theorem qew(c:ss.Nodup){k:Nat}(b:ss[k]?=some y):rmN ss (ze m (2 ^ k))=del (rmN ss m) y:=by
 unfold rmN del;rw[List.filter_filter];show xp fun s f=>?_;rw[qca,YV];have a:ss[ss.idxOf s]?=some s:=by rw[yb (yR f),Ym]
 have e:decide (k=ss.idxOf s)=decide (s=y):=Yq.mpr ⟨fun z=>by rw[<- z,b] at a;show(ym a).symm,fun z=>by rw[z] at a;rw[z];show qy c b a⟩;rw[e,Bool.and_comm]
theorem rmN_perm(b:ss.Nodup){k:Nat}(f:ss[k]?=some y)(g:m.testBit k=true):(rmN ss m).Perm (y::rmN ss (ze m (2 ^ k))):=by
 rw[qew b f];have c:(rmN ss m).Nodup:=b.filter _;show(List.perm_ext_iff_of_nodup c (yo.mpr ⟨fun z=>(mem_del.mp z).2 rfl,c.filter _⟩)).mpr fun a=>?_;rw[yv,mem_del];constructor
 .intro h;by_cases e:a=y
  .show .inl e
  .show .inr ⟨h,e⟩
 .rintro (e | e)
  .rw [e];show(qc3 b f).mpr g
  .show e.1
section
variable{tps:List (Str×Str)}
theorem mo_perm(hi:∀ a b,tA tps a b->a≠b)(h:l.Nodup)(p:l.Perm l')(h1:l.length<=n)(i:l'.length<=m):mo tps n l=mo tps m l':=by
 have g:∀{l l':List Str} {n m:Nat},l.Nodup->l.Perm l'->l.length<=n->l'.length<=m->mo tps n l<=mo tps m l':=fun{l l' n m} h p h1 i=>by
  obtain⟨f,j,c⟩:=qdJ hi n h1 h;have:=qdI hi m i (p.nodup_iff.mp h) (f:=f) ⟨j.sym,j.tie,fun a b e=>p.mem_iff.mp (j.inn a b e)⟩;have e:qbO f l=qbO f l':=by unfold qbO;show(p.filter _).length_eq
  omega
 show Xl (g h p h1 i) (g (p.nodup_iff.mp h) p.symm i h1)
noncomputable def tbQ(tps:List (Str×Str))(ss:List Str)(m:Nat):Nat:=mo tps ss.length (rmN ss m)
structure IsM(tps:List (Str×Str))(ss:List Str)(nb:Nat->Bool)(r top:Nat)(v:Nat):Prop where
 lo:tbQ tps ss r<=v
 up:∀ o,o<top->nb o=true->1+tbQ tps ss (ze r (2 ^ o))<=v
 at_:v=tbQ tps ss r\/∃ o,o<top/\nb o=true/\v=1+tbQ tps ss (ze r (2 ^ o))
theorem tb_most(hi:∀ a b,tA tps a b->a≠b)(f:ss.Nodup){k v:Nat}{x:Str}(G:ss[k]?=some x)(F:m.testBit k=true)(A:Nat->Bool)(j:∀ o y,ss[o]?=some y->(A o=true↔((ze m (2 ^ k)).testBit o=true/\tA tps x y)))(h:IsM tps ss A (ze m (2 ^ k)) ss.length v):v=tbQ tps ss m:=by
 have E:(rmN ss m).Nodup:=f.filter _;have i:(rmN ss (ze m (2 ^ k))).Nodup:=f.filter _;have w:=rmN_perm f G F;have hl:=rmN_len ss m;have p:(x::rmN ss (ze m (2 ^ k))).length<=ss.length:=by rw[<- w.length_eq];show hl
 have e:tbQ tps ss m=mo tps (ss.length-1+1) (x::rmN ss (ze m (2 ^ k))):=by
  unfold tbQ;show mo_perm hi E w hl (by omega)
 have l:(rmN ss (ze m (2 ^ k))).length<=ss.length-1:=by rw[yC] at p;omega
 have C:mo tps (ss.length-1) (rmN ss (ze m (2 ^ k)))=tbQ tps ss (ze m (2 ^ k)):=qfs hi l (by omega) i;obtain⟨t,u,n⟩:=qa8 (fun y=>1+mo tps (ss.length-1) (del (rmN ss (ze m (2 ^ k))) y)) ((rmN ss (ze m (2 ^ k))).filter (tB tps x)) (mo tps (ss.length-1) (rmN ss (ze m (2 ^ k))))
 have s:∀{o:Nat} {y:Str},ss[o]?=some y->mo tps (ss.length-1) (del (rmN ss (ze m (2 ^ k))) y)=tbQ tps ss (ze (ze m (2 ^ k)) (2 ^ o)):=fun{o y} c=>by
  unfold tbQ;rw[qew f c];show qfs hi (yi (qb7 _ _) l) (yi (qb7 _ _) (by omega)) (i.filter _)
 have D:mo tps (ss.length-1+1) (x::rmN ss (ze m (2 ^ k)))=((rmN ss (ze m (2 ^ k))).filter (tB tps x)).foldl (fun r y=>max r (1+mo tps (ss.length-1) (del (rmN ss (ze m (2 ^ k))) y))) (mo tps (ss.length-1) (rmN ss (ze m (2 ^ k)))):=rfl;rw[e,D];generalize ((rmN ss (ze m (2 ^ k))).filter (tB tps x)).foldl (fun r y=>max r (1+mo tps (ss.length-1) (del (rmN ss (ze m (2 ^ k))) y))) (mo tps (ss.length-1) (rmN ss (ze m (2 ^ k))))=W at t u n;rw[C] at t n;apply Xl
 .rcases h.at_ with z | ⟨o,g,no,z⟩
  .omega
  .have c:ss[o]?=some ss[o]:=yb g;generalize ss[o]=y at c;obtain⟨I,J⟩:=(j o y c).mp no;have:=u y (yp.mpr ⟨(qc3 f c).mpr I,tB_iff.mpr J⟩)
   (try dsimp only at this)
   rw[s c] at this;omega
 .rcases n with z | ⟨y,c,z⟩
  .have:=h.lo;omega
  .obtain⟨B,H⟩:=yp.mp c;have q:y∈ss:=(yp.mp B).1;obtain⟨o,g⟩:=yf q
   (try dsimp only at z)
   rw[s g] at z;have:=h.up o (yc.mp g).1 ((j o y g).mpr ⟨(qc3 f g).mp B,tB_iff.mp H⟩);omega
end
theorem KG:FnScope ["_law_many_here","_law_bits_here","_law_found","_law_room","_law_low","_law_rest","_law_most","_law_near","_law_other"] ["_law_many_here","_law_bits_here"] (qh qaM):=fS
theorem qfd(h:n<=5000):n<sizeLine:=Yp h (by decide)
theorem qf6(n:ss.Nodup){TI:List (Nat×Nat)}(m:TJ ss.length TI){x:Str}(a:ss[i]?=some x)(b:ss[j]?=some y):tA (TI.map (nmP ss)) x y↔((i,j)∈TI\/(j,i)∈TI):=by
 have c:∀{i j:Nat} {x y:Str},ss[i]?=some x->ss[j]?=some y->((x,y)∈TI.map (nmP ss)↔(i,j)∈TI):=fun{i j x y} a b=>by
  constructor
  .intro h;obtain⟨q,o,e⟩:=yQ.mp h;unfold nmP at e
   injection e with e1 e2
   have l:=m.2.1 q o;have f:=qaU (ss:=ss) (i:=q.1) (by omega);have g:=qaU (ss:=ss) (i:=q.2) (by omega);rw[e1] at f;rw[e2] at g;have:=qy n f a;have:=qy n g b;have:q=(i,j):=Xk (by assumption) (by assumption);rw[<- this];show o
  .intro h;show yQ.mpr ⟨(i,j),h,?_⟩;have l:=m.2.1 _ h;dsimp only at l;have f:=qaU (ss:=ss) (i:=i) (by omega);have g:=qaU (ss:=ss) (i:=j) (by omega);rw[a] at f;rw[b] at g;unfold nmP;rw[<- ym f,<- ym g]
 unfold tA;rw[c a b,c b a]
theorem offN_lt{k:Nat}(h:m.testBit k=true):ze m (2 ^ k)<m:=by
 unfold ze
 have h1:m &&& 2 ^ k=2 ^ k:=by
  apply Xw;intro i;rw[Xm,YV];by_cases e:k=i
  .subst e;rw[h];simp
  .simp [e]
 have a:m &&& 2 ^ k<=m:=Nat.and_le_left;have b:=XI k;omega
theorem tb_zero(tps:List (Str×Str))(ss:List Str):tbQ tps ss 0=0:=by
 unfold tbQ rmN;have:(ss.filter fun s=>(0:Nat).testBit (ss.idxOf s))=[]:=List.filter_eq_nil_iff.mpr fun s _=>by rw[Nat.zero_testBit];decide
 rw[this];cases ss.length<;>rfl
section
variable{tps:List (Str×Str)}{ss:List Str}{nb:Nat->Bool}{r top v:Nat}
theorem IsM.skip(h:IsM tps ss nb r top v)(e:¬ nb top=true):IsM tps ss nb r (top+1) v:=
 ⟨h.lo,fun o g f=>by
  by_cases z:o=top
  .rw [z] at f;show absurd f e
  .show h.up o (by omega) f,by
  rcases h.at_ with z | ⟨o,a,b,c⟩
  .show .inl z
  .show .inr ⟨o,by omega,b,c⟩⟩
theorem IsM.take(h:IsM tps ss nb r top v)(e:nb top=true):IsM tps ss nb r (top+1) (max v (1+tbQ tps ss (ze r (2 ^ top)))):=
 ⟨yi h.lo (Kq _ _),fun o g f=>by
  by_cases z:o=top
  .rw [z];show Nat.le_max_right _ _
  .show yi (h.up o (by omega) f) (Kq _ _),by
  by_cases z:v<=1+tbQ tps ss (ze r (2 ^ top))
  .show .inr ⟨top,by omega,e,Nat.max_eq_right z⟩
  .rw [Nat.max_eq_left (by omega)];rcases h.at_ with z | ⟨o,a,b,c⟩
   .show .inl z
   .show .inr ⟨o,by omega,b,c⟩⟩
end
noncomputable def tbL(tps:List (Str×Str))(ss:List Str)(m:Nat):List Nat:=(List.range m).map (tbQ tps ss)
theorem qfe(h:i<m):(tbL tps ss m).getD i 0=tbQ tps ss i:=by
 unfold tbL;rw[Ye,yd,List.getElem?_range h];rfl
theorem qcc(tps:List (Str×Str))(ss:List Str)(m:Nat):(tbL tps ss m).length=m:=by unfold tbL;rw[ya,List.length_range]
theorem tbL_succ(tps:List (Str×Str))(ss:List Str)(m:Nat):tbL tps ss (m+1)=tbL tps ss m++[tbQ tps ss m]:=by unfold tbL;rw[XJ,yF];rfl
inductive spTbQ(vs:List V)(H:Hp)(Q:VK)(E:XK):Prop|mk (lb:Addr) (ss:List Str) (TI:List (Nat×Nat)) (bs:List Nat) (_:vs=[.int (ss.length:Int),.ref lb]) (_:ss.length<=12) (_:ss.Nodup) (_:TJ ss.length TI) (_:H lb=some (.lst (zt bs))) (_:BtJ ss.length TI bs) (_:∀(l:Addr) (H':Hp),L2.Same H H'->H l=none->H' l=some (.lst (zt (tbL (TI.map (nmP ss)) ss (2 ^ ss.length))))->Q (.ref l) H')
theorem ok_tbQ(F:Fun K "_law_table" "_law_table" qaM f fd)(T:Txt K mg cc cw):FnOk P w K mg base CX0 1 f fd ["_law_many_here","_law_bits_here"] spTbQ:=by
 show F.ok KG fun _ _ _ _ H vs Q E hr h=>?_
 .obtain⟨lb,ss,TI,bs,rfl,ah,hn,hj,ae,O,q⟩:=h;have Y:=jY hr;obtain⟨tps,s⟩:∃ tps,tps=TI.map (nmP ss):=⟨_,rfl⟩;rw[<- s] at q;have ao:2 ^ ss.length<=4096:=xO (by decide) ah;have p0:0<2 ^ ss.length:=XI _;have ag:∀{i j:Nat} {x y:Str},ss[i]?=some x->ss[j]?=some y->(tA tps x y↔qf4 bs i j=true):=fun hx Z=>by rw[s,qf6 hn hj hx Z];show(O.2.2 _ _).symm
  have hi:∀ a b,tA tps a b->a≠b:=fun a b h e=>by
   subst e;rw[s] at h;rcases h with h | h <;>
   .obtain⟨q,hq,e⟩:=yQ.mp h;unfold nmP at e
    injection e with e1 e2
    have l:=hj.2.1 q hq;have z1:=qaU (ss:=ss) (i:=q.1) (by omega);have z2:=qaU (ss:=ss) (i:=q.2) (by omega);rw[e1] at z1;rw[e2] at z2;have:=qy hn z1 z2;omega
  show⟨_,(qc (qk (i:=2) KG.nd rfl (yL rfl) (qG (qa qg qd)))
 (qc (qZ yP rfl (qbj rfl T.b_range (qa qg (qa (qz qav qg (pv 0)) qd))) (qu (i:=3) KG.nd rfl (yL rfl))
 (qc (qk (i:=4) KG.nd rfl (yL rfl) qg)
 (qc (qaZ yP (qj (zI (K:=K) rfl Y) (qz qaV (qz qc8 (pv 3) (pv 4)) qg) qg (qA _))
 (qe (qk (i:=4) KG.nd rfl (yL rfl) (qz (jV (K:=K) rfl) (pv 4) qg))))
 (qc (qk (i:=5) KG.nd rfl (yL rfl) (qz qaV (pv 3) (qan qdO (qz qav qg (pv 4)))))
 (qc (qk (i:=6) KG.nd rfl (yL rfl) (qp (qr (K:=K) rfl Y) (pv 2) (pv 5) (fun _ _=>rfl)))
 (qc (qk (i:=7) KG.nd rfl (yL rfl) (qz qaV (pv 5) (qp (qr (K:=K) rfl Y) (pv 1) (pv 4) (fun _ _=>rfl))))
 (qc (qZ yP rfl (qbj rfl T.b_range (qa (qz (jV (K:=K) rfl) (pv 4) qg) (qa (pv 0) qd))) (qu (i:=8) KG.nd rfl (yL rfl))
 (qe (qM (qj (zI (K:=K) rfl Y) (qz qaV (qz qc8 (pv 7) (pv 8)) qg) qg (qA _)) (qe (qk (i:=6) KG.nd rfl (yL rfl) (qv (qcm rfl) rfl T.b_max boot_max (qa (pv 6) (qa (qz (jV (K:=K) rfl) qg (qp (qr (K:=K) rfl Y) (pv 2) (qz qaV (pv 5) (qan qdO (qz qav qg (pv 8)))) (fun _ _=>rfl))) qd))))) qx)))
 (qe (qL (qaW (K:=K) rfl yK Yc Yd qQ (pv 2) (qa (pv 6) qd)))))))))))
 (qe (qm (pv 2))))),?_⟩
  ext;show⟨by show 1<=sizeLine;decide,fun l hl=>?_⟩;have s0:=qI (Sr H) (o:=.lst [.int 0]) hl
  have e0:upd H l (.lst [.int 0]) l=some (.lst (zt (tbL tps ss 1))):=by
   rw[qb];unfold tbL zt;rw[XJ];simp[tb_zero]
  generalize upd H l (.lst [.int 0])=H0 at s0 e0;ext;show qft ?_;ext;show vI ⟨by omega,by omega,by decide⟩ ?_;ext;have aa:(1*2 ^ ((ss.length:Int)).toNat:Int)=((2 ^ ss.length:Nat):Int):=by rw[Yb,kU,xH];rfl
  rw[aa];show⟨1,_,rfl,⟨by decide,by decide,by omega,by omega⟩,j9 (fun i t J=>∃ x3 x4 x5 x6 x7 M,t=[some (.int (ss.length:Int)),some (.ref lb),some (.ref l),x3,x4,x5,x6,x7,M]/\L2.Same H J/\J l=some (.lst (zt (tbL tps ss (i+1))))) ⟨none,none,none,none,none,none,rfl,s0,e0⟩ (fun i t J ak I=>?_) fun t J I=>?_⟩
  .obtain⟨x3,x4,x5,x6,x7,M,rfl,sJ,u⟩:=I;obtain⟨m,hm⟩:∃ m,m=i+1:=⟨_,rfl⟩;have em:(1:Int)+(i:Int)=(m:Int):=by omega
   rw[em];rw[<- hm] at u ⊢;have al:0<m:=by omega
   have am:m<2 ^ ss.length:=by omega
   have R:=sJ _ _ ae;ext;obtain⟨Wv,A⟩:∃ Wv:Nat->L2.St->Hp->Prop,Wv=fun d t J'=>J'=J/\∃ g:Nat,t=[some (.int (ss.length:Int)),some (.ref lb),some (.ref l),some (.int (m:Int)),some (.int (g:Int)),x5,x6,x7,M]/\d=ss.length-g/\∀ j,j<g->m.testBit j=false:=⟨_,rfl⟩;show⟨Wv,⟨_,by rw[A];show⟨rfl,0,rfl,rfl,fun j h=>by omega⟩⟩,fun d t J' N=>?_⟩;rw[A] at N;obtain⟨rfl,g,rfl,hd,n⟩:=N
   have S:g<ss.length:=by
    apply YJ;intro h;obtain⟨j,C⟩:=Nat.exists_testBit_of_ne_zero (x:=m) (by omega);by_cases ad:j<g
    .rw [n j ad] at C;cases C
    .have:2 ^ ss.length<=m:=yi (xO (by decide) (show ss.length<=j by omega)) (Nat.ge_two_pow_of_testBit C);omega
   ext;show vI (by omega) ?_;ext;show qb9 ?_;rw[qds];show⟨_,rfl,?_⟩
   cases hb:m.testBit g with
   | false =>
    show zE ⟨fun ai H'=>∃ m',m'<d/\Wv m' ai H',fun _ _ z=>z,?_⟩;ext;show⟨ss.length-(g+1),by omega,?_⟩;rw[A];show⟨rfl,g+1,by simp,rfl,fun j h=>?_⟩;by_cases e:j=g
    .rw [e];show hb
    .show n j (by omega)
   | true =>
    show yq ?_;obtain⟨x,hx⟩:∃ x,ss[g]?=some x:=⟨_,yb S⟩;obtain⟨r,p⟩:∃ r,r=ze m (2 ^ g):=⟨_,rfl⟩;have X:r<m:=by rw[p];show offN_lt hb
    have pw:∀ k:Nat,(1*2 ^ ((k:Int)).toNat:Int)=((2 ^ k:Nat):Int):=fun k=>by rw[Yb,kU,xH];rfl
    ext;show vI ⟨by omega,by omega,by decide⟩ ?_;ext;show vU ?_;ext;rw[pw,qat,<- p];ext
    have tg:∀ k,k<m->(zt (tbL tps ss m))[k]?=some (.int (tbQ tps ss k:Nat)):=fun k hk=>by
     rw[jS (by rw[qcc];show hk),qfe hk]
    show .inl (zq u (qo (tg r X)) ?_);ext;show .inl (zq R (qo (jS (by rw[O.1];show S))) ?_);ext;rw[and_nat];obtain⟨L,D⟩:∃ L,L=r &&& bs.getD g 0:=⟨_,rfl⟩;rw[<- D]
    have af:∀ o y,ss[o]?=some y->(L.testBit o=true↔(r.testBit o=true/\tA tps x y)):=fun o y Z=>by
     rw[D,Xm,yY,ag hx Z];rfl
    have U:∀ o,o<=g->L.testBit o=false:=fun o ho=>by
     rw[D,Xm,p,qca,YV];by_cases e:o=g
     .subst e;simp
     .rw [n o (by omega)];rfl
    ext;show qft ?_;ext;show⟨_,_,rfl,⟨by omega,by omega,by omega,by omega⟩,j9 (fun i t G=>G=J'/\∃(v:Nat) (M:Option V),t=[some (.int (ss.length:Int)),some (.ref lb),some (.ref l),some (.int (m:Int)),some (.int (g:Int)),some (.int (r:Int)),some (.int (v:Int)),some (.int (L:Int)),M]/\IsM tps ss (fun o=>L.testBit o) r (g+1+i) v) ⟨rfl,_,_,rfl,yh _,(fun o ho h=>by rw[U o (by omega)] at h;cases h),.inl rfl⟩ (fun i t G aj I=>?_) fun t G I=>?_⟩
    .obtain⟨rfl,v,y8,rfl,hv⟩:=I;obtain⟨o,ho⟩:∃ o,o=g+1+i:=⟨_,rfl⟩;have eo:(g:Int)+1+(i:Int)=(o:Int):=by omega
     have an:o<ss.length:=by omega
     rw[eo];rw[<- ho] at hv;have ac:g+1+(i+1)=o+1:=by omega
     rw[ac];ext;show vI (by omega) ?_;ext;show qb9 ?_;rw[qb1];ext;show qP (fun B=>?_) fun B=>⟨rfl,v,_,rfl,hv.skip B⟩;ext;show vI ⟨by omega,by omega,by decide⟩ ?_;ext;show vU ?_;ext;rw[pw,qat];have W:ze r (2 ^ o)<m:=Yp (by unfold ze;omega) X;show .inl (zq u (qo (tg _ W)) ?_);ext;show⟨_,_,rfl,?_⟩;show⟨rfl,max v (1+tbQ tps ss (ze r (2 ^ o))),some (.int (o:Int)),?_,hv.take B⟩;have e:((max v (1+tbQ tps ss (ze r (2 ^ o))):Nat):Int)=if 1+(tbQ tps ss (ze r (2 ^ o)):Int)>(v:Int) then 1+(tbQ tps ss (ze r (2 ^ o)):Int) else(v:Int):=by split<;>omega
     rw[e];rfl
    .obtain⟨rfl,v,y8,rfl,hv⟩:=I;have et:g+1+((ss.length:Int)-((g:Int)+1)).toNat=ss.length:=by omega
     rw[et,p] at hv;have ev:=tb_most hi hn hx hb (fun o=>L.testBit o) (fun o y Z=>by rw[<- p];show af o y Z) hv;ext;show⟨.inl ⟨rfl,_,.of u⟩,?_⟩;ext;show⟨l,_,_,rfl,rfl,u,by unfold zt;rw[ya,qcc];show qfd (by omega),?_⟩;show⟨_,_,_,_,_,_,rfl,fun c o z=>?_,?_⟩
     .rw [qf (fun z'=>by rw[z',hl] at z;cases z)];show sJ c o z
     .rw [qb,tbL_succ,ev];unfold zt;rw[yF];rfl
  .obtain⟨x3,x4,x5,x6,x7,M,rfl,sJ,u⟩:=I;ext;have e:((2 ^ ss.length:Nat)-1:Int).toNat+1=2 ^ ss.length:=by omega
   rw[e] at u;show q l J sJ hl u
theorem KN:FnScope ["_law_names_here","_law_bits_here","_law_thing","_law_seen","_law_pair","_law_one","_law_other"] ["_law_names_here","_law_bits_here","_law_thing"] (qh j6):=fS
noncomputable def nuQ(ss:List Str)(qs:List (Str×Str)):List Nat:=(qw qs).map fun s=>ss.idxOf s
theorem qcd{g:Addr}{gs:List Nat}{k:Nat}{Q:VK}(h:H g=some (.lst (gs.map iV)))(q:Q (.bl (decide (k∈gs))) H):qec K false (iV k) (.ref g) H Q:=by
 classical
 show .inr (.inr ⟨g,gs.map iV,fun z=>eqV z (iV k),1,rfl,SqL.of h,by decide,fun z hz=>?_,?_⟩)
 .obtain⟨j,b,rfl⟩:=yQ.mp hz;show .flat rfl rfl
 .have e:(gs.map iV).any (fun z=>eqV z (iV k))=decide (k∈gs):=by
   rw[YZ,Y9,yU];constructor
   .rintro ⟨z,hz,e⟩;obtain⟨j,b,rfl⟩:=yQ.mp hz;have a:=j5 (j:Int) (k:Int);rw[yD (by decide)] at a;rw[a,yU] at e;have:j=k:=by omega
    show this ▸ b
   .intro c;show⟨iV k,yQ.mpr ⟨k,c,rfl⟩,?_⟩;have a:=j5 (k:Int) (k:Int);rw[yD (by decide)] at a;rw[a];show yB rfl
  rw[yD (by decide),e];show q
theorem qdB{m:Addr}{Q:VK}(e:H m=some (.lst (l.map V.str)))(q:Q (.bl (!decide (s∈l))) H):qec K true (.str s) (.ref m) H Q:=
 .inl ⟨m,_,rfl,.inl (SqL.of e),rfl,YM.mpr fun x a=>by(obtain⟨s,_,rfl⟩:=yQ.mp a;rfl),by rw[yG rfl,qc0];show q⟩
theorem qex(b:s∈ss)(c:t∈ss)(e:ss.idxOf s=ss.idxOf t):s=t:=by
 have h1:ss[ss.idxOf s]?=some s:=by rw[yb (yR b),Ym]
 have a:ss[ss.idxOf t]?=some t:=by rw[yb (yR c),Ym]
 rw[e,a] at h1;show(ym h1).symm
inductive spArQ(vs:List V)(H:Hp)(Q:VK)(E:XK):Prop|mk (n bb l:Addr) (ss:List Str) (TI:List (Nat×Nat)) (bs:List Nat) (us:List Addr) (qs:List (Str×Str)) (_:vs=[.ref n,.ref bb,.ref l]) (_:H n=some (.lst (ss.map V.str))) (_:ss.Nodup) (_:TJ ss.length TI) (_:H bb=some (.lst (zt bs))) (_:BtJ ss.length TI bs) (_:PL H l us qs) (_:PGo ss (TI.map (nmP ss)) qs) (_:∀ H',L2.Same H H'->Q (.bl true) H')
theorem ok_arQ(F:Fun K "_law_are_pairs" "_law_are_pairs" j6 f fd)(T:Txt K mg cc cw):FnOk P w K mg base CX0 1 f fd ["_law_names_here","_law_bits_here","_law_thing"] spArQ:=by
 show F.ok KN fun _ _ _ s H vs Q E hr h=>?_
 .obtain⟨n,bb,l,ss,TI,bs,us,qs,rfl,hn,hN,hj,O,G,⟨hl,A⟩,g,q⟩:=h;have r:=jY hr;have few:=g.few;have U:=A.len;show⟨_,(qc (qM (qX (qW (qv (qaX (K:=K) rfl) rfl T.b_isinstance YL (qa (pv 2) (qa (jx (v:=.ty "list") rfl T.b_list xI rfl) qd))))) (qe (qm jl)) qx)
 (qc (qk (i:=3) KN.nd rfl (yL rfl) (qG qd))
 (qc (qZ yP rfl (qS (K:=K) rfl (pv 2)) (qu (i:=4) KN.nd rfl (yL rfl))
 (qc (qM (PW.pt (qak (qX (qW (qv (qaX (K:=K) rfl) rfl T.b_isinstance YL (qa (pv 4) (qa (jx (v:=.ty "tuple") rfl T.b_tuple kO rfl) qd))))) (qak (qj (qaq (K:=K) rfl r) (qv (zR (K:=K) rfl) rfl T.b_len xn (qa (pv 4) qd)) qg (qA _)) (qak (qj (zH (K:=K) rfl r) (qp (qr (K:=K) rfl r) (pv 4) qg (fun _ _=>rfl)) (pv 0) (by with_unfolding_all rfl)) (zO (qj (zH (K:=K) rfl r) (qp (qr (K:=K) rfl r) (pv 4) qg (fun _ _=>rfl)) (pv 0) (by with_unfolding_all rfl))))))) (qe (qm jl)) qx)
 (qc (qk (i:=5) KN.nd rfl (yL rfl) (qaW (K:=K) rfl yK YG YQ (qar (K:=K) rfl) (pv 0) (qa (qp (qr (K:=K) rfl r) (pv 4) qg (fun _ _=>rfl)) qd)))
 (qc (qk (i:=6) KN.nd rfl (yL rfl) (qaW (K:=K) rfl yK YG YQ (qar (K:=K) rfl) (pv 0) (qa (qp (qr (K:=K) rfl r) (pv 4) qg (fun _ _=>rfl)) qd)))
 (qc (qM (PW.pt (qak (qj (zr (K:=K) rfl r) (pv 5) (pv 3) (by with_unfolding_all rfl)) (qak (qj (zr (K:=K) rfl r) (pv 6) (pv 3) (by with_unfolding_all rfl)) (zO (qj (zI (K:=K) rfl r) (qz qaV (qz qc8 (qp (qr (K:=K) rfl r) (pv 1) (pv 5) (fun _ _=>rfl)) (pv 6)) qg) qg (qA _)))))) (qe (qm jl)) qx)
 (qe (qL (qaW (K:=K) rfl yK XF XG qaR (pv 3) (qa (qG (qa (pv 5) (qa (pv 6) qd))) qd)))))))))
 (qe (qm jl))))),?_⟩
  ext;show qbY (.inl (.lst hl)) rfl (zV K "list" (by simp) "list" (by simp)) ?_;ext;show yq ?_;ext;show⟨by show 0<=sizeLine;decide,fun d hd=>?_⟩;have W:=qI (Sr H) (o:=.lst []) hd;have ed:upd H d (.lst []) d=some (.lst ((nuQ ss []).map iV)):=qb;generalize upd H d (.lst [])=H1 at W ed;ext;show .inl ⟨⟨_,.of (W _ _ hl)⟩,qN (xs:=us.map V.ref) (fun i N J=>L2.Same H J/\∃ Y Z y6,N=[some (.ref n),some (.ref bb),some (.ref l),some (.ref d),Y,Z,y6]/\J d=some (.lst ((nuQ ss (qs.take i)).map iV))) ⟨W,_,_,_,rfl,ed⟩ (fun i N J _ I=>.of (I.1 _ _ hl)) (fun i y N J hy I=>?_) fun N J I=>?_⟩
  .obtain⟨x,Y,Z,y6,rfl,p⟩:=I;rw[yd] at hy;obtain⟨b,B,rfl⟩:=yn.mp hy;have hi:i<us.length:=(yc.mp B).1;obtain⟨ab,u⟩:∃ ab,qs[i]?=some ab:=⟨_,yb (by rw[<- U];show hi)⟩;have eb:=A.at_ i b ab B u;obtain⟨M,m1,m2,ac⟩:=g.inn ab (ye u);obtain⟨R,aa,n1,n2⟩:=g.new u;have ad:(qw (qs.take i)).length<=60:=by rw[zL,yX];omega
   have a:=x _ _ eb;have m:=x _ _ hn;have C:=x _ _ O;ext;show qbY (.inl (.tup a)) rfl (zV K "tuple" (by simp) "tuple" (by simp)) ?_;ext;show yq ?_;ext;show qfR a ?_;ext;show .inl ⟨rfl,rfl,?_⟩;ext;show yq ?_;ext;show .inl (qap a (v:=.str ab.1) (qo (j:=0) rfl) ?_);ext;show qdB m ?_;rw[yB m1];ext;show yq ?_;ext;show .inl (qap a (v:=.str ab.2) (qo (j:=1) rfl) ?_);ext;show qdB m ?_;rw[yB m2];ext;show yq ?_;ext;show⟨.inl ⟨rfl,_,.of m⟩,?_⟩;ext;show .inl (qap a (v:=.str ab.1) (qo (j:=0) rfl) ?_);ext;show⟨n,ss,_,rfl,rfl,.of m,m1,?_⟩;ext;show⟨.inl ⟨rfl,_,.of m⟩,?_⟩;ext;show .inl (qap a (v:=.str ab.2) (qo (j:=1) rfl) ?_);ext;show⟨n,ss,_,rfl,rfl,.of m,m2,?_⟩
   have L:∀{s:Str},s∈ss->s∉qw (qs.take i)->ss.idxOf s∉nuQ ss (qs.take i):=fun{s} hs h z=>by
    obtain⟨t,M,e⟩:=yQ.mp z
    have S:t∈ss:=by
     obtain⟨qq,hq,hm⟩:=xj.mp M;have:=g.inn qq (kt hq);rcases yv.mp hm with z | z
     .rw [z];show this.2.1
     .rw [yy.mp z];show this.2.2.1
    have:t=s:=qex S hs e;show h (this ▸ M)
   ext;show qcd p ?_;rw[yl (L m1 n1)];ext;show yq ?_;ext;show qcd p ?_;rw[yl (L m2 n2)];ext;show yq ?_;ext;have i1:ss[ss.idxOf ab.1]?=some ab.1:=by rw[yb (yR m1),Ym]
   have i2:ss[ss.idxOf ab.2]?=some ab.2:=by rw[yb (yR m2),Ym]
   have l1:ss.idxOf ab.1<ss.length:=yR m1;have D:(bs.getD (ss.idxOf ab.1) 0).testBit (ss.idxOf ab.2)=true:=(G.2.2 _ _).mpr ((qf6 hN hj i1 i2).mp M);show .inl (zq C (qo (jS (by rw[G.1];show l1))) ?_);ext;show vI (by omega) ?_;ext;show qb9 ?_;rw[qds,D];ext;show yq ?_;ext;show⟨.inl ⟨rfl,_,.of p⟩,?_⟩;ext;show⟨by show 2<=sizeLine;decide,fun e he=>?_⟩;have X:=qI (Sr J) (o:=.lst [iV (ss.idxOf ab.1),iV (ss.idxOf ab.2)]) he;have ee:upd J e (.lst [iV (ss.idxOf ab.1),iV (ss.idxOf ab.2)]) e=some (.lst [iV (ss.idxOf ab.1),iV (ss.idxOf ab.2)]):=qb;generalize upd J e (.lst [iV (ss.idxOf ab.1),iV (ss.idxOf ab.2)])=J3 at X ee;ext;show⟨d,e,_,_,rfl,rfl,X _ _ p,ee,?_,?_⟩
   .unfold nuQ;rw[ya,ya];show Yh (qfd (by show _+2<=5000;omega))
   .show⟨fun c o z=>?_,_,_,_,rfl,?_⟩
    .rw [qf (fun z'=>by rw[z',hd] at z;cases z)];show X _ _ (x c o z)
    .rw [qb,R];unfold nuQ;rw[zn,yF,yF];rfl
  .obtain⟨x,Y,Z,y6,rfl,p⟩:=I;ext;show q J x
theorem ns_one(c:WOk ss ns)(e:WOk ss ms)(f:Adj ss ns tps)(g:Adj ss ms tps):ns=ms:=by
 have big:∀{ns:List Nat},WOk ss ns->∀ a b,ss.length<=b->(ns.getD a 0).testBit b=false:=fun w a b hb=>Nat.testBit_lt_two_pow (yj (w.lt a) (xO (by decide) hb));apply List.ext_getElem (by rw[c.len,e.len]);intro i h1 l;have h:ns[i]=ns.getD i 0:=by simp[List.getD,h1]
 have j:ms[i]=ms.getD i 0:=by simp[List.getD,l]
 rw[h,j];apply Xw;intro b;by_cases hb:b<ss.length
 .have hi:i<ss.length:=by rw[<- c.len];show h1
  rw[YZ,f i b _ _ (yb hi) (yb hb),g i b _ _ (yb hi) (yb hb)]
 .rw [big c i b (by omega),big e i b (by omega)]
def LvR(ss:List Str)(tps:List (Str×Str))(gs:List Str)(rs:List (Str×Str)):Prop:=∃ ms,WOk (jU ss gs) ms/\Adj (jU ss gs) ms (zA (jU ss gs) tps)/\GrR (jU ss gs) ms rs
theorem LvR.det{rs:List (Str×Str)}(h:LvR ss tps gs rs)(g:LvR ss tps gs rs'):rs=rs':=by
 obtain⟨ms,a,b,c⟩:=h;obtain⟨ns,d,e,f⟩:=g;have:=ns_one a d b e;subst this;show c.det f
theorem ties_rise{g:Str->Nat}(x:l.Nodup)(h:l.Pairwise fun a b=>g a<g b):∀ n,n<=l.length->(∀ q∈qE l ms n,g q.1<g q.2)/\(qE l ms n).Pairwise fun a b=>g a.1<=g b.1:=by
 have at_:∀{i j:Nat} {a b:Str},l[i]?=some a->l[j]?=some b->i<j->g a<g b:=fun{i j a b} f hb p=>by
  obtain⟨h1,v⟩:=yc.mp f;obtain⟨c,w⟩:=yc.mp hb;rw[<- v,<- w];show Yv.mp h i j h1 c p
 have row:∀{i:Nat},i<l.length->∀ q∈qeK l ms i,l[i]?=some q.1/\g q.1<g q.2:=fun{i} hi q m=>by
  obtain⟨o,y,rfl⟩:=yQ.mp m;obtain⟨h1,c⟩:=yp.mp y;have s:=(qcZ x h1).1;have t:l[i]?=some (l.getD i ""):=by rw[Ye,yb hi];rfl
  show⟨t,at_ t (by rw[yb (yR s),Ym]) (yk c)⟩
 intro n
 induction n with
 | zero=>show fun _=>⟨(fun q m=>by cases m),.nil⟩
 | succ n ih =>
  intro hl;obtain⟨A,B⟩:=ih (by omega);have e:qE l ms (n+1)=qE l ms n++qeK l ms n:=by unfold qE;rw[XJ,xW,List.flatMap_singleton]
  rw[e];show⟨fun q m=>?_,List.pairwise_append.mpr ⟨B,?_,fun a f b hb=>?_⟩⟩
  .rcases yA.mp m with z | z
   .show A q z
   .show(row hl q z).2
  .show Yv.mpr fun i j h1 c _=>?_;have C:=(row hl _ (xi h1)).1;have u:=(row hl _ (xi c)).1;rw[C] at u;rw[ym u];show yh _
  .obtain⟨k,r,f⟩:=xj.mp f;have r:=xX.mp r;show Yh (at_ (row (by omega) a f).1 (row hl b hb).1 r)
theorem idx_rise(e:l.Nodup):l.Pairwise fun a b=>l.idxOf a<l.idxOf b:=Yv.mpr fun i j h1 f c=>by
 rw[qby e (yb h1),qby e (yb f)];show c
def RsQ(ss:List Str)(qs:List (Str×Str)):Prop:=(∀ q∈qs,ss.idxOf q.1<ss.idxOf q.2)/\∀(j:Nat) a b,qs[j]?=some a->qs[j+1]?=some b->ss.idxOf a.1<ss.idxOf b.1
theorem names_two(g:(qw qs).Nodup):qs.Pairwise fun a b=>a.1≠b.1:=by
 induction qs with
 | nil=>show .nil
 | cons q r ih =>
  have h:(q.1::q.2::qw r).Nodup:=g;obtain⟨h1,c⟩:=yo.mp h;obtain⟨i,f⟩:=yo.mp c;show List.pairwise_cons.mpr ⟨fun b hb e=>h1 ?_,ih f⟩;rw[e];show yx _ ?_;clear ih c i h1 h g f
  induction r with
  | nil=>cases hb
  | cons x r ih =>
   show b.1∈x.1::x.2::qw r;rcases yv.mp hb with z | z
   .rw [z];show yI
   .show yx _ (yx _ (ih z))
theorem rise_of{rs:List (Str×Str)}(g:ss.Nodup)(hl:l.Sublist ss)(u:∃ p,rs=(qE l ms l.length).filter p)(v:(qw rs).Nodup)(hi:∀ q∈rs,q.1∈ss):RsQ ss rs:=by
 obtain⟨h1,s⟩:=ties_rise (ms:=ms) (g.sublist hl) ((idx_rise g).sublist hl) _ (yh _);obtain⟨p,e⟩:=u;show⟨fun q f=>h1 q (by rw[e] at f;show(yp.mp f).1),fun j a b c hb=>?_⟩;have t:rs.Pairwise fun a b=>ss.idxOf a.1<=ss.idxOf b.1:=by rw[e];show s.filter _
 obtain⟨h,o⟩:=yc.mp c;obtain⟨i,r⟩:=yc.mp hb;have m:=Yv.mp t j (j+1) h i (by omega);have n:=Yv.mp (names_two v) j (j+1) h i (by omega);rw[o,r] at m n;show Nat.lt_of_le_of_ne m fun z=>n ?_;show qex (hi a (ye c)) (hi b (ye hb)) z
theorem qce{f c:List (Str×Str)}:∀(n:Nat) {l:List Str},(∀ a∈l,∀ b∈l,tB f a b=tB c a b)->mo f n l=mo c n l
 | 0,_,_=>by unfold mo;rfl
 | n+1,[],_=>rfl
 | n+1,x::r,h=>by
  have i:∀ a∈r,∀ b∈r,tB f a b=tB c a b:=fun a g b hb=>h a (yx _ g) b (yx _ hb);show(r.filter (tB f x)).foldl _ _=(r.filter (tB c x)).foldl _ _;rw[xp (q:=tB c x) (fun b hb=>h x yI b (yx _ hb)),qce n i]
  have e:(fun(m:Nat) (y:Str)=>max m (1+mo f n (del r y)))=fun m y=>max m (1+mo c n (del r y)):=by
   funext m y;rw[qce n (l:=del r y) fun a g b hb=>i a (mem_del.mp g).1 b (mem_del.mp hb).1]
  rw[e]
theorem keep_mo(n:Nat):mo (zA l tps) n l=mo tps n l:=qce n fun a c b hb=>by
 unfold tB zA;simp only[yp,yB c,yB hb,Bool.and_self,and_true]
noncomputable def qeC(m:Nat)(ks:List Nat):Nat:=ks.foldl (fun r k=>ze r (2 ^ k)) m
theorem offL_bit(ks:List Nat):∀(m c:Nat),(qeC m ks).testBit c=(m.testBit c&&!decide (c∈ks)):=by
 induction ks with
 | nil=>intro m c;simp[qeC]
 | cons k r ih =>
  intro m c;show(qeC (ze m (2 ^ k)) r).testBit c=_;rw[ih,qca,YV];by_cases h:k=c
  .subst h;simp
  .have:decide (c∈k::r)=decide (c∈r):=Yq.mpr ⟨fun z=>(yv.mp z).resolve_left (Yi h),yx _⟩;rw[this,yl h,Kt,Ku]
theorem offL_le(ks:List Nat):∀ m,qeC m ks<=m:=by
 induction ks with
 | nil=>intro m;show yh _
 | cons k r ih=>intro m;show yi (ih _) (show ze m (2 ^ k)<=m by unfold ze;omega)
theorem rmN_out(c:ss.Nodup){ks:List Nat}(b:∀ k∈ks,k<ss.length):rmN ss (qeC (2 ^ ss.length-1) ks)=jU ss (ks.map (tn ss)):=by
 unfold rmN jU;show xp fun s f=>?_;have hi:=yR f;rw[offL_bit,Nat.testBit_two_pow_sub_one,yB hi,Bool.true_and]
 congr 1
 show Yq.mpr ⟨fun z=>yQ.mpr ⟨_,z,?_⟩,fun z=>?_⟩
 .unfold tn;rw[Ye,yb hi,Ym];rfl
 .obtain⟨k,a,e⟩:=yQ.mp z;have:=qby c (qaU (b k a));rw[e] at this;rw[this];show a
theorem rmN_full:rmN ss (2 ^ ss.length-1)=ss:=by
 unfold rmN;show kH.mpr fun s a=>by rw[Nat.testBit_two_pow_sub_one];show yB (yR a)
theorem uA:FnScope ["web","place"] ["web","place"] (qh jG):=fS
theorem uw:FnScope ["web","one","other"] ["web","one","other"] (qh jt):=fS
theorem KZ:FnScope ["web","places","pairs"] ["web","places"] (qh jH):=fS
def BdT(H:Hp)(v:V):Prop:=∃ d,Dat H v d/\Shw d 400 5/\∀ x,v=.str x->(x.length<1\/6<x.length)/\x.length<=1000
theorem BdT.same{v:V}(h:BdT H v)(s:L2.Same H H'):BdT H' v:=h.elim fun d h=>⟨d,h.1.same s,h.2⟩
theorem dat_ty{v:V}{d:PyData}(h:Dat H v d):(∃ x,v=.str x)\/∃ t∈["NoneType","bool","int","str","list","tuple","dict"],TyOf K H v (.type t)/\qgL t "str"=false:=by
 cases h with
 | non=>show .inr ⟨_,by simp,.non,by decide⟩
 | bl b=>show .inr ⟨_,by simp,.bl b,by decide⟩
 | int i=>show .inr ⟨_,by simp,.int i,by decide⟩
 | str x=>show .inl ⟨x,rfl⟩
 | lst e _=>show .inr ⟨_,by simp,.lst e,by decide⟩
 | tup e _=>show .inr ⟨_,by simp,.tup e,by decide⟩
 | dnil e=>show .inr ⟨_,by simp,.dK e,by decide⟩
inductive spNameB(vs:List V)(H:Hp)(Q:VK)(E:XK):Prop|mk (v:_) (_:vs=[v]) (_:BdT H v) (_:Q (.bl false) H)
inductive spPlaceB(vs:List V)(H:Hp)(Q:VK)(E:XK):Prop|mk (d:Addr) (v:V) (_:vs=[.ref d,v]) (_:BdT H v) (_:Q (.bl false) H)
inductive spHasB(cw:Addr)(vs:List V)(H:Hp)(Q:VK)(E:XK):Prop|mk (x:Addr) (ss:List Str) (ns:List Nat) (v:V) (_:vs=[.ref x,v]) (_:WebAt cw H x ss ns) (_:BdT H v) (_:Q (.bl false) H)
inductive spNumB(cc:Nat->Addr)(cw:Addr)(vs:List V)(H:Hp)(u2_:VK)(E:XK):Prop|mk (x:Addr) (ss:List Str) (ns:List Nat) (v:V) (_:vs=[.ref x,v]) (_:WebAt cw H x ss ns) (_:BdT H v) (_:Rz cc H E (0,v))
def qff(cc:Nat->Addr)(cw:Addr):Sp:=fun vs H Q E=>spNum cw vs H Q E\/spNumB cc cw vs H Q E
theorem FnOk.or{P:Program}{w:World}{base:Heap}{CX:CXT}{k:Nat}{f:Addr}{fd:FuncData}{ps:List Str}{b c:Sp}(e:FnOk P w K mg base CX k f fd ps b)(g:FnOk P w K mg base CX k f fd ps c):FnOk P w K mg base CX k f fd ps (fun vs H Q E=>b vs H Q E\/c vs H Q E):=
 ⟨fun vs H Q E h=>h.elim (e.len vs H Q E) (g.len vs H Q E),fun A a s H args us vs Q E j i hb hv l=>l.elim (e.run A a s H args us vs Q E j i hb hv) (g.run A a s H args us vs Q E j i hb hv)⟩
inductive spWoB(cc:Nat->Addr)(cw:Addr)(vs:List V)(H:Hp)(u2_:VK)(E:XK):Prop|mk (x a:Addr) (ss:List Str) (ns:List Nat) (pre:List Str) (v:V) (rest:List V) (_:vs=[.ref x,.ref a]) (_:WebAt cw H x ss ns) (_:H a=some (.lst (pre.map V.str++v::rest))) (_:(∀ s∈pre,s∈ss)) (_:pre.length<=2) (_:BdT H v) (_:Rz cc H E (0,v))
inductive spLv1B(cc:Nat->Addr)(cw:Addr)(vs:List V)(H:Hp)(u2_:VK)(E:XK):Prop|mk (x:Addr) (ss:List Str) (ns:List Nat) (v:V) (_:vs=[.ref x,v]) (_:WebAt cw H x ss ns) (_:BdT H v) (_:Rz cc H E (0,v))
inductive spLv2B(cc:Nat->Addr)(cw:Addr)(vs:List V)(H:Hp)(u2_:VK)(E:XK):Prop|mk (x:Addr) (ss:List Str) (ns:List Nat) (v u:V) (_:vs=[.ref x,v,u]) (_:WebAt cw H x ss ns) (_:((BdT H v/\Rz cc H E (0,v))\/∃ s,v=.str s/\s∈ss/\BdT H u/\Rz cc H E (0,u)))
theorem ok_nameB(F:Fun K "is_name" "is_name" za f fd)(T:Txt K mg cc cw):FnOk P w K mg base CX0 1 f fd ["thing"] spNameB:=by
 show F.ok uQ fun _ _ _ _ H vs Q E j h=>?_
 .obtain⟨v,rfl,⟨d,b,_,g⟩,q⟩:=h;show⟨_,(qc (qM (PW.pt (qak (qX (qW (qv (qaX (K:=K) rfl) rfl T.b_isinstance YL (qa (pv 0) (qa (jx (v:=.ty "str") rfl T.b_str boot_str rfl) qd))))) (zO (qX (qdb qeR qeR qg (qv (zR (K:=K) rfl) rfl T.b_len xn (qa (pv 0) qd)) (qa1 rfl T.g_LONGEST_NAME)))))) (qe (qm jl)) qx)
 (qe (qm (qv (qeI (K:=K) rfl rfl) rfl T.b_all boot_all (qa (jM (sc:=qh za) (XN:=["thing"]) ["sign"] 1 [] rfl rfl rfl (by decide +kernel) rfl (by decide +kernel)
  (qS (K:=K) rfl (pv 0)) (fun _ _ _ _=>(qu (i:=0) (show(["sign"]:List Str).Nodup by decide +kernel) rfl (yL rfl))) jp
  (fun _ _ _ _=>zi)
  (fun _ _ _ _=>(qda qeR qeR zu (pv 0) zu))) qd))))),?_⟩
  ext;rcases dat_ty (K:=K) b with⟨x,rfl⟩ | ⟨t,e,ty,c⟩
  .obtain⟨h1,a⟩:=g x rfl;show qbY (.inl (.str x)) rfl (zV K "str" (by simp) "str" (by simp)) ?_;ext;show yq ?_;ext;show qfQ (yi a (by decide)) ?_;ext;show qP (fun h1=>?_) fun h1=>?_
   .have:=yk h1;ext;show qP (fun _=>?_) fun a=>?_
    .ext;show q
    .simp only[X4,XU,Classical.not_not] at a;omega
   .show⟨false,rfl,zE ?_⟩;ext;show q
  .show qbY (.inl ty) rfl (zV K t e "str" (by simp)) ?_;rw[c];ext;show zE ?_;ext;show q
theorem ok_placeB(F:Fun K "is_place" "is_place" zx f fd)(c:DefOk P w K mg base CX0 1 "is_name" ["thing"] spNameB):FnOk P w K mg base CX0 2 f fd ["numbers","thing"] spPlaceB:=by
 show F.ok uL fun _ _ _ _ H vs Q E a h=>?_
 .obtain⟨d,v,rfl,hb,q⟩:=h;have b:=jY a;show⟨_,(qe (qm (qbF (qt c (hmR a) qC (qa (pv 1) qd)) (qbE (jy (zr (K:=K) rfl b) (pv 1) (pv 0) (by with_unfolding_all rfl)))))),?_⟩;ext;show⟨v,rfl,hb,?_⟩;ext;show qP (fun h=>by cases h) fun _=>q
theorem ok_hasB(F:Fun K "has_place" "Web.has_place" jj f fd)(T:Txt K mg cc cw)(a:DefOk P w K mg base CX0 2 "is_place" ["numbers","thing"] spPlaceB):FnOk P w K mg base CX0 3 f fd ["self","thing"] (spHasB cw):=by
 show F.ok uk fun _ _ _ _ H vs Q E b h=>?_
 .obtain⟨x,ss,ns,v,rfl,⟨dx,d,ol,n,c,e,i,g,hw⟩,hb,q⟩:=h;show⟨_,(qe (qm (qt a (hmR b) qC (qa (qB (K:=K) rfl (pv 0) rfl) (qa (pv 1) qd))))),?_⟩;ext;show .inl ⟨x,cw,dx,_,.ref d,rfl,c,T.wcl,T.wn,jA,?_⟩;ext;show⟨d,v,rfl,hb,q⟩
theorem ok_numB(F:Fun K "number_of" "Web.number_of" jk f fd)(T:Txt K mg cc cw)(c:MethOk P w K mg base CX0 3 cw "has_place" ["self","thing"] (spHasB cw))
  (i:XMakeOk P w K mg base 2 (cc 0) "NoPlace" ["self","found"] (spX (cc 0) (qe4 0))):FnOk P w K mg base (CX1 P w) 4 f fd ["self","place"] (spNumB cc cw):=by
 show F.ok1 ul (fun vs H Q E h=>?_) fun _ _ _ _ H vs Q E a h=>?_
 .cases h;subst_vars;rfl
 .obtain⟨x,ss,ns,v,rfl,b,hb,hz⟩:=h;have e:=jY a;obtain⟨dx,d,ol,n,g,j,m,l,hw⟩:=id b;show⟨_,(qc (qM (qX (qW (qF c (hmR a) (pv 0) (qa (pv 1) qd)))) (qe (qea (K:=K) rfl qaE (qfU i (hmR a) (qa (pv 1) qd)))) qx)
 (qe (qm (qp (qr (K:=K) rfl e) (qB (K:=K) rfl (pv 0) rfl) (pv 1) (fun _ _=>rfl))))),?_⟩
  ext;show⟨x,dx,_,rfl,g,zg (by decide +kernel),?_⟩;ext;show⟨x,ss,ns,v,rfl,b,hb,?_⟩;ext;show zE ?_;ext;show raise_done (T.xat 0 (by decide)) hz
theorem ok_woB(F:Fun K "without" "Web.without" qT f fd)(T:Txt K mg cc cw)(S:MethOk P w K mg base (CX1 P w) 4 cw "number_of" ["self","place"] (qff cc cw))(U:MethOk P w K mg base CX0 7 cw "ties" ["self"] (spTs cw))(uV:MakeOk P w K mg base CX0 5 cw "Web" ["self","names","ties"] (spWeb cw))(uI:XMakeOk P w K mg base 2 (cc 0) "NoPlace" ["self","found"] (spX (cc 0) (qe4 0))):FnOk P w K mg base (CX1 P w) 8 f fd ["self","places"] (spWoB cc cw):=by
 show F.ok1 Kz (fun vs H Q E h=>?_) fun _ _ _ _ H vs Q E p h=>?_
 .cases h;subst_vars;rfl
 .obtain⟨x,a,ss,ns,b,v,rest,rfl,A,B,m,ad,hb,hz⟩:=h;have c:=jY p;obtain⟨dx,d,ol,n,hx,hd,ho,hn,hw⟩:=id A;show⟨_,(qc (qM (qX (qW (qv (qbX (K:=K) rfl) rfl T.b_isinstance YL (qa (pv 1) (qa (jK (qa (jx (v:=.ty "list") rfl T.b_list xI rfl) (qa (jx (v:=.ty "tuple") rfl T.b_tuple kO rfl) qd))) qd))))) (qe (qea (K:=K) rfl qaE (qfU uI (hmR p) (qa (pv 1) qd)))) qx)
 (qc (qk (i:=2) Kz.nd rfl (kN rfl) jQ)
 (qc (qZ PassesOwn.leaving rfl (qS (K:=K) rfl (pv 1)) (qu (i:=3) Kz.nd rfl (yL rfl))
 (qe (jJ jl (jI (pv 2) (qdp S (hmR p) qaE (pv 0) (qa (pv 3) qd)) (jL c)))))
 (qc (qk (i:=4) Kz.nd rfl (kN rfl) (jM (sc:=qh qT) (XN:=["self","places","out","place","names","kept"]) ["name","out","self"] 1 [2,0] rfl rfl rfl (by decide +kernel) rfl (by decide +kernel)
  (qS (K:=K) rfl (qB (K:=K) rfl (pv 0) rfl)) (fun _ _ _ _=>(qu (i:=0) (show(["name","out","self"]:List Str).Nodup by decide +kernel) rfl (yL rfl))) jp
  (fun _ _ _ _=>(jC (qj (zH (K:=K) rfl c) (qp (qr (K:=K) rfl c) (qB (K:=K) rfl (pv 2) rfl) (pv 0) (fun _ _=>rfl)) (pv 1) (by with_unfolding_all rfl))))
  (fun _ _ _ _=>(pv 0))))
 (qc (qaQ (sc:=qh qT) (XN:=["self","places","out","place","names","kept"]) ["tie","names"] 1 [4] rfl rfl rfl (by decide +kernel) rfl (by decide +kernel) (i:=5) Kz.nd rfl rfl
  (qS (K:=K) rfl (jD U (hmR p) (pv 0))) (fun _ _ _ _=>(qu (i:=0) (show(["tie","names"]:List Str).Nodup by decide +kernel) rfl (yL rfl))) jp
  (fun _ _ _ _=>(jC (PW.pt (qbh (qj (zr (K:=K) rfl c) (qp (qr (K:=K) rfl c) (pv 0) qg (fun _ _=>rfl)) (pv 1) (by with_unfolding_all rfl)) (qbg (qj (zr (K:=K) rfl c) (qp (qr (K:=K) rfl c) (pv 0) qg (fun _ _=>rfl)) (pv 1) (by with_unfolding_all rfl)))))))
  (fun _ _ _ _=>(pv 0)))
 (qe (qm (qaF uV (hmR p) (qa (pv 4) (qa (pv 5) qd)))))))))),?_⟩
  ext;show⟨by show 2<=sizeLine;decide,fun g Z=>?_⟩;have r:=qI (Sr H) (o:=.tup [.ty "list",.ty "tuple"]) Z;have G:upd H g (.tup [.ty "list",.ty "tuple"]) g=some (.tup [.ty "list",.ty "tuple"]):=qb;generalize upd H g (.tup [.ty "list",.ty "tuple"])=H1 at r G;ext;show qb2 (r _ _ B) G ?_;ext;show yq ?_;ext;intro o L;have D:=qI r (o:=.dK []) L;have C:H o=none:=r.free L;have I:upd H1 o (.dK []) o=some (.dK []):=qb;generalize upd H1 o (.dK [])=H2 at D I;ext;show .inl ⟨⟨_,.of (D _ _ B)⟩,qN (xs:=b.map V.str++v::rest) (fun i s J=>L2.Same H J/\i<=b.length/\∃(kvs:List (Key×V)) (N O R:Option V),s=[some (.ref x),some (.ref a),some (.ref o),N,O,R]/\J o=some (.dK kvs)/\kvs.length<=i) ⟨D,YC _,[],_,_,_,rfl,I,yh _⟩ (fun i s J _ l=>.of (l.1 _ _ B)) (fun i y s J q l=>?_) fun s J l=>?_⟩
  .obtain⟨e,aa,kvs,N,O,R,rfl,W,ac⟩:=l;ext;show⟨x,dx,_,rfl,e _ _ hx,zg (by decide +kernel),?_⟩;ext;by_cases hi:i<b.length
   .have z:b[i]?=some b[i]:=yb hi;generalize b[i]=u at z
    have t:y=.str u:=by
     rw[yV (by rw[ya];show hi),yd,z] at q;show(ym q).symm
    subst t;obtain⟨j,Y⟩:=yf (m u (ye z));show .inl ⟨x,ss,ns,u,j,rfl,A.same e,Y,fun J2 M=>?_⟩;show .inr ⟨o,_,rfl,DPut.k (k:=Sum.inl (j:Int)) (M _ _ W) (qi (by omega)),?_⟩;show⟨qaH (e.trans M) C,hi,_,_,_,_,rfl,qb,by have:=ji kvs (Sum.inl (j:Int):Key) (V.bl true);omega⟩
   .have X:i=b.length:=by omega
    have t:y=v:=by
     rw[yJ (by rw[ya];omega),ya,X,kK] at q;show(ym q).symm
    subst t;show .inr ⟨x,ss,ns,y,rfl,A.same e,hb.same e,hz.later e⟩
  .obtain⟨_,h,_⟩:=l;rw[yt,ya,yC] at h;omega
theorem ok_laB(F:Fun K "leaving_all" "leaving_all" jH f fd)(T:Txt K mg cc cw)(t:MethOk P w K mg base (CX1 P w) 8 cw "without" ["self","places"] (spWoB cc cw))(g:DefOk P w K mg base CX0 14 "greatest" ["web"] (spGr cw))(s:DefOk P w K mg base CX0 15 "count_of" ["web"] (spCo cw)):FnOk P w K mg base (CX1 P w) 16 f fd ["web","places"] (spWoB cc cw):=by
 show F.ok1 KZ (fun vs H Q E h=>?_) fun _ _ _ _ H vs Q E b h=>?_
 .cases h;subst_vars;rfl
 .obtain⟨x,a,ss,ns,c,v,rest,rfl,e,m,o,p,q,r⟩:=h;have j:=jY b;obtain⟨dx,d,ol,n,l,_⟩:=id e;show⟨_,(qc (qk (i:=2) KZ.nd rfl (yL rfl) (qt g (hmR b) qC (qa (qdp t (hmR b) qaE (pv 0) (qa (pv 1) qd)) qd)))
 (qe (qm (qbQ (qj (zI (K:=K) rfl j) (qv (zR (K:=K) rfl) rfl T.b_len xn (qa (pv 2) qd)) (qt s (hmR b) qC (qa (pv 0) qd)) (qA _)) (pv 2) j8)))),?_⟩
  ext;show⟨x,dx,_,rfl,l,zg (by decide +kernel),?_⟩;ext;show⟨x,a,ss,ns,c,v,rest,rfl,e,m,o,p,q,r⟩
theorem ok_l1B(F:Fun K "leaving_out" "leaving_out" jG f fd)(T:Txt K mg cc cw)(c:DefOk P w K mg base (CX1 P w) 16 "leaving_all" ["web","places"] (spWoB cc cw)):FnOk P w K mg base (CX1 P w) 17 f fd ["web","place"] (spLv1B cc cw):=by
 show F.ok1 uA (fun vs H Q E h=>?_) fun _ _ _ s H vs Q E i h=>?_
 .cases h;subst_vars;rfl
 .obtain⟨x,ss,ns,v,rfl,e,hb,hz⟩:=h;show⟨_,(qe (qm (qbW c (hmR i) qaE (qa (pv 0) (qa (qG (qa (pv 1) qd)) qd))))),?_⟩;ext;show⟨by show 1<=sizeLine;decide,fun a g=>?_⟩;have b:=qI (Sr H) (o:=.lst [v]) g;ext;show⟨x,a,ss,ns,[],v,[],rfl,e.same b,qb,(fun s j=>by cases j),by decide,hb.same b,hz.later b⟩
theorem ok_l2B(F:Fun K "leaving_both" "leaving_both" jt f fd)(T:Txt K mg cc cw)(g:DefOk P w K mg base (CX1 P w) 16 "leaving_all" ["web","places"] (spWoB cc cw)):FnOk P w K mg base (CX1 P w) 17 f fd ["web","one","other"] (spLv2B cc cw):=by
 show F.ok1 uw (fun vs H Q E h=>?_) fun _ _ _ s H vs Q E l h=>?_
 .cases h;subst_vars;rfl
 .obtain⟨x,ss,ns,v,u,rfl,e,j⟩:=h;show⟨_,(qe (qm (qbW g (hmR l) qaE (qa (pv 0) (qa (qG (qa (pv 1) (qa (pv 2) qd))) qd))))),?_⟩;ext;show⟨by show 2<=sizeLine;decide,fun a i=>?_⟩;have b:=qI (Sr H) (o:=.lst [v,u]) i;ext;rcases j with⟨hb,hz⟩ | ⟨y,rfl,m,hb,hz⟩
  .show⟨x,a,ss,ns,[],v,[u],rfl,e.same b,qb,(fun s c=>by cases c),by decide,hb.same b,hz.later b⟩
  .show⟨x,a,ss,ns,[y],u,[],rfl,e.same b,qb,(fun s c=>by rw[yy.mp c];show m),by show 1<=2;decide,hb.same b,hz.later b⟩
theorem Uo:FnScope ["_law_web","_law_names_here","_law_gone"] ["_law_web","_law_names_here","_law_gone"] (qh qaN):=fS
structure LvOk(ss:List Str)(tps:List (Str×Str))(gs:List Str)(rs:List (Str×Str)):Prop where
 r:LvR ss tps gs rs
 g:PGo ss tps rs
 up:RsQ ss rs
 no:∀ q∈rs,q.1∉gs/\q.2∉gs
 n:rs.length=mo tps ss.length (jU ss gs)
theorem lv_ok{y:Addr}{rs:List (Str×Str)}(W:Wt cw H x ss ns tps)(c:Wt cw H' y (jU ss gs) ms (zA (jU ss gs) tps))(a:PGo (jU ss gs) (zA (jU ss gs) tps) rs)(j:MxF (jU ss gs) (zA (jU ss gs) tps) rs)(g:GrR (jU ss gs) ms rs):LvOk ss tps gs rs:=by
 have l:=W.wok.nd;have h:∀ q,q∈zA (jU ss gs) tps->q∈tps:=fun q b=>(yp.mp b).1;have hi:∀ q∈rs,q.1∈ss:=fun q b=>(mem_out.mp (a.inn q b).2.1).1;show⟨⟨ms,c.wok,c.adj,g⟩,⟨fun q b=>?_,a.nd,a.few⟩,rise_of l XC (g.fil ⟨_,rfl⟩) a.nd hi,fun q b=>?_,?_⟩
 .obtain⟨h1,e,f,i⟩:=a.inn q b;show⟨h1.imp (h _) (h _),(mem_out.mp e).1,(mem_out.mp f).1,i⟩
 .obtain⟨_,e,f,_⟩:=a.inn q b;show⟨(mem_out.mp e).2,(mem_out.mp f).2⟩
 .rw [qf3 c.ir c.wok.nd a j,keep_mo];show qfs W.ir (yh _) (qcb _ _) c.wok.nd
def LvT(H:Hp)(Q:VK)(ss:List Str)(tps:List (Str×Str))(gs:List Str):Prop:=(∀(rs:List (Str×Str)) (l:Addr) (a:List Addr) (H':Hp),L2.Same H H'->H l=none->PL H' l a rs->LvOk ss tps gs rs->mo tps ss.length (jU ss gs)=mo tps ss.length ss->Q (.ref l) H')/\∀ H',L2.Same H H'->mo tps ss.length (jU ss gs)≠mo tps ss.length ss->Q .non H'
theorem LvT.later{Q:VK}(h:LvT H Q ss tps gs)(s:L2.Same H H1):LvT H1 Q ss tps gs:=⟨fun rs l a H' s' hl=>h.1 rs l a H' (s.trans s') (s.free hl),fun H' s'=>h.2 H' (s.trans s')⟩
def W30(cw:Addr)(H:Hp)(x:Addr)(ss:List Str)(ns:List Nat)(tps:List (Str×Str)):Prop:=Wt cw H x ss ns tps/\(qE ss ns ss.length).length<=30
theorem W30.same(h:W30 cw H x ss ns tps)(s:L2.Same H H'):W30 cw H' x ss ns tps:=⟨h.1.same s,h.2⟩
inductive spLvQ(cw:Addr)(vs:List V)(H:Hp)(Q:VK)(E:XK):Prop|mk (x a:Addr) (ss:List Str) (ns:List Nat) (tps:List (Str×Str)) (gs:List Str) (_:vs=[.ref x,.ref a]) (_:W30 cw H x ss ns tps) (_:H a=some (.lst (gs.map V.str))) (_:(∀ s∈gs,s∈ss)) (_:gs.length<=2) (_:LvT H Q ss tps gs)
inductive spLv1(cw:Addr)(vs:List V)(H:Hp)(Q:VK)(E:XK):Prop|mk (x:Addr) (ss:List Str) (ns:List Nat) (tps:List (Str×Str)) (u:Str) (_:vs=[.ref x,.str u]) (_:W30 cw H x ss ns tps) (_:u∈ss) (_:LvT H Q ss tps [u])
inductive spLv2(cw:Addr)(vs:List V)(H:Hp)(Q:VK)(E:XK):Prop|mk (x:Addr) (ss:List Str) (ns:List Nat) (tps:List (Str×Str)) (u v:Str) (_:vs=[.ref x,.str u,.str v]) (_:W30 cw H x ss ns tps) (_:u∈ss) (_:v∈ss) (_:LvT H Q ss tps [u,v])
inductive spAsQ(cw:Addr)(vs:List V)(H:Hp)(Q:VK)(E:XK):Prop|mk (x n go:Addr) (ss:List Str) (ns:List Nat) (tps:List (Str×Str)) (ks:List Nat) (_:vs=[.ref x,.ref n,.ref go]) (_:W30 cw H x ss ns tps) (_:H n=some (.lst (ss.map V.str))) (_:H go=some (.lst (ks.map iV))) (_:(ks.length=1\/ks.length=2)) (_:(∀ k∈ks,k<ss.length)) (_:LvT H Q ss tps (ks.map (tn ss)))
theorem ok_lvQ(F:Fun K "leaving_all" "leaving_all" jH f fd)(T:Txt K mg cc cw)(R:MethOk P w K mg base CX0 8 cw "without" ["self","places"] (spWo cw))(v:DefOk P w K mg base CX0 14 "greatest" ["web"] (spGr cw))(O:DefOk P w K mg base CX0 15 "count_of" ["web"] (spCo cw)):FnOk P w K mg base CX0 16 f fd ["web","places"] (spLvQ cw):=by
 show F.ok KZ fun _ _ _ _ H vs Q E c h=>?_
 .obtain⟨x,a,ss,ns,tps,gs,rfl,W,C,o,D,q⟩:=h;have G:=jY c;obtain⟨dx,d,ol,n,I,_⟩:=id W.1.web;show⟨_,(qc (qk (i:=2) KZ.nd rfl (yL rfl) (qt v (hmR c) qC (qa (qF R (hmR c) (pv 0) (qa (pv 1) qd)) qd)))
 (qe (qm (qbQ (qj (zI (K:=K) rfl G) (qv (zR (K:=K) rfl) rfl T.b_len xn (qa (pv 2) qd)) (qt O (hmR c) qC (qa (pv 0) qd)) (qA _)) (pv 2) j8)))),?_⟩
  ext;show⟨x,dx,_,rfl,I,zg (by decide +kernel),?_⟩;ext;show⟨x,a,ss,ns,tps,gs,rfl,W.1,W.2,C,o,by omega,fun y ms H1 u t=>?_⟩;ext;show⟨y,_,ms,_,rfl,t,fun l J rs H2 N p m z A B=>?_⟩;have b:=u.trans N;have L:=lv_ok W.1 t z A B;ext;show qbC m.1 ?_;rw[ya,m.2.len,L.n];ext;show⟨x,ss,ns,tps,rfl,W.1.same b,fun M s r g j=>?_⟩;rw[qf3 W.1.ir W.1.wok.nd g j];show qb9 ?_;ext;show qP (fun h=>?_) fun h=>?_
  .have e:=yk h;ext;show q.1 rs l J s (b.trans r) (u.free p) (m.same r) L (by omega)
  .ext;show q.2 s (b.trans r) fun e=>h (yB (by rw[e]))
theorem ok_lv1(F:Fun K "leaving_out" "leaving_out" jG f fd)(T:Txt K mg cc cw)(e:DefOk P w K mg base CX0 16 "leaving_all" ["web","places"] (spLvQ cw)):FnOk P w K mg base CX0 17 f fd ["web","place"] (spLv1 cw):=by
 show F.ok uA fun _ _ _ s H vs Q E i h=>?_
 .obtain⟨x,ss,ns,tps,u,rfl,W,b,q⟩:=h;show⟨_,(qe (qm (qt e (hmR i) qC (qa (pv 0) (qa (qG (qa (pv 1) qd)) qd))))),?_⟩;ext;show⟨by show 1<=sizeLine;decide,fun a g=>?_⟩;have c:=qI (Sr H) (o:=.lst [.str u]) g;ext;show⟨x,a,ss,ns,tps,[u],rfl,W.same c,qb,(fun s j=>by rw[yy.mp j];show b),by show 1<=2;decide,q.later c⟩
theorem ok_lv2(F:Fun K "leaving_both" "leaving_both" jt f fd)(T:Txt K mg cc cw)(g:DefOk P w K mg base CX0 16 "leaving_all" ["web","places"] (spLvQ cw)):FnOk P w K mg base CX0 17 f fd ["web","one","other"] (spLv2 cw):=by
 show F.ok uw fun _ _ _ s H vs Q E j h=>?_
 .obtain⟨x,ss,ns,tps,u,v,rfl,W,b,c,q⟩:=h;show⟨_,(qe (qm (qt g (hmR j) qC (qa (pv 0) (qa (qG (qa (pv 1) (qa (pv 2) qd))) qd))))),?_⟩;ext;show⟨by show 2<=sizeLine;decide,fun a i=>?_⟩;have e:=qI (Sr H) (o:=.lst [.str u,.str v]) i;ext;show⟨x,a,ss,ns,tps,[u,v],rfl,W.same e,qb,(fun s l=>(yv.mp l).elim (fun z=>z ▸ b) fun z=>yy.mp z ▸ c),by show 2<=2;decide,q.later e⟩
theorem ok_asQ(F:Fun K "_law_asked" "_law_asked" qaN f fd)(T:Txt K mg cc cw)(p:DefOk P w K mg base CX0 17 "leaving_out" ["web","place"] (spLv1 cw))(o:DefOk P w K mg base CX0 17 "leaving_both" ["web","one","other"] (spLv2 cw)):FnOk P w K mg base CX0 18 f fd ["_law_web","_law_names_here","_law_gone"] (spAsQ cw):=by
 show F.ok Uo fun _ _ _ _ H vs Q E l h=>?_
 .obtain⟨x,n,r,ss,ns,tps,ks,rfl,W,i,a,g,b,q⟩:=h;have c:=jY l;show⟨_,(qc (qM (qj (zI (K:=K) rfl c) (qv (zR (K:=K) rfl) rfl T.b_len xn (qa (pv 2) qd)) qg (qA _)) (qe (qm (qt p (hmR l) qC (qa (pv 0) (qa (qp (qr (K:=K) rfl c) (pv 1) (qp (qr (K:=K) rfl c) (pv 2) qg (fun _ _=>rfl)) (fun _ _=>rfl)) qd))))) qx)
 (qe (qm (qt o (hmR l) qC (qa (pv 0) (qa (qp (qr (K:=K) rfl c) (pv 1) (qp (qr (K:=K) rfl c) (pv 2) qg (fun _ _=>rfl)) (fun _ _=>rfl)) (qa (qp (qr (K:=K) rfl c) (pv 1) (qp (qr (K:=K) rfl c) (pv 2) qg (fun _ _=>rfl)) (fun _ _=>rfl)) qd))))))),?_⟩
  ext;show qbC a ?_;rw[ya];show qb9 ?_;ext
  match ks,g,b,q,a with
  | [k],_,b,q,a =>
   show zE ?_;ext;show .inl (zq a (v:=iV k) (qo (j:=0) rfl) ?_);have e:=b k yI;show qcP i e ?_;ext;show⟨x,ss,ns,tps,tn ss k,rfl,W,qbz e,q⟩
  | [k,j],_,b,q,a =>
   show yq ?_;ext;have e:=b k yI;have m:=b j (yx _ yI);show .inl (zq a (v:=iV k) (qo (j:=0) rfl) ?_);show qcP i e ?_;ext;show .inl (zq a (v:=iV j) (qo (j:=1) rfl) ?_);show qcP i m ?_;ext;show⟨x,ss,ns,tps,tn ss k,tn ss j,rfl,W,qbz e,qbz m,q⟩
  | [],h,_,_,_=>simp at h
  | _::_::_::_,h,_,_,_=>simp at h
theorem K6:FnScope ["_law_names_here","_law_bits_here","_law_table_here","_law_gone","_law_told","_law_room","_law_k","_law_numbers"] ["_law_names_here","_law_bits_here","_law_table_here","_law_gone","_law_told"] (qh zd):=fS
theorem atI_lastV{c:V}(h:xs≠[])(e:xs[xs.length-1]?=some c):atI xs (-1)=some c:=by
 have:0<xs.length:=List.length_pos_iff.mpr h;unfold atI
 have a:ixN xs.length (-1)=some (xs.length-1):=by
  unfold ixN;rw[yD (by decide),yG (by omega)]
  congr 1
  omega
 rw[a];show e
theorem qgT{i j:Int}{Q:VK}(q:Q (.bl (!decide (i=j))) H):qfw K true (.int i) (.int j) H Q:=.inl ⟨rfl,rfl,by
 have:=j5 i j;rw[yD (by decide)] at this;rw[yG rfl,this];show q⟩
theorem qgp{v:V}{Q:VK}(q:Q (.bl (decide (v=.non))) H):qgl v .non H Q:=by cases v<;>show q
noncomputable def ixP(ss:List Str)(q:Str×Str):Nat×Nat:=(ss.idxOf q.1,ss.idxOf q.2)
theorem eqT_ipl{l r:Addr}{TI:List (Nat×Nat)}(h:IPL H l ts TI)(g:H r=some (.lst (ts.map V.ref))):EqT K H 2 l r true:=qej h.1 g rfl fun j x y a c=>by
 rw[a] at c;cases c;rw[yd] at a;obtain⟨t,b,rfl⟩:=yn.mp a;have f:j<TI.length:=by rw[<- h.2.len];show(yc.mp b).1
 have e:=h.2.at_ j t _ b (yb f);have z:=qcN (K:=K) e e
 rwa[yB rfl] at z
theorem qey{l z:Addr}(hl:H l=some (.lst []))(hz:H z=some (.lst [])):EqT K H 1 l z true:=EqT.lst (n:=0) (e:=fun _=>true) (SqL.of hl) (SqL.of hz) rfl fun j x y h=>by(simp at h)
def ToldQ(H:Hp)(ss:List Str)(tps:List (Str×Str))(gs:List Str)(v:V):Prop:=(mo tps ss.length (jU ss gs)≠mo tps ss.length ss/\v=.non)\/(mo tps ss.length (jU ss gs)=mo tps ss.length ss/\∃ l us rs,v=.ref l/\PL H l us rs/\LvOk ss tps gs rs)
structure DwQ(H:Hp)(n bb lt:Addr)(ss:List Str)(TI:List (Nat×Nat))(bs:List Nat):Prop where
 n:H n=some (.lst (ss.map V.str))
 nd:ss.Nodup
 few:ss.length<=12
 tj:TJ ss.length TI
 b:H bb=some (.lst (zt bs))
 bt:BtJ ss.length TI bs
 t:H lt=some (.lst (zt (tbL (TI.map (nmP ss)) ss (2 ^ ss.length))))
theorem DwQ.same{n a lt:Addr}{TI:List (Nat×Nat)}{bs:List Nat}(h:DwQ H n a lt ss TI bs)(s:L2.Same H H'):DwQ H' n a lt ss TI bs:=⟨s _ _ h.n,h.nd,h.few,h.tj,s _ _ h.b,h.bt,s _ _ h.t⟩
inductive spRtQ(vs:List V)(H:Hp)(Q:VK)(E:XK):Prop|mk (n bb lt go:Addr) (ss:List Str) (TI:List (Nat×Nat)) (bs ks:List Nat) (v:V) (_:vs=[.ref n,.ref bb,.ref lt,.ref go,v]) (_:DwQ H n bb lt ss TI bs) (_:H go=some (.lst (ks.map iV))) (_:ks.length<=2) (_:(∀ k∈ks,k<ss.length)) (_:ToldQ H ss (TI.map (nmP ss)) (ks.map (tn ss)) v) (_:∀ H',L2.Same H H'->Q (.bl true) H')
theorem ok_rtQ(F:Fun K "_law_right" "_law_right" zd f fd)(T:Txt K mg cc cw)(Ua:DefOk P w K mg base CX0 1 "_law_are_pairs" ["_law_names_here","_law_bits_here","_law_thing"] spArQ):FnOk P w K mg base CX0 2 f fd ["_law_names_here","_law_bits_here","_law_table_here","_law_gone","_law_told"] spRtQ:=by
 show F.ok K6 fun _ _ _ s H vs Q E hr h=>?_
 .obtain⟨n,bb,lt,go,ss,TI,bs,ks,v,rfl,D,aa,ay,ac,hT,q⟩:=h;have B:=jY hr;have aw:=D.few;have bd:2 ^ ss.length<=4096:=xO (by decide) aw;have p0:0<2 ^ ss.length:=XI _
  have tg:∀ k,k<2 ^ ss.length->(zt (tbL (TI.map (nmP ss)) ss (2 ^ ss.length)))[k]?=some (.int (tbQ (TI.map (nmP ss)) ss k:Nat)):=fun k hk=>by
   rw[jS (by rw[qcc];show hk),qfe hk]
  have tl:(zt (tbL (TI.map (nmP ss)) ss (2 ^ ss.length))).length=2 ^ ss.length:=by unfold zt;rw[ya,qcc]
  have r:atI (zt (tbL (TI.map (nmP ss)) ss (2 ^ ss.length))) (-1)=some (.int (mo (TI.map (nmP ss)) ss.length ss:Nat)):=by
   have:=tg (2 ^ ss.length-1) (by omega);unfold tbQ at this;rw[rmN_full] at this;show atI_lastV (fun z=>by rw[z] at tl;simp at tl;omega) (by rw[tl];show this)
  obtain⟨gs,O⟩:∃ gs,gs=ks.map (tn ss):=⟨_,rfl⟩;have ax:∀ s∈gs,s∈ss:=fun s hs=>by rw[O] at hs;obtain⟨k,hk,rfl⟩:=yQ.mp hs;show qbz (ac k hk)
  have M:(zt (tbL (TI.map (nmP ss)) ss (2 ^ ss.length)))[qeC (2 ^ ss.length-1) ks]?=some (.int (mo (TI.map (nmP ss)) ss.length (jU ss gs):Nat)):=by
   rw[tg _ (Yp (offL_le _ _) (by omega))];unfold tbQ;rw[rmN_out D.nd ac,O]
  rw[<- O] at hT;have N:=D.t;generalize zt (tbL (TI.map (nmP ss)) ss (2 ^ ss.length))=tb at tg tl r M N;show⟨_,(qc (qk (i:=5) K6.nd rfl (yL rfl) (qz qc7 (qz qav qg (qv (zR (K:=K) rfl) rfl T.b_len xn (qa (pv 0) qd))) qg))
 (qc (qZ yP rfl (qS (K:=K) rfl (pv 3)) (qu (i:=6) K6.nd rfl (yL rfl))
 (qe (qk (i:=5) K6.nd rfl (yL rfl) (qz qaV (pv 5) (qan qdO (qz qav qg (pv 6)))))))
 (qc (qM (qj (qaq (K:=K) rfl B) (qp (qr (K:=K) rfl B) (pv 2) (pv 5) (fun _ _=>rfl)) (qp (qr (K:=K) rfl B) (pv 2) (qan zQ qg) (fun _ _=>rfl)) (qA _)) (qe (qm (jy qga (pv 4) j8 (qA _)))) qx)
 (qc (qM (PW.pt (qak (qX (qW (qt Ua (hmR hr) qC (qa (pv 0) (qa (pv 1) (qa (pv 4) qd)))))) (zO (qj (qaq (K:=K) rfl B) (qv (zR (K:=K) rfl) rfl T.b_len xn (qa (pv 4) qd)) (qp (qr (K:=K) rfl B) (pv 2) (qan zQ qg) (fun _ _=>rfl)) (qA _))))) (qe (qm jl)) qx)
 (qc (qaQ (sc:=qh zd) (XN:=["_law_names_here","_law_bits_here","_law_table_here","_law_gone","_law_told","_law_room","_law_k","_law_numbers"]) ["_law_one","_law_other","_law_names_here"] 2 [0] rfl rfl rfl (by decide +kernel) rfl (by decide +kernel) (i:=7) K6.nd rfl rfl
  (qdq (K:=K) rfl (pv 4)) (fun _ _ _ _=>(qcj (n:=2) rfl (jP (qu (i:=0) (show(["_law_one","_law_other","_law_names_here"]:List Str).Nodup by decide +kernel) rfl (yL rfl)) (jP (qu (i:=1) (show(["_law_one","_law_other","_law_names_here"]:List Str).Nodup by decide +kernel) rfl (yL rfl)) qbi)))) qef
  (fun _ _ _ _=>zi)
  (fun _ _ _ _=>(jK (qa (qaW (K:=K) rfl yK YG YQ (qar (K:=K) rfl) (pv 2) (qa (pv 0) qd)) (qa (qaW (K:=K) rfl yK YG YQ (qar (K:=K) rfl) (pv 2) (qa (pv 1) qd)) qd)))))
 (qc (qM (PW.pt (qak (qj (qaq (K:=K) rfl B) (pv 7) (qv (k_sortR) rfl T.b_sorted boot_sorted (qa (pv 7) qd)) (qA _)) (zO (qj (qaq (K:=K) rfl B) (jM (sc:=qh zd) (XN:=["_law_names_here","_law_bits_here","_law_table_here","_law_gone","_law_told","_law_room","_law_k","_law_numbers"]) ["_law_one","_law_other"] 2 [] rfl rfl rfl (by decide +kernel) rfl (by decide +kernel)
  (qdq (K:=K) rfl (pv 7)) (fun _ _ _ _=>(qcj (n:=2) rfl (jP (qu (i:=0) (show(["_law_one","_law_other"]:List Str).Nodup by decide +kernel) rfl (yL rfl)) (jP (qu (i:=1) (show(["_law_one","_law_other"]:List Str).Nodup by decide +kernel) rfl (yL rfl)) qbi)))) qef
  (fun _ _ _ _=>(jC (qj op_ge (pv 0) (pv 1) (qA _))))
  (fun _ _ _ _=>(pv 0))) (qG qd) (qA _))))) (qe (qm jl)) qx)
 (qe (qm (jy (zI (K:=K) rfl B) (jM (sc:=qh zd) (XN:=["_law_names_here","_law_bits_here","_law_table_here","_law_gone","_law_told","_law_room","_law_k","_law_numbers"]) ["_law_pair","_law_gone"] 1 [3] rfl rfl rfl (by decide +kernel) rfl (by decide +kernel)
  (qS (K:=K) rfl (pv 7)) (fun _ _ _ _=>(qu (i:=0) (show(["_law_pair","_law_gone"]:List Str).Nodup by decide +kernel) rfl (yL rfl))) jp
  (fun _ _ _ _=>(jC (PW.pt (qak (qj (zr (K:=K) rfl B) (qp (qr (K:=K) rfl B) (pv 0) qg (fun _ _=>rfl)) (pv 1) (by with_unfolding_all rfl)) (zO (qj (zr (K:=K) rfl B) (qp (qr (K:=K) rfl B) (pv 0) qg (fun _ _=>rfl)) (pv 1) (by with_unfolding_all rfl)))))))
  (fun _ _ _ _=>(pv 0))) (qG qd) (qA _)))))))))),?_⟩
  ext;show qbC D.n ?_;rw[ya];ext;show vI ⟨by omega,by omega,by decide⟩ ?_;ext
  have eF:(1*2 ^ ((ss.length:Int)).toNat:Int)-1=((2 ^ ss.length-1:Nat):Int):=by
   have h1:((2 ^ ss.length:Nat):Int)=(2:Int) ^ ss.length:=by rw[xH];rfl
   rw[Yb,kU,<- h1];omega
  rw[eF];show .inl ⟨⟨_,.of aa⟩,qN (xs:=ks.map iV) (fun i σ J=>J=H/\∃ y6 y7,σ=[some (.ref n),some (.ref bb),some (.ref lt),some (.ref go),some v,some (.int (qeC (2 ^ ss.length-1) (ks.take i):Nat)),y6,y7]) ⟨rfl,_,_,rfl⟩ (fun i σ J _ m=>by rw[m.1];show .of aa) (fun i y σ J I m=>?_) fun σ J m=>?_⟩
  .obtain⟨rfl,y6,y7,rfl⟩:=m;rw[yd] at I;obtain⟨k,hk,rfl⟩:=yn.mp I;have az:=ac k (ye hk);ext;show vI ⟨by omega,by omega,by decide⟩ ?_;ext;show vU ?_;ext;have pw:(1*2 ^ ((k:Int)).toNat:Int)=((2 ^ k:Nat):Int):=by rw[Yb,kU,xH];rfl
   rw[pw,qat]
   have e:qeC (2 ^ ss.length-1) (ks.take (i+1))=ze (qeC (2 ^ ss.length-1) (ks.take i)) (2 ^ k):=by
    unfold qeC;rw[yT,hk,List.foldl_append];rfl
   show⟨rfl,_,_,by rw[e];rfl⟩
  .obtain⟨rfl,y6,y7,rfl⟩:=m;rw[ya,yW];ext;show .inl (zq N (qo M) ?_);ext;show⟨1,rfl,?_⟩;show .inl (zq N r ?_);show qgT ?_;ext;rcases hT with⟨hm,rfl⟩ | ⟨hm,l,us,rs,rfl,hP,L⟩
   .rw [yl (fun z=>hm (by omega))];show zE ?_;ext;show qgp (q _ (Sr _))
   .rw [yB (by rw[hm])];show yq ?_;ext;show⟨n,bb,l,ss,TI,bs,us,rs,rfl,D.n,D.nd,D.tj,D.b,D.bt,hP,L.g,fun H2 s2=>?_⟩;have D2:=D.same s2;have x:=hP.same s2;ext;show yq ?_;ext;show qbC x.1 ?_;rw[ya,x.2.len];ext;show⟨1,rfl,?_⟩;show .inl (zq (s2 _ _ N) r ?_);show qgT ?_;rw[yB (by rw[L.n,hm])];ext;show yq ?_;ext;show qeJ ?_;ext;have bc:rs.length<=30:=L.g.few;have av:=x.2.len;show⟨l,_,rfl,.of x.1,je (xs:=us.map V.ref) (fun i ys G=>L2.Same H2 G/\∃ ts:List Addr,ys=ts.map V.ref/\All2 (fun t q=>G t=some (iT q)) ts ((rs.take i).map (ixP ss))) ⟨L2.Same.refl _,[],rfl,.nil⟩ (fun i ys G _ m=>.of (m.1 _ _ x.1)) (fun i y ys G I m=>?_) fun ys G m=>?_⟩
    .obtain⟨sG,ts,rfl,hA⟩:=m;rw[yd] at I;obtain⟨u,ag,rfl⟩:=yn.mp I;have ae:=(yc.mp ag).1;obtain⟨⟨c,d⟩,Z⟩:∃ q,rs[i]?=some q:=⟨_,yb (by omega)⟩;have eu:=sG _ _ (x.2.at_ i u _ ag Z);obtain⟨_,mc,md,_⟩:=L.g.inn _ (ye Z);dsimp only at eu mc md;have R:=sG _ _ D2.n;show⟨u,_,rfl,.of eu,rfl,_,_,rfl,_,_,rfl,rfl,?_⟩;ext;show zE ?_;ext;show⟨.inl ⟨rfl,_,.of R⟩,?_⟩;ext;show⟨n,ss,c,rfl,rfl,.of R,mc,?_⟩;ext;show⟨.inl ⟨rfl,_,.of R⟩,?_⟩;ext;show⟨n,ss,d,rfl,rfl,.of R,md,?_⟩;ext;show⟨by show 2<=sizeLine;decide,fun t S=>?_⟩;have s5:=qI (Sr G) (o:=.tup [.int (ss.idxOf c:Nat),.int (ss.idxOf d:Nat)]) S;have Y:=hA.len;rw[ya,yX] at Y;show⟨by rw[ya];show qi (by omega),sG.trans s5,ts++[t],by rw[yF];rfl,?_⟩;rw[yT,Z,yF];show(hA.mono fun _ _ z=>s5 _ _ z).snoc qb
    .obtain⟨sG,ts,rfl,hA⟩:=m;rw[show(us.map V.ref).length=rs.length by rw[ya,av],yW] at hA;have Y:=hA.len;rw[ya] at Y;show⟨by rw[ya];show Yh (qi (by omega)),fun g hg=>?_⟩;have s5:=qI (Sr G) (o:=.lst (ts.map V.ref)) hg;have eg:upd G g (.lst (ts.map V.ref)) g=some (.lst (ts.map V.ref)):=qb;have X:=hA.mono fun _ _ z=>s5 _ _ z;generalize upd G g (.lst (ts.map V.ref))=G1 at s5 eg X;have ai:=sG.trans s5;ext;have aj:IPL G1 g ts (rs.map (ixP ss)):=⟨eg,X⟩;show⟨g,ts,(rs.map (ixP ss)).map fun q=>((q.1:Int),(q.2:Int)),rfl,eg,by omega,by rw[ya,ya];omega,fun j t q S hq=>?_,fun j a b ha hb=>?_,fun l2 as=>?_⟩
     .rw [yd] at hq;obtain⟨q',au,rfl⟩:=yn.mp hq;show X.at_ j t q' S au
     .rw [yd,yd] at ha hb;obtain⟨a',ak,rfl⟩:=yn.mp ha;obtain⟨b',am,rfl⟩:=yn.mp hb;obtain⟨a2,al,rfl⟩:=yn.mp ak;obtain⟨b2,an,rfl⟩:=yn.mp am;have:=L.up.2 j a2 b2 al an;show((ss.idxOf a2.1:Nat):Int)<((ss.idxOf b2.1:Nat):Int);omega
     have s6:=qI (Sr G1) (o:=.lst (ts.map V.ref)) as;have e6:upd G1 l2 (.lst (ts.map V.ref)) l2=some (.lst (ts.map V.ref)):=qb;generalize upd G1 l2 (.lst (ts.map V.ref))=G2 at s6 e6;have p:=aj.same s6;show .inr (.inl ⟨g,l2,true,2,rfl,rfl,by decide,eqT_ipl p e6,?_⟩);ext;show yq ?_;ext;show qeJ ?_;ext;show⟨g,_,rfl,.of p.1,je (xs:=ts.map V.ref) (fun i ys G=>G=G2/\ys=[]) ⟨rfl,rfl⟩ (fun i ys G _ m=>by rw[m.1];show .of p.1) (fun i y ys G I m=>?_) fun ys G m=>?_⟩
     .obtain⟨rfl,rfl⟩:=m;rw[yd] at I;obtain⟨t,S,rfl⟩:=yn.mp I;have ae:=(yc.mp S).1;obtain⟨W,A⟩:∃ q,rs[i]?=some q:=⟨_,yb (by omega)⟩;have et:=p.2.at_ i t (ixP ss W) S (by rw[yd,A];rfl);have ba:=L.up.1 W (ye A);show⟨t,_,rfl,.of et,rfl,_,_,rfl,_,_,rfl,rfl,?_⟩;ext;show qP (fun h=>absurd (yk h) (by show ¬ ((ss.idxOf W.2:Nat):Int)<=((ss.idxOf W.1:Nat):Int);omega)) fun _=>⟨rfl,rfl⟩
     .obtain⟨rfl,rfl⟩:=m;show⟨by show 0<=sizeLine;decide,fun c1 ao=>?_⟩;have s7:=qI (Sr G) (o:=.lst []) ao;have e7:upd G c1 (.lst []) c1=some (.lst []):=qb;generalize upd G c1 (.lst [])=G3 at s7 e7;ext;show⟨by show 0<=sizeLine;decide,fun c2 ap=>?_⟩;have s8:=qI (Sr G3) (o:=.lst []) ap;have e8:upd G3 c2 (.lst []) c2=some (.lst []):=qb;generalize upd G3 c2 (.lst [])=G4 at s8 e8;show .inr (.inl ⟨c1,c2,true,1,rfl,rfl,by decide,qey (s8 _ _ e7) e8,?_⟩);ext;show yq ?_;have ad:=s7.trans s8;have C:=p.same ad;ext;show .inl ⟨⟨_,.of C.1⟩,je (xs:=ts.map V.ref) (fun i ys G=>G=G4/\ys=[]) ⟨rfl,rfl⟩ (fun i ys G _ m=>by rw[m.1];show .of C.1) (fun i y ys G I m=>?_) fun ys G m=>?_⟩
      .obtain⟨rfl,rfl⟩:=m;rw[yd] at I;obtain⟨t,S,rfl⟩:=yn.mp I;have ae:=(yc.mp S).1;obtain⟨W,A⟩:∃ q,rs[i]?=some q:=⟨_,yb (by omega)⟩;have et:=C.2.at_ i t (ixP ss W) S (by rw[yd,A];rfl);ext
       have af:∀ c∈ss,c∉gs->ss.idxOf c∉ks:=fun c hc hn z=>hn (by
        rw[O];show yQ.mpr ⟨_,z,?_⟩;unfold tn;rw[Ye,yb (yR hc),Ym];rfl)
       obtain⟨_,mc,md,_⟩:=L.g.inn _ (ye A);obtain⟨nc,nd⟩:=L.no _ (ye A);have U:=(s2.trans (ai.trans (s6.trans ad))) _ _ aa;show .inl (qap et (v:=iV (ss.idxOf W.1)) (qo (j:=0) rfl) ?_);ext;show qcd U ?_;rw[yl (af _ mc nc)];ext;show yq ?_;ext;show .inl (qap et (v:=iV (ss.idxOf W.2)) (qo (j:=1) rfl) ?_);ext;show qcd U ?_;rw[yl (af _ md nd)];ext;show qP (fun h=>by cases h) fun _=>⟨rfl,rfl⟩
      .obtain⟨rfl,rfl⟩:=m;show⟨by show 0<=sizeLine;decide,fun c3 aq=>?_⟩;have s9:=qI (Sr G) (o:=.lst []) aq;have e9:upd G c3 (.lst []) c3=some (.lst []):=qb;generalize upd G c3 (.lst [])=G5 at s9 e9;ext;show⟨by show 0<=sizeLine;decide,fun c4 ar=>?_⟩;have ah:=qI (Sr G5) (o:=.lst []) ar;show .inl (.inl (.inr (.inl ⟨c3,c4,true,1,rfl,rfl,by decide,qey (ah _ _ e9) qb,q _ (s2.trans (ai.trans (s6.trans (ad.trans (s9.trans ah)))))⟩)))
theorem KW:FnScope ["_law_way","_law_web","_law_one","_law_other","_law_found","e"] ["_law_way","_law_web","_law_one","_law_other"] (qh zN):=fS
theorem uJ:FnScope ["_law_web","_law_names_here","_law_bits_here","_law_table_here","_law_gone","_law_again","_law_told","_law_kept"] ["_law_web","_law_names_here","_law_bits_here","_law_table_here","_law_gone","_law_again"] (qh qbf):=fS
def RfB(H:Hp)(ss:List Str)(a:Nat)(v u z:V):Prop:=(z=v/\BdT H v)\/(a=1/\z=u/\(∃ s,v=.str s/\s∈ss)/\BdT H u)
inductive spRfL(cw:Addr)(vs:List V)(H:Hp)(Q:VK)(E:XK):Prop|mk (x:Addr) (ss:List Str) (ns:List Nat) (way:Nat) (v u z:V) (_:vs=[.int (way:Int),.ref x,v,u]) (_:way<2) (_:WebAt cw H x ss ns) (_:RfB H ss way v u z) (_:∀(l:Addr) (H':Hp),L2.Same H H'->H' l=some (.lst [z,.bl false])->Q (.ref l) H')
inductive spBoQ(cw:Addr)(vs:List V)(H:Hp)(Q:VK)(E:XK):Prop|mk (x n bb lt go:Addr) (ss:List Str) (ns:List Nat) (TI:List (Nat×Nat)) (bs ks:List Nat) (b:Bool) (_:vs=[.ref x,.ref n,.ref bb,.ref lt,.ref go,.bl b]) (_:W30 cw H x ss ns (TI.map (nmP ss))) (_:DwQ H n bb lt ss TI bs) (_:H go=some (.lst (ks.map iV))) (_:(ks.length=1\/ks.length=2)) (_:(∀ k∈ks,k<ss.length)) (_:∀ H',L2.Same H H'->Q (.bl true) H')
theorem ok_rfL(F:Fun K "_law_refused" "_law_refused" zN f fd)(T:Txt K mg cc cw)(D:W.mroIn K (cc 0) (.ref (cc 0))=some true)(N:DefOk P w K mg base (CX1 P w) 17 "leaving_out" ["web","place"] (spLv1B cc cw))(M:DefOk P w K mg base (CX1 P w) 17 "leaving_both" ["web","one","other"] (spLv2B cc cw)):FnOk P w K mg base CX0 18 f fd ["_law_way","_law_web","_law_one","_law_other"] (spRfL cw):=by
 show F.ok KW fun _ _ _ _ H vs Q E B h=>?_
 .obtain⟨x,ss,ns,m,v,u,z,rfl,X,s,I,q⟩:=h;have U:=jY B;show⟨_,(qc (qk (i:=4) KW.nd rfl (yL rfl) j8)
 (qc (ps_try rfl rfl rfl qx)
 (qe (qm (pv 4))))),?_⟩
  ext;show⟨fun σ c g H'=>∃ b,c=.ref (cc 0)/\g=some b/\L2.Same H H'/\H' b=some (.xd [(qe4 0,z)])/\σ=[some (.int (m:Int)),some (.ref x),some v,some u,some .non,none],_,fun pn xe qaE=>(qe (qM (qj (zI (K:=K) rfl U) (pv 0) qg (qA _)) (qe (qL (qbW N (hmR B) qaE (qa (pv 1) (qa (pv 2) qd))))) (qe (qL (qbW M (hmR B) qaE (qa (pv 1) (qa (pv 2) (qa (pv 3) qd)))))))),?_,fun a C O aa H' S t=>?_⟩
  .have j:Rz cc H (fun c g H'=>∃ b,c=.ref (cc 0)/\g=some b/\L2.Same H H'/\H' b=some (.xd [(qe4 0,z)])/\[some (.int (m:Int)),some (.ref x),some v,some u,some .non,none]=[some (.int (m:Int)),some (.ref x),some v,some u,some .non,(none:Option V)]) (0,z):=fun b H' s' n=>⟨b,rfl,rfl,s',n,rfl⟩;ext;show qb9 ?_;ext;show qP (fun r=>?_) fun r=>?_
   .have r:=yk r;ext;rcases I with⟨rfl,hb⟩ | ⟨e,_⟩
    .show⟨x,ss,ns,z,rfl,s,hb,j⟩
    .omega
   .ext;rcases I with⟨rfl,hb⟩ | ⟨_,rfl,⟨y,rfl,n⟩,hb⟩
    .show⟨x,ss,ns,z,u,rfl,s,.inl ⟨hb,j⟩⟩
    .show⟨x,ss,ns,.str y,z,rfl,s,.inr ⟨y,rfl,n,hb,j⟩⟩
  .obtain⟨b,A,rfl,Y,n,rfl⟩:=S;cases A;show⟨_,(ph_as (K:=K) rfl KW.nd (i:=5) rfl rfl rfl T.m_NoPlace (qe (qk (i:=4) KW.nd rfl (yL rfl) (qG (qa (qB (K:=K) rfl (pv 5) rfl) (qa (qv (qaX (K:=K) rfl) rfl T.b_isinstance YL (qa (pv 5) (qa (qdM (v:=.ref (cc 1)) rfl T.m_NoPairs rfl) qd))) qd))))) (ph_no (K:=K) rfl rfl T.m_OnceError (qe (qk (i:=4) KW.nd rfl (yL rfl) (qG qd))) ph_nil)),?_⟩;show⟨true,D,T.xat 0 (by decide),T.xat 0 (by decide),zE ?_⟩;have p:IsX H' a (cc 0) (some b):=.inr t;have Z:TyX K H' (.ref a) (.ref (cc 0)):=.inr ⟨a,cc 0,some b,rfl,rfl,p,T.xat 0 (by decide),fun d z=>by cases z;show⟨_,n⟩⟩;ext;show .inr ⟨a,cc 0,b,_,z,rfl,p,T.xat 0 (by decide),T.na 0 (by decide),n,rfl,?_⟩;ext;show qbY Z rfl (T.kit 0 1 (by decide) (by decide)) ?_;ext;show⟨by show 2<=sizeLine;decide,fun l hl=>?_⟩;have J:=qI Y (o:=.lst [z,.bl false]) hl;have G:upd H' l (.lst [z,.bl false]) l=some (.lst [z,.bl false]):=qb;have R:decide (0=1)=false:=rfl;rw[R];generalize upd H' l (.lst [z,.bl false])=L at J G;ext;show q l L J G
theorem ok_boQ(F:Fun K "_law_both" "_law_both" qbf f fd)(T:Txt K mg cc cw)(u4:DefOk P w K mg base CX0 18 "_law_asked" ["_law_web","_law_names_here","_law_gone"] (spAsQ cw))(Us:DefOk P w K mg base CX0 2 "_law_right" ["_law_names_here","_law_bits_here","_law_table_here","_law_gone","_law_told"] spRtQ):FnOk P w K mg base CX0 19 f fd ["_law_web","_law_names_here","_law_bits_here","_law_table_here","_law_gone","_law_again"] (spBoQ cw):=by
 show F.ok uJ fun _ _ _ _ H vs Q E N h=>?_
 .obtain⟨x,n,bb,lt,J,ss,ns,TI,bs,ks,b,rfl,W,D,c,C,j,q⟩:=h;have hu:=jY N;have B:ks.length<=2:=by omega
  show⟨_,(qc (qk (i:=6) uJ.nd rfl (yL rfl) (qt u4 (hmR N) qC (qa (pv 0) (qa (pv 1) (qa (pv 4) qd)))))
 (qc (qM (qX (qW (qt Us (hmR N) qC (qa (pv 1) (qa (pv 2) (qa (pv 3) (qa (pv 4) (qa (pv 6) qd)))))))) (qe (qm jl)) qx)
 (qc (qM (PW.pt (qak (qj qga (pv 6) j8 (qA _)) (zO (qX (qW (pv 5)))))) (qe (qm jl)) qx)
 (qc (qk (i:=7) uJ.nd rfl (yL rfl) (zw (qbs (K:=K) rfl rfl) rfl T.b_list xI (qa (pv 6) qd)))
 (qc (qL (qaW (K:=K) rfl yK Yc Yd qQ (pv 6) (qa (jK (qa zu (qa zu qd))) qd)))
 (qe (qm (jy (zI (K:=K) rfl hu) (qt u4 (hmR N) qC (qa (pv 0) (qa (pv 1) (qa (pv 4) qd)))) (pv 7) (qA _))))))))),?_⟩
  ext;show⟨x,n,J,ss,ns,_,ks,rfl,W,D.n,c,C,j,fun rs l m H1 u Y hP L M=>?_,fun H1 u M=>?_⟩
  .ext;show⟨n,bb,lt,J,ss,TI,bs,ks,.ref l,rfl,D.same u,u _ _ c,B,j,.inr ⟨M,l,m,rs,rfl,hP,L⟩,fun H2 O=>?_⟩;ext;show yq ?_;ext;show qgp ?_;rw[yl (fun z=>by cases z)];ext;show yq ?_;ext;have G:=u.trans O
   cases b with
   | false =>
    show zE ?_;ext;show q H2 G
   | true =>
    show yq ?_;ext;have p:=hP.same O;show .inl ⟨l,_,rfl,.inl (.of p.1),fun v s=>?_⟩;have s3:=qI (Sr H2) (o:=.lst (m.map V.ref)) s;have ek:upd H2 v (.lst (m.map V.ref)) v=some (.lst (m.map V.ref)):=qb;have ac:v≠l:=fun z=>by rw[z,p.1] at s;cases s
    generalize upd H2 v (.lst (m.map V.ref))=H3 at s3 ek;have y:=p.same s3;ext;show⟨.inl ⟨rfl,_,.of y.1⟩,?_⟩;ext;show⟨by show 2<=sizeLine;decide,fun S aa=>?_⟩;have R:=qI (Sr H3) (o:=.tup [.str "a",.str "b"]) aa;generalize upd H3 S (.tup [.str "a",.str "b"])=U at R;have a:=y.same R;have ad:=a.2.len;have ae:=L.g.few;ext;show⟨l,_,_,rfl,rfl,a.1,by rw[ya];show qi (by omega),?_⟩;have I:L2.Same H (upd U l (.lst (m.map V.ref++[.ref S]))):=qaH ((G.trans s3).trans R) Y;have A:PL (upd U l (.lst (m.map V.ref++[.ref S]))) v m rs:=⟨by rw[qf ac];show R _ _ ek,a.2.mono fun t ab z=>by rw[qf (qam z a.1 (fun e=>by cases e))];show z⟩;generalize upd U l (.lst (m.map V.ref++[.ref S]))=H5 at I A;ext;show⟨x,n,J,ss,ns,_,ks,rfl,W.same I,(D.same I).n,I _ _ c,C,j,fun rs' l' af H6 s6 _ X L6 _=>?_,fun H6 s6 Z=>absurd M Z⟩;have er:=L.r.det L6.r;subst er;ext;show .inl (.inl (.inr (.inl ⟨l',v,true,2,rfl,rfl,by decide,qe7 X (A.same s6),q _ (I.trans s6)⟩)))
  .ext;show⟨n,bb,lt,J,ss,TI,bs,ks,.non,rfl,D.same u,u _ _ c,B,j,.inl ⟨M,rfl⟩,fun H2 O=>?_⟩;ext;show yq ?_;ext;show qgp ?_;rw[yB rfl];ext;show zE ?_;show zE ?_;ext;show q H2 (u.trans O)
theorem KE:FnScope ["_law_script","_law_cell_here","_law_purse_here","_law_many_here","_law_names_here","_law_ties_here","_law_bits_here","_law_table_here","_law_web","_law_asked_here","_law_turn","_law_gone","_law_bad","_law_worse","_law_due","_law_way","_law_name"] ["_law_script"] (qh qcQ):=fS
inductive spLaw(K:W.Frag)(vs:List V)(H:Hp)(Q:VK)(E:XK):Prop|mk (a:Addr) (ns:List Int) (_:vs=[.ref a]) (_:SqL K H a (ns.map V.int)) (_:ns.length<=63) (_:∀ H',Q (.bl true) H')
theorem Pu.same(h:Pu H p)(s:L2.Same H H'):Pu H' p:=by
 obtain⟨a,b,c,e,r⟩:=h;show⟨a,b,c,s _ _ e,r⟩
structure LW(cw p x n bb lt:Addr)(ss:List Str)(ns bs:List Nat)(TI:List (Nat×Nat))(J:Hp):Prop where
 wb:WebP (fun a=>a=p) cw J x ss ns
 ad:Adj ss ns (TI.map (nmP ss))
 nm:J n=some (.lst (ss.map V.str))
 np:n≠p
 bm:J bb=some (.lst (zt bs))
 bp:bb≠p
 tm:J lt=some (.lst (zt (tbL (TI.map (nmP ss)) ss (2 ^ ss.length))))
 tp:lt≠p
 o:NOk ss
 few:ss.length<=12
 t:TJ ss.length TI
 b:BtJ ss.length TI bs
structure AkQ(p g0:Addr)(n:Nat)(gl:List Addr)(J:Hp):Prop where
 l:J g0=some (.lst (gl.map V.ref))
 ap:g0≠p
 few:gl.length<=20
 g:∀ g∈gl,∃ ks:List Nat,J g=some (.lst (ks.map iV))/\(ks.length=1\/ks.length=2)/\∀ k∈ks,k<n
section
variable{cw p x n bb lt g0:Addr}{ss:List Str}{ns bs:List Nat}{TI:List (Nat×Nat)}{J J':Hp}{m:Nat}{gl:List Addr}
theorem LW.but(h:LW cw p x n bb lt ss ns bs TI J)(b:But p J J'):LW cw p x n bb lt ss ns bs TI J':=⟨h.wb.keep b,h.ad,b _ _ h.np h.nm,h.np,b _ _ h.bp h.bm,h.bp,b _ _ h.tp h.tm,h.tp,h.o,h.few,h.t,h.b⟩
theorem LW.same(h:LW cw p x n bb lt ss ns bs TI J)(s:L2.Same J J'):LW cw p x n bb lt ss ns bs TI J':=h.but fun c o _ e=>s c o e
theorem LW.w3(h:LW cw p x n bb lt ss ns bs TI J):W30 cw J x ss ns (TI.map (nmP ss)):=by
 have W:Wt cw J x ss ns (TI.map (nmP ss)):=⟨h.wb.web,h.ad,qfu h.o.nd h.t⟩;show⟨W,tj_few W.wok h.ad h.t⟩
theorem LW.d(h:LW cw p x n bb lt ss ns bs TI J):DwQ J n bb lt ss TI bs:=⟨h.nm,h.o.nd,h.few,h.t,h.bm,h.b,h.tm⟩
theorem ks_ne{g:Addr}{ks:List Nat}(f:Pu J p)(e:J g=some (.lst (ks.map iV)))(h:ks.length=1\/ks.length=2):g≠p:=fun z=>by
 obtain⟨a,b,c,ep,_⟩:=f;rw[z,ep] at e;have:=congrArg List.length (show [V.int a,.int b,.int c]=ks.map iV by injection (ym e));rw[ya] at this;simp only[yC,YU] at this;omega
theorem AkQ.but(h:AkQ p g0 m gl J)(f:Pu J p)(b:But p J J'):AkQ p g0 m gl J':=⟨b _ _ h.ap h.l,h.ap,h.few,fun g c=>by
 obtain⟨ks,e,a,i⟩:=h.g g c;show⟨ks,b _ _ (ks_ne f e a) e,a,i⟩⟩
theorem AkQ.same(h:AkQ p g0 m gl J)(s:L2.Same J J'):AkQ p g0 m gl J':=⟨s _ _ h.l,h.ap,h.few,fun g a=>by
 obtain⟨ks,e,k⟩:=h.g g a;show⟨ks,s _ _ e,k⟩⟩
end
theorem qcf{lo hi:Option Int}:∀ y∈qbS xs lo hi,y∈xs:=fun y a=>by
 show List.mem_of_mem_drop (kt a)
theorem ne_nilS{l z:Addr}{xs:List Str}{Q:VK}(hl:H l=some (.lst (xs.map V.str)))(hz:H z=some (.lst []))(q:Q (.bl (!xs.isEmpty)) H):qfw K true (.ref l) (.ref z) H Q:=by
 cases xs with
 | nil=>show .inr (.inl ⟨l,z,true,1,rfl,rfl,by decide,EqT.lst (n:=0) (e:=fun _=>true) (SqL.of hl) (SqL.of hz) rfl fun j x y h=>by(simp at h),q⟩)
 | cons x r=>show .inr (.inl ⟨l,z,false,1,rfl,rfl,by decide,EqT.lstL (SqL.of hl) (SqL.of hz) (by simp),q⟩)
theorem name_small{x:Str}(h:zf x=true):∀ c∈x.cps.toList,c<16 ^ 8:=by
 intro c hc;have a:=YM.mp (qb0 h).2.2 c hc;by_cases b:c<16 ^ 8
 .show b
 .exfalso;unfold sg at a;split at a
  .have e:("z":Str).cps.toList=[122]:=rfl;rw[e] at a;have:([122]:List Nat) < [c]:=List.Lex.rel (by omega);simp[this] at a
  .cases a
theorem qdC(m:Nat):∀{ss:List Str},(∀ s∈ss,zf s=true)->ShwS (ss.map PyData.str) (7*ss.length) m
 | [],_=>.nil
 | s::r,h=>by
  have a:=h s yI;show(ShwS.cons (Shw.str (m:=m) (name_small a)) (qdC m (ss:=r) fun j b=>h j (yx _ b))).mono (by have:=nameS_len a;simp only[yC];omega) (yh _)
theorem BdT.ref{a:Addr}{d:PyData}(h:Dat H (.ref a) d)(f:Shw d n m)(c:n<=400)(b:m<=5):BdT H (.ref a):=⟨d,h,f.mono c b,fun _ e=>by cases e⟩
noncomputable def qfv(p:Addr)(H:Hp):Hp:=fun b=>if b=p then none else H b
theorem qbA{b:Addr}(h:b≠p):qfv p H b=H b:=yD h
theorem outH_sub(p:Addr)(H:Hp):L2.Same (qfv p H) H:=fun b o e=>by
 unfold qfv at e;split at e
 .cases e
 .show e
theorem qcg(b:But p H H'):L2.Same (qfv p H) (qfv p H'):=fun c o e=>by
 by_cases h:c=p
 .unfold qfv at e;rw[yG h] at e;cases e
 .rw [qbA h] at e ⊢;show b c o h e
theorem qc4:jU ss [v,v]=jU ss [v]:=by
 unfold jU;show xp fun s _=>?_
 congr 1
 show Yq.mpr (by simp)
theorem LvR.two{rs:List (Str×Str)}(h:LvR ss tps [v,v] rs):LvR ss tps [v] rs:=by
 unfold LvR at h
 rwa[qc4] at h
inductive Sg(a:Addr)(σ:L2.St):Prop|mk (y1 y2 y3 y4 y5 y6 y7 y8 y9 y10 y11 y12 y13 y14 y15 y16:Option V) (_:σ=[some (.ref a),y1,y2,y3,y4,y5,y6,y7,y8,y9,y10,y11,y12,y13,y14,y15,y16])
inductive T110(cw a:Addr)(D:Ends)(σ:L2.St)(J:Hp):Prop|mk (H1:Hp) (p x n bb lt g0:Addr) (ss:List Str) (ns bs:List Nat) (TI:List (Nat×Nat)) (gl:List Addr) (y1 y5 y10 y11 y12 y13 y14 y15 y16:Option V) (_:(∀ σ' J',L2.Same H1 J'->Sg a σ'->D.nx σ' J')) (_:σ=[some (.ref a),y1,some (.ref p),some (.int (ss.length:Int)),some (.ref n),y5,some (.ref bb),some (.ref lt),some (.ref x),some (.ref g0),y10,y11,y12,y13,y14,y15,y16]) (_:L2.Same H1 J) (_:H1 p=none) (_:Pu J p) (_:LW cw p x n bb lt ss ns bs TI J) (_:AkQ p g0 ss.length gl J)
theorem ok_law47(F:Fun K "law" "law" qcQ f fd)(T:Txt K mg cc cw)(Uy:DefOk P w K mg base CX0 1 "_law_cell" ["_law_script","_law_k"] (spCe K))(Ut:DefOk P w K mg base CX0 1 "_law_purse" ["_law_cell_here"] spPu)(Ky:DefOk P w K mg base CX0 1 "_law_take" ["_law_purse_here","_law_many_here"] spTkP)
  (Uz:DefOk P w K mg base CX0 2 "_law_many" ["_law_purse_here","_law_most"] spMyP) (Uu:DefOk P w K mg base CX0 2 "_law_names" ["_law_purse_here","_law_many_here"] spNmJ) (UA:DefOk P w K mg base CX0 2 "_law_ties" ["_law_purse_here","_law_many_here"] spTsJ)
  (UB:DefOk P w K mg base CX0 7 "_law_made" ["_law_names_here","_law_ties_here"] (spMdJ cw)) (UC:DefOk P w K mg base CX0 1 "_law_bits" ["_law_many_here","_law_ties_here"] spBtJ) (Uv:DefOk P w K mg base CX0 1 "_law_table" ["_law_many_here","_law_bits_here"] spTbQ)
  (Ue:DefOk P w K mg base CX0 19 "_law_both" ["_law_web","_law_names_here","_law_bits_here","_law_table_here","_law_gone","_law_again"] (spBoQ cw)) (uN:DefOk P w K mg base CX0 18 "_law_refused" ["_law_way","_law_web","_law_one","_law_other"] (spRfL cw))
  (KO:DefOk P w K mg base CX0 17 "leaving_both" ["web","one","other"] (spLv2 cw)) (KS:DefOk P w K mg base CX0 17 "leaving_out" ["web","place"] (spLv1 cw)):FnOk P w K mg base CX0 20 f fd ["_law_script"] (spLaw K):=by
 show F.ok KE fun _ _ _ _ H vs Q E B h=>?_
 .obtain⟨a,nz,rfl,hS,gg,q⟩:=h;have hu:=jY B;obtain⟨TC110,aq⟩:∃ t:TS,t=T110 cw a:=⟨_,rfl⟩;obtain⟨TC115,ar⟩:∃ t:TS,t=TC110:=⟨_,rfl⟩;show⟨_,(qc (qZ yP rfl (qS (K:=K) rfl (qz (jV (K:=K) rfl) (jf (qdk (K:=K) rfl) (pv 0) jB (jh qg)) (qG (qa (qt Uy (hmR B) qC (qa (pv 0) (qa qg qd))) qd)))) (qu (i:=1) KE.nd rfl (yL rfl))
 (qc (qk (i:=2) KE.nd rfl (yL rfl) (qt Ut (hmR B) qC (qa (pv 1) qd)))
 (qc (qk (i:=3) KE.nd rfl (yL rfl) (qt Uz (hmR B) qC (qa (pv 2) (qa qg qd))))
 (qc (qk (i:=4) KE.nd rfl (yL rfl) (qt Uu (hmR B) qC (qa (pv 2) (qa (pv 3) qd))))
 (qc (qk (i:=5) KE.nd rfl (yL rfl) (qt UA (hmR B) qC (qa (pv 2) (qa (pv 3) qd))))
 (qc (qk (i:=6) KE.nd rfl (yL rfl) (qt UC (hmR B) qC (qa (pv 3) (qa (pv 5) qd))))
 (qc (qk (i:=7) KE.nd rfl (yL rfl) (qt Uv (hmR B) qC (qa (pv 3) (qa (pv 6) qd))))
 (qc (qk (i:=8) KE.nd rfl (yL rfl) (qt UB (hmR B) qC (qa (pv 4) (qa (pv 5) qd))))
 (qc (qaQ (sc:=qh qcQ) (XN:=["_law_script","_law_cell_here","_law_purse_here","_law_many_here","_law_names_here","_law_ties_here","_law_bits_here","_law_table_here","_law_web","_law_asked_here","_law_turn","_law_gone","_law_bad","_law_worse","_law_due","_law_way","_law_name"]) ["_law_k"] 1 [] rfl rfl rfl (by decide +kernel) rfl (by decide +kernel) (i:=9) KE.nd rfl rfl
  (zv rfl T.b_range (qa (pv 3) qd)) (fun _ _ _ _=>(qu (i:=0) (show(["_law_k"]:List Str).Nodup by decide +kernel) rfl (yL rfl))) jp
  (fun _ _ _ _=>zi)
  (fun _ _ _ _=>(qG (qa (pv 0) qd))))
 (qc (qZ yP rfl (zv rfl T.b_range (qa (qz qbT qg (zw call_int1 rfl T.b_int boot_int (qa (jy qdQ (pv 3) qg (qA _)) qd))) qd)) (qu (i:=10) KE.nd rfl (yL rfl))
 (qe (qL (qaW (K:=K) rfl yK Yc Yd qQ (pv 9) (qa (qG (qa (qt Ky (hmR B) qC (qa (pv 2) (qa (pv 3) qd))) (qa (qt Ky (hmR B) qC (qa (pv 2) (qa (pv 3) qd))) qd))) qd)))))
 (qc (qZ yP rfl (qS (K:=K) rfl (pe_rv2 (K:=K) rfl (pv 9) (jh (qp (qr (K:=K) rfl hu) (qG (qa qg (qa (qan zQ qg) qd))) (qt Ky (hmR B) qC (qa (pv 2) (qa qg qd))) (fun _ _=>rfl))))) (qu (i:=11) KE.nd rfl (yL rfl))
 (qe (qM (qX (qW (qt Ue (hmR B) qC (qa (pv 8) (qa (pv 4) (qa (pv 6) (qa (pv 7) (qa (pv 11) (qa (jy (zI (K:=K) rfl hu) (qt Ky (hmR B) qC (qa (pv 2) (qa qg qd))) qg (qA _)) qd))))))))) (qe (qm jl)) qx)))
 (qb8 TC110 (qc (qk (i:=12) KE.nd rfl (yL rfl) (qp (qr (K:=K) rfl hu) (qG (qa j8 (qa qg (qa jl (qa zu (qa zu (qa (qG (qa (pv 4) qd)) (qa (jK qd) (qa jQ qd))))))))) (qt Ky (hmR B) qC (qa (pv 2) (qa qg qd))) (fun _ _=>rfl)))
 (qc (qk (i:=13) KE.nd rfl (yL rfl) (qp (qr (K:=K) rfl hu) (qG (qa (qz (jV (K:=K) rfl) zu zu) (qa qg (qa j8 qd)))) (qt Ky (hmR B) qC (qa (pv 2) (qa qg qd))) (fun _ _=>rfl)))
 (qc (qk (i:=14) KE.nd rfl (yL rfl) (qv (qcX (K:=K) rfl hu B.gd T.smod) rfl T.b_repr boot_repr (qa (qG (qa (pv 12) (qa jl qd))) qd)))
 (qc (qZ yP rfl (zv rfl T.b_range (qa qg qd)) (qu (i:=15) KE.nd rfl (yL rfl))
 (qe (qM (qj (qaq (K:=K) rfl hu) (qv (qcX (K:=K) rfl hu B.gd T.smod) rfl T.b_repr boot_repr (qa (qt uN (hmR B) qC (qa (pv 15) (qa (pv 8) (qa (pv 12) (qa (pv 13) qd))))) qd)) (pv 14) (qA _)) (qe (qm jl)) qx)))
 (qc (qM (PW.pt (qbh (qj (qaq (K:=K) rfl hu) (pv 4) (qG qd) (qA _)) (qbg (qj (qaq (K:=K) rfl hu) (qv (qcX (K:=K) rfl hu B.gd T.smod) rfl T.b_repr boot_repr (qa (qt uN (hmR B) qC (qa qg (qa (pv 8) (qa (qp (qr (K:=K) rfl hu) (pv 4) qg (fun _ _=>rfl)) (qa (pv 12) qd))))) qd)) (pv 14) (qA _))))) (qe (qm jl)) qx)
 (qb8 TC115 (qc (qZ yP rfl (qS (K:=K) rfl (qz (jV (K:=K) rfl) (jf (qdk (K:=K) rfl) (pv 9) jB (jh qg)) (jf (qdk (K:=K) rfl) (pv 9) (jh (qan zQ qg)) jB))) (qu (i:=11) KE.nd rfl (yL rfl))
 (qe (qM (qX (qW (qt Ue (hmR B) qC (qa (pv 8) (qa (pv 4) (qa (pv 6) (qa (pv 7) (qa (pv 11) (qa jl qd))))))))) (qe (qm jl)) qx)))
 (qe (qZ yP rfl (qS (K:=K) rfl (jf (qdk (K:=K) rfl) (pv 4) jB (jh qg))) (qu (i:=16) KE.nd rfl (yL rfl))
 (qe (qM (qj (qaq (K:=K) rfl hu) (qt KO (hmR B) qC (qa (pv 8) (qa (pv 16) (qa (pv 16) qd)))) (qt KS (hmR B) qC (qa (pv 8) (qa (pv 16) qd))) (qA _)) (qe (qm jl)) qx))))) ?cut115)))))) ?cut110))))))))))))
 (qe (qm jl))),?_⟩
  case cut115 =>
   intro D A J h;rw[ar,aq] at h;obtain⟨H1,p,x,n,bb,lt,L,ss,ns,bs,TI,b,y1,y5,ac,W,af,ag,ah,X,Y,hD,rfl,sJ,av,hP,hL,hA⟩:=h;ext;show .inl ⟨L,_,rfl,.of hA.l,fun c1 fc=>?_⟩;have bo:=qcf (xs:=b.map V.ref) (lo:=none) (hi:=some 1);have bj:=zB (b.map V.ref) none (some 1);have gi:=hA.few;rw[ya] at bj;generalize qbS (b.map V.ref) none (some 1)=N at bo bj;have s1:=qI (Sr J) (o:=.lst N) fc;have e1:upd J c1 (.lst N) c1=some (.lst N):=qb;generalize upd J c1 (.lst N)=J1 at s1 e1;ext;show⟨1,rfl,?_⟩;show⟨_,rfl,?_⟩;show .inl ⟨L,_,rfl,.of (s1 _ _ hA.l),fun c2 fe=>?_⟩;have bp:=qcf (xs:=b.map V.ref) (lo:=some (-1)) (hi:=none);have bm:=zB (b.map V.ref) (some (-1)) none;rw[ya] at bm;generalize qbS (b.map V.ref) (some (-1)) none=O at bp bm;have s2:=qI (Sr J1) (o:=.lst O) fe;have e2:upd J1 c2 (.lst O) c2=some (.lst O):=qb;generalize upd J1 c2 (.lst O)=J2 at s2 e2;show .inl ⟨c1,c2,_,_,rfl,rfl,s2 _ _ e1,e2,Yh (qi (by omega)),fun c3 ff=>?_⟩;have s3:=qI (Sr J2) (o:=.lst (N++O)) ff;have e3:upd J2 c3 (.lst (N++O)) c3=some (.lst (N++O)):=qb;have bq:∀ y∈N++O,y∈b.map V.ref:=fun y hy=>(yA.mp hy).elim (bo y) (bp y);generalize upd J2 c3 (.lst (N++O))=J3 at s3 e3;generalize N++O=xs at e3 bq;have ck:=(s1.trans s2).trans s3;have cy:=hL.same ck;have em:=hA.same ck;show .inl ⟨⟨_,.of e3⟩,qN (xs:=xs) (fun i A G=>L2.Same J3 G/\∃ W,A=[some (.ref a),y1,some (.ref p),some (.int (ss.length:Int)),some (.ref n),y5,some (.ref bb),some (.ref lt),some (.ref x),some (.ref L),ac,W,af,ag,ah,X,Y]) ⟨L2.Same.refl J3,_,rfl⟩ (fun i A G _ j=>.of (j.1 _ _ e3)) (fun i y A G hy j=>?_) fun A G j=>?_⟩
   .obtain⟨R,be,rfl⟩:=j;obtain⟨g,hg,rfl⟩:=yQ.mp (bq y (ye hy));obtain⟨ks,eg,k1,k2⟩:=em.g g hg;have ae:=cy.same R;ext;show⟨x,n,bb,lt,g,ss,ns,TI,bs,ks,true,rfl,ae.w3,ae.d,R _ _ eg,k1,k2,fun G2 s4=>?_⟩;ext;show yq ?_;show⟨R.trans s4,_,rfl⟩
   .obtain⟨R,be,rfl⟩:=j;have ae:=cy.same R;ext;show .inl ⟨n,_,rfl,.of ae.nm,fun c4 fg=>?_⟩;have br:=qcf (xs:=ss.map V.str) (lo:=none) (hi:=some 1);generalize qbS (ss.map V.str) none (some 1)=ax at br;have s4:=qI (Sr G) (o:=.lst ax) fg;have e4:upd G c4 (.lst ax) c4=some (.lst ax):=qb;generalize upd G c4 (.lst ax)=G4 at s4 e4;have eo:=ae.same s4;show .inl ⟨⟨_,.of e4⟩,qN (xs:=ax) (fun i A G=>L2.Same G4 G/\∃ Y,A=[some (.ref a),y1,some (.ref p),some (.int (ss.length:Int)),some (.ref n),y5,some (.ref bb),some (.ref lt),some (.ref x),some (.ref L),ac,be,af,ag,ah,X,Y]) ⟨L2.Same.refl G4,_,rfl⟩ (fun i A G _ j=>.of (j.1 _ _ e4)) (fun i y A G5 hy j=>?_) fun A G5 j=>?_⟩
    .obtain⟨s5,gf,rfl⟩:=j;obtain⟨v,hv,rfl⟩:=yQ.mp (br y (ye hy));have bz:=eo.same s5;ext;show⟨x,ss,ns,_,v,v,rfl,bz.w3,hv,hv,fun rs l ls G6 s6 _ az L6 hm=>?_,fun G6 s6 hm=>?_⟩
     .ext;show⟨x,ss,ns,_,v,rfl,(bz.same s6).w3,hv,fun rs' l' ga G7 s7 _ ao L7 _=>?_,fun G7 s7 ce=>absurd (by rw[<- qc4];show hm) ce⟩;have er:=L6.r.two.det L7.r;subst er;ext;show .inr (.inl ⟨l,l',true,2,rfl,rfl,by decide,qe7 (az.same s7) ao,?_⟩);ext;show yq ?_;show⟨(s5.trans s6).trans s7,_,rfl⟩
     .ext;show⟨x,ss,ns,_,v,rfl,(bz.same s6).w3,hv,fun rs' l' ga G7 s7 _ ao L7 ce=>absurd (by rw[qc4];show ce) hm,fun G7 s7 _=>?_⟩;ext;show .inl ⟨rfl,rfl,?_⟩;rw[yG rfl,show eqV V.non V.non=true from rfl];ext;show yq ?_;show⟨(s5.trans s6).trans s7,_,rfl⟩
    .obtain⟨s5,gf,rfl⟩:=j;show hD _ _ (sJ.trans (ck.trans (R.trans (s4.trans s5)))) ⟨_,_,_,_,_,_,_,_,_,_,_,_,_,_,_,_,rfl⟩
  case cut110 =>
   intro D A J h;rw[aq] at h;obtain⟨H1,p,x,n,bb,lt,L,ss,ns,bs,TI,b,y1,y5,ac,W,af,ag,ah,X,Y,hD,rfl,sJ,av,hP,hL,hA⟩:=h;ext;show⟨by show 1<=sizeLine;decide,fun Z al=>?_⟩;have s6:=qI (Sr J) (o:=.lst [.ref n]) al;have e6:upd J Z (.lst [.ref n]) Z=some (.lst [.ref n]):=qb;have n1:=hP.apart al;generalize upd J Z (.lst [.ref n])=J6 at s6 e6;ext;show⟨by show 0<=sizeLine;decide,fun g2 df=>?_⟩;have s7:=qI (Sr J6) (o:=.tup []) df;have e7:upd J6 g2 (.tup []) g2=some (.tup []):=qb;have n2:=(hP.same s6).apart df;generalize upd J6 g2 (.tup [])=J7 at s7 e7;ext;intro g3 dg;have s8:=qI (Sr J7) (o:=.dK []) dg;have e8:upd J7 g3 (.dK []) g3=some (.dK []):=qb;have n3:=(hP.same (s6.trans s7)).apart dg;generalize upd J7 g3 (.dK [])=J8 at s8 e8;have co:=(s6.trans s7).trans s8;have es:=hL.same co
   have hm:∀ v∈[V.non,.int 0,.bl true,.str "",.str "zzzzzzz",.ref Z,.ref g2,.ref g3],BdT (qfv p J8) v:=fun v hv=>by
    simp only[yv,yM,Yt] at hv;have sh:=qdC 0 hL.o.nm;have few:=hL.few;rcases hv with rfl | rfl | rfl | rfl | rfl | rfl | rfl | rfl
    .show⟨_,.non,Shw.non.mono (by decide) (yh _),fun _ e=>by cases e⟩
    .show⟨_,.int 0,(Shw.int (by decide) (by decide)).mono (by decide) (yh _),fun _ e=>by cases e⟩
    .show⟨_,.bl true,Shw.bl.mono (by decide) (yh _),fun _ e=>by cases e⟩
    .show⟨_,.str _,(Shw.str (by decide)).mono (by decide) (yh _),fun _ e=>by cases e;decide⟩
    .show⟨_,.str _,(Shw.str (by decide)).mono (by decide) (yh _),fun _ e=>by cases e;decide⟩
    .show BdT.ref (.lst ((qbA n1).trans ((s7.trans s8) _ _ e6)) (.cons (.lst ((qbA hL.np).trans es.nm) (DatS.strs ss)) .nil)) (ShwS.cons sh.list .nil).list (by omega) (by decide)
    .show BdT.ref (.tup ((qbA n2).trans (s8 _ _ e7)) .nil) (ShwS.nil (m:=0)).tuple (by decide) (by decide)
    .show BdT.ref (.dnil ((qbA n3).trans e8)) (Shw.dnil (m:=0)) (by decide) (by decide)
   ext;show⟨by show 8<=sizeLine;decide,fun l8 dr=>?_⟩;have s9:=qI (Sr J8) (o:=.lst [V.non,.int 0,.bl true,.str "",.str "zzzzzzz",.ref Z,.ref g2,.ref g3]) dr;have e9:upd J8 l8 (.lst [V.non,.int 0,.bl true,.str "",.str "zzzzzzz",.ref Z,.ref g2,.ref g3]) l8=some (.lst [V.non,.int 0,.bl true,.str "",.str "zzzzzzz",.ref Z,.ref g2,.ref g3]):=qb;have n9:=(hP.same co).apart dr;have fz:[V.non,.int 0,.bl true,.str "",.str "zzzzzzz",.ref Z,.ref g2,.ref g3].length=8:=rfl;generalize upd J8 l8 (.lst [V.non,.int 0,.bl true,.str "",.str "zzzzzzz",.ref Z,.ref g2,.ref g3])=J9 at s9 e9;generalize [V.non,.int 0,.bl true,.str "",.str "zzzzzzz",.ref Z,.ref g2,.ref g3]=xs at hm e9 fz;have ec:=co.trans s9;have ak:=hP.same ec;ext;show⟨p,8,rfl,ak,by decide,by decide,fun d J10 hd bu C=>?_⟩;obtain⟨v,hv⟩:∃ v,xs[d]?=some v:=⟨_,yb (by omega)⟩;have fb:=((hm v (ye hv)).same (qcg fun c o _ e=>s9 c o e)).same (qcg bu);show .inl (zq (bu _ _ n9 e9) (qo hv) ?_);have am:But p J J10:=fun c o hc e=>bu _ _ hc (ec c o e);have ai:=hL.but am;have s:=hA.but hP am;have eb:L2.Same H1 J10:=fun c o e=>am _ _ (fun z=>by rw[z,av] at e;cases e) (sJ c o e);ext;show⟨by decide,?_⟩;ext;show⟨by show 3<=sizeLine;decide,fun l3 dq=>?_⟩;have cl:=qI (Sr J10) (o:=.lst [V.str ("zzzzzz"++"z"),V.int 7,V.non]) dq;have bx:upd J10 l3 (.lst [V.str ("zzzzzz"++"z"),V.int 7,V.non]) l3=some (.lst [V.str ("zzzzzz"++"z"),V.int 7,V.non]):=qb;have gb:=C.apart dq;have fx:[V.str ("zzzzzz"++"z"),V.int 7,V.non].length=3:=rfl;generalize upd J10 l3 (.lst [V.str ("zzzzzz"++"z"),V.int 7,V.non])=J11 at cl bx;generalize [V.str ("zzzzzz"++"z"),V.int 7,V.non]=ws at bx fx;ext;show⟨p,3,rfl,C.same cl,by decide,by decide,fun d2 J12 de cp bh=>?_⟩;obtain⟨u,fw⟩:∃ u,ws[d2]?=some u:=⟨_,yb (by omega)⟩;show .inl (zq (cp _ _ gb bx) (qo fw) ?_);have S:But p J10 J12:=fun c o hc e=>cp _ _ hc (cl c o e);have db:=fb.same (qcg S);have aa:=ai.but S;have bf:=s.but C S;have bn:L2.Same H1 J12:=fun c o e=>S _ _ (fun z=>by rw[z,av] at e;cases e) (eb c o e);have cb:BdT J12 v:=db.same (outH_sub p J12);obtain⟨dt,cd,ft,_⟩:=id cb;have hs:ShwS [dt,.bool false] 2000 6:=(ShwS.cons (ft.mono (yh _) (show 5<=6 by decide)) (ShwS.cons Shw.bl ShwS.nil)).mono (by omega) (yh _);have ch:=hs.list.mono (show 2000<=2 ^ 20 by decide) (show 7<=60 by decide);ext;show⟨by show 2<=sizeLine;decide,fun ld fk=>?_⟩;have cm:=qI (Sr J12) (o:=.lst [v,.bl false]) fk;have cr:upd J12 ld (.lst [v,.bl false]) ld=some (.lst [v,.bl false]):=qb;generalize upd J12 ld (.lst [v,.bl false])=J13 at cm cr;show⟨_,.list [dt,.bool false],rfl,.lst cr (.cons (cd.same cm) (.cons (.bl _) .nil)),ch,?_⟩;obtain⟨tx,ci⟩:∃ tx,tx=(PyData.list [dt,.bool false]).shown:=⟨_,rfl⟩;rw[<- ci];have ct:(if true=true then !eqV (V.str tx) (V.str tx) else eqV (V.str tx) (V.str tx))=false:=by simp[eqV]
   ext;show⟨2,rfl,by decide,by decide,j9 (lo:=0) (n:=2) (fun i A G=>L2.Same J12 G/\∃ X,A=[some (.ref a),y1,some (.ref p),some (.int (ss.length:Int)),some (.ref n),y5,some (.ref bb),some (.ref lt),some (.ref x),some (.ref L),ac,W,some v,some u,some (.str tx),X,Y]) ⟨cm,_,rfl⟩ (fun i A G hi j=>?_) fun A G j=>?_⟩
   .obtain⟨R,ge,rfl⟩:=j;rw[Km];ext;show⟨x,ss,ns,i,v,u,v,rfl,hi,(aa.same R).wb.web,.inl ⟨rfl,cb.same R⟩,fun l G2 s2 el=>?_⟩;ext;show⟨_,.list [dt,.bool false],rfl,.lst el (.cons (cd.same (R.trans s2)) (.cons (.bl _) .nil)),ch,?_⟩;rw[<- ci];ext;show .inl ⟨rfl,rfl,?_⟩;rw[ct];ext;show yq ?_;show⟨R.trans s2,_,rfl⟩
   .obtain⟨R,ge,rfl⟩:=j;have ae:=aa.same R;ext;show⟨by show 0<=sizeLine;decide,fun z hz=>?_⟩;have U:=qI R (o:=.lst []) hz;have ez:upd G z (.lst []) z=some (.lst []):=qb;have au:=qI (Sr G) (o:=.lst []) hz _ _ ae.nm;generalize upd G z (.lst [])=G1 at U ez au;show ne_nilS au ez ?_;ext;show qP (fun dw=>?_) fun dw=>?_
    .have h0:0<ss.length:=by
      cases ss with
      | nil=>cases dw
      | cons u r=>simp
     have cx:=aa.same U;ext;show qcP (i:=0) au h0 ?_;ext;show⟨x,ss,ns,1,.str (tn ss 0),v,v,rfl,by decide,cx.wb.web,.inr ⟨rfl,rfl,⟨_,rfl,qbz h0⟩,cb.same U⟩,fun l G2 s2 el=>?_⟩;ext;show⟨_,.list [dt,.bool false],rfl,.lst el (.cons (cd.same (U.trans s2)) (.cons (.bl _) .nil)),ch,?_⟩;rw[<- ci];ext;show .inl ⟨rfl,rfl,?_⟩;rw[ct];ext;show yq ?_;ext;have bc:=U.trans s2;rw[ar,aq];show⟨H1,p,x,n,bb,lt,L,ss,ns,bs,TI,b,_,_,_,_,_,_,_,_,_,hD,rfl,bn.trans bc,av,bh.same bc,aa.same bc,bf.same bc⟩
    .show yq ?_;ext;rw[ar,aq];show⟨H1,p,x,n,bb,lt,L,ss,ns,bs,TI,b,_,_,_,_,_,_,_,_,_,hD,rfl,bn.trans U,av,bh.same U,aa.same U,bf.same U⟩
  .ext;show .inl ⟨a,_,rfl,hS,fun k fj=>?_⟩
   obtain⟨nt,ek,gn⟩:∃ nt:List Int,qbS (nz.map V.int) none (some 2)=nt.map V.int/\nt.length<=2:=by
    have:=qbt (nz.map V.int) 2;rw[show((2:Nat):Int)=2 from rfl] at this;show⟨nz.take 2,by rw[this,List.map_take],by rw[yX];omega⟩
   rw[ek];have s1:=qI (Sr H) (o:=.lst (nt.map V.int)) fj;have dl:upd H k (.lst (nt.map V.int)) k=some (.lst (nt.map V.int)):=qb;generalize upd H k (.lst (nt.map V.int))=H1 at s1 dl;ext;show⟨a,nz,2,rfl,s1.seq hS,by decide,fun c8=>?_⟩;ext;show⟨by show 1<=sizeLine;decide,fun k2 dp=>?_⟩;have aw:=qI (Sr H1) (o:=.lst [.int c8]) dp;have dm:upd H1 k2 (.lst [.int c8]) k2=some (.lst [.int c8]):=qb;generalize upd H1 k2 (.lst [.int c8])=H2 at aw dm;show .inl ⟨k,k2,_,_,rfl,rfl,aw _ _ dl,dm,by rw[ya];show Yh (qi (by simp only[yC,YU];omega)),fun lc gk=>?_⟩;have ej:nt.map V.int++[.int c8]=(nt++[c8]).map V.int:=by rw[yF];rfl
   rw[ej];have e3:upd H2 lc (.lst ((nt++[c8]).map V.int)) lc=some (.lst ((nt++[c8]).map V.int)):=qb;generalize upd H2 lc (.lst ((nt++[c8]).map V.int))=H3 at e3;generalize nt++[c8]=cs at e3;show .inl ⟨⟨_,.of e3⟩,qN (xs:=cs.map V.int) (fun i A J=>L2.Same H3 J/\Sg a A) ⟨L2.Same.refl H3,⟨_,_,_,_,_,_,_,_,_,_,_,_,_,_,_,_,rfl⟩⟩ (fun i A J _ j=>.of (j.1 _ _ e3)) (fun i y A J hy j=>?_) fun A J j=>?_⟩
   .obtain⟨sJ,⟨y1,y2,y3,y4,y5,y6,y7,y8,y9,ac,W,af,ag,ah,X,Y,rfl⟩⟩:=j;rw[yd] at hy;obtain⟨c,hc,rfl⟩:=yn.mp hy;ext;show⟨c,rfl,fun p J1 gc fp eu=>?_⟩;have cf:H3 p=none:=sJ.free fp;have ee:But p H3 J1:=fun c o _ e=>gc c o (sJ c o e);ext;show⟨p,12,rfl,eu,by decide,fun m J2 hm b2 ev=>?_⟩;have bi:m<=12:=by omega
    ext;show⟨p,m,rfl,ev,by omega,fun n ss J3 b3 ew gm dy fm hO fu=>?_⟩;subst fu;ext;show⟨p,ss.length,rfl,ew,by omega,fun t ts TI J4 b4 ay go gp hI hT=>?_⟩;have du:=b4 _ _ dy fm;ext;show⟨t,ss.length,ts,TI,rfl,by omega,hI,hT,fun bb bs J5 s5 dd dc cv=>?_⟩;ext;show⟨bb,ss,TI,bs,rfl,bi,hO.nd,hT,dc,cv,fun lt J6 s6 ds fl=>?_⟩;have bd:=s5.trans s6;have az:=ay.same bd;ext;show⟨n,t,ss,ts,TI,rfl,bd _ _ du,hO,hI.same bd,hT,fun x ns J7 s7 fy hW fa=>?_⟩;have ey:WebP (fun z=>z=p) cw J7 x ss ns:=hW.apart (az.apart fy) (fun z e=>by subst e;obtain⟨u,v,w,e,_⟩:=az;rw[e];show fun z=>by cases z);have cn:=bd.trans s7;have ep:LW cw p x n bb lt ss ns bs TI J7:=⟨ey,fa.adj,cn _ _ du,dy,(s6.trans s7) _ _ dc,ay.apart dd,s7 _ _ fl,(ay.same s5).apart ds,hO,bi,hT,cv⟩;have ao:=ay.same cn;have ef:But p H3 J7:=(((ee.trans7 b2).trans7 b3).trans7 b4).trans7 fun c o _ e=>cn c o e;ext;show⟨_,rfl,by omega,by omega,?_⟩;rw[Yb];show qbK (lo:=0) (fun i ys G=>L2.Same J7 G/\∃ b:List Addr,ys=b.map V.ref/\b.length=i/\∀ g∈b,∃ ks:List Nat,G g=some (.lst (ks.map iV))/\(ks.length=1\/ks.length=2)/\∀ k∈ks,k<ss.length) ⟨L2.Same.refl J7,[],rfl,rfl,fun g hg=>by cases hg⟩ (fun i ys G hi j=>?_) fun ys G j=>?_
    .obtain⟨R,b,rfl,dj,hg⟩:=j;rw[Km];ext;show zE ?_;ext;show⟨by show 1<=sizeLine;decide,fun Z al=>?_⟩;have s8:=qI (Sr G) (o:=.lst [iV i]) al;show⟨by rw[ya];show qi (by omega),R.trans s8,b++[Z],by rw[yF];rfl,by rw[yt,dj];rfl,fun g as=>?_⟩;rcases yA.mp as with z | z
     .obtain⟨ks,e,k⟩:=hg g z;show⟨ks,s8 _ _ e,k⟩
     .rw [yy.mp z];show⟨[i],qb,.inl rfl,fun k hk=>by rw[yy.mp hk];show hi⟩
    .obtain⟨R,b,rfl,dj,hg⟩:=j;show⟨by rw[ya];show Yh (qi (by omega)),fun L ba=>?_⟩;have s8:=qI R (o:=.lst (b.map V.ref)) ba;have di:J7 L=none:=R.free ba
     have cu:AkQ p L ss.length b (upd G L (.lst (b.map V.ref))):=⟨qb,(ao.same R).apart ba,by omega,fun g as=>by
      obtain⟨ks,e,k⟩:=hg g as;show⟨ks,qI (Sr G) ba _ _ e,k⟩⟩
     generalize upd G L (.lst (b.map V.ref))=G0 at s8 cu;ext;show .inr ⟨_,rfl,?_⟩;show qbU (.inl ⟨by decide,by decide⟩) ?_;ext
     obtain⟨gq,fo,gh,dv⟩:∃ nt:Nat,(5*if decide ((0:Int)<(ss.length:Int))=true then(1:Int) else 0)=(nt:Int)/\nt<=5/\(0<nt->0<ss.length):=by
      by_cases h:(0:Int)<(ss.length:Int)
      .show⟨5,by rw[yB h];rfl,yh _,fun _=>by omega⟩
      .show⟨0,by rw[yl h];rfl,by decide,fun z=>absurd z (by decide)⟩
     rw[fo];show⟨_,rfl,by omega,by omega,?_⟩;rw[Yb];show j9 (lo:=0) (fun i A J=>But p J7 J/\Pu J p/\∃(b:List Addr) (ac:Option V),AkQ p L ss.length b J/\b.length<=12+i/\A=[some (.ref a),some (.int c),some (.ref p),some (.int (ss.length:Int)),some (.ref n),some (.ref t),some (.ref bb),some (.ref lt),some (.ref x),some (.ref L),ac,W,af,ag,ah,X,Y]) ⟨fun c o _ e=>s8 c o e,ao.same s8,b,_,cu,by omega,rfl⟩ (fun i A J hi j=>?_) fun A J j=>?_
     .obtain⟨bJ,I,b,ed,aj,dk,rfl⟩:=j;have h0:=dv (by omega);ext;show⟨.inl ⟨rfl,_,.of aj.l⟩,?_⟩;ext;show⟨p,ss.length,rfl,I,h0,by omega,fun d1 J8 fi b8 da=>?_⟩;ext;show⟨p,ss.length,rfl,da,h0,by omega,fun d2 J9 de b9 ak=>?_⟩;have an:=(aj.but I b8).but da b9;have ei:=(bJ.trans7 b8).trans7 b9;ext;show⟨by show 2<=sizeLine;decide,fun Z al=>?_⟩;have M:=qI (Sr J9) (o:=.lst [iV d1,iV d2]) al;have ad:upd J9 Z (.lst [iV d1,iV d2]) Z=some (.lst ([d1,d2].map iV)):=qb;generalize upd J9 Z (.lst [iV d1,iV d2])=J10 at M ad;have s:=an.same M;ext;show⟨L,_,_,rfl,rfl,s.l,by rw[ya];show qi (by omega),?_⟩
      have ea:∀{g:Addr} {ks:List Nat},J10 g=some (.lst (ks.map iV))->(ks.length=1\/ks.length=2)->g≠L:=fun{g ks} e hk z=>by
       rw[z,s.l] at e;have e':b.map V.ref=ks.map iV:=by injection (ym e)
       cases ks with
       | nil=>simp at hk
       | cons k r=>cases b with
        | nil=>cases e'
        | cons g r'=>injection e' with e1 _;cases e1
      have ex:p≠L:=fun z=>s.ap z.symm;show⟨fun c o hc e=>?_,?_,b++[Z],_,⟨by rw[qb,yF];rfl,s.ap,by rw[yt];show _+1<=_;omega,fun g as=>?_⟩,by rw[yt];show _+1<=_;omega,rfl⟩
      .rw [qf (fun z=>by rw[z,di] at e;cases e)];show M _ _ (ei c o hc e)
      .obtain⟨u1,u2,u3,e,r⟩:=ak.same M;show⟨u1,u2,u3,by rw[qf ex];show e,r⟩
      .rcases yA.mp as with z | z
       .obtain⟨ks,e,k1,k2⟩:=s.g g z;show⟨ks,by rw[qf (ea e k1)];show e,k1,k2⟩
       .rw [yy.mp z]
        show⟨[d1,d2],by rw[qf (ea ad (.inr rfl))];show ad,.inr rfl,fun k hk=>by
         rcases yv.mp hk with z | z
         .rw [z];show fi
         .rw [yy.mp z];show de⟩
     .obtain⟨bJ,I,b,ed,aj,dk,rfl⟩:=j;have ca:=ep.but bJ;ext;show vRv2 ?_;ext;show vU ?_;ext;show⟨by show 2<=sizeLine;decide,fun g4 dh=>?_⟩;have s8:=qI (Sr J) (o:=.lst [.int 1,.int (-1)]) dh;have e8:upd J g4 (.lst [.int 1,.int (-1)]) g4=some (.lst [.int 1,.int (-1)]):=qb;have fq:=I.apart dh;generalize upd J g4 (.lst [.int 1,.int (-1)])=J8 at s8 e8;ext;show⟨p,2,rfl,I.same s8,by decide,by decide,fun d J9 hd b9 ak=>?_⟩;have bw:But p J J9:=fun c o hc e=>b9 _ _ hc (s8 c o e);have an:=aj.but I bw;have et:=ca.but bw;have eh:But p H3 J9:=(ef.trans7 bJ).trans7 bw
      obtain⟨sg,fr,fv⟩:∃ sg:Int,(sg=1\/sg=-1)/\[V.int 1,.int (-1)][d]?=some (.int sg):=by
       have fh:d=0\/d=1:=by omega
       rcases fh with rfl | rfl
       .show⟨1,.inl rfl,rfl⟩
       .show⟨-1,.inr rfl,rfl⟩
      show .inl (zq (b9 _ _ fq e8) (v:=.int sg) (qo fv) ?_);rcases fr with rfl | rfl
      case' inl =>
       show⟨1,rfl,L,_,rfl,.of an.l,.inr ⟨rfl,fun r cg=>?_⟩⟩;generalize dz:b.map V.ref=ys at ⊢;have cj:∀ y∈ys,y∈b.map V.ref:=fun y h=>by rw[dz];show h
      case' inr =>
       show⟨-1,rfl,L,_,rfl,.of an.l,.inl ⟨rfl,fun r cg=>?_⟩⟩;have cj:∀ y∈(b.map V.ref).reverse,y∈b.map V.ref:=fun _ h=>kg.mp h;generalize dz:(b.map V.ref).reverse=ys at cj ⊢
      all_goals
       have M:=qI (Sr J9) (o:=.lst ys) cg;have ad:upd J9 r (.lst ys) r=some (.lst ys):=qb;have rp:=ak.apart cg;generalize upd J9 r (.lst ys)=J10 at M ad;have C:=ak.same M;have ai:=et.same M;have s:=an.same M;have cq:But p H3 J10:=eh.trans7 fun c o _ e=>M c o e;show .inl ⟨⟨_,.of ad⟩,qN (xs:=ys) (fun i A J=>But p J10 J/\Pu J p/\∃(W:Option V),A=[some (.ref a),some (.int c),some (.ref p),some (.int (ss.length:Int)),some (.ref n),some (.ref t),some (.ref bb),some (.ref lt),some (.ref x),some (.ref L),ed,W,af,ag,ah,X,Y]) ⟨fun c o _ e=>e,C,_,rfl⟩ (fun i A J _ j=>.of (j.1 _ _ rp ad)) (fun i y A J hy j=>?_) fun A J j=>?_⟩
       .obtain⟨bJ,I,be,rfl⟩:=j;obtain⟨g,hg,rfl⟩:=yQ.mp (cj y (ye hy));have aj:=s.but C bJ;have ca:=ai.but bJ;ext;show⟨p,4,rfl,I,by decide,by decide,fun d9 J11 gj bv cz=>?_⟩;obtain⟨ks,eg,k1,k2⟩:=(aj.but I bv).g g hg;have bg:=ca.but bv;ext;show qb9 ?_;ext;show⟨x,n,bb,lt,g,ss,ns,TI,bs,ks,_,rfl,bg.w3,bg.d,eg,k1,k2,fun J12 aw=>?_⟩;ext;show yq ?_;show⟨(bJ.trans7 bv).trans7 fun c o _ e=>aw c o e,cz.same aw,_,rfl⟩
       .obtain⟨bJ,I,be,rfl⟩:=j;ext;rw[aq];show⟨H3,p,x,n,bb,lt,L,ss,ns,bs,TI,b,_,_,_,_,_,_,_,_,_,fun gt J' s' e'=>⟨s',e'⟩,rfl,fun c o e=>bJ _ _ (fun z=>by rw[z,cf] at e;cases e) (cq c o (fun z=>by rw[z,cf] at e;cases e) e),cf,I,ai.but bJ,s.but C bJ⟩
   .obtain⟨sJ,⟨y1,y2,y3,y4,y5,y6,y7,y8,y9,ac,W,af,ag,ah,X,Y,rfl⟩⟩:=j;ext;show q J
end
theorem all_mk{l:W.OpenLaw}{w:World}{h:Heap}{fa m f q r b:Addr}{z A B:Tok}(X:K.In h)(G:h.Ns mainGlobals mg)(P:mg "law"=some (.ref fa))
  (C0_:W.nsIn K mainGlobals "NoPlace"=some (some (.ref q)))
  (C1_:W.nsIn K mainGlobals "NoPairs"=some (some (.ref r)))
  (C2_:W.nsIn K mainGlobals "OnceError"=some (some (.ref b)))
  (Cw_:W.nsIn K mainGlobals "Web"=some (some (.ref m)))
  (Cf_:W.nsIn K mainGlobals "Forest"=some (some (.ref f)))
  (vO:FG K "are_pairs" zK)
  (vf:FG K "partners_in" j0)
  (vH:FG K "told_pairs" jX)
  (Vy:FG K "is_row" qa6)
  (UP:FG K "are_unlike_places" jd)
  (U2:FG K "goes_by_turns" qU)
  (vV:FG K "can_turn" qag)
  (Vz:FG K "turned" qaK)
  (vW:FG K "greatest" qah)
  (vX:FG K "count_of" qai)
  (U3:FG K "greatest_from" jF)
  (vg:FG K "leaving_out" jG)
  (va:FG K "leaving_both" jt)
  (vh:FG K "leaving_all" jH)
  (Vd:FG K "is_name" za)
  (Ve:FG K "has_bit" qaG)
  (vY:FG K "is_place" zx)
  (UU:FG K "are_two_places" jw)
  (vJ:FG K "numbers_of" zj)
  (Vf:FG K "near_of" qaI)
  (VA:FG K "_law_cell" qa9)
  (Vg:FG K "_law_purse" qaL)
  (VB:FG K "_law_take" qba)
  (Vh:FG K "_law_names" zX)
  (VC:FG K "_law_ties" qbc)
  (VD:FG K "_law_many" qbb)
  (VE:FG K "_law_made" qbd)
  (VF:FG K "_law_bits" qbe)
  (Vi:FG K "_law_table" qaM)
  (vm:FG K "_law_are_pairs" j6)
  (Vj:FG K "_law_right" zd)
  (Vk:FG K "_law_asked" qaN)
  (vP:FG K "_law_refused" zN)
  (VG:FG K "_law_both" qbf)
  (wS:FG K "law" qcQ)
  (Wj:FM K q "__init__" "NoPlace.__init__" jR)
  (Wk:FC K b "__init__" "OnceError.__init__" jv)
  (Wl:FM K m "__init__" "Web.__init__" qac)
  (vZ:FM K m "places" "Web.places" zl)
  (VH:FM K m "ties" "Web.ties" qaf)
  (vn:FM K m "has_place" "Web.has_place" jj)
  (vQ:FM K m "has_tie" "Web.has_tie" jZ)
  (vo:FM K m "number_of" "Web.number_of" jk)
  (v6:FM K m "beside" "Web.beside" zm)
  (U4:FM K m "bits_beside" "Web.bits_beside" jm)
  (VI:FM K m "tied" "Web.tied" qad)
  (vK:FM K m "names_in" "Web.names_in" js)
  (vR:FM K m "without" "Web.without" qT)
  (vp:FM K f "__init__" "Forest.__init__" j4)
  (VJ:FM K f "row" "Forest.row" zo)
  (Vl:FM K f "grow" "Forest.grow" j3)
  (v7:FM K f "reach" "Forest.reach" jT)
  (UV:FM K f "look_around" "Forest.look_around" jc)
  (UQ:FM K f "bring_together" "Forest.bring_together" qJ)
  (UI:FM K f "bases_down_from" "Forest.bases_down_from" qR)
  (UW:FM K f "reach_round" "Forest.reach_round" q9)
  (Vm:FM K f "fold" "Forest.fold" jE)
  (X0:XL K q (.ref b::qcC))
  (q0:XQ K q)
  (X1:XL K r (.ref b::qcC))
  (q1:XQ K r)
  (X2:XL K b qcC)
  (q2:XQ K b)
  (y0:W.findIn K (.ref q) "found"=some none)
  (y1:W.findIn K (.ref r) "found"=some none)
  (U:W.mroIn K q (.ref b)=some true)
  (Y:W.mroIn K r (.ref b)=some true)
  (nd:([q,r]++[b]).Nodup)
  (r1:W.readsIn K b (.type "type")=true)
  (r3:W.specialIn K (.ref b) "__getattribute__"=some (some (.builtin "type.__getattribute__")))
  (v1:W.findIn K (.type "type") "__getattribute__"=some (some (.builtin "type.__getattribute__")))
  (v3:W.subIn K (.type "type") (.type "type")=some true)
  (v4:W.findCls K (.type "ValueError") (.type "type") "__init__"=some (.val (.builtin "ValueError.__init__")))
  (w1:W.plainGet K m Str.empty=true)
  (w2:W.hasDictIn K m=true)
  (w3:W.plainOver K m=true)
  (w4:W.findIn K (.ref m) "__setattr__"=some (some (.builtin "object.__setattr__")))
  (w5:W.makesIn K m=true)
  (w6:W.keepIn K (.ref m)=true)
  (w7:W.findIn K (.ref m) "numbers"=some none)
  (w8:W.findIn K (.ref m) "order"=some none)
  (w9:W.findIn K (.ref m) "near"=some none)
  (u:W.specialIn K (.builtin "object.__class__") "__get__"=some (some (.builtin "getset_descriptor.__get__")))
  (x:W.takesIn K (.builtin "object.__class__")=some true)
  (ac:W.plainGet K f Str.empty=true)
  (ad:W.hasDictIn K f=true)
  (ae:W.plainOver K f=true)
  (af:W.findIn K (.ref f) "__setattr__"=some (some (.builtin "object.__setattr__")))
  (ag:W.makesIn K f=true)
  (ah:W.keepIn K (.ref f)=true)
  (aq:W.findIn K (.ref f) "board"=some none)
  (ar:W.findIn K (.ref f) "partners"=some none)
  (as:W.findIn K (.ref f) "rows"=some none)
  (au:W.findIn K (.ref f) "parents"=some none)
  (av:W.findIn K (.ref f) "bases"=some none)
  (aw:W.findIn K (.ref f) "rings"=some none)
  (ax:W.findIn K (.ref f) "waiting"=some none)
  (ay:W.findIn K (.ref f) "longer"=some none)
  (am:W.nsIn K mainGlobals "zip"=some none)
  (D:W.nsIn K mainGlobals "sorted"=some none)
  (C:W.nsIn K mainGlobals "repr"=some none)
  (ai:(K.lookup sysModules).isSome=true)
  (Z:W.mroIn K q (.ref q)=some true)
  (z0:W.nsIn K mainGlobals "len"=some none)
  (z1:W.nsIn K mainGlobals "int"=some none)
  (z2:W.nsIn K mainGlobals "enumerate"=some none)
  (z3:W.nsIn K mainGlobals "all"=some none)
  (z4:W.nsIn K mainGlobals "max"=some none)
  (z5:W.nsIn K mainGlobals "min"=some none)
  (z6:W.nsIn K mainGlobals "isinstance"=some none)
  (z7:W.nsIn K mainGlobals "bool"=some none)
  (z8:W.nsIn K mainGlobals "str"=some none)
  (z9:W.nsIn K mainGlobals "range"=some none)
  (aj:W.nsIn K mainGlobals "list"=some none)
  (ak:W.nsIn K mainGlobals "tuple"=some none)
  (al:W.nsIn K mainGlobals "ValueError"=some none)
  (u0:W.nsIn K mainGlobals "LONGEST_NAME"=some (some (.int 6 z)))
  (u1:W.nsIn K mainGlobals "MOST_PLACES"=some (some (.int 14 A)))
  (u2:W.nsIn K mainGlobals "MOST_TIES"=some (some (.int 30 B))) :
  ∃ fd:FuncData,(∀(s:Shared) (v:Value),BindsTo s fd ⟨[v],[]⟩ [("_law_script",v)])/\∀ base:Heap,K.In base->base.Ns mainGlobals mg->FnOk l.prog w K mg base CX0 20 fa fd ["_law_script"] (spLaw K):=by
 obtain⟨_,_,vS,VW⟩:=vO;obtain⟨_,_,vq,VX⟩:=vf;obtain⟨_,_,vL,VY⟩:=vH;obtain⟨_,_,VL,VZ⟩:=Vy;obtain⟨_,_,UR,V0⟩:=UP;obtain⟨_,_,U5,V1⟩:=U2;obtain⟨_,_,v8,V2⟩:=vV;obtain⟨_,_,VM,V3⟩:=Vz;obtain⟨_,_,v9,V4⟩:=vW;obtain⟨_,_,Va,V5⟩:=vX;obtain⟨_,_,U6,V6⟩:=U3;obtain⟨_,_,UL,L⟩:=vg;obtain⟨_,_,UH,M⟩:=va;obtain⟨_,_,UM,E⟩:=vh;obtain⟨_,_,vb,F⟩:=Vd;obtain⟨_,_,Vn,V7⟩:=Ve;obtain⟨_,_,U7,H⟩:=vY;obtain⟨_,_,UX,V8⟩:=UU;obtain⟨_,_,vM,V9⟩:=vJ;obtain⟨_,_,Vo,wa⟩:=Vf;obtain⟨_,_,VN,wc⟩:=VA;obtain⟨_,_,Vp,wd⟩:=Vg;obtain⟨_,_,VO,we⟩:=VB;obtain⟨_,_,Vq,wf⟩:=Vh;obtain⟨_,_,VP,wg⟩:=VC;obtain⟨_,_,VQ,wj⟩:=VD;obtain⟨_,_,VR,wm⟩:=VE;obtain⟨_,_,VS,wq⟩:=VF;obtain⟨_,_,Vr,wu⟩:=Vi;obtain⟨_,_,vv,wv⟩:=vm;obtain⟨_,_,Vs,ww⟩:=Vj;obtain⟨_,_,Vt,wy⟩:=Vk;obtain⟨_,_,vT,wz⟩:=vP;obtain⟨_,_,VT,wA⟩:=VG;obtain⟨_,_,wT,wB⟩:=wS;obtain⟨_,_,Wm,Wn,wP⟩:=Wj;obtain⟨_,_,Wo,wQ⟩:=Wk;obtain⟨_,_,Wp,Wq,wR⟩:=Wl;obtain⟨_,_,wU,wV,wC⟩:=vZ;obtain⟨_,_,wW,wX,wD⟩:=VH;obtain⟨_,_,wE,wF,I⟩:=vn;obtain⟨_,_,wY,wZ,wG⟩:=vQ;obtain⟨_,_,wH,wI,y⟩:=vo;obtain⟨_,_,Wa,Wc,wJ⟩:=v6;obtain⟨_,_,Wd,We,wK⟩:=U4;obtain⟨_,_,Wf,Wg,wL⟩:=VI;obtain⟨_,_,Wh,Wi,wM⟩:=vK;obtain⟨_,_,wN,wO,J⟩:=vR;obtain⟨_,_,vw,vx,UO⟩:=vp;obtain⟨_,_,VU,VV,vN⟩:=VJ;obtain⟨_,_,Vu,Vv,vc⟩:=Vl;obtain⟨_,_,Vb,Vc,U9⟩:=v7;obtain⟨_,_,UY,UZ,UF⟩:=UV;obtain⟨_,_,US,UT,UE⟩:=UQ;obtain⟨_,_,UJ,UK,UD⟩:=UI;obtain⟨_,_,U0,U1,UG⟩:=UW;obtain⟨_,_,Vw,Vx,ve⟩:=Vm;have e:=P.symm.trans (kX X G wT);cases e;have Y0:XAt K q:=qfo X0 qee q0 u x;have Y1:XAt K r:=qfo X1 qee q1 u x;have Y2:XAt K b:=qfo X2 qed q2 u x;obtain⟨R,ao,S,ap⟩:=kits nd (fun i hi=>match i,hi with | 0,_=>X0 | 1,_=>X1 | n+2,h=>absurd h (by simp only[yC,YU];omega)) X2;have g:Cls K m:=⟨w1,w2,w3,w4⟩;have p:Cls K f:=⟨ac,ad,ae,af⟩
 have aa:∀ a∈fAtt,NoAttr K f a:=fun a O=>by
  unfold fAtt at O;simp only[yv,yM,Yt] at O;rcases O with rfl | rfl | rfl | rfl | rfl | rfl | rfl | rfl<;>assumption
 have t:∀ i,i<3->([q,r,b,b,b,b,b,b,b]:List Addr).getD i f=([q,r]:List Addr).getD i b:=fun i hi=>match i,hi with | 0,_=>rfl | 1,_=>rfl | 2,_=>rfl | n+3,h=>absurd h (by omega);have T:Txt K mg (fun i=>([q,r,b,b,b,b,b,b,b]:List Addr).getD i f) m:=⟨YK X G z0,
  YK X G z1,
  YK X G z2,
  YK X G z3,
  YK X G z4,
  YK X G z5,
  YK X G z6,
  YK X G z7,
  YK X G z8,
  YK X G z9,
  YK X G aj,
  YK X G ak,
  YK X G al,
  ⟨z,kX X G u0⟩,
  ⟨A,kX X G u1⟩,
  ⟨B,kX X G u2⟩,
  kX X G C0_,
  kX X G C1_,
  kX X G C2_,
  ⟨v1,v3,v4⟩,
  fun i hi=>match i,hi with | 0,_=>Y0 | 1,_=>Y1 | 2,_=>Y2 | n+3,h=>absurd h (by omega),
  fun i hi=>match i,hi with | 0,_=>y0 | 1,_=>y1 | n+2,h=>absurd h (by omega),
  (fun i j hi hj=>by rw[t i (by omega),t j (by omega)];show R i j hi hj),
  (fun i hi=>by rw[t i (by omega)];show S i hi),
  fun i hi=>match i,hi with | 0,_=>U | 1,_=>Y | n+2,h=>absurd h (by omega),
  g,
  w7,
  w8,
  w9,
  kX X G Cw_,
  kX X G Cf_,
  p,
  aa,
  YK X G am,
  YK X G D,
  YK X G C,
  YX.mp ai⟩
 obtain⟨oc,od,kV,N,pm,an,cd,ct,sl,rfl,lk,hc⟩:=wB.ex;show⟨W.fnOf "law" "law" (qao qcQ) (zD qcQ) (qh qcQ) .none kV N pm an cd ct,fun s v=>.of_eq rfl,fun base _ _=>?_⟩;have d_once:CMethOk l.prog w K mg base CX0 1 b "OnceError" "__init__" ["self","text"] (spOnce K):=fc_mk X G C2_ r1 Wo r3 wQ (ok_once wQ T);have d0:XMakeOk l.prog w K mg base 2 q "NoPlace" ["self","found"] (spX q (qe4 0)):=fx_mk X G C0_ Y0 q0 Wm Wn wP (ok_NoPlace wP T d_once);have c:=@fg_mk l.prog w K mg base h;have o:=@fm_mk l.prog w K mg base;have fw:=@fw_mk l.prog w K mg base h;have d_name:=c X G vb F (ok_name F T);have d_place:=c X G U7 H (ok_place H d_name);have d_two:=c X G UX V8 (ok_two V8 T d_place);have d_bit:=c X G Vn V7 (ok_bit V7);have d_nums:=c X G vM V9 (ok_nums V9 T d_name);have d_near:=c X G Vo wa (ok_near wa T d_two d_bit);have q_web:MakeOk l.prog w K mg base CX0 5 m "Web" ["self","names","ties"] (spWeb m):=fw X G Cw_ w5 w6 Wp Wq wR (ok_web wR T d_nums d_near);have m_has:=o g wE wF I (ok_has I T d_place);have m_num:=o g wH wI y (qe5 y T m_has);have m_bb:=o g Wd We wK (ok_bb wK T m_num);have m_nin:=o g Wh Wi wM (ok_nin wM T d_bit);have m_bs:=o g Wa Wc wJ (ok_bs wJ T m_bb m_nin);have m_tied:=o g Wf Wg wL (ok_tied wL T m_bb m_num d_bit);have m_pls:=o g wU wV wC (ok_pls wC T);have m_ts:=o g wW wX wD (ok_ts wD T m_bs);have m_ht:=o g wY wZ wG (ok_ht wG T d_two m_tied);have d_ap:=c X G vS VW (ok_ap VW T m_ht);have d_pn:=c X G vq VX (ok_pn VX T d_ap);have d_tp:=c X G vL VY (ok_tp VY T d_pn m_ts);have d_ul:=c X G UR V0 (ok_ul V0 T m_has);have d_gt:=c X G U5 V1 (ok_gt V1 T m_ht);have d_ir:=c X G VL VZ (ok_ir VZ T d_pn d_ul d_gt);have d_ct:=c X G v8 V2 (ok_ct V2 T d_pn d_ir);have d_tu:=c X G VM V3 (ok_tu V3 T d_pn m_ts d_ct);have p_re:=o p Vb Vc U9 (ok_re U9 T);have p_bd:=o p UJ UK UD (ok_bd UD T);have p_rr:=o p U0 U1 UG (ok_rr UG T p_re);have p_fd:=o p Vw Vx ve (ok_fdF ve T m_pls);have p_bt:=o p US UT UE (ok_bt UE T p_bd p_rr p_fd);have p_la:=o p UY UZ UF (ok_la UF T m_bs p_bt p_re);have p_gw:=o p Vu Vv vc (ok_gw vc T m_pls p_re p_la);have p_mk:MakeOk l.prog w K mg base CX0 10 f "Forest" ["self","web","pairs"] (spFi (fun i=>([q,r,b,b,b,b,b,b,b]:List Addr).getD i f) m):=fw X G Cf_ ag ah vw vx UO (ok_fi UO T d_pn p_gw);have p_row:=o p VU VV vN (ok_fr vN T);have d_gf:=c X G U6 V6 (ok_gf V6 T d_tp p_mk p_row d_tu);have d_gr:=c X G v9 V4 (ok_gr V4 T d_gf);have d_co:=c X G Va V5 (ok_co V5 T d_gr);have m_wo:=o g wN wO J (ok_wo J T m_num m_ts q_web);have d_tk:=c X G VO we (ok_tkp we T);have b_name:=c X G vb F (ok_nameB F T);have b_place:=c X G U7 H (ok_placeB H b_name);have b_has:=o g wE wF I (ok_hasB I T b_place);have b_num:MethOk l.prog w K mg base (CX1 l.prog w) 4 m "number_of" ["self","place"] (qff (fun i=>([q,r,b,b,b,b,b,b,b]:List Addr).getD i f) m):=o g wH wI y (FnOk.or (qe5 y T m_has).any (ok_numB y T b_has d0));have b_wo:=o g wN wO J (ok_woB J T b_num m_ts q_web d0);have b_la:=c X G UM E (ok_laB E T b_wo d_gr d_co);have b_l1:=c X G UL L (ok_l1B L T b_la);have b_l2:=c X G UH M (ok_l2B M T b_la);have d_la:=c X G UM E (ok_lvQ E T m_wo d_gr d_co);have d_l1:=c X G UL L (ok_lv1 L T d_la);have d_l2:=c X G UH M (ok_lv2 M T d_la);have d_as:=c X G Vt wy (ok_asQ wy T d_l1 d_l2);have d_ar:=c X G vv wv (ok_arQ wv T);have d_rt:=c X G Vs ww (ok_rtQ ww T d_ar) (hb:=fun _ _ _ _ _ _=>lN5 fun _ _ _ _ _=>rfl);have d_rf:=c X G vT wz (ok_rfL wz T Z b_l1 b_l2);have d_bo:=c X G VT wA (ok_boQ wA T d_as d_rt) (hb:=fun _ _ _ _ _ _=>lN6 fun _ _ _ _ _ _=>rfl);show ok_law47 wB T (c X G VN wc (ok_ce wc T)) (c X G Vp wd (ok_pu wd T)) d_tk (c X G VQ wj (ok_my wj T d_tk)) (c X G Vq wf (ok_nmJ wf T d_tk)) (c X G VP wg (ok_tsJ wg T d_tk)) (c X G VR wm (ok_mdJ wm T q_web)) (c X G VS wq (ok_btJ wq T)) (c X G Vr wu (ok_tbQ wu T)) d_bo d_rf d_l2 d_l1
theorem walk{l:PySem.W.OpenLaw}{q:Program}{loose:List Str}{XP:(Str->Option Value)->Heap->Prop}{YP:World->Heap->Prop}{d:DefRec}{K:Params->yg}(j:l.most=some 63)(b:d.params.defaults=[])
  (i:∀(w:World) (h:Heap),YP w h->(K w.params).In h)
  (F:∀(w:World) (mg:Str->Option Value) (c:Addr) (h:Heap),(K w.params).In h->h.Ns mainGlobals mg->mg d.name=some (.ref c) ->
   ∃ e:FuncData,(∀(s:Shared) (u:Value),BindsTo s e ⟨[u],[]⟩ [("_law_script",u)])/\∀ base:Heap,(K w.params).In base->base.Ns mainGlobals mg->FnOk l.prog w (K w.params) mg base CX0 20 c e ["_law_script"] (spLaw (K w.params))) :
  PySem.W.WalkO q loose XP YP l.row.toRowW d [] (fun f vs=>PySem.call f vs):=
 L2.walk_of (n:=63) (k:=20) (x:="_law_script") (CX:=fun _=>CX0) (sp:=fun w=>spLaw (K w.params)) j (by decide) b ⟨rfl,by decide,by decide,rfl⟩ i F (fun _ _ a ns hl _ g=>⟨a,ns,rfl,g,hl,fun _=>rfl⟩) fun _ _ _ _ _ z=>z
end K47
set_option maxRecDepth 100000 in
set_option maxHeartbeats 0 in
theorem PySem.Challenge.cw_onceroad_k47_pairs_that_leave_out_holds : PySem.Challenge.rw_onceroad_k47_pairs_that_leave_out.Holds := by
  w_on; o_law
  show PySem.W.holds_open (q := K47.Q) (loose := []) (Xt := K47.Xt) (XP := PySem.W.XL K47.Q []) (Yf := PySem.W.Hook.obs K47.Hk) (Ya := PySem.W.Hook.val K47.Hk) (YP := PySem.W.Hook.says (PySem.W.kHook K47.Kf K47.ks K47.ks_eq)) (N := K47.NN) K47.hl (PySem.W.Hook.of K47.Hk) (PySem.W.Hook.keeps K47.Hk) (fun s e => PySem.W.xl_of s (Bool.and_eq_true_iff.mp e).1) PySem.W.XL.keeps (by rfl) (by rfl) (by rfl) (fun s e => PySem.W.recFacts_of (Bool.and_eq_true_iff.mp e).2) (by rfl) (by first | assumption | decide +kernel) (by decide +kernel) ⟨rfl, rfl, rfl, rfl, rfl, by decide +kernel⟩ ?hw ?hc
  (case hw => w_witness2)
  k_fill
  show K47.walk (l := PySem.Challenge.rw_onceroad_k47_pairs_that_leave_out) rfl rfl (fun w h Y => PySem.W.kIn_of Y) ?F
  case F =>
    intro w mg fa h KX G hmg
    refine' K47.all_mk KX G hmg ?_ ?_ ?_ ?_ ?_ ?_ ?_ ?_ ?_ ?_ ?_ ?_ ?_ ?_ ?_ ?_ ?_ ?_ ?_ ?_ ?_ ?_ ?_ ?_ ?_ ?_ ?_ ?_ ?_ ?_ ?_ ?_ ?_ ?_ ?_ ?_ ?_ ?_ ?_ ?_ ?_ ?_ ?_ ?_ ?_ ?_ ?_ ?_ ?_ ?_ ?_ ?_ ?_ ?_ ?_ ?_ ?_ ?_ ?_ ?_ ?_ ?_ ?_ ?_ ?_ ?_ ?_ ?_ ?_ ?_ ?_ ?_ ?_ ?_ ?_ ?_ ?_ ?_ ?_ ?_ ?_ ?_ ?_ ?_ ?_ ?_ ?_ ?_ ?_ ?_ ?_ ?_ ?_ ?_ ?_ ?_ ?_ ?_ ?_ ?_ ?_ ?_ ?_ ?_ ?_ ?_ ?_ ?_ ?_ ?_ ?_ ?_ ?_ ?_ ?_ ?_ ?_ ?_ ?_ ?_ ?_ ?_ ?_ ?_
    any_goals first | k_is | decide
    any_goals first | k_is | decide | show⟨_, _, by k_is, L2.fun_mk (by k_is) (by k_is) (by k_is)⟩ | show⟨_, _, by k_is, by k_is, L2.fun_mk (by k_is) (by k_is) (by k_is)⟩ | show⟨_, _, _, _, _, _, _, _, _, _, _, _, _, _, _, by k_is⟩ | show⟨by k_is, by k_is, by k_is, by k_is, by k_is, by k_is, by k_is, by k_is⟩ | kernel_rfl | fail
