import PyProof.Rows.All
import Wide.All
import OpenK.AllK
import Wide.FinOn
import PyProof.EqAt
import PyProof.EqKinds
import PyProof.TupleCall
import Lean
import PySem.Challenge.RW_onceroad_k33_folds
set_option Elab.async false
set_option linter.all false
set_option maxRecDepth 100000
local macro_rules | `(tactic| show $e)=>`(tactic| refine $e)
abbrev LX:=List Int
abbrev LQ:=List PySem.Addr
abbrev LN:=List Nat
abbrev LS:=List PySem.Str
abbrev LP:=List (PySem.Str×PySem.Str)
local macro_rules | `(tactic| room)=>`(tactic| decide +kernel)
local macro_rules | `(tactic| lk)=>`(tactic| first | lia | omega)
theorem ya{a b:Type}{as:List a}(f:a→b):(as.map f).length=as.length:=List.length_map f
theorem yb{a:Type}{l:List a}{i:Nat}(h:i<l.length):l[i]?=some l[i]:=List.getElem?_eq_getElem h
theorem yc{b:Type}{l:List b}{i:Nat}{a:b}:l[i]?=some a↔∃h:i<l.length,l[i]=a:=List.getElem?_eq_some_iff
theorem yd{a b:Type}{f:a→b}{l:List a}{i:Nat}:(l.map f)[i]?=l[i]?.map f:=List.getElem?_map
theorem ye{b:Type}{l:List b}{i:Nat}{a:b}(h:l[i]?=some a):a∈l:=List.mem_of_getElem? h
theorem yf{b:Type}{a:b}{l:List b}(h:a∈l):∃i:Nat,l[i]?=some a:=List.getElem?_of_mem h
noncomputable abbrev yg:=PySem.W.Frag
theorem yh(n:Nat):n≤n:=Nat.le_refl n
theorem yi{a b c:Nat}(h:a≤b)(k:b≤c):a≤c:=Nat.le_trans h k
theorem yj{a b c:Nat}(h:a<b)(k:b≤c):a<c:=Nat.lt_of_lt_of_le h k
theorem yk{p:Prop}[Decidable p](h:decide p=true):p:=of_decide_eq_true h
theorem yl{p:Prop}[Decidable p](h:¬p):decide p=false:=decide_eq_false h
theorem yn{c:Type}{a b:c}(h:some a=some b):a=b:=Option.some.inj h
theorem yo{c d:Type}{f:c→d}{x:Option c}{b:d}:x.map f=some b↔∃a,x=some a∧f a=b:=Option.map_eq_some_iff
theorem yp{b:Type}{a:b}{l:List b}:(a::l).Nodup↔a∉l∧l.Nodup:=List.nodup_cons
theorem yq{a:Type}{p:a→Bool}{as:List a}{x:a}:x∈as.filter p↔x∈as∧p x=true:=List.mem_filter
theorem yr{A B:Prop}(h:B):if false=true then A else B:=h
def yt:=@PySem.wpAny_bind
def yu:=@List.length_append
def yv:=@PySem.wpAny_pure
def yw:=@PySem.Heap.get?_push_of_some
def yx:=@List.size_toArray
def yy:=@List.getElem?_append_right
def yz:=@List.mem_singleton
def yA:=@if_neg
def yB:=@List.mem_cons
def yC:=@List.mem_append
def yD:=@List.length_cons
def yE:=@Nat.ne_of_lt
def yF:=@if_pos
def yG:=@List.mem_cons_self
def yH:=@List.map_append
def yI:=@List.mem_cons_of_mem
def yJ:=@List.mem_append_left
def yK:=@List.mem_append_right
def yL:=@PySem.Heap.lt_size
def yM:=@List.take_add_one
def yN:=@PySem.F.plainAttrs_list
def yO:=@List.length_take
def yP:=@Or.inl
def yQ:=@List.take_length
def yR:=@PySem.Heap.get?_push_size
def yS:=@decide_eq_true
def yT:=@PySem.PassesOwn.never
def yU:=@List.getElem?_append_left
def yV:=@List.length_filter_le
def yW:=@List.not_mem_nil
def yX:=@List.filter_cons
def yY:=@Nat.le_of_lt
def yZ:=@Ne.symm
def Yb:=@PySem.F.slot_list_append
def Yc:=@PySem.F.type_list_append
def Yd:=@List.nodup_append
def Ye:=@List.append_nil
def Yg:=@List.filter_append
def Yh:=@List.append_assoc
def Yi:=@PySem.sizeLine_eq
def Yj:=@List.idxOf_lt_length_of_mem
def Yk:=@PySem.wpAny_holding
def Yl:=@List.getD_eq_getElem?_getD
def Ym:=@Bool.and_eq_true
def Yn:=@Nat.ne_of_gt
def Yo:=@beq_iff_eq
def Yp:=@List.append_of_mem
def Yq:=@Bool.false_ne_true
def Yr:=@Nat.lt_of_le_of_lt
def Ys:=@decide_eq_true_iff
def Yt:=@Nat.lt_irrefl
def Yu:=@List.map_cons
def Yv:=@List.filter_nil
def Yx:=@List.getElem_idxOf
def Yy:=@PyProof.Rows.slot_tuple_getitem
def Yz:=@List.length_reverse
def YA:=@List.all_eq_true
def YB:=@List.pairwise_iff_getElem
def YC:=@List.take_of_length_le
def YD:=@decide_eq_decide
def YE:=@beq_eq_false_iff_ne
def YF:=@Nat.zero_le
def YG:=@PySem.Heap.SameBut.update
def YH:=@PyProof.Rows.callWith_type1
def YI:=@Int.toNat_natCast
def YJ:=@List.mem_map
def YK:=@PySem.wpAny_mono
def YL:=@PySem.boot_len
def YM:=@Int.emod_lt_of_pos
def YN:=@List.cons.inj
def YO:=@Int.emod_nonneg
def YQ:=@Nat.le_add_right
def YR:=@List.getElem_mem
def YS:=@List.length_pos_of_mem
def YT:=@PySem.W.mg_none_of
def YU:=@or_false
def YV:=@PySem.wpAny_newObj_type
def YW:=@List.length_replicate
def YX:=@PySem.F.slot_NoneType_eq
def YY:=@Bool.false_eq_true
def YZ:=@True.intro
def Y0:=@List.pairwise_map
def Y1:=@Array.length_toList
def Y2:=@PySem.mem_of_lookup
def Y3:=@PySem.wpAny_of_eq
def Y4:=@Array.getElem?_eq_getElem
def Y5:=@Classical.byContradiction
def Y6:=@PySem.Heap.get?_update_self
def Y7:=@List.any_eq_true
def Y8:=@List.length_erase_of_mem
def Y9:=@PySem.W.looks_findIn
def xi:=@PySem.wpAny_field
def xj:=@PySem.wpAny_truthy_bool
def xk:=@Int.eq_ofNat_of_zero_le
def xl:=@PySem.F.slot_list_index
def xm:=@List.pairwise_singleton
def xn:=@Bool.eq_iff_iff
def xo:=@PyProof.Rows.boot_isinstance
def xp:=@List.dropLast_concat_getLast
def xq:=@List.replicate_succ
def xr:=@List.getElem_of_mem
def xt:=@Nat.succ_le_succ
def xu:=@List.lookup_cons
def xv:=@beq_self_eq_true
def xw:=@PyProof.Rows.boot_list
def xx:=@List.mem_range
def xy:=@PySem.Heap.size_push
def xz:=@List.lookup_append
def xA:=@List.length_singleton
def xB:=@PySem.wpAny_passesOwn
def xC:=@List.find?_cons
def xD:=@List.length_nil
def xE:=@Sum.inr.inj
def xF:=@List.getElem?_set_ne
def xG:=@Nat.le_of_eq
def xH:=@PySem.Heap.get?_push_ne
def xI:=@Nat.zero_add
def xJ:=@PySem.W.looks_mroIn
def xK:=@PySem.W.any_some
def xL:=@Nat.lt_succ_self
def xM:=@PySem.wpAny_callSpecial?_slot
def xN:=@PySem.wpAny_call_entry
def xO:=@PySem.wpAny_getItem_str_slice
def xP:=@List.mem_flatMap
def xQ:=@PySem.F.type_list_index
def xR:=@List.length_tail
def xS:=@Int.le_refl
def xT:=@PySem.wpAny_Call_Name_kw
def xU:=@PySem.tupleKind_room_in1
def xV:=@Array.getElem?_eq_none
def xW:=@of_decide_eq_false
def xX:=@List.getElem?_tail
def xY:=@List.pairwise_cons
def xZ:=@PyProof.Rows.listUpdate_at
def x0:=@Prod.mk.injEq
def x8:=@Array.getElem?_toList
def Xa:=@List.mem_iff_getElem?
def Xb:=@List.flatten_cons
def Xc:=@Option.isSome_map
def Xd:=@Nat.lt_succ_of_lt
def Xe:=@Nat.le_succ_of_le
def Xf:=@Array.getD_eq_getD_getElem?
def Xg:=@Nat.le_succ
def Xh:=@if_false
def Xi:=@PySem.codeAny_call_builtin
def Xj:=@Nat.lt_trans
def Xk:=@PySem.Heap.size_update
def Xl:=@Nat.sub_self
def Xm:=@List.getElem?_zip_eq_some
def Xn:=@List.filterMap_cons
def Xo:=@PySem.Heap.get?_update_ne
def Xp:=@PySem.F.plain_extend_loop
def Xq:=@List.flatMap_append
def Xr:=@List.all_cons
def Xs:=@List.any_cons
def Xu:=@List.map_tail
def Xv:=@List.Pairwise.imp_of_mem
def Xw:=@Option.map_some
def Xx:=@PyProof.Rows.get?_update_seq
def Xy:=@Array.forIn_toList
def Xz:=@List.getElem?_replicate
def XA:=@decide_eq_false_iff_not
def XB:=@List.take_sublist
def XC:=@PySem.Calls.callWith_builtin
def XD:=@Or.inr
def XE:=@PySem.wpAny_nextOf_list_item
def XF:=@PySem.F.slot_dict_get
def XG:=@PySem.wpAny_call
def XH:=@PySem.call_meets
def XI:=@Nat.lt_of_not_le
def XJ:=@List.map_snd_zip
def XM:=@if_true
def XR:=@Bool.or_false
def XS:=@PySem.wpAny_attempt
def XT:=@List.pairwise_append
def XU:=@List.mem_erase_of_ne
def XV:=@PySem.wpAny_execs_nil
def XW:=@List.length_set
def XX:=@PySem.SeqAt.EqAt.same
def XY:=@PySem.post_val_or_str
def XZ:=@PySem.F.slot_zip_next
def X0:=@PySem.wpAny_updateSeq
def X1:=@List.all_append
def X2:=@PySem.W.plainGet_of
def X3:=@PySem.W.looks_clsIn
def X4:=@List.toList_toArray
def X5:=@PySem.codeAny_mono
def X6:=@List.map_map
def X7:=@Int.zero_add
def X8:=@PySem.Calls.spliced_cons
def X9:=@PySem.W.callWith_K
def kc:=@Prod.ext
def ke:=@PyProof.Rows.slicePart_none
def kf:=@PySem.Heap.IsSliceOf.new
def kg:=@List.getElem?_take
def kh:=@PySem.Calls.spliced_nil
def ki:=@PySem.slot_list_getitem
def kj:=@PySem.wpAny_pyIter_list
def km:=@PyProof.Rows.mirror_perm
def kn:=@List.length_range
def ku:=@PyProof.Rows.seqEpoch_at
def ky:=@bne_self_eq_false
def kz:=@Nat.lt_trichotomy
def kA:=@Option.some.injEq
def kB:=@decide_eq_true_eq
def kC:=@PySem.wpAny_standAt
def kD:=@PySem.evalPart_none
def kE:=@PySem.wpAny_newList
def kF:=@PySem.wpAny_eqBool_int
def kG:=@Nat.min_le_right
def kH:=@List.length_drop
def kI:=@List.cons_append
def kJ:=@PySem.wpAny_askSetting
def kK:=@Nat.min_eq_right
def kL:=@PySem.wpAny_pyIter_zip
def kM:=@List.cons_ne_nil
def kN:=@List.mem_reverse
def kO:=@PySem.Txt.slice_le
def kP:=@Nat.sub_zero
def kQ:=@List.of_mem_zip
def kR:=@List.forIn_cons
def kS:=@Bool.or_eq_true
def kT:=@Nat.min_eq_left
def kU:=@Array.size_push
def kW:=@List.length_zip
def kX:=@List.forIn_nil
def kY:=@List.nodup_nil
def kZ:=@PySem.W.mg_of
def k8:=@List.all_map
def k9:=@decide_false
namespace L2
open PySem PySem.Spec PyProof.Rows
noncomputable def qX(s:Stmt)(j:Nat):Stmt:=match s with
 | .ClassDef _ _ _ body _ _ _ _ _ _ _=>body.getD j (.Pass ⟨0,0,0,0⟩)
 | _=>.Pass ⟨0,0,0,0⟩
noncomputable def qab(s:Stmt):Arguments:=match s with
 | .FunctionDef _ a _ _ _ _ _ _ _ _=>a
 | _=>{ posonlyargs:=[],args:=[],vararg:=none,kwonlyargs:=[],kw_defaults:=[],kwarg:=none,defaults:=[] }
noncomputable def zf(s:Stmt):List Stmt:=match s with
 | .FunctionDef _ _ b _ _ _ _ _ _ _=>b
 | _=>[]
noncomputable def qg(s:Stmt):Scope:=match s with
 | .FunctionDef _ _ _ _ _ _ sc _ _ _=>sc
 | _=>{ kind:=.function,names:=[],isGenerator:=false,isCoroutine:=false }
noncomputable def hookT(K:Params->yg)(as:LQ)(e:∀ P,as=(K P).map (·.1))(p:Addr)(o:Obj):PySem.W.Hook:=
 ⟨List (Option Obj),fun s=>(p::as).map s.heap.get?,fun w=>some o::(K w.params).map fun q:Addr×Obj=>some q.2,fun w h=>(PySem.W.kHook K as e).says w h/\h.get? p=some o,
  fun w s h=>⟨(PySem.W.kHook K as e).of w s (YN h).2,(YN h).1⟩,fun w h h' x k=>⟨(PySem.W.kHook K as e).keeps w h h' x.1 k,k _ _ x.2⟩⟩
end L2
namespace K33
open PySem L2 PyProof.Rows
noncomputable def top(i:Nat):Stmt:=PySem.Challenge.pw_onceroad_k33_folds.main.body.getD i (.Pass ⟨0,0,0,0⟩)
noncomputable abbrev zI:Stmt:=top 27
noncomputable abbrev qao:Stmt:=top 32
noncomputable abbrev zQ:Stmt:=top 33
noncomputable abbrev js:Stmt:=top 34
noncomputable abbrev j9:Stmt:=top 35
noncomputable abbrev zR:Stmt:=qX (top 31) 0
noncomputable abbrev qap:Stmt:=top 36
noncomputable abbrev za:Stmt:=qX (top 31) 1
noncomputable abbrev jz:Stmt:=qX (top 31) 4
noncomputable abbrev jA:Stmt:=qX (top 31) 6
noncomputable abbrev zb:Stmt:=qX (top 31) 7
noncomputable abbrev jl:Stmt:=qX (top 31) 8
noncomputable abbrev zS:Stmt:=qX (top 31) 9
noncomputable abbrev jr:Stmt:=qX (top 31) 12
noncomputable abbrev zU:Stmt:=qX (top 31) 2
noncomputable abbrev qaI:Stmt:=top 38
noncomputable abbrev qbD:Stmt:=top 39
noncomputable abbrev qaJ:Stmt:=top 40
noncomputable abbrev zl:Stmt:=top 41
noncomputable abbrev qaK:Stmt:=top 42
noncomputable abbrev qas:Stmt:=top 43
noncomputable abbrev jL:Stmt:=top 44
noncomputable abbrev zy:Stmt:=top 11
noncomputable abbrev jS:Stmt:=qX (top 31) 5
noncomputable abbrev jT:Stmt:=top 12
noncomputable abbrev jH:Stmt:=qX (top 15) 6
noncomputable abbrev qN:Stmt:=qX (top 15) 9
noncomputable abbrev q0:Stmt:=qX (top 15) 10
noncomputable abbrev jB:Stmt:=qX (top 15) 11
noncomputable abbrev qG:Stmt:=qX (top 15) 8
noncomputable abbrev q8:Stmt:=qX (top 15) 7
noncomputable abbrev jU:Stmt:=qX (top 15) 5
noncomputable abbrev jV:Stmt:=qX (top 15) 0
noncomputable abbrev zd:Stmt:=qX (top 15) 1
noncomputable abbrev jf:Stmt:=qX (top 15) 2
noncomputable abbrev jM:Stmt:=top 13
noncomputable abbrev jd:Stmt:=top 18
noncomputable abbrev qaL:Stmt:=top 17
noncomputable abbrev qS:Stmt:=top 19
noncomputable abbrev zW:Stmt:=top 20
noncomputable abbrev qat:Stmt:=top 21
noncomputable abbrev jC:Stmt:=top 24
noncomputable abbrev zY:Stmt:=top 23
noncomputable abbrev zA:Stmt:=top 45
noncomputable abbrev j3:Stmt:=top 46
noncomputable abbrev qaM:Stmt:=top 48
noncomputable abbrev jI:Stmt:=top 47
noncomputable abbrev qQ:Stmt:=qX (top 15) 4
noncomputable abbrev qaN:Stmt:=top 49
noncomputable abbrev jN:Stmt:=top 50
noncomputable abbrev zB:Stmt:=top 51
noncomputable abbrev zm:Stmt:=top 52
noncomputable abbrev jO:Stmt:=top 53
noncomputable abbrev zn:Stmt:=top 54
noncomputable abbrev qcF:Stmt:=top 55
end K33
namespace Hd
open PySem PySem.W PySem.Calls PyProof.Rows
variable{p:Program}{α:Type}
noncomputable def qeO(c:String->Option Builtin)(p:Program)(w:World)(a:Nat)(b:Option Value):Nat->SharedT->Thread->Option SharedT
 | 0,_,_=>none
 | n+1,s,t=>match through t with
  | true=>some s
  | false=>match stepOk a b t with
   | false=>none
   | true=>match stepT (denote c) p w s t with
    | some (s',t')=>qeO c p w a b n s' t'
    | none=>none
theorem qev{e:String->Option Builtin}{w:World}{a:Nat}{b:Option Value}:∀{n:Nat} {s d:SharedT} {t:Thread},qeO e p w a b n s t=some d->topRun e p w a b n s.abs t=some d.abs
 | 0,_,_,_,h=>by cases h
 | n+1,s,d,t,h=>by
  unfold qeO at h;unfold topRun
  cases f:through t with
  | true=>rw[f] at h;cases h;rfl
  | false =>
   rw[f] at h
   cases g:stepOk a b t with
   | false=>rw[g] at h;cases h
   | true =>
    rw[g] at h
    cases c:stepT (denote e) p w s t with
    | none=>rw[c] at h;cases h
    | some r=>obtain⟨i,j⟩:=r;rw[c] at h;rw[stepT_spec c];show qev h
noncomputable def qcG:List Obj->Nat->BT->BT
 | [],_,t=>t
 | o::r,n,t=>qcG r (n+1) (t.ins n o)
noncomputable def qdX(P:Params)(a:OsState):SharedT:=⟨qcG (boot_heap P).objs.toList 0 .nil,(boot_heap P).objs.size,(boot_heap P).life,Array.mk [],boot_drawn,boot_toks,a⟩
theorem boot_abs(P:Params):absHeap (qcG (boot_heap P).objs.toList 0 .nil) (boot_heap P).objs.size (boot_heap P).life=boot_heap P:=by kernel_rfl
noncomputable def qd7(p q:Program)(Xt:Shared->Bool){α:Type}(Yf:Shared->α)(N:Nat)(w:World)(a:OsState):=match (boot_heap w.params).isNs mainGlobals&&(Array.mk []:Array GenState).size==0 with
 | true=>(qeO treeTable p w (boot_heap w.params).objs.size ((boot_heap w.params).nsMap mainGlobals "__annotations__") N (qdX w.params a) (topStub p)).bind fun s=>match staticsOk (importedModules p.main.body) (boot_heap w.params) s.abs.heap&&namesBound p s.abs.heap&&gensDone s.abs&&laidKept (boot_heap w.params) s.abs.heap with
   | true=>some (openSeen q [] (importedModules p.main.body) Xt true s.abs,Yf s.abs)
   | false=>none
 | false=>none
noncomputable def lookS(p:Program)(N:Nat)(w:World)(a:OsState):Option Shared:=match (boot_heap w.params).isNs mainGlobals&&(Array.mk []:Array GenState).size==0 with
 | true=>(qeO treeTable p w (boot_heap w.params).objs.size ((boot_heap w.params).nsMap mainGlobals "__annotations__") N (qdX w.params a) (topStub p)).bind fun s=>match staticsOk (importedModules p.main.body) (boot_heap w.params) s.abs.heap&&namesBound p s.abs.heap&&gensDone s.abs&&laidKept (boot_heap w.params) s.abs.heap with
   | true=>some s.abs
   | false=>none
 | false=>none
theorem lookT_map(p q:Program)(Xt:Shared->Bool)(Yf:Shared->α)(N:Nat)(w:World)(a:OsState):qd7 p q Xt Yf N w a=(lookS p N w a).map fun s=>(openSeen q [] (importedModules p.main.body) Xt true s,Yf s):=by
 unfold qd7 lookS
 cases (boot_heap w.params).isNs mainGlobals&&(Array.mk []:Array GenState).size==0 with
 | false=>rfl
 | true =>
  dsimp only
  cases qeO treeTable p w (boot_heap w.params).objs.size ((boot_heap w.params).nsMap mainGlobals "__annotations__") N (qdX w.params a) (topStub p) with
  | none=>rfl
  | some s =>
   show(match _ with | true=>_ | false=>_)=Option.map _ (match _ with | true=>_ | false=>_);cases staticsOk (importedModules p.main.body) (boot_heap w.params) s.abs.heap&&namesBound p s.abs.heap&&gensDone s.abs&&laidKept (boot_heap w.params) s.abs.heap<;>rfl
theorem packs{b A B C D E Y:Type}{o:Option b}{f:b->A×B×C×D×E}{g:b->Y}{x:A×B×C×D×E}{y:Y}(h1:o.map (fun s=>((f s).1,(f s).2.1,(f s).2.2.1,(f s).2.2.2.1))=some (x.1,x.2.1,x.2.2.1,x.2.2.2.1))(h:o.map (fun s=>(f s).2.2.2.2)=some x.2.2.2.2)(c:o.map g=some y):o.map (fun s=>(f s,g s))=some (x,y):=by
 cases o with
 | none=>cases c
 | some s =>
  have a:=yn h1;have d:=yn h;have e:=yn c;have i:=congrArg Prod.fst a;have j:=congrArg (fun z=>z.2.1) a;have l:=congrArg (fun z=>z.2.2.1) a;have m:=congrArg (fun z=>z.2.2.2) a;show congrArg some (kc (kc i (kc j (kc l (kc m d)))) e)
theorem left_of{q:Program}{Xt:Shared->Bool}{Yf:Shared->α}{Ya:World->α}{N:Nat}(e:opening p=plainProg p.main.scope.names)(n:Nat.ble 600 N=true)(f:∀ s,fenceModules? p s=some s)
  (h:∀ w a,qd7 p q Xt Yf N w a=some (openGood q [],Ya w)):LeftO p q [] Xt Yf Ya N:=fun w=>by
 obtain⟨⟨m,l,d,k,a⟩,i,j⟩:=yo.mp (boot_open e n f w);obtain⟨rfl,rfl,rfl,rfl⟩:m=boot_heap w.params/\l=Array.mk []/\d=boot_drawn/\k=boot_toks:=by simpa using j
 have b:=h w a;unfold qd7 at b;unfold openEnds;rw[i];show(topFrom treeTable p w N _).map _=_;unfold topFrom;dsimp only;split at b
 .rename_i z
  rw[z];obtain⟨s,o,c⟩:=Option.bind_eq_some_iff.mp b;have r:=qev o
  have g:(qdX w.params a).abs=⟨boot_heap w.params,Array.mk [],boot_drawn,boot_toks,a⟩:=by
   unfold qdX SharedT.abs;dsimp only;rw[boot_abs]
  rw[g] at r;dsimp only;rw[r];split at c
  .rename_i z2
   show((match staticsOk (importedModules p.main.body) (boot_heap w.params) s.abs.heap&&namesBound p s.abs.heap&&gensDone s.abs&&laidKept (boot_heap w.params) s.abs.heap with | true=>some s.abs | false=>none):Option Shared).map _=_;rw[z2];show c
  .cases c
 .cases b
end Hd
namespace K33
open PySem L2 PyProof.Rows PySem.W
noncomputable abbrev NN:Nat:=20000
noncomputable def Q:Program:=view PySem.Challenge.pw_onceroad_k33_folds [0,2,3,4,5,6,7,8,9,11,12,13,15,17,18,19,20,21,23,24,26,27,29,30,31,32,33,34,35,36,38,39,40,41,42,43,44,45,46,47,48,49,50,51,52,53,54,55]
noncomputable def en(P:Params)(t:Tok)(v:Value)(k:Str):DictEntry:=⟨PyData.keyHash P k,.str k t,v⟩
noncomputable def cO(t a b r:Nat)(x y z v:Value)(e u:Nat)(q n:Str):Obj:=⟨.type "code",none,.fields #[.str n t,.str q (t+1),.str "/claim/cut.py" (t+2),.int a 0,.int b 0,.int 0 0,.int 0 0,.int 3 0,.ref r,.bool true,.int 181 0,x,y,z,v,.ref e,.int u 0,.int a 0,.str "/claim/cut.py" (u+1)],#[]⟩
noncomputable def cE(t b a r:Nat)(x y z v:Value)(e u:Nat)(n:Str):Obj:=cO t b a r x y z v e u n n
noncomputable def fO(k c:Nat)(s:Stmt)(m q n:Str):Obj:=⟨.type "function",none,.func (fnOf n q (qab s) (zf s) (qg s) .none .none .none (.str m k) none (.ref c) .none),#[]⟩
noncomputable def fE(k c:Nat)(s:Stmt)(m n:Str):Obj:=fO k c s m n n
noncomputable def Kf(P:Params):Frag:=
 (nat_lit 2,(⟨.none,none,.dict #[] 0,#[]⟩:Obj)) ::
 (nat_lit 3,(⟨(.type "dict"),none,.dict #[en P 165 (.str "law_onceroad_k33_folds" 842) "__name__",en P 166 .none "__doc__",en P 167 .none "__package__",en P 168 (.builtin "__main__.__loader__#opaque") "__loader__",en P 169 .none "__spec__",en P 170 (.ref 6) "__annotations__",en P 171 (.ref 4) "__builtins__",en P 173 (.str "/claim/cut.py" 172) "__file__",en P 174 .none "__cached__",en P 193 (.ref 21) "_wall",en P 221 (.ref 38) "OnceError",en P 246 (.ref 58) "NoName",en P 271 (.ref 77) "Twice",en P 296 (.ref 96) "NoPlace",en P 321 (.ref 115) "NoTie",en P 346 (.ref 134) "TooMany",en P 371 (.ref 153) "NoPairs",en P 396 (.ref 172) "NoRow",en P 408 (.ref 181) "are_pairs",en P 418 (.ref 188) "partners_in",en P 424 (.ref 193) "told_pairs",en P 553 (.ref 279) "Forest",en P 565 (.ref 290) "is_row",en P 575 (.ref 297) "are_unlike_places",en P 581 (.ref 302) "goes_by_turns",en P 593 (.ref 309) "can_turn",en P 599 (.ref 314) "turned",en P 608 (.ref 321) "greatest",en P 619 (.ref 328) "greatest_from",en P 623 (.int 6 622) "LONGEST_NAME",en P 629 (.ref 333) "is_name",en P 633 (.int 14 632) "MOST_PLACES",en P 635 (.int 30 634) "MOST_TIES",en P 795 (.ref 460) "Web",en P 803 (.ref 471) "has_bit",en P 811 (.ref 478) "is_place",en P 820 (.ref 485) "are_two_places",en P 829 (.ref 492) "numbers_of",en P 841 (.ref 499) "near_of",en P 851 (.ref 506) "_law_cell",en P 858 (.ref 513) "_law_box",en P 867 (.ref 520) "_law_take",en P 873 (.ref 525) "_law_names",en P 885 (.ref 532) "_law_ties",en P 895 (.ref 539) "_law_drawn",en P 901 (.ref 544) "_law_shuffled",en P 911 (.ref 551) "_law_partner",en P 917 (.ref 556) "_law_singles",en P 928 (.ref 563) "_law_some_pairs",en P 937 (.ref 570) "_law_tied",en P 952 (.ref 577) "_law_rung",en P 958 (.ref 582) "_law_can_pair",en P 964 (.ref 587) "_law_fold",en P 970 (.ref 592) "_law_nested",en P 976 (.ref 597) "_law_together",en P 982 (.ref 602) "_law_right",en P 995 (.ref 609) "law"] 57,#[]⟩:Obj)) ::
 (nat_lit 4,(⟨(.type "module"),(some 0),.plain,#[]⟩:Obj)) ::
 (nat_lit 180,cE 399 45 2 175 (.ref 176) .none (.ref 177) (.ref 178) 179 406 "are_pairs") ::
 (nat_lit 181,fE 397 180 zy "onceroad.pairs" "are_pairs") ::
 (nat_lit 187,cE 409 55 2 182 (.ref 183) .none (.ref 184) (.ref 185) 186 416 "partners_in") ::
 (nat_lit 188,fE 397 187 jT "onceroad.pairs" "partners_in") ::
 (nat_lit 192,cE 419 63 2 189 (.ref 190) .none .none .none 191 422 "told_pairs") ::
 (nat_lit 193,fE 397 192 jM "onceroad.pairs" "told_pairs") ::
 (nat_lit 206,cO 439 69 3 201 (.ref 202) .none (.ref 203) (.ref 204) 205 445 "Forest.__init__" "__init__") ::
 (nat_lit 207,fO 425 206 jV "onceroad.forests" "Forest.__init__" "__init__") ::
 (nat_lit 213,cO 448 80 1 208 (.ref 209) .none (.ref 210) (.ref 211) 212 452 "Forest.row" "row") ::
 (nat_lit 214,fO 425 213 zd "onceroad.forests" "Forest.row" "row") ::
 (nat_lit 218,cO 455 83 1 215 (.ref 216) .none .none .none 217 458 "Forest.reached" "reached") ::
 (nat_lit 219,fO 425 218 jf "onceroad.forests" "Forest.reached" "reached") ::
 (nat_lit 230,cO 469 91 1 227 (.ref 228) .none .none .none 229 472 "Forest.folds" "folds") ::
 (nat_lit 231,fO 425 230 qQ "onceroad.forests" "Forest.folds" "folds") ::
 (nat_lit 237,cO 475 95 1 232 (.ref 233) .none (.ref 234) (.ref 235) 236 480 "Forest.grow" "grow") ::
 (nat_lit 238,fO 425 237 jU "onceroad.forests" "Forest.grow" "grow") ::
 (nat_lit 244,cO 483 103 3 239 (.ref 240) .none (.ref 241) (.ref 242) 243 489 "Forest.reach" "reach") ::
 (nat_lit 245,fO 425 244 jH "onceroad.forests" "Forest.reach" "reach") ::
 (nat_lit 251,cO 492 107 2 246 (.ref 247) .none (.ref 248) (.ref 249) 250 499 "Forest.look_around" "look_around") ::
 (nat_lit 252,fO 425 251 q8 "onceroad.forests" "Forest.look_around" "look_around") ::
 (nat_lit 256,cO 502 118 3 253 (.ref 254) .none .none .none 255 505 "Forest.bring_together" "bring_together") ::
 (nat_lit 257,fO 425 256 qG "onceroad.forests" "Forest.bring_together" "bring_together") ::
 (nat_lit 263,cO 508 129 2 258 (.ref 259) .none (.ref 260) (.ref 261) 262 515 "Forest.bases_down_from" "bases_down_from") ::
 (nat_lit 264,fO 425 263 qN "onceroad.forests" "Forest.bases_down_from" "bases_down_from") ::
 (nat_lit 270,cO 518 136 4 265 (.ref 266) .none (.ref 267) (.ref 268) 269 529 "Forest.reach_round" "reach_round") ::
 (nat_lit 271,fO 425 270 q0 "onceroad.forests" "Forest.reach_round" "reach_round") ::
 (nat_lit 275,cO 532 145 3 272 (.ref 273) .none .none .none 274 535 "Forest.fold" "fold") ::
 (nat_lit 276,fO 425 275 jB "onceroad.forests" "Forest.fold" "fold") ::
 (nat_lit 278,(⟨(.type "dict"),none,.dict #[en P 434 (.str "onceroad.forests" 425) "__module__",en P 438 (.int 67 437) "__firstlineno__",en P 447 (.ref 207) "__init__",en P 454 (.ref 214) "row",en P 460 (.ref 219) "reached",en P 468 (.ref 226) "row_to",en P 474 (.ref 231) "folds",en P 482 (.ref 238) "grow",en P 491 (.ref 245) "reach",en P 501 (.ref 252) "look_around",en P 507 (.ref 257) "bring_together",en P 517 (.ref 264) "bases_down_from",en P 531 (.ref 271) "reach_round",en P 537 (.ref 276) "fold",en P 546 (.ref 277) "__static_attributes__",en P 548 (.ref 280) "__dict__",en P 550 (.ref 281) "__weakref__",en P 551 .none "__doc__"] 4,#[]⟩:Obj)) ::
 (nat_lit 279,(⟨(.type "type"),none,.cls { name:="Forest",bases:=[(.type "object")],mro:=[(.ref 279),(.type "object")],ns:=278,qualname:="Forest",hasDict:=true,slotNames:=[],subclasses:=[],abstract:=false,collection:=none,hasDel:=false },#[none,none,(some (.str "Forest" 427)),(some (.str "Forest" 435)),(some (.builtin "object.__new__")),(some (.bool true))]⟩:Obj)) ::
 (nat_lit 289,cE 556 151 3 284 (.ref 285) .none (.ref 286) (.ref 287) 288 563 "is_row") ::
 (nat_lit 290,fE 554 289 qaL "onceroad.rows" "is_row") ::
 (nat_lit 296,cE 566 156 2 291 (.ref 292) .none (.ref 293) (.ref 294) 295 573 "are_unlike_places") ::
 (nat_lit 297,fE 554 296 jd "onceroad.rows" "are_unlike_places") ::
 (nat_lit 301,cE 576 165 3 298 (.ref 299) .none .none .none 300 579 "goes_by_turns") ::
 (nat_lit 302,fE 554 301 qS "onceroad.rows" "goes_by_turns") ::
 (nat_lit 308,cE 582 171 3 303 (.ref 304) .none (.ref 305) (.ref 306) 307 591 "can_turn") ::
 (nat_lit 309,fE 554 308 zW "onceroad.rows" "can_turn") ::
 (nat_lit 313,cE 594 178 3 310 (.ref 311) .none .none .none 312 597 "turned") ::
 (nat_lit 314,fE 554 313 qat "onceroad.rows" "turned") ::
 (nat_lit 320,cE 602 185 1 315 (.ref 316) .none (.ref 317) (.ref 318) 319 606 "greatest") ::
 (nat_lit 321,fE 600 320 zY "onceroad.greatest" "greatest") ::
 (nat_lit 327,cE 609 187 2 322 (.ref 323) .none (.ref 324) (.ref 325) 326 617 "greatest_from") ::
 (nat_lit 328,fE 600 327 jC "onceroad.greatest" "greatest_from") ::
 (nat_lit 332,cE 624 198 1 329 (.ref 330) .none .none .none 331 627 "is_name") ::
 (nat_lit 333,fE 620 332 zI "onceroad.names" "is_name") ::
 (nat_lit 346,cO 648 207 3 341 (.ref 342) .none (.ref 343) (.ref 344) 345 654 "Web.__init__" "__init__") ::
 (nat_lit 347,fO 630 346 zR "onceroad.webs" "Web.__init__" "__init__") ::
 (nat_lit 353,cO 657 212 1 348 (.ref 349) .none (.ref 350) (.ref 351) 352 661 "Web.places" "places") ::
 (nat_lit 354,fO 630 353 za "onceroad.webs" "Web.places" "places") ::
 (nat_lit 360,cO 664 215 1 355 (.ref 356) .none (.ref 357) (.ref 358) 359 671 "Web.ties" "ties") ::
 (nat_lit 361,fO 630 360 zU "onceroad.webs" "Web.ties" "ties") ::
 (nat_lit 374,cO 681 226 2 369 (.ref 370) .none (.ref 371) (.ref 372) 373 686 "Web.has_place" "has_place") ::
 (nat_lit 375,fO 630 374 jz "onceroad.webs" "Web.has_place" "has_place") ::
 (nat_lit 381,cO 689 229 2 376 (.ref 377) .none (.ref 378) (.ref 379) 380 694 "Web.has_tie" "has_tie") ::
 (nat_lit 382,fO 630 381 jS "onceroad.webs" "Web.has_tie" "has_tie") ::
 (nat_lit 388,cO 697 232 2 383 (.ref 384) .none (.ref 385) (.ref 386) 387 702 "Web.number_of" "number_of") ::
 (nat_lit 389,fO 630 388 jA "onceroad.webs" "Web.number_of" "number_of") ::
 (nat_lit 395,cO 705 237 2 390 (.ref 391) .none (.ref 392) (.ref 393) 394 710 "Web.beside" "beside") ::
 (nat_lit 396,fO 630 395 zb "onceroad.webs" "Web.beside" "beside") ::
 (nat_lit 402,cO 713 240 2 397 (.ref 398) .none (.ref 399) (.ref 400) 401 718 "Web.bits_beside" "bits_beside") ::
 (nat_lit 403,fO 630 402 jl "onceroad.webs" "Web.bits_beside" "bits_beside") ::
 (nat_lit 409,cO 721 243 3 404 (.ref 405) .none (.ref 406) (.ref 407) 408 728 "Web.tied" "tied") ::
 (nat_lit 410,fO 630 409 zS "onceroad.webs" "Web.tied" "tied") ::
 (nat_lit 428,cO 745 253 2 425 (.ref 426) .none .none .none 427 748 "Web.names_in" "names_in") ::
 (nat_lit 429,fO 630 428 jr "onceroad.webs" "Web.names_in" "names_in") ::
 (nat_lit 459,(⟨(.type "dict"),none,.dict #[en P 643 (.str "onceroad.webs" 630) "__module__",en P 647 (.int 205 646) "__firstlineno__",en P 656 (.ref 347) "__init__",en P 663 (.ref 354) "places",en P 673 (.ref 361) "ties",en P 680 (.ref 368) "how_many",en P 688 (.ref 375) "has_place",en P 696 (.ref 382) "has_tie",en P 704 (.ref 389) "number_of",en P 712 (.ref 396) "beside",en P 720 (.ref 403) "bits_beside",en P 730 (.ref 410) "tied",en P 737 (.ref 417) "pieces",en P 744 (.ref 424) "told",en P 750 (.ref 429) "names_in",en P 758 (.ref 436) "without",en P 766 (.ref 443) "with_place",en P 775 (.ref 450) "with_tie",en P 784 (.ref 457) "without_tie",en P 788 (.ref 458) "__static_attributes__",en P 790 (.ref 461) "__dict__",en P 792 (.ref 462) "__weakref__",en P 793 .none "__doc__"] 4,#[]⟩:Obj)) ::
 (nat_lit 460,(⟨(.type "type"),none,.cls { name:="Web",bases:=[(.type "object")],mro:=[(.ref 460),(.type "object")],ns:=459,qualname:="Web",hasDict:=true,slotNames:=[],subclasses:=[],abstract:=false,collection:=none,hasDel:=false },#[none,none,(some (.str "Web" 636)),(some (.str "Web" 644)),(some (.builtin "object.__new__")),(some (.bool true))]⟩:Obj)) ::
 (nat_lit 470,cE 796 267 2 465 (.ref 466) .none (.ref 467) (.ref 468) 469 801 "has_bit") ::
 (nat_lit 471,fE 630 470 qao "onceroad.webs" "has_bit") ::
 (nat_lit 477,cE 804 269 2 472 (.ref 473) .none (.ref 474) (.ref 475) 476 809 "is_place") ::
 (nat_lit 478,fE 630 477 zQ "onceroad.webs" "is_place") ::
 (nat_lit 484,cE 812 271 2 479 (.ref 480) .none (.ref 481) (.ref 482) 483 818 "are_two_places") ::
 (nat_lit 485,fE 630 484 js "onceroad.webs" "are_two_places") ::
 (nat_lit 491,cE 821 276 1 486 (.ref 487) .none (.ref 488) (.ref 489) 490 827 "numbers_of") ::
 (nat_lit 492,fE 630 491 j9 "onceroad.webs" "numbers_of") ::
 (nat_lit 498,cE 830 289 2 493 (.ref 494) .none (.ref 495) (.ref 496) 497 839 "near_of") ::
 (nat_lit 499,fE 630 498 qap "onceroad.webs" "near_of") ::
 (nat_lit 505,cE 844 306 2 500 (.ref 501) .none (.ref 502) (.ref 503) 504 849 "_law_cell") ::
 (nat_lit 506,fE 842 505 qaI "law_onceroad_k33_folds" "_law_cell") ::
 (nat_lit 512,cE 852 310 1 507 (.ref 508) .none (.ref 509) (.ref 510) 511 856 "_law_box") ::
 (nat_lit 513,fE 842 512 qbD "law_onceroad_k33_folds" "_law_box") ::
 (nat_lit 519,cE 859 314 2 514 (.ref 515) .none (.ref 516) (.ref 517) 518 865 "_law_take") ::
 (nat_lit 520,fE 842 519 qaJ "law_onceroad_k33_folds" "_law_take") ::
 (nat_lit 524,cE 868 323 2 521 (.ref 522) .none .none .none 523 871 "_law_names") ::
 (nat_lit 525,fE 842 524 zl "law_onceroad_k33_folds" "_law_names") ::
 (nat_lit 531,cE 874 337 2 526 (.ref 527) .none (.ref 528) (.ref 529) 530 883 "_law_ties") ::
 (nat_lit 532,fE 842 531 qaK "law_onceroad_k33_folds" "_law_ties") ::
 (nat_lit 538,cE 886 345 2 533 (.ref 534) .none (.ref 535) (.ref 536) 537 893 "_law_drawn") ::
 (nat_lit 539,fE 842 538 qas "law_onceroad_k33_folds" "_law_drawn") ::
 (nat_lit 543,cE 896 351 2 540 (.ref 541) .none .none .none 542 899 "_law_shuffled") ::
 (nat_lit 544,fE 842 543 jL "law_onceroad_k33_folds" "_law_shuffled") ::
 (nat_lit 550,cE 902 357 2 545 (.ref 546) .none (.ref 547) (.ref 548) 549 909 "_law_partner") ::
 (nat_lit 551,fE 842 550 zA "law_onceroad_k33_folds" "_law_partner") ::
 (nat_lit 555,cE 912 364 2 552 (.ref 553) .none .none .none 554 915 "_law_singles") ::
 (nat_lit 556,fE 842 555 j3 "law_onceroad_k33_folds" "_law_singles") ::
 (nat_lit 562,cE 918 366 2 557 (.ref 558) .none (.ref 559) (.ref 560) 561 926 "_law_some_pairs") ::
 (nat_lit 563,fE 842 562 jI "law_onceroad_k33_folds" "_law_some_pairs") ::
 (nat_lit 569,cE 929 373 3 564 (.ref 565) .none (.ref 566) (.ref 567) 568 935 "_law_tied") ::
 (nat_lit 570,fE 842 569 qaM "law_onceroad_k33_folds" "_law_tied") ::
 (nat_lit 576,cE 938 375 2 571 (.ref 572) .none (.ref 573) (.ref 574) 575 950 "_law_rung") ::
 (nat_lit 577,fE 842 576 qaN "law_onceroad_k33_folds" "_law_rung") ::
 (nat_lit 581,cE 953 390 2 578 (.ref 579) .none .none .none 580 956 "_law_can_pair") ::
 (nat_lit 582,fE 842 581 jN "law_onceroad_k33_folds" "_law_can_pair") ::
 (nat_lit 586,cE 959 398 4 583 (.ref 584) .none .none .none 585 962 "_law_fold") ::
 (nat_lit 587,fE 842 586 zB "law_onceroad_k33_folds" "_law_fold") ::
 (nat_lit 591,cE 965 409 2 588 (.ref 589) .none .none .none 590 968 "_law_nested") ::
 (nat_lit 592,fE 842 591 zm "law_onceroad_k33_folds" "_law_nested") ::
 (nat_lit 596,cE 971 412 3 593 (.ref 594) .none .none .none 595 974 "_law_together") ::
 (nat_lit 597,fE 842 596 jO "law_onceroad_k33_folds" "_law_together") ::
 (nat_lit 601,cE 977 418 4 598 (.ref 599) .none .none .none 600 980 "_law_right") ::
 (nat_lit 602,fE 842 601 zn "law_onceroad_k33_folds" "_law_right") ::
 (nat_lit 608,cE 983 438 1 603 (.ref 604) .none (.ref 605) (.ref 606) 607 993 "law") ::
 (nat_lit 609,fE 842 608 qcF "law_onceroad_k33_folds" "law") ::
 []
noncomputable def ks:LQ:=[2,3,4,180,181,187,188,192,193,206,207,213,214,218,219,230,231,237,238,244,245,251,252,256,257,263,264,270,271,275,276,278,279,289,290,296,297,301,302,308,309,313,314,320,321,327,328,332,333,346,347,353,354,360,361,374,375,381,382,388,389,395,396,402,403,409,410,428,429,459,460,470,471,477,478,484,485,491,492,498,499,505,506,512,513,519,520,524,525,531,532,538,539,543,544,550,551,555,556,562,563,569,570,576,577,581,582,586,587,591,592,596,597,601,602,608,609]
theorem ks_eq:∀ P,ks=(Kf P).map (·.1):=fun P=>by kernel_rfl
noncomputable abbrev Hk:Hook:=L2.hookT Kf ks ks_eq 228 (tabObj #[])
noncomputable abbrev Xt(s:Shared):Bool:=xlAt Q [] s&&recOk [] s
noncomputable abbrev sn(s:Shared):=openSeen Q [] (importedModules PySem.Challenge.pw_onceroad_k33_folds.main.body) Xt true s
noncomputable def runA(w:World)(a:OsState):=(Hd.lookS PySem.Challenge.pw_onceroad_k33_folds NN w a).map fun s=>((sn s).1,(sn s).2.1,(sn s).2.2.1,(sn s).2.2.2.1)
noncomputable def runB(w:World)(a:OsState):=(Hd.lookS PySem.Challenge.pw_onceroad_k33_folds NN w a).map fun s=>(sn s).2.2.2.2
noncomputable def runC(w:World)(a:OsState):=(Hd.lookS PySem.Challenge.pw_onceroad_k33_folds NN w a).map fun s=>(228::ks).map s.heap.get?
noncomputable def gdA(_:World)(_:OsState):=some ((openGood Q []).1,(openGood Q []).2.1,(openGood Q []).2.2.1,(openGood Q []).2.2.2.1)
noncomputable def gdB(_:World)(_:OsState):=some (openGood Q []).2.2.2.2
noncomputable def gdC(w:World)(_:OsState):=some (some (tabObj #[])::(Kf w.params).map fun p=>some p.2)
noncomputable def tag{a:Type}(f g:World->OsState->a):Bool:=true
theorem tag1:(tag runA gdA&&(tag runB gdB&&tag runC runC))=true:=by k_qdec
theorem hA1(w:World)(a:OsState):runA w a=gdA w a:=by
 rw[PySem.W.Fast.te1108109263248223693,PySem.W.Fast.te16431379421150215139]
 kernel_rfl
theorem hB1(w:World)(a:OsState):runB w a=gdB w a:=by
 rw[PySem.W.Fast.te8879202061337439070,PySem.W.Fast.te11694738750791733708]
 kernel_rfl
theorem hC1(w:World)(a:OsState):runC w a=gdC w a:=by
 rw[PySem.W.Fast.te158839904839304775]
 kernel_rfl
theorem hl:LeftO PySem.Challenge.pw_onceroad_k33_folds Q [] Xt (Hook.obs Hk) (Hook.val Hk) NN:=Hd.left_of (by kernel_rfl) (by decide) (fun s=>by kernel_rfl) fun w a=>(Hd.lookT_map ..).trans (Hd.packs (hA1 w a) (hB1 w a) (hC1 w a))
end K33
namespace L2
open PySem PySem.Spec PyProof.Rows
variable{A:Around}{C a b dx it:Addr}{CX:CXT}{D:Ends}{E:Value->Shared->Prop}{H:Hp}{M:Model}{N ps:LS}{P:Program}{X:Cx}{base h:Heap}{body:List Stmt}{c e tg:Expr}{ch fp:LQ}{d':Drawn}{es:List Expr}{f:Value->Value->Sem Value}{g:TG}{g':Array GenState}{i j n t':Nat}{kindOf:Str->Option NameKind}{kw:List (Str×Value)}{lo:Int}{mA mg:Str->Option Value}{o:HO}{op op':CmpOp}{outer:List Env}{p pos:Pos}{pins:List (Addr×Obj)}{qual x:Str}{r r':R2}{s s':Shared}{sc scope:Scope}{t te:TE}{ta:TA}{tb:TS}{tc:TT}{u:Value}{us:List Value}{v y:V}{vs xs:List V}{w:World}{α:Type}{σ:St}
noncomputable abbrev Key:=Sum Int Str
noncomputable def qci:Key->Value->Bool
 | .inl k,v=>Value.isInt k v
 | .inr x,v=>Value.isStrOf x v
noncomputable def keyH(w:World):Key->Int
 | .inl k=>hashInt k
 | .inr x=>hashStr w x
theorem qW:∀{k:Key} {v:Value},qci k v=true->(∃ i t,k=Sum.inl i/\v=Value.int i t)\/(∃ x t,k=Sum.inr x/\v=Value.str x t)
 | .inl i,v,h=>by
  obtain⟨t,e⟩:=Value.isInt_shape (k:=i) (v:=v) h;show .inl ⟨i,t,rfl,e⟩
 | .inr x,v,h=>by
  obtain⟨t,e⟩:=Value.isStrOf_shape (x:=x) (v:=v) h;show .inr ⟨x,t,rfl,e⟩
theorem keyIs_int(i:Int)(t:Tok):qci (.inl i) (.int i t)=true:=by simp[qci,Value.isInt]
theorem keyIs_str(x:Str)(t:Tok):qci (.inr x) (.str x t)=true:=by simp[qci,Value.isStrOf]
theorem key_ll(a b:Int):decide ((Sum.inl a:Key)=Sum.inl b)=(a==b):=by
 by_cases e:a=b
 .subst e;simp
 .have h:¬ (Sum.inl a:Key)=Sum.inl b:=fun q=>e (Sum.inl.inj q);rw[yl h];show(YE.mpr e).symm
theorem key_rr(a b:Str):decide ((Sum.inr a:Key)=Sum.inr b)=decide (a=b):=by
 by_cases e:a=b
 .subst e;simp
 .have h:¬ (Sum.inr a:Key)=Sum.inr b:=fun q=>e (xE q);rw[yl h,yl e]
theorem key_lr(a:Int)(b:Str):decide ((Sum.inl a:Key)=Sum.inr b)=false:=yl (fun q=>nomatch q)
theorem key_rl(a:Str)(b:Int):decide ((Sum.inr a:Key)=Sum.inl b)=false:=yl (fun q=>nomatch q)
noncomputable def jm(prog:Program)(w:World):PySem.KeyKind prog w Key where
 is:=qci
 hash:=keyH w
 inj:=fun v a b d c=>by
  rcases qW d with⟨i,t,rfl,rfl⟩ | ⟨x,t,rfl,rfl⟩
  .rcases qW c with⟨j,u,rfl,e⟩ | ⟨y,u,rfl,e⟩
   .injection e with e1 _;rw[e1]
   .show nomatch e
  .rcases qW c with⟨j,u,rfl,e⟩ | ⟨y,u,rfl,e⟩
   .show nomatch e
   .injection e with e1 _;rw[e1]
 byValue:=fun k v h=>by
  rcases qW h with⟨i,t,rfl,rfl⟩ | ⟨x,t,rfl,rfl⟩<;>rfl
 pyHash:=fun hv h=>by
  rcases qW hv with⟨i,t,rfl,rfl⟩ | ⟨x,t,rfl,rfl⟩
  .show wpAny_pyHash_int h
  .show wpAny_pyHash_str h
 eqBool:=fun f hv h=>by
  rcases qW f with⟨i,t,rfl,rfl⟩ | ⟨x,t,rfl,rfl⟩
  .rcases qW hv with⟨j,u,rfl,rfl⟩ | ⟨y,u,rfl,rfl⟩
   .rw [key_ll] at h;show kF h
   .rw [key_lr] at h;show SeqAt.EqAt.int_str i t y u _ _ _ _ h
  .rcases qW hv with⟨j,u,rfl,rfl⟩ | ⟨y,u,rfl,rfl⟩
   .rw [key_rl] at h;show SeqAt.EqAt.str_int x t j u _ _ _ _ h
   .rw [key_rr] at h;show wpAny_eqBool_str h
 «strs»:=fun k x t v h=>by
  rcases qW h with⟨i,u,rfl,e⟩ | ⟨y,u,rfl,e⟩
  .show nomatch e
  .injection e with e1 _
   subst e1;cases v<;>rfl
theorem mixKind_int(prog:Program)(w:World)(i:Int)(t:Tok):(jm prog w).is (.inl i) (.int i t)=true:=keyIs_int i t
theorem mixKind_str(prog:Program)(w:World)(x:Str)(t:Tok):(jm prog w).is (.inr x) (.str x t)=true:=keyIs_str x t
inductive V where
 | non | bl (b:Bool) | int (i:Int) | str (x:Str) | byt (b:Array UInt8) | flt (b:UInt64) | ref (a:Addr) | ty (n:String)
 deriving DecidableEq
def RelV:V->Value->Prop
 | .non,u=>u=Value.none
 | .bl b,u=>u=Value.bool b
 | .int i,u=>∃ t,u=Value.int i t
 | .str x,u=>∃ t,u=Value.str x t
 | .byt b,u=>∃ t,u=Value.bytes b t
 | .flt b,u=>∃ t,u=Value.float b t
 | .ref a,u=>u=Value.ref a
 | .ty n,u=>u=Value.type n
abbrev Vals:List V->List Value->Prop:=Paired RelV
theorem Vals.length(r:Vals xs us):xs.length=us.length:=Paired.length r
theorem Vals.get:∀{xs:List V} {us:List Value} {i:Nat} {x:V},Vals xs us->xs[i]?=some x->∃ u,us[i]?=some u/\RelV x u
 | _,_,_,_,.nil,e=>by simp at e
 | _,_,0,_,.cons r _,e=>by simp at e;subst e;show⟨_,rfl,r⟩
 | _,_,i+1,x,.cons _ t,e=>by
  obtain⟨u,h1,a⟩:=Vals.get (i:=i) (x:=x) t (by simpa using e);show⟨u,by simpa using h1,a⟩
theorem Vals.set{x:V}(r:RelV x u):∀{xs:List V} {us:List Value} (i:Nat),Vals xs us->Vals (xs.set i x) (us.set i u)
 | _,_,_,.nil=>.nil
 | _,_,0,.cons _ t=>.cons r t
 | _,_,i+1,.cons q t=>.cons q (Vals.set r i t)
theorem Vals.append:∀{xs ys:List V} {us a:List Value},Vals xs us->Vals ys a->Vals (xs++ys) (us++a)
 | _,_,_,_,.nil,s=>s
 | _,_,_,_,.cons r t,s=>.cons r (Vals.append t s)
theorem Vals.take:∀{xs:List V} {us:List Value} (n:Nat),Vals xs us->Vals (xs.take n) (us.take n)
 | _,_,0,_=>.nil
 | _,_,_+1,.nil=>.nil
 | _,_,n+1,.cons r t=>.cons r (Vals.take n t)
theorem Vals.drop:∀{xs:List V} {us:List Value} (n:Nat),Vals xs us->Vals (xs.drop n) (us.drop n)
 | _,_,0,r=>r
 | _,_,_+1,.nil=>.nil
 | _,_,n+1,.cons _ t=>Vals.drop n t
def RelO:Option V->Option Value->Prop
 | some v,some u=>RelV v u
 | none,none=>True
 | _,_=>False
def KV{a:Type}:List (a×V)->List (a×Value)->Prop:=Paired fun(p:a×V) (q:a×Value)=>p.1=q.1/\RelV p.2 q.2
noncomputable def kV:Key->V
 | .inl i=>.int i
 | .inr x=>.str x
inductive HO where
 /-- a list -/
 | lst (xs:List V)
 /-- a tuple (never changes) -/
 | tup (xs:List V)
 /-- a dict whose keys are ints and texts;one whose keys are tuples of ints and texts (the empty one is both) -/
 | dK (kvs:List (Key×V)) | dT (kvs:List (List Key×V))
 /-- a set of ints: its members,its size -/
 | set (S:Int->Bool) (n:Nat)
 /-- an instance of the class at C,its dict at dx,its attributes -/
 | ins (C dx:Addr) (fs:List (Str×V))
 /-- the dict of the instance at x -/
 | own (x:Addr)
 /-- the dict of an exception -/
 | xd (fs:List (Str×V))
 /-- a bound method,f of x -/
 | met (f x:Addr)
 /-- a range object lo,lo+1,.. below hi -/
 | rng (lo hi:Int)
 /-- a thing that is known to the object (the script;a dict while a loop walks it): read,never written while it is so -/
 | frz (o:Obj) (u:HO)
 /-- a code object's table -/
 | tbl (ps:Array Value)
 /-- any other thing,by what is true of its one object (a def of one's own: SetO a S n:=HO.ext fun h=>..) -/
 | ext (φ:Heap->Prop)
noncomputable abbrev Hp:=Addr->Option HO
noncomputable def upd(H:Hp)(a:Addr)(o:HO):Hp:=fun b=>if b=a then some o else H b
theorem qb:upd H a o a=some o:=by unfold upd;rw[yF rfl]
theorem qe(h:b≠a):upd H a o b=H b:=by unfold upd;rw[yA h]
theorem jv{u:HO}(h:H a=some o)(h':H b=some u)(d:o≠u):a≠b:=by
 intro e;subst e;rw[h] at h';show d (yn h')
theorem qz(h:H a=some o)(h':H b=none):a≠b:=by
 intro e;subst e;rw[h] at h';cases h'
section
variable(P:Program)(w:World)
def ObjOk(H:Hp)(h:Heap)(a:Addr):HO->Prop
 | .lst xs=>xs.length<=sizeLine/\∃(b:List Value) (n:Nat),Vals xs b/\h.get? a=some { cls:=.type "list",data:=.seq b.toArray n }
 | .tup xs=>xs.length<=sizeLine/\∃ b:List Value,Vals xs b/\IsTup h a b.toArray
 | .dK kvs=>kvs.length<=sizeLine/\(a==sysModules)=false/\∃ vs,KV kvs vs/\h.DictOf (jm P w) a vs
 | .dT kvs=>kvs.length<=sizeLine/\(a==sysModules)=false/\∃ xs:List (List Key×Addr×Value),
   Paired (fun(p:List Key×V) (q:List Key×Addr×Value)=>p.1=q.1/\H q.2.1=some (.tup (p.1.map kV))/\RelV p.2 q.2.2) kvs xs /\
   ∃ o es ep,h.get? a=some o/\o.ExactDict/\o.data=.dict es ep/\es.toList=xs.map (entryOfKey (tupleKind (jm P w)))/\(xs.map (·.1)).Nodup
 | .set S n=>h.SetOf (intKind P w) a S n
 | .ins C dx fs=>H dx=some (.own a)/\fs.length<=1000/\dx≠a/\h.get? a=some (PySem.W.instObj C dx) /\
   ∃ mA,h.Ns1 dx mA/\(∀ f,RelO (fs.lookup f) (mA f))/\PySem.Within mA (fs.map (·.1))
 | .own _=>∃ o,h.get? a=some o
 | .xd fs=>∃ mA,h.Ns1 a mA/\∀ f,RelO (fs.lookup f) (mA f)
 | .rng lo hi=>∃ t u v,h.get? a=some { cls:=.type "range",data:=.fields #[.int lo t,.int hi u,.int 1 v] }
 | .frz o u=>h.get? a=some o/\ObjOk H h a u
 | .tbl ps=>h.get? a=some { cls:=.none,data:=.fields ps }
 | .met f x=>h.get? a=some (PySem.W.methodObj (.ref f) (.ref x))
 | .ext φ=>φ h/\(∃ o,h.get? a=some o)/\∀ h1 c:Heap,φ h1->(∀ o,h1.get? a=some o->c.get? a=some o)->φ c
def HOk(H:Hp)(h:Heap):Prop:=∀ a o,H a=some o->ObjOk P w H h a o
end
section
variable{P:Program}{w:World}{H H':Hp}{h h':Heap}{a:Addr}{o:HO}
theorem ObjOk.lt(x:ObjOk P w H h a o):a<h.objs.size:=by
 cases o with
 | lst xs=>obtain⟨_,_,_,_,e⟩:=x;show yL e
 | tup xs=>obtain⟨_,_,_,p⟩:=x;show p.lt
 | dK kvs=>obtain⟨_,_,_,_,o,_,_,e,_⟩:=x;show yL e
 | dT kvs=>obtain⟨_,_,_,_,o,_,_,e,_⟩:=x;show yL e
 | set S n=>obtain⟨o,_,_,_,e,_⟩:=x;show yL e
 | ins C dx fs=>obtain⟨_,_,_,e,_⟩:=x;show yL e
 | own y=>obtain⟨_,e⟩:=x;show yL e
 | xd fs=>obtain⟨_,⟨_,_,_,e,_⟩,_⟩:=x;show yL e
 | rng lo hi=>obtain⟨_,_,_,e⟩:=x;show yL e
 | frz ob u=>obtain⟨e,_⟩:=x;show yL e
 | tbl ps=>show yL (show h.get? a=some _ from x)
 | met f y=>show yL (show h.get? a=some _ from x)
 | ext φ=>obtain⟨_,⟨_,e⟩,_⟩:=x;show yL e
theorem Paired.mapP{d:Type}{F G:α->d->Prop}:∀{l₁:List α} {c:List d},Paired F l₁ c->(∀ a b,F a b->G a b)->Paired G l₁ c
 | _,_,.nil,_=>.nil
 | _,_,.cons r t,f=>.cons (f _ _ r) (Paired.mapP t f)
theorem ObjOk.stay(x:ObjOk P w H h a o)(k:∀ b u,(b=a\/H b=some (.own a))->h.get? b=some u->h'.get? b=some u)
  (l:∀ b,H b=some (.own a)->H' b=some (.own a)) (m:∀ b xs,H b=some (.tup xs)->H' b=some (.tup xs)):ObjOk P w H' h' a o:=by
 induction o with
 | lst xs=>obtain⟨z,i,n,r,e⟩:=x;show⟨z,i,n,r,k _ _ (.inl rfl) e⟩
 | tup xs=>obtain⟨z,i,r,g,e,c⟩:=x;show⟨z,i,r,g,k _ _ (.inl rfl) e,c⟩
 | dK kvs=>obtain⟨z,y,vs,r,g,es,ep,e,c⟩:=x;show⟨z,y,vs,r,g,es,ep,k _ _ (.inl rfl) e,c⟩
 | dT kvs =>
  obtain⟨z,y,xs,r,g,es,ep,e,c⟩:=x;show⟨z,y,xs,Paired.mapP r fun p q z=>⟨z.1,m _ _ z.2.1,z.2.2⟩,g,es,ep,k _ _ (.inl rfl) e,c⟩
 | set S n=>obtain⟨g,es,ep,t,e,c⟩:=x;show⟨g,es,ep,t,k _ _ (.inl rfl) e,c⟩
 | ins C dx fs =>
  obtain⟨d,z,ne,e,mA,⟨od,es,ep,j,c⟩,r⟩:=x;show⟨l _ d,z,ne,k _ _ (.inl rfl) e,mA,⟨od,es,ep,k _ _ (.inr d) j,c⟩,r⟩
 | own y=>obtain⟨g,e⟩:=x;show⟨g,k _ _ (.inl rfl) e⟩
 | xd fs=>obtain⟨mA,⟨od,es,ep,e,c⟩,r⟩:=x;show⟨mA,⟨od,es,ep,k _ _ (.inl rfl) e,c⟩,r⟩
 | rng lo hi=>obtain⟨t,u,v,e⟩:=x;show⟨t,u,v,k _ _ (.inl rfl) e⟩
 | frz g u ih=>obtain⟨e,q⟩:=x;show⟨k _ _ (.inl rfl) e,ih q⟩
 | tbl ps =>
  have e:h.get? a=some { cls:=.none,data:=.fields ps }:=x;show h'.get? a=some { cls:=.none,data:=.fields ps };show k a _ (.inl rfl) e
 | met f y =>
  have e:h.get? a=some (PySem.W.methodObj (.ref f) (.ref y)):=x;show h'.get? a=some (PySem.W.methodObj (.ref f) (.ref y));show k a _ (.inl rfl) e
 | ext φ=>obtain⟨p,⟨o,e⟩,st⟩:=x;show⟨st _ _ p fun o q=>k _ _ (.inl rfl) q,⟨o,k _ _ (.inl rfl) e⟩,st⟩
theorem HOk.lt(x:HOk P w H h)(e:H a=some o):a<h.objs.size:=(x a o e).lt
theorem HOk.fresh(x:HOk P w H h)(e:h.objs.size<=a):H a=none:=by
 cases q:H a with
 | none=>rfl
 | some u=>show absurd (yj (x.lt q) e) (Yt _)
theorem HOk.kept(x:HOk P w H h)(k:∀ b u,h.get? b=some u->h'.get? b=some u):HOk P w H h':=fun a o e =>
 (x a o e).stay (fun b u _ q=>k b u q) (fun _ q=>q) fun _ _ q=>q
theorem HOk.laid(x:HOk P w H h)(k:∀ b u,h.get? b=some u->h'.get? b=some u)(g:h.objs.size<=a)(new:ObjOk P w (upd H a o) h' a o):HOk P w (upd H a o) h':=fun b u e=>by
 have f:=x.fresh g;by_cases d:b=a
 .subst d;rw[qb] at e;cases e;show new
 .rw [qe d] at e;show(x b u e).stay (fun c v _ q=>k c v q) (fun c q=>by rw[qe (qz q f)];show q) fun c xs q=>by rw[qe (qz q f)];show q
end
def Rd(H:Hp)(a:Addr)(u:HO):Prop:=H a=some u\/∃ o,H a=some (.frz o u)
theorem Rd.ok{u:HO}(r:Rd H a u)(x:HOk P w H h):ObjOk P w H h a u:=by
 rcases r with r | ⟨o,r⟩
 .show x a u r
 .obtain⟨_,q⟩:=x a _ r;show q
def Mut:Option HO->Prop
 | some (.lst _)=>True
 | some (.dK _)=>True
 | some (.dT _)=>True
 | some (.set _ _)=>True
 | some (.ins _ _ _)=>True
 | some (.ext _)=>True
 | _=>False
section
variable{P:Program}{w:World}{H:Hp}{h h':Heap}{x e:Addr}{o':HO}
theorem HOk.write(ok:HOk P w H h)(i:Mut (H x))(l:e=x\/H e=some (.own x))(k:∀ b u,b≠e->h.get? b=some u->h'.get? b=some u)(j:∃ u,h'.get? e=some u)
  (new:ObjOk P w (upd H x o') h' x o'):HOk P w (upd H x o') h':=fun b u q=>by
 have d:∀ c y,H c=some (.own y)->c≠x:=fun c y r z=>by subst z;rw[r] at i;show i
 have f:∀ c xs,H c=some (.tup xs)->c≠x:=fun c xs r z=>by subst z;rw[r] at i;show i
 by_cases g:b=x
 .subst g;rw[qb] at q;cases q;show new
 .rw [qe g] at q;by_cases a:b=e
  .have m:H b=some (.own x):=by
    rcases l with z | z
    .show absurd (a.trans z) g
    .rw [a];show z
   rw[q] at m;cases m;obtain⟨v,hv⟩:=j;show⟨v,by rw[a];show hv⟩
  .show(ok b u q).stay (fun c v hc r=>k c v ?_ r) (fun c r=>by rw[qe (d c b r)];show r) fun c xs r=>by rw[qe (f c xs r)];show r
   rcases hc with rfl | hc
   .show a
   .rintro rfl;rcases l with z | z
    .show d c b hc z
    .rw [hc] at z;cases z;show g rfl
end
structure Un(fs ex:LQ)(H H':Hp)(h h':Heap):Prop where
 keep:∀ b o,h.get? b=some o->H b=none->b∉fs->b∉ex->h'.get? b=some o
 slot:∀ b o,h.get? b=some o->H b=none->b∈fs->b∉ex->∃ sl,h'.get? b=some { o with slots:=sl }
 free:∀ b o,h.get? b=some o->H b=none->b∉ex->H' b=none
 there:∀ b o,h.get? b=some o->b∉ex->∃ o',h'.get? b=some o'
 tups:∀ b xs,H b=some (.tup xs)->H' b=some (.tup xs)
 frzs:∀ b o u,H b=some (.frz o u)->H' b=some (.frz o u)
 tbls:∀ b ps,H b=some (.tbl ps)->∃ more,H' b=some (.tbl (ps++more))
section
variable{fs fs' ex ex':LQ}{H H1 H2:Hp}{h h1 h2 h':Heap}{a x e:Addr}{o:HO}
theorem Un.any(u:Un fs ex H H1 h h1){a:Obj}(q:h.get? b=some a)(n:H b=none)(d:b∉ex):∃ e,h1.get? b=some { a with slots:=e }:=by
 by_cases c:b∈fs
 .show u.slot b a q n c d
 .show⟨a.slots,u.keep b a q n c d⟩
theorem Un.kept(k:∀ b u,h.get? b=some u->h'.get? b=some u):Un fs ex H H h h':=
 ⟨fun b a q _ _ _=>k b a q,fun b a q _ _ _=>⟨a.slots,k b a q⟩,fun _ _ _ n _=>n,fun b a q _=>⟨a,k b a q⟩,fun _ _ q=>q,fun _ _ _ q=>q,fun _ ps q=>⟨#[],by rw[q];simp⟩⟩
theorem Un.refl:Un fs ex H H h h:=Un.kept fun _ _ q=>q
theorem Un.laid(k:∀ b u,h.get? b=some u->h'.get? b=some u)(d:h.objs.size<=a)(c:H a=none):Un fs ex H (upd H a o) h h' where
 keep:=fun b u q _ _ _=>k b u q
 slot:=fun b u q _ _ _=>⟨u.slots,k b u q⟩
 free:=fun b u q n _=>by rw[qe (yE (yj (yL q) d))];show n
 there:=fun b u q _=>⟨u,k b u q⟩
 tups:=fun b xs q=>by rw[qe (qz q c)];show q
 frzs:=fun b u xs q=>by rw[qe (qz q c)];show q
 tbls:=fun b ps q=>⟨#[],by rw[qe (qz q c),q];simp⟩
theorem Un.write(c:Mut (H x))(j:e=x\/H e=some (.own x))(k:∀ b u,b≠e->h.get? b=some u->h'.get? b=some u)(d:∃ u,h'.get? e=some u):Un fs ex H (upd H x o) h h':=by
 have i:∀ b,H b=none->b≠x:=fun b n z=>by subst z;rw[n] at c;show c
 have g:∀ b,H b=none->b≠e:=fun b n z=>by
  subst z;rcases j with r | r
  .show i b n r
  .rw [n] at r;cases r
 have f:∀ b u,H b=some u->¬ Mut (some u)->b≠x:=fun b u q l z=>by subst z;rw[q] at c;show l c
 show⟨fun b u q n _ _=>k b u (g b n) q,fun b u q n _ _=>⟨u.slots,k b u (g b n) q⟩,fun b u q n _=>by rw[qe (i b n)];show n,fun b u q _=>?_,
  fun b xs q=>by rw[qe (f b _ q fun z=>z)];show q,fun b u xs q=>by rw[qe (f b _ q fun z=>z)];show q,fun b ps q=>⟨#[],by rw[qe (f b _ q fun z=>z),q];simp⟩⟩
 by_cases a:b=e
 .subst a;show d
 .show⟨u,k b u a q⟩
end
noncomputable def trk(h:Heap)(H:Hp):LQ:=(List.range h.objs.size).filter fun a=>(H a).isSome
noncomputable def qcH(h:Heap)(H:Hp):Heap:=PySem.W.hideAll h (trk h H)
theorem qbJ(h:Heap)(H:Hp):(qcH h H).objs.size=h.objs.size:=PySem.W.hideAll_size _ _
theorem qcI{o:Obj}(e:h.get? b=some o)(n:H b=none):(qcH h H).get? b=some o:=
 PySem.W.hideAll_get _ e fun a=>by
  have q:(H b).isSome=true:=(yq.mp a).2;rw[n] at q;simp at q
theorem qdj{o:Obj}(e:(qcH h H).get? b=some o):h.get? b=some o/\H b=none:=by
 have a:h.get? b=some o:=PySem.W.of_hideAll (trk h H) e;show⟨a,?_⟩
 cases q:H b with
 | none=>rfl
 | some x =>
  have c:b∈trk h H:=yq.mpr ⟨xx.mpr (yL a),by simp[q]⟩;have z:(qcH h H).get? b=none:=PySem.W.hideAll_none (trk h H) c;rw[z] at e;cases e
noncomputable def allNews(g h:Heap)(L:Addr):List (Addr×Obj):=(List.range h.objs.size).filterMap fun a=>if a=L\/(g.get? a).isSome=true then none else(h.get? a).map fun o=>(a,o)
noncomputable def qcj(g h:Heap)(L d:Addr):List (Addr×Obj):=(allNews g h L).filter fun p=>decide (p.1≠d)
structure Mod(K:yg)(mg:Str->Option Value)(base:Heap):Prop where
 kin:K.In base
 glob:base.Ns mainGlobals mg
 blt:∃ mb,base.Ns builtinsNs mb/\∀ x:Str,x≠"__name__"->mb x=bootBuiltins x
 nolimit:base.NoLimit
structure Cx where
 prog:Program
 w:World
 K:yg
 mg:Str->Option Value
 base:Heap
 A:Around
 N:LS
 s₀:Shared
 H₀:Hp
 env:Env
 outer:List Env
 stack:List Env
 ex:LQ
 fn:Str->Bool
 calm:Bool
 pn:List (Addr×Obj)
 xe:Value->Shared->Prop
noncomputable def frs(l:List Env):LQ:=l.filterMap (·.frame)
noncomputable abbrev Cx.fs(X:Cx):LQ:=frs X.outer
def Vis(sc:Scope)(x:Str):Prop:=sc.names.lookup x=some .local\/sc.names.lookup x=some .cell\/sc.names.lookup x=some .free
def Loc(sc:Scope)(x:Str):Prop:=sc.names.lookup x=some .local\/sc.names.lookup x=some .cell
def Look(env:Env)(h:Heap)(m:Str->Option Value)(x:Str)(u:Value):Prop:=
 (env.kindOf x=some .local/\m x=some u)\/((env.kindOf x=some .cell\/env.kindOf x=some .free)/\∃ c,env.cells.lookup x=some c/\h.IsCell c (some u))
structure Cx.Ok(X:Cx):Prop where
 mod:Mod X.K X.mg X.base
 kind:X.env.scope.kind=.function
 glob:X.env.globals=mainGlobals
 blt:X.env.builtins=builtinsNs
 above:X.s₀.heap.objs.size<=X.env.locals
 inj:∀ x y c,X.env.cells.lookup x=some c->X.env.cells.lookup y=some c->x=y
 has:∀ x,(X.env.kindOf x=some .cell\/X.env.kindOf x=some .free)->∃ c,X.env.cells.lookup x=some c
 cab:∀ x c,X.fn x=true->X.env.cells.lookup x=some c->X.s₀.heap.objs.size<=c
 hd:X.calm=true->X.A.handled=none
 frames:X.A.frames=some X.stack
 stk:X.stack=X.outer\/(X.stack=X.env::X.outer/\X.env.frame=some X.env.locals)
 exf:∀ b∈X.ex,b≠X.env.locals/\∀ x c,X.env.cells.lookup x=some c->c≠b
 bs:∀ b o,X.base.get? b=some o->X.s₀.heap.get? b=some o/\X.H₀ b=none
 bsz:X.base.objs.size<=X.s₀.heap.objs.size
 noex:∀ b o,X.base.get? b=some o->b∉X.ex
 exfs:∀ b∈X.ex,b∉X.fs
 funs:X.s₀.heap.FunFrames X.base X.outer
 frf:∀ b∈X.fs,X.H₀ b=none
structure Inv(X:Cx)(pins:List (Addr×Obj))(σ:List (Option V))(H:Hp)(s:Shared):Prop where
 ok:X.Ok
 os:s.os=X.s₀.os
 bare:AllBare s.gens
 base:Un X.fs X.ex X.H₀ H X.s₀.heap s.heap
 loc:∃ m,s.heap.Ns X.env.locals m/\∀(i:Nat) (x:Str) (v:V),X.N[i]?=some x->σ[i]?=some (some v)->Vis X.env.scope x->∃ u,RelV v u/\Look X.env s.heap m x u
 cell:∀ x c,X.env.cells.lookup x=some c->∃ v,s.heap.IsCell c v
 free:H X.env.locals=none
 freeC:∀ x c,X.env.cells.lookup x=some c->H c=none
 pin:∀ p∈X.pn++pins,s.heap.get? p.1=some p.2/\H p.1=none/\p.1≠X.env.locals/\p.1∉X.fs/\∀ v,p.2.data≠.cell v
 hok:HOk X.prog X.w H s.heap
 len:σ.length=X.N.length
section
variable{X:Cx}{pins:List (Addr×Obj)}{σ:List (Option V)}{H H':Hp}{s:Shared}{h':Heap}
theorem Cx.Ok.nofr(ok:X.Ok){o:Obj}(e:X.base.get? b=some o):b∉X.fs:=fun a=>by
 have:=(ok.funs.mem a).1;rw[e] at this;cases this
theorem Inv.bs(I:Inv X pins σ H s):∀ b o,X.base.get? b=some o->s.heap.get? b=some o/\H b=none:=fun b o e =>
 ⟨I.base.keep b o (I.ok.bs b o e).1 (I.ok.bs b o e).2 (I.ok.nofr e) (I.ok.noex b o e),I.base.free b o (I.ok.bs b o e).1 (I.ok.bs b o e).2 (I.ok.noex b o e)⟩
theorem Inv.bk(I:Inv X pins σ H s):∀ b o,X.base.get? b=some o->s.heap.get? b=some o:=fun b o e=>(I.bs b o e).1
theorem Inv.mod(I:Inv X pins σ H s):Mod X.K X.mg X.base:=I.ok.mod
theorem Inv.kIn(I:Inv X pins σ H s):X.K.In s.heap:=I.ok.mod.kin.keeps I.bk
theorem Inv.nolimit(I:Inv X pins σ H s):s.heap.NoLimit:=I.ok.mod.nolimit.keeps I.bk
theorem Inv.lt(I:Inv X pins σ H s):X.env.locals<s.heap.objs.size:=let ⟨_,hn,_⟩:=I.loc;hn.lt
theorem Inv.sz(I:Inv X pins σ H s):X.s₀.heap.objs.size<=s.heap.objs.size:=yi I.ok.above (yY I.lt)
theorem Inv.nofs(I:Inv X pins σ H s)(h:s.heap.objs.size<=a):a∉X.fs:=fun b=>by
 obtain⟨_,o,c,_⟩:=I.ok.funs.mem b;show absurd (yj (yL c) (yi I.sz h)) (Yt _)
theorem Inv.cne(I:Inv X pins σ H s):∀ x c,X.env.cells.lookup x=some c->c≠X.env.locals:=fun x c e z=>by
 obtain⟨v,o,f,d⟩:=I.cell x c e;obtain⟨m,⟨g,es,ep,b,a,_⟩,_⟩:=I.loc;rw[z,b] at f;cases f;rw[a] at d;cases d
theorem Inv.funs(I:Inv X pins σ H s):s.heap.FunFrames X.base X.outer:=by
 have all:∀(l:List Env),(∀ b∈frs l,b∈X.fs)->X.s₀.heap.FunFrames X.base l->s.heap.FunFrames X.base l:=by
  intro l
  induction l with
  | nil=>intro _ _;trivial
  | cons env r ih =>
   intro f hl;obtain⟨h,⟨L,o,d,i,j,g⟩,m⟩:=hl;have a:L∈X.fs:=f L (by unfold frs;rw[Xn,d];show yG);obtain⟨n,e⟩:=I.base.slot L o j (I.ok.frf L a) a fun z=>I.ok.exfs L z a;show⟨h,⟨L,_,d,i,e,g⟩,ih (fun b c=>f b (by unfold frs;rw[Xn,d];show yI _ c)) m⟩
 show all X.outer (fun _ c=>c) I.ok.funs
theorem Inv.stack(I:Inv X pins σ H s):s.heap.FunFrames X.base X.stack:=by
 rcases I.ok.stk with e | ⟨e,hf⟩
 .rw [e];show I.funs
 .rw [e];obtain⟨m,a,_⟩:=I.loc;show .cons (by rw[I.ok.kind];decide) hf a ?_ I.funs;show Heap.get?_none_of_le (yi I.ok.bsz I.ok.above)
theorem Inv.stkSub(I:Inv X pins σ H s):∀ b∈frs X.stack,b∈X.env.locals::X.fs:=fun b a=>by
 rcases I.ok.stk with e | ⟨e,hf⟩
 .rw [e] at a;show yI _ a
 .rw [e] at a;unfold frs at a;rw[Xn,hf] at a;show a
theorem Inv.stkFree(I:Inv X pins σ H s):∀ b∈frs X.stack,H b=none:=fun b hb=>by
 rcases yB.mp (I.stkSub b hb) with e | hb
 .rw [e];show I.free
 .obtain⟨_,o,a,_⟩:=I.ok.funs.mem hb;show I.base.free b o a (I.ok.frf b hb) fun z=>I.ok.exfs b z hb
theorem Inv.step(I:Inv X pins σ H s)
  (f:∀ b∈ch,(b∈X.ex\/X.s₀.heap.objs.size<=b)/\b≠X.env.locals/\(∀ x c,X.env.cells.lookup x=some c->c≠b)/\∀ p∈X.pn++pins,p.1≠b)
  (keep:∀ b o,b≠X.env.locals->b∉X.fs->b∉ch->s.heap.get? b=some o->H b=none->h'.get? b=some o)
  (t:∀ b o,b≠X.env.locals->b∈X.fs->b∉ch->s.heap.get? b=some o->H b=none->∃ M,h'.get? b=some { o with slots:=M }) (free:∀ b o,b∉ch->s.heap.get? b=some o->H b=none->H' b=none)
  (A:∀ b o,b∉ch->s.heap.get? b=some o->∃ F,h'.get? b=some F)
  (J:∀ b xs,H b=some (.tup xs)->H' b=some (.tup xs)) (D:∀ b o u,H b=some (.frz o u)->H' b=some (.frz o u)) (G:∀ b ps,H b=some (.tbl ps)->∃ more,H' b=some (.tbl (ps++more)))
  (ns:∀ m,s.heap.Ns X.env.locals m->h'.Ns X.env.locals m) (L:HOk X.prog X.w H' h') (S:AllBare g') :
  Inv X pins σ H' { s with heap:=h',gens:=g',drawn:=d',toks:=t' }:=by
 have E:∀ b o,X.s₀.heap.get? b=some o->b≠X.env.locals:=fun b o e=>yE (yj (yL e) I.ok.above)
 have j:∀ b o,X.s₀.heap.get? b=some o->b∉X.ex->b∉ch:=fun b o e a y=>by
  rcases(f b y).1 with z | z
  .show a z
  .show absurd (yj (yL e) z) (Yt _)
 have cellK:∀ x c,X.env.cells.lookup x=some c->∀ v,s.heap.IsCell c v->h'.IsCell c v:=fun x c e v ⟨o,B,K⟩=>by
  have g:c∉ch:=fun z=>(f c z).2.2.1 x c e rfl;by_cases hc:c∈X.fs
  .obtain⟨M,q⟩:=t c o (I.cne x c e) hc g B (I.freeC x c e);show⟨_,q,K⟩
  .show⟨o,keep c o (I.cne x c e) hc g B (I.freeC x c e),K⟩
 show⟨I.ok,I.os,S,⟨fun b o e n y a=>?_,fun b o e n y a=>?_,fun b o e n a=>?_,fun b o e a=>?_,fun b xs e=>J b xs (I.base.tups b xs e),fun b o xs e=>D b o xs (I.base.frzs b o xs e),fun b ps e=>?_⟩,?_,fun x c e=>?_,?_,fun x c e=>?_,fun p O=>?_,L,I.len⟩
 .show keep b o (E b o e) y (j b o e a) (I.base.keep b o e n y a) (I.base.free b o e n a)
 .obtain⟨M,h⟩:=I.base.slot b o e n y a;obtain⟨N,C⟩:=t b _ (E b o e) y (j b o e a) h (I.base.free b o e n a);show⟨N,C⟩
 .obtain⟨F,h⟩:=I.base.there b o e a;show free b F (j b o e a) h (I.base.free b o e n a)
 .obtain⟨F,h⟩:=I.base.there b o e a;show A b F (j b o e a) h
 .obtain⟨U,h⟩:=I.base.tbls b ps e;obtain⟨W,C⟩:=G b _ h;show⟨U++W,by rw[C,Array.append_assoc]⟩
 .obtain⟨m,T,hl⟩:=I.loc;show⟨m,ns m T,fun i x v h C R=>?_⟩;obtain⟨u,r,l⟩:=hl i x v h C R;show⟨u,r,?_⟩;rcases l with l | ⟨k,c,e,z⟩
  .show .inl l
  .show .inr ⟨k,c,e,cellK x c e _ z⟩
 .obtain⟨v,z⟩:=I.cell x c e;show⟨v,cellK x c e v z⟩
 .obtain⟨m,⟨o,_,_,B,_⟩,_⟩:=I.loc;show free _ o (fun z=>(f _ z).2.1 rfl) B I.free
 .obtain⟨v,o,B,K⟩:=I.cell x c e;show free c o (fun z=>(f c z).2.2.1 x c e rfl) B (I.freeC x c e)
 .obtain⟨e,n,ne,P,d⟩:=I.pin p O;have g:p.1∉ch:=fun z=>(f p.1 z).2.2.2 p O rfl;show⟨keep p.1 p.2 ne P g e n,free p.1 p.2 g e n,ne,P,d⟩
theorem Inv.un(I:Inv X pins σ H s)(u:Un X.fs [] H H' s.heap h')(g:HOk X.prog X.w H' h'):Inv X pins σ H' { s with heap:=h',toks:=t' }:=by
 obtain⟨m,⟨o,es,ep,h,r⟩,_⟩:=id I.loc;obtain⟨q,i⟩:=u.any h I.free (by simp)
 show I.step (g':=s.gens) (d':=s.drawn) (ch:=[]) (fun _ z=>nomatch z) (fun b o _ f _ e n=>u.keep b o e n f (by simp)) (fun b o _ f _ e n=>u.slot b o e n f (by simp)) (fun b o _ e n=>u.free b o e n (by simp)) (fun b o _ e=>u.there b o e (by simp)) u.tups u.frzs u.tbls (fun l j=>by
  obtain⟨p,d,c,a,r'⟩:=j;rw[h] at a;cases a;show⟨_,d,c,i,r'⟩) g I.bare
theorem Inv.call(I:Inv X pins σ H s)(u:Un (frs X.stack) ch H H' s.heap h')(i:HOk X.prog X.w H' h')(q:AllBare g')
  (a:∀ b∈ch,(b∈X.ex\/X.s₀.heap.objs.size<=b)/\b≠X.env.locals/\(∀ x c,X.env.cells.lookup x=some c->c≠b)/\∀ p∈X.pn++pins,p.1≠b) :
  Inv X pins σ H' { s with heap:=h',gens:=g',drawn:=d',toks:=t' }:=by
 obtain⟨m,⟨o,es,ep,j,r⟩,_⟩:=id I.loc;obtain⟨A,h⟩:=u.any j I.free fun z=>(a _ z).2.1 rfl
 show I.step (ch:=ch) a (fun b o h l hc e n=>u.keep b o e n (fun z=>(yB.mp (I.stkSub b z)).elim h l) hc) (fun b o _ _ hc e n=>u.any e n hc) (fun b o hc e n=>u.free b o e n hc) (fun b o hc e=>u.there b o e hc) u.tups u.frzs u.tbls (fun v t=>by
  obtain⟨y,g,f,d,r'⟩:=t;rw[j] at d;cases d;show⟨_,g,f,h,r'⟩) i q
theorem Inv.turned(I:Inv X pins σ H s)(k:∀ b o,b≠it->s.heap.get? b=some o->h'.get? b=some o)(j:H it=none)(d:it≠X.env.locals)
  (h1:it∈X.ex\/X.s₀.heap.objs.size<=it) (f:∀ x c,X.env.cells.lookup x=some c->c≠it) (g:∀ p∈X.pn++pins,p.1≠it):Inv X pins σ H { s with heap:=h',toks:=t' }:=by
 have a:∀ b u,H b=some u->b≠it:=fun b u e z=>by rw[z,j] at e;cases e
 show I.step (g':=s.gens) (d':=s.drawn) (ch:=[it]) (fun b h=>?_) (fun b o _ _ hc e _=>k b o (fun z=>hc (by simp[z])) e) (fun b o _ _ hc e _=>⟨o.slots,k b o (fun z=>hc (by simp[z])) e⟩) (fun _ _ _ _ n=>n)
  (fun b o hc e=>⟨o,k b o (fun z=>hc (by simp[z])) e⟩) (fun _ _ e=>e) (fun _ _ _ e=>e) (fun b ps e=>⟨#[],by rw[e];simp⟩) (fun m i=>?_) (fun b u e=>?_) I.bare
 .have e:b=it:=by simpa using h
  subst e;show⟨h1,d,f,g⟩
 .obtain⟨o,es,ep,l,r⟩:=i;show⟨o,es,ep,k _ o (yZ d) l,r⟩
 .show(I.hok b u e).stay (fun c v hc q=>k c v ?_ q) (fun _ q=>q) fun _ _ q=>q;rcases hc with z | z
  .rw [z];show a b u e
  .show a c _ z
theorem Inv.tok(I:Inv X pins σ H s)(t:Nat):Inv X pins σ H { s with toks:=t }:=I.un (h':=s.heap) (t':=t) Un.refl I.hok
theorem Inv.kept(I:Inv X pins σ H s)(k:∀ b u,s.heap.get? b=some u->h'.get? b=some u):Inv X pins σ H { s with heap:=h',toks:=t' }:=I.un (Un.kept k) (I.hok.kept k)
theorem Inv.laid(I:Inv X pins σ H s)(k:∀ b u,s.heap.get? b=some u->h'.get? b=some u)(c:s.heap.objs.size<=a)(new:ObjOk X.prog X.w (upd H a o) h' a o) :
  Inv X pins σ (upd H a o) { s with heap:=h',toks:=t' }:=I.un (Un.laid k c (I.hok.fresh c)) (I.hok.laid k c new)
theorem Inv.write{x e:Addr}(I:Inv X pins σ H s)(d:Mut (H x))(c:e=x\/H e=some (.own x))(k:∀ b u,b≠e->s.heap.get? b=some u->h'.get? b=some u)(a:∃ u,h'.get? e=some u)
  (new:ObjOk X.prog X.w (upd H x o) h' x o):Inv X pins σ (upd H x o) { s with heap:=h',toks:=t' }:=I.un (Un.write d c k a) (I.hok.write d c k a new)
theorem Inv.weak{a:List (Option V)}(I:Inv X pins σ H s)(hl:a.length=σ.length)(w:∀(i:Nat) v,a[i]?=some (some v)->σ[i]?=some (some v)):Inv X pins a H s:=
 ⟨I.ok,I.os,I.bare,I.base,let ⟨m,hn,hl'⟩:=I.loc;⟨m,hn,fun i x v b c d=>hl' i x v b (w i v c) d⟩,I.cell,I.free,I.freeC,I.pin,I.hok,hl.trans I.len⟩
theorem Inv.pins_of{pins':List (Addr×Obj)}(I:Inv X pins σ H s)(h:∀ p∈pins',s.heap.get? p.1=some p.2/\H p.1=none/\p.1≠X.env.locals/\p.1∉X.fs/\∀ v,p.2.data≠.cell v):Inv X pins' σ H s:=
 ⟨I.ok,I.os,I.bare,I.base,I.loc,I.cell,I.free,I.freeC,fun p a=>(yC.mp a).elim (fun z=>I.pin p (yJ _ z)) (h p),I.hok,I.len⟩
theorem qcJ(e:N.Nodup)(a:N[i]?=some x)(b:N[j]?=some x):i=j:=by
 obtain⟨h1,c⟩:=yc.mp a;obtain⟨f,d⟩:=yc.mp b;show(List.getElem_inj e).mp (c.trans d.symm)
theorem qbK{Q:Unit->Shared->Prop}(I:Inv X pins σ H s)(hN:X.N.Nodup)(P:X.N[i]?=some x)(t:Loc X.env.scope x)(r:RelV v u)
  (h:∀ s',Inv X pins (σ.set i (some v)) H s'->(∃ a,Heap.SameBut a s.heap s'.heap/\(a=X.env.locals\/X.env.cells.lookup x=some a))->Q () s') (hf:X.fn x=true\/X.env.scope.names.lookup x=some .local:=by first | show .inl rfl | show .inr rfl | assumption):wpAny M A (storeName X.env x u) Q E s:=by
 obtain⟨m,Y,hl⟩:=id I.loc;have O:(X.env.scope.kind==.class||(X.env.scope.kind==.module&&X.env.locals != X.env.globals))=false:=by rw[I.ok.kind];rfl
 have D:i<σ.length:=by rw[I.len];show(yc.mp P).1
 have cne:=I.cne
 have l:∀{a:Addr} {h':Heap},(∃ o,s.heap.get? a=some o/\H a=none)->Heap.SameBut a s.heap h'->HOk X.prog X.w H h':=fun{a h'} ha f b ob e=>by
  obtain⟨_,_,B⟩:=ha;show(I.hok b ob e).stay (fun c U hc q=>(f.2 c ?_).trans q) (fun _ q=>q) fun _ _ q=>q;rintro rfl;rcases hc with rfl | hc
  .rw [B] at e;cases e
  .rw [B] at hc;cases hc
 rcases t with hk | hk
 .show wpAny_storeName_local hk Y (fun h' Z f=>?_) O;obtain⟨oL,_,_,aa,_⟩:=id Y;show h _ ⟨I.ok,I.os,I.bare,⟨fun b o e n F t=>?_,fun b o e n F t=>?_,I.base.free,fun b o e t=>?_,I.base.tups,I.base.frzs,I.base.tbls⟩,⟨_,Z,fun j y v' g C W=>?_⟩,fun y c e=>?_,I.free,I.freeC,fun p hp=>?_,l ⟨oL,aa,I.free⟩ f,by simpa using I.len⟩ ⟨_,f,.inl rfl⟩
  .show(f.2 b (yE (yj (yL e) I.ok.above))).trans (I.base.keep b o e n F t)
  .obtain⟨sl,g⟩:=I.base.slot b o e n F t;show⟨sl,(f.2 b (yE (yj (yL e) I.ok.above))).trans g⟩
  .obtain⟨o',g⟩:=I.base.there b o e t;show⟨o',(f.2 b (yE (yj (yL e) I.ok.above))).trans g⟩
  .by_cases J:j=i
   .subst J;rw[P] at g;cases g;rw[List.getElem?_set_self D] at C;cases C;show⟨u,r,.inl ⟨hk,by simp⟩⟩
   .rw [xF (yZ J)] at C;obtain⟨u',r',q⟩:=hl j y v' g C W;show⟨u',r',?_⟩;rcases q with⟨k,e⟩ | ⟨k,c,e,z⟩
    .show .inl ⟨k,?_⟩;have:y≠x:=fun e=>J (qcJ hN g (e ▸ P));simp[this,e]
    .show .inr ⟨k,c,e,z.sameBut f (cne y c e)⟩
  .obtain⟨U,z⟩:=I.cell y c e;show⟨U,z.sameBut f (cne y c e)⟩
  .obtain⟨e,n,ne,nf,d⟩:=I.pin p hp;show⟨(f.2 p.1 ne).trans e,n,ne,nf,d⟩
 .have G:X.fn x=true:=by
   rcases hf with z | z
   .show z
   .rw [z] at hk;cases hk
  obtain⟨c,hc⟩:=I.ok.has x (.inl hk);obtain⟨U,z⟩:=I.cell x c hc;show wpAny_storeName_cell I.ok.kind hk hc z (fun h' K f=>?_);obtain⟨oc,R,S⟩:=id z;show h { s with heap:=h' } ⟨I.ok,I.os,I.bare,⟨fun b o e n F t=>?_,fun b o e n F t=>?_,I.base.free,fun b o e t=>?_,I.base.tups,I.base.frzs,I.base.tbls⟩,⟨m,Y.sameBut f (yZ (cne x c hc)),fun j y v' g C W=>?_⟩,fun y T e=>?_,I.free,I.freeC,fun p hp=>?_,l ⟨oc,R,I.freeC x c hc⟩ f,by simpa using I.len⟩ ⟨c,f,.inr hc⟩
  .show(f.2 b (yE (yj (yL e) (I.ok.cab x c G hc)))).trans (I.base.keep b o e n F t)
  .obtain⟨sl,g⟩:=I.base.slot b o e n F t;show⟨sl,(f.2 b (yE (yj (yL e) (I.ok.cab x c G hc)))).trans g⟩
  .obtain⟨o',g⟩:=I.base.there b o e t;show⟨o',(f.2 b (yE (yj (yL e) (I.ok.cab x c G hc)))).trans g⟩
  .by_cases J:j=i
   .subst J;rw[P] at g;cases g;rw[List.getElem?_set_self D] at C;cases C;show⟨u,r,.inr ⟨.inl hk,c,hc,K⟩⟩
   .rw [xF (yZ J)] at C;obtain⟨u',r',q⟩:=hl j y v' g C W;show⟨u',r',?_⟩;rcases q with q | ⟨k,T,e,z'⟩
    .show .inl q
    .show .inr ⟨k,T,e,z'.sameBut f ?_⟩;rintro rfl;show J (qcJ hN g (I.ok.inj _ _ _ e hc ▸ P))
  .by_cases L:T=c
   .subst L;show⟨_,K⟩
   .obtain⟨w2,z2⟩:=I.cell y T e;show⟨w2,z2.sameBut f L⟩
  .obtain⟨e,n,ne,nf,d⟩:=I.pin p hp;show⟨(f.2 p.1 ?_).trans e,n,ne,nf,d⟩;intro q;rw[q,R] at e;have q':oc=p.2:=yn e;show d U (by rw[<- q'];show S)
theorem qcK{Q:Unit->Shared->Prop}(I:Inv X pins σ H s)(b:X.N.Nodup)(d:X.N[i]?=some x)(e:Loc X.env.scope x)(r:RelV v u)
  (h:∀ s',Inv X pins (σ.set i (some v)) H s'->Q () s') (c:X.fn x=true\/X.env.scope.names.lookup x=some .local:=by first | show .inl rfl | show .inr rfl | assumption):wpAny M A (storeName X.env x u) Q E s:=
 qbK I b d e r (fun s' a _=>h s' a) c
theorem Inv.call'(I:Inv X pins σ H s)(g:s'.os=s.os)(u:Un (frs X.stack) ch H H' s.heap s'.heap)(d:HOk X.prog X.w H' s'.heap)(f:AllBare s'.gens)
  (a:∀ b∈ch,(b∈X.ex\/X.s₀.heap.objs.size<=b)/\b≠X.env.locals/\(∀ x c,X.env.cells.lookup x=some c->c≠b)/\∀ p∈X.pn++pins,p.1≠b):Inv X pins σ H' s':=by
 obtain⟨h',g',d',t',h⟩:=s';have e:h=s.os:=g;subst e;show I.call (g':=g') (t':=t') (d':=d') u d f a
end
abbrev XK:=Value->Option Addr->Hp->Prop
noncomputable abbrev St:=List (Option V)
abbrev VK:=V->Hp->Prop
abbrev TE:=St->Hp->VK->Prop
abbrev TT:=St->Hp->(Bool->Hp->Prop)->Prop
abbrev TA:=St->Hp->(List V->Hp->Prop)->Prop
structure Ends where
 nx:St->Hp->Prop
 rt:VK
 bk:St->Hp->Prop:=fun _ _=>False
 ct:St->Hp->Prop:=fun _ _=>False
abbrev TS:=Ends->St->Hp->Prop
def EP(X:Cx)(pins:List (Addr×Obj))(σ:St)(Q:VK)(u:Value)(s':Shared):Prop:=∃ v H',Inv X pins σ H' s'/\RelV v u/\Q v H'
def TP(X:Cx)(pins:List (Addr×Obj))(σ:St)(Q:Bool->Hp->Prop)(b:Bool)(s':Shared):Prop:=∃ H',Inv X pins σ H' s'/\Q b H'
def AP(X:Cx)(pins:List (Addr×Obj))(σ:St)(Q:List V->Hp->Prop)(us:List Value)(s':Shared):Prop:=∃ vs H',Inv X pins σ H' s'/\Vals vs us/\Q vs H'
def SP(X:Cx)(pins:List (Addr×Obj))(D:Ends)(f:Flow)(s':Shared):Prop:=
 match f with
 | .next=>∃ a H',Inv X pins a H' s'/\D.nx a H'
 | .brk=>∃ a H',Inv X pins a H' s'/\D.bk a H'
 | .cont=>∃ a H',Inv X pins a H' s'/\D.ct a H'
 | .ret u=>∃ v a H',Inv X pins a H' s'/\RelV v u/\D.rt v H'
def PE(X:Cx)(e:Expr)(t:TE):Prop:=
 ∀(pins:List (Addr×Obj)) (s:Shared) (σ:St) (H:Hp) (Q:VK),Inv X pins σ H s->t σ H Q->wpAny (model X.prog X.w) X.A (eval e X.env) (EP X pins σ Q) X.xe s
def PT(X:Cx)(e:Expr)(t:TT):Prop:=
 ∀(pins:List (Addr×Obj)) (s:Shared) (σ:St) (H:Hp) (Q:Bool->Hp->Prop),Inv X pins σ H s->t σ H Q->wpAny (model X.prog X.w) X.A (isTrue e X.env (eval e X.env)) (TP X pins σ Q) X.xe s
def PW(X:Cx)(e:Expr)(t:TT):Prop:=
 ∀(a:Sem Value) (pins:List (Addr×Obj)) (s:Shared) (σ:St) (H:Hp) (Q:Bool->Hp->Prop),Inv X pins σ H s->t σ H Q->wpAny (model X.prog X.w) X.A (isTrue e X.env a) (TP X pins σ Q) X.xe s
theorem PW.pt{t:TT}(h:PW X e t):PT X e t:=h _
def PA(X:Cx)(es:List Expr)(t:TA):Prop:=
 ∀(pos:Pos) (pins:List (Addr×Obj)) (s:Shared) (σ:St) (H:Hp) (Q:List V->Hp->Prop),Inv X pins σ H s->t σ H Q->wpAny (model X.prog X.w) X.A (spliced (backTo pos (starEach es X.env))) (AP X pins σ Q) X.xe s
def PS(X:Cx)(st:Stmt)(t:TS):Prop:=
 ∀(pins:List (Addr×Obj)) (s:Shared) (σ:St) (H:Hp) (D:Ends),Inv X pins σ H s->t D σ H->wpAny (model X.prog X.w) X.A (exec st X.env) (SP X pins D) X.xe s
def PSs(X:Cx)(st:List Stmt)(t:TS):Prop:=
 ∀(pins:List (Addr×Obj)) (s:Shared) (σ:St) (H:Hp) (D:Ends),Inv X pins σ H s->t D σ H->wpAny (model X.prog X.w) X.A (execs st X.env) (SP X pins D) X.xe s
theorem thn{t:Sem α}{Q b:α->Shared->Prop}(h:wpAny M A t Q E s)(c:∀ a s,Q a s->b a s):wpAny M A t b E s:=YK h c fun _ _ x=>x
section
variable{X:Cx}
def qfq(i:Nat):TE:=fun σ H Q=>∃ v,σ[i]?=some (some v)/\Q v H
def tC(v:V):TE:=fun _ H Q=>Q v H
theorem pe_var(g:X.N[i]?=some x)(hv:Vis X.env.scope x)(f:(x==("__debug__":Str))=false:=by decide)(d:(x==("__classdict__":Str))=false:=by decide):PE X (.Name x pos) (qfq i):=by
 intro pins s σ H Q I h;obtain⟨v,e,h⟩:=h;obtain⟨m,n,hl⟩:=I.loc;obtain⟨u,r,l⟩:=hl i x v g e hv;have b:EP X pins σ Q u s:=⟨v,H,I,r,h⟩;rcases l with⟨hk,j⟩ | ⟨hk,c,hc,a⟩
 .show wpAny_Name (wpAny_loadName_local I.ok.kind hk n j b) f
 .rcases hk with hk | hk
  .show wpAny_Name (wpAny_loadName_cell I.ok.kind hk hc a b) f
  .show wpAny_Name (wpAny_loadName_free I.ok.kind hk hc a b d) f
theorem qh{i j pos}:PE X (.Constant (.int i) j pos) (tC (.int i)):=fun _ _ _ H _ I h=>wpAny_Constant_int ⟨.int i,H,I.tok _,⟨_,rfl⟩,h⟩
theorem jo{b j pos}:PE X (.Constant (.bool b) j pos) (tC (.bl b)):=fun _ _ _ H _ I h=>Constant_bool ⟨.bl b,H,I,rfl,h⟩
theorem zg{j pos}:PE X (.Constant .none j pos) (tC .non):=fun _ _ _ H _ I h=>Constant_none ⟨.non,H,I,rfl,h⟩
theorem qcL{x j pos}:PE X (.Constant (.str x) j pos) (tC (.str x)):=fun _ _ _ H _ I h=>Calls.Constant_str ⟨.str x,H,I.tok _,⟨_,rfl⟩,h⟩
def Gl(X:Cx)(x:Str):Prop:=X.env.kindOf x=some .globalImplicit
theorem qck{Q:Value->Shared->Prop}(I:Inv X pins σ H s)(b:Gl X x)(c:X.mg x=some u)(h:Q u s)
  (a:(x==("__debug__":Str))=false:=by decide):wpAny (model X.prog X.w) X.A (eval (.Name x pos) X.env) Q E s:=
 Calls.Name_function_global I.ok.kind b (Calls.loadGlobal_global (by rw[I.ok.glob];show I.mod.glob.keeps I.bk) c h) a
theorem qaf{Q:Value->Shared->Prop}(I:Inv X pins σ H s)(c:Gl X x)(d:X.mg x=none)(hv:bootBuiltins x=some u)(h:Q u s)
  (e:x≠"__name__":=by decide) (b:(x==("__debug__":Str))=false:=by decide):wpAny (model X.prog X.w) X.A (eval (.Name x pos) X.env) Q E s:=by
 obtain⟨f,h1,a⟩:=I.mod.blt;show Calls.Name_function_global I.ok.kind c (Calls.loadGlobal_builtin (by rw[I.ok.glob];show I.mod.glob.keeps I.bk) d (by rw[I.ok.blt];show h1.keeps I.bk) ((a x e).trans hv) h) b
theorem pe_glob(b:Gl X x)(c:X.mg x=some u)(r:RelV v u)(a:(x==("__debug__":Str))=false:=by decide):PE X (.Name x pos) (tC v):=
 fun _ _ _ H _ I h=>qck I b c ⟨v,H,I,r,h⟩ a
theorem ze(b:Gl X x)(c:X.mg x=none)(hv:bootBuiltins x=some u)(r:RelV v u)(d:x≠"__name__":=by decide)(a:(x==("__debug__":Str))=false:=by decide):PE X (.Name x pos) (tC v):=
 fun _ _ _ H _ I h=>qaf I b c hv ⟨v,H,I,r,h⟩ d a
variable{a b:Expr}{ta tb:TE}{pos:Pos}
def tB(t:TE):TT:=fun σ H Q=>t σ H fun x a=>∃ c,x=.bl c/\Q c a
theorem qV(h:PE X e t)(f:∀ a,isTrue e X.env a=(do let v <- a;standAt e.pos;holding [v] (truthy v)):=by intro _;rfl):PT X e (tB t):=by
 intro pins s σ H Q I hw;show isTrue_plain (thn (h pins s σ H _ I hw) fun v j ⟨x,b,c,i,g⟩=>?_) (f _);obtain⟨d,rfl,q⟩:=g;cases i;show xj ⟨b,c,q⟩
variable{tA tB':TT}{qcj:List Expr}
def qfE(t u:TT):TT:=fun σ H Q=>t σ H fun c a=>if c=true then u σ a Q else Q false a
def tOr(t u:TT):TT:=fun σ H Q=>t σ H fun c a=>if c=true then Q true a else u σ a Q
def qfF(t:TT):TT:=fun σ H Q=>t σ H fun c a=>Q (!c) a
theorem zF(b:PT X a tA):PW X (.BoolOp .And [a] pos) tA:=by
 intro f pins s σ H Q I h;show isTrue_and (thn (b pins s σ H Q I h) fun c d e=>?_)
 cases c with
 | true=>show isTrue_and_nil e
 | false=>show e
theorem qbe(b:PT X a tA):PW X (.BoolOp .Or [a] pos) tA:=by
 intro f pins s σ H Q I h;show isTrue_or (thn (b pins s σ H Q I h) fun c d e=>?_)
 cases c with
 | false=>show isTrue_or_nil e
 | true=>show e
theorem qay(g:PT X a tA)(i:PW X (.BoolOp .And (b::qcj) pos) tB'):PW X (.BoolOp .And (a::b::qcj) pos) (qfE tA tB'):=by
 intro l pins s σ H Q I h;show isTrue_and (thn (g pins s σ H _ I h) fun c j ⟨d,e,f⟩=>?_)
 cases c with
 | true=>show i l pins j σ d Q e f
 | false=>show⟨d,e,f⟩
theorem qbL(g:PT X a tA)(i:PW X (.BoolOp .Or (b::qcj) pos) tB'):PW X (.BoolOp .Or (a::b::qcj) pos) (tOr tA tB'):=by
 intro l pins s σ H Q I h;show isTrue_or (thn (g pins s σ H _ I h) fun c j ⟨d,e,f⟩=>?_)
 cases c with
 | true=>show⟨d,e,f⟩
 | false=>show i l pins j σ d Q e f
theorem jc(d:PT X a tA):PT X (.UnaryOp .Not a pos) (qfF tA):=by
 intro pins s σ H Q I h;show isTrue_not (d pins s σ H (fun c b=>Q (!c) b) I h)
def qeP(ta tb:TE):TE:=fun σ H Q=>ta σ H fun x a=>∃ c,x=.bl c/\if c=true then tb σ a Q else Q (.bl false) a
def qfG(ta tb:TE):TE:=fun σ H Q=>ta σ H fun x a=>∃ c,x=.bl c/\if c=true then Q (.bl true) a else tb σ a Q
def tNotV(ta:TE):TE:=fun σ H Q=>ta σ H fun x a=>∃ c,x=.bl c/\Q (.bl (!c)) a
theorem qaO{op}(h:PE X a t):PE X (.BoolOp op [a] pos) t:=fun pins s σ H Q I hw=>BoolOp_one (h pins s σ H Q I hw)
theorem qbf(g:PE X a ta)(i:PE X (.BoolOp .And (b::qcj) pos) tb):PE X (.BoolOp .And (a::b::qcj) pos) (qeP ta tb):=by
 intro pins s σ H Q I h;show BoolOp_and (thn (g pins s σ H _ I h) fun v l ⟨x,e,f,j,d⟩=>?_);obtain⟨c,rfl,d⟩:=d;cases j;show xj ?_
 cases c with
 | true=>show i pins l σ e Q f d
 | false=>show⟨.bl false,e,f,rfl,d⟩
theorem pe_or(g:PE X a ta)(i:PE X (.BoolOp .Or (b::qcj) pos) tb):PE X (.BoolOp .Or (a::b::qcj) pos) (qfG ta tb):=by
 intro pins s σ H Q I h;show BoolOp_or (thn (g pins s σ H _ I h) fun v l ⟨x,e,f,j,d⟩=>?_);obtain⟨c,rfl,d⟩:=d;cases j;show xj ?_
 cases c with
 | false=>show i pins l σ e Q f d
 | true=>show⟨.bl true,e,f,rfl,d⟩
def tIf(t:TT)(ta tb:TE):TE:=fun σ H Q=>t σ H fun c a=>if c=true then ta σ a Q else tb σ a Q
theorem pe_ifExp(hc:PT X c tA)(j:PE X a ta)(l:PE X b tb):PE X (.IfExp c a b pos) (tIf tA ta tb):=by
 intro pins s σ H Q I h;show wpAny_IfExp (thn (hc pins s σ H _ I h) fun d i ⟨e,f,g⟩=>?_)
 cases d with
 | true=>show j pins i σ e Q f g
 | false=>show l pins i σ e Q f g
end
def SqL(K:yg)(H:Hp)(a:Addr)(xs:List V):Prop:=
 Rd H a (.lst xs) \/
  ∃(o:Obj) (b:Array Value) (n:Nat),K.lookup a=some o/\o.cls=.type "list"/\o.dict=none/\o.data=.seq b n/\b.size<=sizeLine/\Vals xs b.toList
def SqT(K:yg)(H:Hp)(a:Addr)(xs:List V):Prop:=
 Rd H a (.tup xs) \/
  ∃(o:Obj) (b:Array Value) (n:Nat),K.lookup a=some o/\o.cls=.type "tuple"/\o.data=.seq b n/\b.size<=sizeLine/\Vals xs b.toList
noncomputable def absV:Value->Option V
 | .none=>some .non
 | .bool b=>some (.bl b)
 | .int i _=>some (.int i)
 | .str x _=>some (.str x)
 | .bytes b _=>some (.byt b)
 | .float b _=>some (.flt b)
 | .ref a=>some (.ref a)
 | .type n=>some (.ty n)
 | _=>none
theorem RelV.abs{x:V}(r:RelV x u):absV u=some x:=by
 cases x with
 | non=>cases r;rfl
 | bl _=>cases r;rfl
 | int _=>obtain⟨t,rfl⟩:=r;rfl
 | str _=>obtain⟨t,rfl⟩:=r;rfl
 | byt _=>obtain⟨t,rfl⟩:=r;rfl
 | flt _=>obtain⟨t,rfl⟩:=r;rfl
 | ref _=>cases r;rfl
 | ty _=>cases r;rfl
theorem RelV.inj{x:V}(r:RelV x u)(q:RelV y u):x=y:=yn (r.abs.symm.trans q.abs)
theorem Vals.inj:∀{xs ys:List V} {us:List Value},Vals xs us->Vals ys us->xs=ys
 | _,_,_,.nil,.nil=>rfl
 | _,_,_,.cons r t,.cons r' t'=>by rw[r.inj r',Vals.inj t t']
section
variable{X:Cx}{pins:List (Addr×Obj)}{σ:St}{H:Hp}{s:Shared}{a:Addr}{xs ys:List V}
theorem SqL.of{K:yg}(h:H a=some (.lst xs)):SqL K H a xs:=.inl (.inl h)
theorem SqT.of{K:yg}(h:H a=some (.tup xs)):SqT K H a xs:=.inl (.inl h)
theorem Inv.list(I:Inv X pins σ H s)(h:SqL X.K H a xs):∃ b:List Value,Vals xs b/\PlainL s.heap a b.toArray/\xs.length<=sizeLine:=by
 rcases h with h | ⟨o,b,n,hk,hc,hd,hs,hz,r⟩
 .obtain⟨z,b,n,r,e⟩:=h.ok I.hok;show⟨b,r,⟨_,n,e,rfl,rfl,rfl⟩,z⟩
 .show⟨b.toList,r,⟨o,n,I.kIn a o hk,hc,hd,by simpa using hs⟩,?_⟩;have e:=r.length;simp only[Y1] at e;lk
theorem Inv.tuple(I:Inv X pins σ H s)(h:SqT X.K H a xs):∃ b:List Value,Vals xs b/\IsTup s.heap a b.toArray/\xs.length<=sizeLine:=by
 rcases h with h | ⟨o,b,n,hk,hc,hs,hz,r⟩
 .obtain⟨z,b,r,p⟩:=h.ok I.hok;show⟨b,r,p,z⟩
 .show⟨b.toList,r,⟨o,I.kIn a o hk,hc,n,by simpa using hs⟩,?_⟩;have e:=r.length;simp only[Y1] at e;lk
theorem Inv.list_inj(I:Inv X pins σ H s)(h:SqL X.K H a xs)(h':SqL X.K H a ys):xs=ys:=by
 obtain⟨b,r,⟨o,n,e,_,_,d⟩,_⟩:=I.list h;obtain⟨its',r',⟨g,f,c,_,_,d'⟩,_⟩:=I.list h';rw[e] at c;cases c;rw[d] at d'
 injection d' with d1 _
 have:b=its':=by simpa using congrArg Array.toList d1
 subst this;show r.inj r'
theorem Inv.tuple_inj(I:Inv X pins σ H s)(h:SqT X.K H a xs)(h':SqT X.K H a ys):xs=ys:=by
 obtain⟨b,r,⟨o,e,_,n,d⟩,_⟩:=I.tuple h;obtain⟨its',r',⟨g,c,_,f,d'⟩,_⟩:=I.tuple h';rw[e] at c;cases c;rw[d] at d'
 injection d' with d1 _
 have:b=its':=by simpa using congrArg Array.toList d1
 subst this;show r.inj r'
end
noncomputable abbrev Cx.wish(X:Cx)(E:Value->Shared->Prop):Cx:={ X with xe:=E }
noncomputable abbrev Cx.nox(X:Cx):Cx:=X.wish fun _ _=>False
theorem Cx.Ok.wish(ok:X.Ok)(E:Value->Shared->Prop):(X.wish E).Ok:=
 ⟨ok.mod,ok.kind,ok.glob,ok.blt,ok.above,ok.inj,ok.has,ok.cab,ok.hd,ok.frames,ok.stk,ok.exf,ok.bs,ok.bsz,ok.noex,ok.exfs,ok.funs,ok.frf⟩
theorem Cx.Ok.unwish(ok:(X.wish E).Ok):X.Ok:=
 ⟨ok.mod,ok.kind,ok.glob,ok.blt,ok.above,ok.inj,ok.has,ok.cab,ok.hd,ok.frames,ok.stk,ok.exf,ok.bs,ok.bsz,ok.noex,ok.exfs,ok.funs,ok.frf⟩
section
variable{X:Cx}{pins:List (Addr×Obj)}{σ:St}{H:Hp}{s:Shared}{E:Value->Shared->Prop}
theorem Inv.wish(I:Inv X pins σ H s)(E:Value->Shared->Prop):Inv (X.wish E) pins σ H s:=⟨I.ok.wish E,I.os,I.bare,I.base,I.loc,I.cell,I.free,I.freeC,I.pin,I.hok,I.len⟩
theorem Inv.unwish(I:Inv (X.wish E) pins σ H s):Inv X pins σ H s:=⟨I.ok.unwish,I.os,I.bare,I.base,I.loc,I.cell,I.free,I.freeC,I.pin,I.hok,I.len⟩
theorem SP.unwish{f:Flow}(h:SP (X.wish E) pins D f s'):SP X pins D f s':=by
 cases f with
 | next=>obtain⟨a,H',I,q⟩:=h;show⟨a,H',I.unwish,q⟩
 | brk=>obtain⟨a,H',I,q⟩:=h;show⟨a,H',I.unwish,q⟩
 | cont=>obtain⟨a,H',I,q⟩:=h;show⟨a,H',I.unwish,q⟩
 | ret u=>obtain⟨v,a,H',I,r,q⟩:=h;show⟨v,a,H',I.unwish,r,q⟩
theorem PSs.nox{st:List Stmt}{t:TS}(h:PSs X.nox st t):PSs X st t:=fun pins s σ H D I hw =>
 YK (h pins s σ H D (I.wish _) hw) (fun _ _ q=>q.unwish) fun _ _ z=>False.elim z
end
section
variable{X:Cx}{st:Stmt}{qcj:List Stmt}{t u:TS}{e:Expr}{te:TE}{pos:Pos}
def qeQ:TS:=fun D σ H=>D.nx σ H
def qfr(t u:TS):TS:=fun D σ H=>t { D with nx:=u D } σ H
theorem qo:PSs X [] qeQ:=fun _ _ σ H _ I h=>XV ⟨σ,H,I,h⟩
theorem qc(h1:PS X st t)(c:PSs X qcj u):PSs X (st::qcj) (qfr t u):=by
 intro pins s σ H D I h;show wpAny_execs_cons (thn (h1 pins s σ H { D with nx:=u D } I h) fun f d q=>?_)
 cases f with
 | next =>
  obtain⟨a,H',b,q⟩:=q;show c pins d a H' D b q
 | ret v=>show q
 | brk=>show q
 | cont=>show q
theorem qf(h1:PS X st t):PSs X [st] t:=by
 intro pins s σ H D I h;show wpAny_execs_cons (thn (h1 pins s σ H D I h) fun f a q=>?_)
 cases f with
 | next=>show XV q
 | ret v=>show q
 | brk=>show q
 | cont=>show q
theorem Inv.quiet(I:Inv X pins σ H s):interactive X.env=false:=by simp[interactive,I.ok.kind]
def qeR(te:TE):TS:=fun D σ H=>te σ H fun _ a=>D.nx σ a
theorem qO(c:PE X e te)(d:swapsWith e none pos.line X.env=pure false:=by rfl):PS X (.Expr e pos) (qeR te):=by
 intro pins s σ H D I h;show wpAny_Expr_any (thn (c pins s σ H _ I h) fun v i ⟨x,a,b,g,f⟩=>⟨σ,a,b,f⟩) I.quiet d
def qfH(te:TE):TS:=fun D σ H=>te σ H D.rt
theorem qk(c:PE X e te):PS X (.Return (some e) pos) (qfH te):=by
 intro pins s σ H D I h;show wpAny_Return_some (thn (c pins s σ H _ I h) fun v g ⟨x,a,b,f,d⟩=>⟨x,σ,a,b,f,d⟩)
def qeS:TS:=fun D _ H=>D.rt .non H
theorem ps_retN:PS X (.Return none pos) qeS:=fun _ _ σ H _ I h=>wpAny_Return_none ⟨.non,σ,H,I,rfl,h⟩
def qfI(c:TT)(t u:TS):TS:=fun D σ H=>c σ H fun b a=>if b=true then t D σ a else u D σ a
theorem qJ{a b:List Stmt}(hc:PT X c tc)(j:PSs X a t)(l:PSs X b u):PS X (.If c a b pos) (qfI tc t u):=by
 intro pins s σ H D I h;show wpAny_If (thn (hc pins s σ H _ I h) fun d i ⟨e,f,g⟩=>?_)
 cases d with
 | true=>show j pins i σ e D f g
 | false=>show l pins i σ e D f g
def tNever:TS:=fun _ _ _=>False
theorem jw:PS X st tNever:=fun _ _ _ _ _ _ h=>h.elim
end
abbrev TG:=V->St->Hp->(St->Hp->Prop)->Prop
abbrev TGs:=List V->St->Hp->(St->Hp->Prop)->Prop
def PG(X:Cx)(a:Expr)(t:TG):Prop:=
 ∀(pins:List (Addr×Obj)) (s:Shared) (σ:St) (H:Hp) (v:V) (u:Value) (Q:St->Hp->Prop),Inv X pins σ H s->RelV v u->t v σ H Q ->
  wpAny (model X.prog X.w) X.A (assign a X.env u) (fun _ s'=>∃ b H',Inv X pins b H' s'/\Q b H') X.xe s
def PGs(X:Cx)(b:List Expr)(t:TGs):Prop:=
 ∀(pins:List (Addr×Obj)) (s:Shared) (σ:St) (H:Hp) (vs:List V) (us:List Value) (Q:St->Hp->Prop),Inv X pins σ H s->Vals vs us->t vs σ H Q ->
  wpAny (model X.prog X.w) X.A (assignInOrder ((assignEach b X.env).map (·.2)) us) (fun _ s'=>∃ a H',Inv X pins a H' s'/\Q a H') X.xe s
abbrev qeT:=V->V->V->Hp->(Hp->Prop)->Prop
def qfs(X:Cx)(t:qeT):Prop:=
 ∀(pins:List (Addr×Obj)) (s:Shared) (σ:St) (H:Hp) (o i v:V) (b a u:Value) (Q:Hp->Prop),Inv X pins σ H s->RelV o b->RelV i a->RelV v u->t o i v H Q ->
  wpAny (model X.prog X.w) X.A (setItem b a u) (fun _ s'=>∃ H',Inv X pins σ H' s'/\Q H') X.xe s
section
variable{X:Cx}{pos:Pos}
def qbt(i:Nat):TG:=fun v σ H Q=>Q (σ.set i (some v)) H
theorem qm(b:X.N.Nodup)(d:X.N[i]?=some x)(e:Loc X.env.scope x)(c:X.fn x=true\/X.env.scope.names.lookup x=some .local:=by first | show .inl rfl | show .inr rfl | assumption):PG X (.Name x pos) (qbt i):=by
 intro pins s σ H v u Q I r h;show wpAny_assign_Name (qcK I b d e r (fun s' a=>⟨_,H,a,h⟩) c)
def qfJ:TGs:=fun vs σ H Q=>vs=[]/\Q σ H
def qew(t:TG)(u:TGs):TGs:=fun vs σ H Q=>∃ v r,vs=v::r/\t v σ H fun a H'=>u r a H' Q
theorem qaP:PGs X [] qfJ:=by
 intro pins s σ H vs us Q I r h;obtain⟨e,h⟩:=h;subst e;cases r;show assignInOrder_nil ⟨σ,H,I,h⟩
theorem jF{t:TG}{u:TGs}(h1:PG X e t)(f:PGs X es u)
  (g:(assignEach (e::es) X.env).map (·.2)=assign e X.env::(assignEach es X.env).map (·.2):=by rfl):PGs X (e::es) (qew t u):=by
 intro pins s σ H vs us Q I r h;obtain⟨v,l,d,h⟩:=h;subst d
 cases r with
 | cons r rr =>
  rw[g];show assignInOrder_cons (thn (h1 pins s σ H _ _ _ I r h) fun _ j ⟨a,b,c,i⟩=>?_);show f pins j a b _ _ Q c rr i
def qfj(K:yg)(n:Nat)(t:TGs):TG:=fun v σ H Q=>∃ a xs,v=.ref a/\SqT K H a xs/\xs.length=n/\t xs σ H Q
theorem qbM{k:Nat}{t:TGs}(hc:X.calm=true)(h:PGs X es t)
  (i:(assignEach es X.env).length=n:=by rfl) (c:(assignEach es X.env).findIdx? (·.1)=none:=by rfl):PG X (.Tuple es k pos) (qfj X.K n t):=by
 intro pins s σ H v u Q I r hw;obtain⟨a,xs,g,j,hl,hw⟩:=hw;subst g;cases r;obtain⟨p,d,l,hz⟩:=I.tuple j;show assign_Tuple_tuple (I.ok.hd hc) l (by simp[i,<- hl,d.length]) c fun h' m=>?_;have f:Inv X pins σ H { s with heap:=h' }:=I.kept (t':=s.toks) fun b o e=>m b o (yE (yL e)) e;show h pins _ σ H xs _ Q f (by simpa using d) hw
def qfK(e d:TE)(t:qeT):TG:=fun v σ H Q=>e σ H fun o a=>d σ a fun i b=>t o i v b fun c=>Q σ c
theorem j6{o i:Expr}{d c:TE}{t:qeT}(q:PE X o d)(p:PE X i c)(w:qfs X t)
  (n:∀ v,assign (.Subscript o i pos) X.env v=(do
   let a <- holding [v] (eval o X.env);let b <- holding [v,a] (eval i X.env)
   standAt pos
   holding [v,a,b] (setItem a b v)
   release [v,a,b] []):=by intro _;rfl):PG X (.Subscript o i pos) (qfK d c t):=by
 intro pins s σ H v u Q I r h;rw[n];show yt (Yk (thn (q pins s σ H _ I h) fun a F ⟨x,e,j,D,A⟩=>?_));show yt (Yk (thn (p pins F σ e _ j A) fun b G ⟨y,f,l,E,B⟩=>?_));show yt (kC (yt (Yk (thn (w pins G σ f x y v a b u _ l D E r B) fun _ J ⟨g,m,C⟩=>?_))));show wpAny_release ⟨σ,g,m,C⟩
def qeL(te:TE)(g:TG):TS:=fun D σ H=>te σ H fun x a=>g x σ a D.nx
theorem jY(c:PE X e te)(d:PG X tg g)(f:swapsWithSole [tg] e pos.line X.env=pure false:=by rfl)(hw:swappedStores [tg] e X.env=pure none:=by rfl)
  (h1:(assignEach [tg] X.env).map (·.2)=[assign tg X.env]:=by rfl):PS X (.Assign [tg] e pos) (qeL te g):=by
 intro pins s σ H D I h;show wpAny_Assign_stores (thn (c pins s σ H _ I h) fun v l ⟨x,a,b,j,i⟩=>?_) f hw;rw[h1];show thn (d pins l σ a x v _ b j i) fun _ m q=>q
theorem qt{a:Pos}(f:X.N.Nodup)(l:X.N[i]?=some x)(n:Loc X.env.scope x)(g:PE X e te)(m:swapsWith e (some (.Name x a)) pos.line X.env=pure false:=by rfl)(j:X.fn x=true\/X.env.scope.names.lookup x=some .local:=by first | show .inl rfl | show .inr rfl | assumption) :
  PS X (.Assign [.Name x a] e pos) (qeL te (qbt i)):=by
 intro pins s σ H D I h;show wpAny_Assign_Name (thn (g pins s σ H _ I h) fun v q ⟨y,b,c,p,o⟩=>?_) m;show qcK c f l n p (fun r d=>⟨_,b,d,o⟩) j
end
section
variable{X:Cx}{pos:Pos}
def tWhile(c:TT)(tb:TS):TS:=fun D σ H=>∃ W:Nat->St->Hp->Prop,(∃ m,W m σ H)/\∀ m σ H,W m σ H ->
 c σ H fun b d=>if b=true then ∃ N:St->Hp->Prop,(∀ a H',N a H'->∃ e,e<m/\W e a H')/\tb { D with nx:=N,ct:=N,bk:=D.nx } σ d else D.nx σ d
theorem qaB(y:PassesOwn (model X.prog X.w) X.A X.env X.xe)(hc:PT X c tc)(C:PSs X body tb):PS X (.While c body [] pos) (tWhile tc tb):=by
 intro pins s σ H D I h;obtain⟨W,⟨E,J⟩,turn⟩:=h;show wpAny_While (codeAny_whileLoop (fun n s'=>∃ g H',Inv X pins g H' s'/\W n g H') ?_ E ⟨σ,H,I,J⟩);rintro n F ⟨d,r,B,K⟩;show xB y (thn (hc pins F d r _ B (turn n d r K)) fun b G ⟨t,u,i⟩=>?_)
 cases b with
 | true =>
  obtain⟨N,x,i⟩:=i;rw[yF rfl];show xB y (thn (C pins G d t _ u i) fun f L j=>?_)
  cases f with
  | next =>
   obtain⟨a,e,l,p⟩:=j;obtain⟨o,m,q⟩:=x a e p;show⟨o,m,a,e,l,q⟩
  | cont =>
   obtain⟨a,e,l,p⟩:=j;obtain⟨o,m,q⟩:=x a e p;show⟨o,m,a,e,l,q⟩
  | brk=>show j
  | ret v=>show j
 | false =>
  rw[yA Yq];show XV ⟨d,t,u,i⟩
end
structure It where
 go:Nat->Hp->Prop
 yld:Nat->Hp->V->Hp->Prop
 stop:Nat->Hp->Prop
def qcl(X:Cx)(pins:List (Addr×Obj))(H:Hp)(b:Addr):Prop:=
 H b=none/\b≠X.env.locals/\b∉X.fs/\(b∈X.ex\/X.s₀.heap.objs.size<=b)/\(∀ x c,X.env.cells.lookup x=some c->c≠b)/\∀ p∈X.pn++pins,p.1≠b
theorem Inv.fpOk{H':Hp}(I:Inv X pins σ H s)(a:s.heap.objs.size<=b)(d:H' b=none):qcl X pins H' b:=by
 show⟨d,Yn (yj I.lt a),I.nofs a,.inr (yi I.sz a),fun x c e z=>?_,fun p f z=>?_⟩
 .obtain⟨v,q⟩:=I.cell x c e;show absurd (yj q.lt (by rw[z];show a)) (Yt _)
 .show absurd (yj (yL (I.pin p f).1) (by rw[z];show a)) (Yt _)
structure Turn(P:Program)(w:World)(K:yg)(tg:Expr)(J:It)(fp:LQ)(it:Addr)(tn:Nat->Heap->Prop):Prop where
 mem:it∈fp
 obj:∀ i h,tn i h->∀ b∈fp,∃ o,h.get? b=some o/\∀ v,o.data≠.cell v
 keep:∀ i h h',tn i h->(∀ b∈fp,∀ o,h.get? b=some o->h'.get? b=some o)->tn i h'
 item:∀(X:Cx),X.prog=P->X.w=w->X.K=K->X.calm=true->∀(i:Nat) (pins:List (Addr×Obj)) (s:Shared) (σ:St) (H:Hp) (E:Value->Shared->Prop),Inv X pins σ H s->(∀ b∈fp,qcl X pins H b)->tn i s.heap->J.go i H ->
  wpAny (model P w) X.A (pyNext (.ref it)) (fun r s1=>∃ u,r=some u /\
   wpAny (model P w) X.A (letOwnedTupleGo tg (.ref it) u) (fun _ s2=>∃ x H',Inv X pins σ H' s2/\RelV x u/\J.yld i H x H'/\tn (i+1) s2.heap/\∀ b∈fp,H' b=none) E s1) E s
 done:∀(X:Cx),X.prog=P->X.w=w->X.K=K->X.calm=true->∀(i:Nat) (pins:List (Addr×Obj)) (s:Shared) (σ:St) (H:Hp) (E:Value->Shared->Prop),Inv X pins σ H s->(∀ b∈fp,qcl X pins H b)->tn i s.heap->J.stop i H ->
  wpAny (model P w) X.A (pyNext (.ref it)) (fun r s1=>r=none/\Inv X pins σ H s1) E s
 self:∀(A:Around) (i:Nat) (s:Shared) (Q:Value->Shared->Prop) (E:Value->Shared->Prop),tn i s.heap->Q (.ref it) s->wpAny (model P w) A (pyIter (.ref it)) Q E s
abbrev TI:=St->Hp->(It->Hp->Prop)->Prop
def PIE(X:Cx)(pins:List (Addr×Obj))(σ:St)(tg:Expr)(R:It->Hp->Prop)(a:Value)(c:Shared):Prop:=
 ∃(it:Addr) (fp:LQ) (d:Nat->Heap->Prop) (J:It) (H':Hp),a=.ref it/\Inv X pins σ H' c/\Turn X.prog X.w X.K tg J fp it d/\d 0 c.heap/\(∀ b∈fp,qcl X pins H' b)/\R J H'
def PI(X:Cx)(tg a:Expr)(c:TI):Prop:=
 ∀(pins:List (Addr×Obj)) (s:Shared) (σ:St) (H:Hp) (R:It->Hp->Prop),Inv X pins σ H s->c σ H R ->
  wpAny (model X.prog X.w) X.A (eval a X.env) (fun v b=>wpAny (model X.prog X.w) X.A (pyIter v) (PIE X pins σ tg R) X.xe b) X.xe s
theorem qex{o:Obj}{n:String}{vs:Array Value}{Q:Unit->Shared->Prop}(d:s.heap.get? it=some o)(hc:o.cls=.type n)(b:o.data=.fields vs)
    (c:["enumerate","zip","dict_itemiterator","dict_reverseitemiterator","odict_iterator","itertools.zip_longest","itertools.pairwise"].contains n=false) (a:Q () s):wpAny M A (letOwnedTupleGo tg (.ref it) u) Q E s:=by
  unfold letOwnedTupleGo;cases tg<;>first
    | show yv a
    | (cases u<;>first
        | show yv a
        | (show yt (wpAny_load d ?_)
           rw[hc,b];show wpAny M A (if (["enumerate","zip","dict_itemiterator","dict_reverseitemiterator","odict_iterator","itertools.zip_longest","itertools.pairwise"].contains n&&vs[0]?==some (rawInt _))=true then _ else _) Q E s;rw[yA (by intro h;rw[c,Bool.false_and] at h;cases h)];show yv a))
noncomputable def Itl(K:yg)(a:Addr):It:=
 ⟨fun i H=>∃ xs x,SqL K H a xs/\xs[i]?=some x,fun i H x H'=>H'=H/\∀ xs,SqL K H a xs->xs[i]?=some x,fun i H=>∃ xs,SqL K H a xs/\xs.length<=i⟩
noncomputable def Itt(K:yg)(a:Addr):It:=
 ⟨fun i H=>∃ xs x,SqT K H a xs/\xs[i]?=some x,fun i H x H'=>H'=H/\∀ xs,SqT K H a xs->xs[i]?=some x,fun i H=>∃ xs,SqT K H a xs/\xs.length<=i⟩
noncomputable def Itr(lo:Int)(n:Nat):It:=⟨fun i _=>i<n,fun i H x H'=>H'=H/\x=.int (lo+i),fun i _=>n<=i⟩
theorem qbN{K:yg}(a it:Addr):Turn P w K tg (Itl K a) [it] it (fun i h=>h.IsListIter it a i) where
 mem:=by simp
 obj:=fun i h st b f=>by
  have e:b=it:=by simpa using f
  subst e;obtain⟨o,e,c,d⟩:=st;show⟨o,e,fun v z=>by rw[d] at z;cases z⟩
 keep:=fun i h h' st k=>st.at fun o e=>k it (by simp) o e
 item:=by
  intro X A hw y hc i pins s σ H E I j st B;subst A hw y;obtain⟨xs,x,l,C⟩:=B;obtain⟨D,F,p,hz⟩:=I.list l;obtain⟨u,M,O⟩:=F.get C;obtain⟨m,n,L,q,r,t⟩:=j it (by simp);show wpAny_pyNext_list_item st p.isList (x:=u) (by simpa using M) fun h' g R=>?_;have G:Inv X pins σ H { s with heap:=h' }:=I.turned (t':=s.toks) (fun b o f e=>(R.2 b f).trans e) m n q r t;obtain⟨o,e,c,d⟩:=id g;show⟨u,rfl,qex (s:={ s with heap:=h' }) e c d (by decide) ⟨x,H,G,O,⟨rfl,fun ys N=>by rw[I.list_inj N l];show C⟩,g,fun b f=>(j b f).1⟩⟩
 done:=by
  intro X A hw y hc i pins s σ H E I j st B;subst A hw y;obtain⟨xs,l,C⟩:=B;obtain⟨D,F,p,hz⟩:=I.list l;obtain⟨m,n,L,q,r,t⟩:=j it (by simp);have hl:=F.length;show wpAny_pyNext_list_end (I.ok.hd hc) st p.isList (by simp;lk) fun h' J=>⟨rfl,I.turned (t':=s.toks) (fun b o f e=>J b o f e) m n q r t⟩
 self:=fun _ _ _ _ _ st h=>wpAny_pyIter_listiter st h
theorem turn_tuple{K:yg}(a it:Addr):Turn P w K tg (Itt K a) [it] it (fun i h=>h.IsTupleIter it a i) where
 mem:=by simp
 obj:=fun i h st b f=>by
  have e:b=it:=by simpa using f
  subst e;obtain⟨o,e,c,d⟩:=st;show⟨o,e,fun v z=>by rw[d] at z;cases z⟩
 keep:=fun i h h' st k=>st.at fun o e=>k it (by simp) o e
 item:=by
  intro X B hw A hc i pins s σ H E I l st C;subst B hw A;obtain⟨xs,x,m,D⟩:=C;obtain⟨g,F,p,hz⟩:=I.tuple m;obtain⟨u,M,O⟩:=F.get D;obtain⟨n,q,L,r,t,y⟩:=l it (by simp);show wpAny_pyNext_tuple_item st (show s.heap.IsTuple a g.toArray from p) (x:=u) (by simpa using M) fun h' j R=>?_;have G:Inv X pins σ H { s with heap:=h' }:=I.turned (t':=s.toks) (fun b o f e=>(R.2 b f).trans e) n q r t y;obtain⟨o,e,c,d⟩:=id j;show⟨u,rfl,qex (s:={ s with heap:=h' }) e c d (by decide) ⟨x,H,G,O,⟨rfl,fun ys N=>by rw[I.tuple_inj N m];show D⟩,j,fun b f=>(l b f).1⟩⟩
 done:=by
  intro X B hw A hc i pins s σ H E I l st C;subst B hw A;obtain⟨xs,m,D⟩:=C;obtain⟨g,F,p,hz⟩:=I.tuple m;obtain⟨n,q,L,r,t,y⟩:=l it (by simp);have hl:=F.length;show wpAny_pyNext_tuple_end (I.ok.hd hc) st (show s.heap.IsTuple a g.toArray from p) (by simp;lk) fun h' J=>⟨rfl,I.turned (t':=s.toks) (fun b o f e=>J b o f e) n q r t y⟩
 self:=fun _ _ _ _ _ st h=>wpAny_pyIter_tupleiter st h
theorem turn_range{K:yg}(it:Addr)(lo:Int)(n:Nat):Turn P w K tg (Itr lo n) [it] it (fun i h=>IsRangeIter h it (lo+(i:Nat)*1) ((n:Int)-(i:Nat)) 1) where
 mem:=by simp
 obj:=fun i h st b a=>by
  have e:b=it:=by simpa using a
  subst e
  show⟨_,st,fun v z=>by
   have B:Data.fields _=Data.cell v:=z;cases B⟩
 keep:=fun i h h' st k=>k it (by simp) _ st
 item:=by
  intro X q hw p hc i pins s σ H E I d st r;subst q hw p;obtain⟨f,g,y,j,l,m⟩:=d it (by simp);have W:=Walks.range (prog:=X.prog) (w:=X.w) (I.ok.hd hc) it lo 1 n;show W.item i s _ _ r st fun v h' tk hv c A=>?_;obtain⟨t,rfl⟩:=hv;have u:Inv X pins σ H { s with heap:=h',toks:=tk }:=I.turned (fun b o a e=>A b o (by simpa using a) e) f g j l m;show⟨_,rfl,qex (s:={ s with heap:=h',toks:=tk }) (n:="range_iterator") c rfl rfl (by decide) ⟨.int (lo+i),H,u,⟨t,?_⟩,⟨rfl,rfl⟩,c,fun b a=>(d b a).1⟩⟩;rw[Int.mul_one]
 done:=by
  intro X q hw p hc i pins s σ H E I d st r;subst q hw p;obtain⟨f,g,y,j,l,m⟩:=d it (by simp);show wpAny_pyNext_range_end (I.ok.hd hc) st (by have:n<=i:=r;lk) fun h' x=>⟨rfl,I.turned (t':=s.toks) (fun b o a e=>x b o a e) f g j l m⟩
 self:=fun _ _ _ _ _ st h=>wpAny_pyIter_rangeiter st h
section
variable{X:Cx}{tg:Expr}
theorem qcM{R:It->Hp->Prop}{a:Int}{t u v:Tok}{tk:Nat}(I:Inv X pins σ H s)(h1:-(2 ^ 62)<=lo)(g:lo<2 ^ 62)(h:-(2 ^ 62)<=a)(i:a<2 ^ 62)
  (q:R (Itr lo (a-lo).toNat) H):wpAny (model X.prog X.w) X.A (pyIter (.ref s.heap.objs.size)) (PIE X pins σ tg R) E { s with heap:=s.heap.push { cls:=.type "range",data:=.fields #[.int lo t,.int a u,.int 1 v] },toks:=tk }:=by
 show wpAny_pyIter_range (IsRange.new ..) (small_one h1 g h i) ?_;have c:Inv X pins σ H { s with heap:=s.heap.push { cls:=.type "range",data:=.fields #[.int lo t,.int a u,.int 1 v] },toks:=tk }:=I.kept fun b o e=>yw _ e;show⟨(s.heap.push { cls:=.type "range",data:=.fields #[.int lo t,.int a u,.int 1 v] }).objs.size,[(s.heap.push { cls:=.type "range",data:=.fields #[.int lo t,.int a u,.int 1 v] }).objs.size],_,_,H,rfl,
  c.kept (t':=tk) fun b o e=>yw _ e,turn_range _ lo (a-lo).toNat,?_,fun b j=>?_,q⟩
 .have d:lo+((0:Nat):Int)*1=lo:=by simp
  have f:(((a-lo).toNat:Nat):Int)-((0:Nat):Int)=Builtin.Range.rangeSize lo a 1:=by rw[rangeSize_one];split<;>lk
  show IsRangeIter _ _ (lo+((0:Nat):Int)*1) ((((a-lo).toNat:Nat):Int)-((0:Nat):Int)) 1;rw[d,f];show yR _ rfl
 .have e:b=(s.heap.push { cls:=.type "range",data:=.fields #[.int lo t,.int a u,.int 1 v] }).objs.size:=by simpa using j
  subst e;show c.fpOk (yh _) (c.hok.fresh (yh _))
def qeU(ta:TA):TI:=fun σ H R=>ta σ H fun vs a=>∃ j:Int,vs=[.int j]/\-(2 ^ 62)<=j/\j<2 ^ 62/\R (Itr 0 j.toNat) a
def qeV(ta:TA):TI:=fun σ H R=>ta σ H fun vs a=>∃ i j:Int,vs=[.int i,.int j]/\(-(2 ^ 62)<=i/\i<2 ^ 62/\-(2 ^ 62)<=j/\j<2 ^ 62)/\R (Itr i (j-i).toNat) a
theorem jx{a:Expr}(f:Gl X "range")(g:X.mg "range"=none)(d:PA X [a] ta)(i:starEach [a] X.env=[(false,eval a X.env)]:=by rfl):PI X tg (.Call (.Name "range" p) [a] [] pos) (qeU ta):=by
 intro pins s σ H R I h;show Call_ (qaf I f g boot_range (YH (thn (d pos pins s σ H _ I h) fun us o ⟨vs,n,c,m,b⟩=>?_) i rfl));obtain⟨j,e,b,l,q⟩:=b;subst e
 cases m with
 | cons r rr =>
  cases rr;obtain⟨t,rfl⟩:=r;show call_range_1 (qcM c (by lk) (by lk) b l (by simpa using q))
theorem pi_range2{a b:Expr}(l:Gl X "range")(m:X.mg "range"=none)(g:PA X [a,b] ta)(n:starEach [a,b] X.env=[(false,eval a X.env),(false,eval b X.env)]:=by rfl)(c:starEach [b] X.env=[(false,eval b X.env)]:=by rfl) :
  PI X tg (.Call (.Name "range" p) [a,b] [] pos) (qeV ta):=by
 intro pins s σ H R I h;show Call_ (qaf I l m boot_range (YH (thn (g pos pins s σ H _ I h) fun us y ⟨vs,x,f,w,d⟩=>?_) (by rw[n,c]) (by rw[c];rfl)));obtain⟨i,j,e,⟨d,o,u,v⟩,q⟩:=d;subst e
 cases w with
 | cons r rr =>
  cases rr with
  | cons r' rr =>
   cases rr;obtain⟨t,rfl⟩:=r;obtain⟨t',rfl⟩:=r';show call_range_2 (qcM f d o u v q)
def qfL(f:TI)(g:TG)(tb:TS):TS:=fun D σ H=>f σ H fun J d=>∃ W:Nat->Nat->St->Hp->Prop,(∃ m,W 0 m σ d)/\∀ i m σ H,W i m σ H ->
 (J.stop i H/\D.nx σ H)\/(J.go i H/\∃ N:St->Hp->Prop,(∀ a H',N a H'->∃ c,c<m/\W (i+1) c a H')/\∀ x H',J.yld i H x H'->g x σ H' fun b e=>tb { D with nx:=N,ct:=N,bk:=D.nx } b e)
noncomputable def qbO(fp:LQ)(h:Heap):List (Addr×Obj):=fp.filterMap fun b=>(h.get? b).map fun o=>(b,o)
theorem zL{o:Obj}(a:b∈fp)(e:h.get? b=some o):(b,o)∈qbO fp h:=List.mem_filterMap.mpr ⟨b,a,by rw[e];rfl⟩
theorem of_pinsAt{p:Addr×Obj}(d:p∈qbO fp h):p.1∈fp/\h.get? p.1=some p.2:=by
 obtain⟨b,c,e⟩:=List.mem_filterMap.mp d
 cases q:h.get? b with
 | none=>rw[q] at e;cases e
 | some o =>
  rw[q] at e;have a:(b,o)=p:=yn e;subst a;show⟨c,q⟩
theorem Inv.pinned(I:Inv X pins σ H s)(i:∀ b∈fp,qcl X pins H b)(j:∀ b∈fp,∃ o,s.heap.get? b=some o/\∀ v,o.data≠.cell v):Inv X (pins++qbO fp s.heap) σ H s:=
 I.pins_of fun p l=>(yC.mp l).elim (fun z=>I.pin p (yK _ z)) fun z=>by
  obtain⟨c,e⟩:=of_pinsAt z;obtain⟨f,g,h,_⟩:=i p.1 c;obtain⟨o,a,d⟩:=j p.1 c;rw[e] at a;cases a;show⟨e,f,g,h,d⟩
theorem Inv.unpinned{pl:List (Addr×Obj)}(I:Inv X (pins++pl) σ H s):Inv X pins σ H s:=I.pins_of fun p a=>I.pin p (yK _ (yJ _ a))
theorem q9{p:Expr}{wi:TI}(F:PassesOwn (model X.prog X.w) X.A X.env X.xe)(hc:X.calm=true)(hi:PI X tg p wi)(hg:PG X tg g)(l:PSs X body tb)
  (hs:∀ x,foldedSetIterable p X.env x=pure x:=by intro _;rfl):PS X (.For tg p body [] pos) (qfL wi g tb):=by
 intro pins s σ H D I h;show wpAny_For (thn (hi pins s σ H _ I h) fun v s1 h1=>thn h1 fun aa s2 h2=>?_) hs;obtain⟨it,fp,tn,J,H2,e,I2,T,U,f2,W,⟨m0,w0⟩,turn⟩:=h2;subst e;have q:∀{H':Hp},(∀ b∈fp,H' b=none)->∀ b∈fp,qcl X pins H' b:=fun hn b l=>⟨hn b l,(f2 b l).2⟩;show codeAny_forLoop_any (fun n s'=>∃ i t H',Inv X pins t H' s'/\tn i s'.heap/\(∀ b∈fp,H' b=none)/\W i n t H') ?_ m0 ⟨0,σ,H2,I2,U,fun b l=>(f2 b l).1,w0⟩;rintro n s3 ⟨i,y,M,I3,K,E,w3⟩;rcases turn i n y M w3 with⟨L,qn⟩ | ⟨go,N,hN,step⟩
 .show xB F (thn (T.done X rfl rfl rfl hc i pins s3 y M X.xe I3 (q E) K L) fun r s4 ⟨R,I4⟩=>?_);subst R;show XV ⟨y,M,I4,qn⟩
 .show xB F (thn (T.item X rfl rfl rfl hc i pins s3 y M X.xe I3 (q E) K go) fun r s4 ⟨u,R,h4⟩=>?_);subst R;show xB F (thn h4 fun _ s5 ⟨x,Z,I5,r5,y5,C,P⟩=>?_);have O:=I5.pinned (q P) (T.obj _ _ C);show xB F (thn (hg _ s5 y Z x u _ O r5 (step x Z y5)) fun _ s6 ⟨Y,H6,I6,q6⟩=>?_);show xB F (thn (l _ s6 Y H6 _ I6 q6) fun f S B=>?_)
  have again:∀{a:St} {c:Hp},Inv X (pins++qbO fp s5.heap) a c S->N a c->∃ m,m<n/\∃ i t H',Inv X pins t H' S/\tn i S.heap/\(∀ b∈fp,H' b=none)/\W i m t H':=fun{a c} j G=>by
   obtain⟨m',hm,w7⟩:=hN a c G;show⟨m',hm,i+1,a,c,j.unpinned,T.keep _ _ _ C fun b l o e=>(j.pin (b,o) (yK _ (yK _ (zL l e)))).1,fun b l=>?_,w7⟩;obtain⟨o,e,d⟩:=T.obj _ _ C b l;show(j.pin (b,o) (yK _ (yK _ (zL l e)))).2.1
  cases f with
  | next=>obtain⟨a,c,j,G⟩:=B;show again j G
  | cont=>obtain⟨a,c,j,G⟩:=B;show again j G
  | brk=>obtain⟨a,c,j,B⟩:=B;show⟨a,c,j.unpinned,B⟩
  | ret v=>obtain⟨x7,a,c,j,r7,B⟩:=B;show⟨x7,a,c,j.unpinned,r7,B⟩
end
theorem qP{K:yg}(b:Nat->St->Hp->Prop)(l:b 0 σ H)(hl:∀ i σ H,i<=xs.length->b i σ H->SqL K H a xs)
  (r:∀ i x σ H,xs[i]?=some x->b i σ H->g x σ H fun d h=>tb { D with nx:=b (i+1),ct:=b (i+1),bk:=D.nx } d h) (n:∀ σ H,b xs.length σ H->D.nx σ H) :
  ∃ W:Nat->Nat->St->Hp->Prop,(∃ m,W 0 m σ H)/\∀ i m σ H,W i m σ H ->
   ((Itl K a).stop i H/\D.nx σ H)\/((Itl K a).go i H/\∃ N:St->Hp->Prop,(∀ c H',N c H'->∃ j,j<m/\W (i+1) j c H')/\∀ x H',(Itl K a).yld i H x H'->g x σ H' fun d h=>tb { D with nx:=N,ct:=N,bk:=D.nx } d h):=by
 show⟨fun i m σ H=>m=xs.length-i/\i<=xs.length/\b i σ H,⟨xs.length,by simp,YF _,l⟩,?_⟩;rintro i m σ H ⟨rfl,o,p⟩;have q:=hl i σ H o p;by_cases f:i<xs.length
 .show .inr ⟨⟨xs,xs[i],q,by simp[f]⟩,b (i+1),fun c H' s=>⟨xs.length-(i+1),by lk,rfl,f,s⟩,fun x H' y=>?_⟩;obtain⟨e,y⟩:=y;subst e;show r i x σ _ (y xs q) p
 .have e:i=xs.length:=by lk
  subst e;show .inl ⟨⟨xs,q,yh _⟩,n σ H p⟩
theorem jJ(a:Nat->St->Hp->Prop)(j:a 0 σ H)
  (o:∀ i σ H,i<n->a i σ H->g (.int (lo+i)) σ H fun d f=>tb { D with nx:=a (i+1),ct:=a (i+1),bk:=D.nx } d f) (l:∀ σ H,a n σ H->D.nx σ H) :
  ∃ W:Nat->Nat->St->Hp->Prop,(∃ m,W 0 m σ H)/\∀ i m σ H,W i m σ H ->
   ((Itr lo n).stop i H/\D.nx σ H)\/((Itr lo n).go i H/\∃ N:St->Hp->Prop,(∀ c H',N c H'->∃ h,h<m/\W (i+1) h c H')/\∀ x H',(Itr lo n).yld i H x H'->g x σ H' fun d f=>tb { D with nx:=N,ct:=N,bk:=D.nx } d f):=by
 show⟨fun i m σ H=>m=n-i/\i<=n/\a i σ H,⟨n,by simp,YF _,j⟩,?_⟩;rintro i m σ H ⟨rfl,r,p⟩;by_cases b:i<n
 .show .inr ⟨b,a (i+1),fun c H' q=>⟨n-(i+1),by lk,rfl,b,q⟩,fun x H' y=>?_⟩;obtain⟨e,y⟩:=y;subst e y;show o i σ _ b p
 .have e:i=n:=by lk
  subst e;show .inl ⟨yh _,l σ H p⟩
abbrev R2:=V->V->Hp->VK->Prop
def OpR(X:Cx)(f:Value->Value->Sem Value)(r:R2):Prop:=
 ∀(pins:List (Addr×Obj)) (s:Shared) (σ:St) (H:Hp) (x y:V) (v u:Value) (Q:VK),Inv X pins σ H s->RelV x v->RelV y u->r x y H Q ->
  wpAny (model X.prog X.w) X.A (f v u) (EP X pins σ Q) X.xe s
def UnR(X:Cx)(f:Value->Sem Value)(r:V->Hp->VK->Prop):Prop:=
 ∀(pins:List (Addr×Obj)) (s:Shared) (σ:St) (H:Hp) (x:V) (v:Value) (Q:VK),Inv X pins σ H s->RelV x v->r x H Q ->
  wpAny (model X.prog X.w) X.A (f v) (EP X pins σ Q) X.xe s
def zG(X:Cx)(f:Value)(r:List V->Hp->VK->Prop):Prop:=
 ∀(pins:List (Addr×Obj)) (s:Shared) (σ:St) (H:Hp) (xs:List V) (us:List Value) (Q:VK),Inv X pins σ H s->Vals xs us->r xs H Q ->
  wpAny (model X.prog X.w) X.A (call f us) (EP X pins σ Q) X.xe s
def tOp(r:R2)(ta tb:TE):TE:=fun σ H Q=>ta σ H fun x a=>tb σ a fun y b=>r x y b Q
def tUn(r:V->Hp->VK->Prop)(ta:TE):TE:=fun σ H Q=>ta σ H fun x a=>r x a Q
def rI(C:Int->Int->Prop)(g:Int->Int->V):R2:=fun x y H Q=>∃ i j,x=.int i/\y=.int j/\C i j/\Q (g i j) H
def rI0(g:Int->Int->V):R2:=fun x y H Q=>∃ i j,x=.int i/\y=.int j/\Q (g i j) H
def rU(g:Int->V):V->Hp->VK->Prop:=fun x H Q=>∃ i,x=.int i/\Q (g i) H
section
variable{X:Cx}{a b c:Expr}{ta tb tc:TE}{pos:Pos}
theorem qft(m:PE X a ta)(n:PE X b tb){R:V->V->Hp->Prop}(I:Inv X pins σ H s)
  (h:ta σ H fun x i=>tb σ i fun y c=>R x y c) {Q:Value->Shared->Prop}
  (o:∀ v u g x y c,Inv X pins σ c g->RelV x v->RelV y u->R x y c->wpAny (model X.prog X.w) X.A (f v u) Q X.xe g) :
  wpAny (model X.prog X.w) X.A (eval a X.env) (fun v d=>wpAny (model X.prog X.w) X.A (eval b X.env) (fun u e=>wpAny (model X.prog X.w) X.A (f v u) Q X.xe e) X.xe d) X.xe s:=by
 show thn (m pins s σ H _ I h) fun v B ⟨x,i,j,r,p⟩=>?_;show thn (n pins B σ i _ j p) fun u g ⟨y,c,l,t,q⟩=>?_;show o v u g x y c l r t q
theorem qI{op:Operator}(g:OpR X (binaryOp op) r)(e:PE X a ta)(f:PE X b tb):PE X (.BinOp a op b pos) (tOp r ta tb):=by
 intro pins s σ H Q I h;show wpAny_BinOp (qft e f I h fun v u l x y c d i j q=>g pins l σ c x y v u Q d i j q)
theorem qbu{op:UnaryOp}{r:V->Hp->VK->Prop}(e:UnR X (unaryOp op) r)(d:PE X a ta):PE X (.UnaryOp op a pos) (tUn r ta):=by
 intro pins s σ H Q I h;show UnaryOp_ (thn (d pins s σ H _ I h) fun v i ⟨x,b,c,g,f⟩=>e pins i σ b x v Q c g f)
theorem opI{C:Int->Int->Prop}{g:Int->Int->Int}
  (a:∀(i j:Int) (t u:Tok) (s:Shared) (Q:Value->Shared->Prop) (E:Value->Shared->Prop),C i j->Q (.int (g i j) s.toks) { s with toks:=s.toks+1 }->wpAny (model X.prog X.w) X.A (f (.int i t) (.int j u)) Q E s) :
  OpR X f (rI C fun i j=>.int (g i j)):=by
 intro pins s σ H x y v u Q I b c h;obtain⟨i,j,rfl,rfl,hc,q⟩:=h;obtain⟨t,rfl⟩:=b;obtain⟨t',rfl⟩:=c;show a i j t t' s _ _ hc ⟨.int (g i j),H,I.tok _,⟨_,rfl⟩,q⟩
theorem qfk{g:Int->Int->Int}
  (a:∀(i j:Int) (t u:Tok) (s:Shared) (Q:Value->Shared->Prop) (E:Value->Shared->Prop),Q (.int (g i j) s.toks) { s with toks:=s.toks+1 }->wpAny (model X.prog X.w) X.A (f (.int i t) (.int j u)) Q E s) :
  OpR X f (rI0 fun i j=>.int (g i j)):=by
 intro pins s σ H x y v u Q I b c h;obtain⟨i,j,rfl,rfl,q⟩:=h;obtain⟨t,rfl⟩:=b;obtain⟨t',rfl⟩:=c;show a i j t t' s _ _ ⟨.int (g i j),H,I.tok _,⟨_,rfl⟩,q⟩
theorem qfl{g:Int->Int->Bool}
  (a:∀(i j:Int) (t u:Tok) (s:Shared) (Q:Value->Shared->Prop) (E:Value->Shared->Prop),Q (.bool (g i j)) s->wpAny (model X.prog X.w) X.A (f (.int i t) (.int j u)) Q E s) :
  OpR X f (rI0 fun i j=>.bl (g i j)):=by
 intro pins s σ H x y v u Q I b c h;obtain⟨i,j,rfl,rfl,q⟩:=h;obtain⟨t,rfl⟩:=b;obtain⟨t',rfl⟩:=c;show a i j t t' s _ _ ⟨.bl (g i j),H,I,rfl,q⟩
def CDiv(i j:Int):Prop:=0<j/\j<1073741824
def qfM(i j:Int):Prop:=0<=j/\j<=1000000/\i.natAbs<2 ^ 64
def CMul(i j:Int):Prop:=(-(2 ^ 64)<i/\i<2 ^ 64)\/(-(2 ^ 64)<j/\j<2 ^ 64)
theorem CMul.ok{i j:Int}(h:CMul i j):IntMulOk i j:=by
 rcases h with⟨h1,a⟩ | ⟨h1,a⟩
 .show .of_left (intBits_le_64 h1 a)
 .show .of_right (intBits_le_64 h1 a)
theorem two_pow_nn(k:Nat):(0:Int)<=2 ^ k:=by
 rw[two_pow_cast];show Int.natCast_nonneg _
theorem op_add:OpR X (binaryOp .Add) (rI0 fun i j=>.int (i+j)):=qfk fun _ _ _ _ _ _ _ q=>add_int q
theorem qcN:OpR X (binaryOp .Sub) (rI0 fun i j=>.int (i-j)):=qfk fun _ _ _ _ _ _ _ q=>sub_int q
theorem op_mul:OpR X (binaryOp .Mult) (rI CMul fun i j=>.int (i*j)):=opI fun _ _ _ _ _ _ _ hc q=>mul_int q hc.ok
theorem qdk:OpR X (binaryOp .FloorDiv) (rI CDiv fun i j=>.int (i / j)):=opI fun i j _ _ _ _ _ hc q=>by
 have h1:(0:Int)<j:=hc.1;have a:j<1073741824:=hc.2;show floordiv_int (by lk) (by rw[Int.fdiv_eq_ediv_of_nonneg i (by lk)];show q) (.inl (PyProof.noPylong_small (by lk)))
theorem zC:OpR X (binaryOp .Mod) (rI (fun _ j=>0<j) fun i j=>.int (i % j)):=opI fun i j _ _ _ _ _ hc q=>by
 have h1:(0:Int)<j:=hc;show mod_int' (by lk) (by rw[Int.fmod_eq_emod_of_nonneg i (by lk)];show q)
theorem op_pow:OpR X (binaryOp .Pow) (rI qfM fun i j=>.int (i ^ j.toNat)):=opI fun _ _ _ _ _ _ _ hc q=>pow_int_small hc.1 hc.2.1 hc.2.2 q
theorem qd8:OpR X (binaryOp .LShift) (rI qfM fun i j=>.int (i*2 ^ j.toNat)):=opI fun _ _ _ _ _ _ _ hc q=>lshift_int_small hc.1 hc.2.1 hc.2.2 q
theorem op_shr:OpR X (binaryOp .RShift) (rI (fun _ j=>0<=j) fun i j=>.int (i / 2 ^ j.toNat)):=opI fun i j _ _ _ _ _ hc q =>
 rshift_int hc (by rw[Int.fdiv_eq_ediv_of_nonneg i (two_pow_nn _)];show q)
theorem op_and:OpR X (binaryOp .BitAnd) (rI0 fun i j=>.int (Builtin.bitAnd i j)):=qfk fun _ _ _ _ _ _ _ q=>and_int q
theorem qeW:OpR X (binaryOp .BitOr) (rI0 fun i j=>.int (Builtin.bitOr i j)):=qfk fun _ _ _ _ _ _ _ q=>or_int q
theorem unI{f:Value->Sem Value}{g:Int->Int}
  (a:∀(i:Int) (t:Tok) (s:Shared) (Q:Value->Shared->Prop) (E:Value->Shared->Prop),Q (.int (g i) s.toks) { s with toks:=s.toks+1 }->wpAny (model X.prog X.w) X.A (f (.int i t)) Q E s) :
  UnR X f (rU fun i=>.int (g i)):=by
 intro pins s σ H x v Q I b h;obtain⟨i,rfl,q⟩:=h;obtain⟨t,rfl⟩:=b;show a i t s _ _ ⟨.int (g i),H,I.tok _,⟨_,rfl⟩,q⟩
theorem qag:UnR X (unaryOp .USub) (rU fun i=>.int (-i)):=unI fun _ _ _ _ _ q=>neg_int q
end
noncomputable def scal:V->V->Bool
 | .non,.non=>true | .non,.int _=>true | .int _,.non=>true | .non,.bl _=>true | .bl _,.non=>true | .non,.str _=>true | .str _,.non=>true
 | .int _,.int _=>true | .bl _,.bl _=>true | .str _,.str _=>true | .byt _,.byt _=>true
 | .int _,.str _=>true | .str _,.int _=>true | .bl _,.str _=>true | .str _,.bl _=>true
 | _,_=>false
def rEq:R2:=fun x y H Q=>scal x y=true/\Q (.bl (decide (x=y))) H
theorem dec_bl{i j:Bool}:decide (V.bl i=V.bl j)=(i==j):=by
 rw[xn];simp
section
variable{X:Cx}{a b c:Expr}{ta tb tc:TE}{pos:Pos}
theorem qcO{Q:VK}{k k':Bool}(I:Inv X pins σ H s)(q:Q (.bl k) H)(e:k=k'):EP X pins σ Q (.bool k') s:=by
 subst e;show⟨.bl k,H,I,rfl,q⟩
theorem qdl:OpR X (compareOp .Lt) (rI0 fun i j=>.bl (decide (i<j))):=qfl fun _ _ _ _ _ _ _ q=>lt_int q
theorem op_le:OpR X (compareOp .LtE) (rI0 fun i j=>.bl (decide (i<=j))):=qfl fun _ _ _ _ _ _ _ q=>le_int q
theorem qdb:OpR X (compareOp .Gt) (rI0 fun i j=>.bl (decide (j<i))):=qfl fun _ _ _ _ _ _ _ q=>gt_int q
theorem op_ge:OpR X (compareOp .GtE) (rI0 fun i j=>.bl (decide (j<=i))):=qfl fun _ _ _ _ _ _ _ q=>ge_int q
theorem op_isN:OpR X (compareOp .Is) (fun x y H Q=>y=.non/\Q (.bl (decide (x=.non))) H):=by
 intro pins s σ H x y v u Q I a b h;obtain⟨rfl,q⟩:=h;cases b;show is_none_gen (qcO I q ?_);cases x<;>first
  | (cases a;rfl)
  | (obtain⟨t,rfl⟩:=a;rfl)
theorem qcm:OpR X (compareOp .IsNot) (fun x y H Q=>y=.non/\Q (.bl (!decide (x=.non))) H):=by
 intro pins s σ H x y v u Q I a b h;obtain⟨rfl,q⟩:=h;cases b;show isnot_none_gen (qcO I q ?_);cases x<;>first
  | (cases a;rfl)
  | (obtain⟨t,rfl⟩:=a;rfl)
theorem qx(b:Expr)(h:op≠.In:=by decide)(d:op≠.NotIn:=by decide):behindInMarks op b=false:=by
 have a:(op==CmpOp.In)=false:=by cases op<;>first | rfl | show absurd rfl h
 have c:(op==CmpOp.NotIn)=false:=by cases op<;>first | rfl | show absurd rfl d
 cases b<;>simp[behindInMarks,a,c]
theorem jt(i:OpR X (compareOp op) r)(e:PE X a ta)(f:PE X b tb)(g:behindInMarks op b=false):PE X (.Compare a [op] [b] pos) (tOp r ta tb):=by
 intro pins s σ H Q I h;show wpAny_Compare1 (qft e f I h fun v u m x y c d j l q=>i pins m σ c x y v u Q d j l q) g
def qey(t:TE):TT:=fun σ H Q=>t σ H fun x H'=>∃ k,x=.bl k/\Q k H'
theorem qj(p:OpR X (compareOp op) r)(m:PE X a ta)(n:PE X b tb)(o:behindInMarks op b=false):PT X (.Compare a [op] [b] pos) (qey (tOp r ta tb)):=by
 intro pins s σ H Q I h
 show wpAny_isTrue_Compare1 (thn (m pins s σ H _ I h) fun v D ⟨x,d,i,A,q⟩=>thn (n pins D σ d _ i q) fun u E ⟨y,f,j,B,t⟩ =>
  thn (p pins E σ f x y v u _ j A B t) fun c F ⟨z,g,l,C,k,e,w⟩=>?_) o
 subst e;cases C;show xj ⟨g,l,w⟩
def qdm(r r':R2)(ta tb tc:TE):TE:=fun σ H Q=>ta σ H fun x b=>tb σ b fun y c=>r x y c fun z a=>∃ k,z=.bl k /\
 (if k=true then tc σ a fun e d=>r' y e d Q else Q (.bl false) a)
theorem pe_chain(C:OpR X (compareOp op) r)(f:OpR X (compareOp op') r')(w:PE X a ta)(A:PE X b tb)(hc:PE X c tc)
  (B:lastMarks [op,op'] [b,c]=false:=by with_unfolding_all rfl):PE X (.Compare a [op,op'] [b,c] pos) (qdm r r' ta tb tc):=by
 intro pins s σ H Q I h
 show Compare_chain (thn (w pins s σ H _ I h) fun v L ⟨x,m,p,G,D⟩=>chain_link (thn (A pins L σ m _ p D) fun u M ⟨y,n,q,l,E⟩ =>
  thn (C pins M σ n x y v u _ q G l E) fun d N ⟨z,g,i,J,k,e,j⟩=>?_)) B
 subst e;cases J;show xj ?_
 cases k with
 | false=>show ite_ff ⟨.bl false,g,i,rfl,j⟩
 | true=>show ite_tt (chain_last (thn (hc pins N σ g _ i j) fun P O ⟨R,o,t,K,F⟩=>f pins O σ o y R u P Q t l K F))
theorem pt_chain(G:OpR X (compareOp op) r)(f:OpR X (compareOp op') r')(D:PE X a ta)(E:PE X b tb)(hc:PE X c tc)
  (F:lastMarks [op,op'] [b,c]=false:=by with_unfolding_all rfl):PT X (.Compare a [op,op'] [b,c] pos) (qey (qdm r r' ta tb tc)):=by
 intro pins s σ H Q I h
 show isTrue_chain (thn (D pins s σ H _ I h) fun v T ⟨x,m,q,O,K⟩=>test_link (thn (E pins T σ m _ q K) fun u U ⟨y,n,t,l,L⟩ =>
  thn (G pins U σ n x y v u _ t O l L) fun d W ⟨z,g,i,P,k,e,j⟩=>?_)) F
 subst e;cases P;show xj ?_
 cases k with
 | false =>
  obtain⟨k',B,J⟩:=j;cases B;show ite_ff ⟨g,i,J⟩
 | true =>
  show ite_tt (test_last (thn (hc pins W σ g _ i j) fun Z Y ⟨z',o,w,R,M⟩=>thn (f pins Y σ o y z' u Z _ w l R M) fun d' s5 ⟨z2,p,A,S,k2,C,N⟩=>?_));subst C;cases S;show xj ⟨p,A,N⟩
theorem qbg:(sizeLine:Nat)<2 ^ 63:=by rw[Yi];decide
theorem op_add_str:OpR X (binaryOp .Add) (fun x y H Q=>∃ i j,x=.str i/\y=.str j/\i.length+j.length<=sizeLine/\Q (.str (i++j)) H):=by
 intro pins s σ H x y v u Q I a b h;obtain⟨i,j,rfl,rfl,hz,q⟩:=h;obtain⟨t,rfl⟩:=a;obtain⟨t',rfl⟩:=b;show add_str (fun t' tk=>⟨.str (i++j),H,I.tok _,⟨_,rfl⟩,q⟩) hz
theorem qaQ{x:V}(r:Vals [x] us):∃ u,us=[u]/\RelV x u:=by
 cases r with
 | cons r1 r2=>cases r2;show⟨_,rfl,r1⟩
theorem qdn{x:V}(r:Vals [x,y] us):∃ u a,us=[u,a]/\RelV x u/\RelV y a:=by
 cases r with
 | cons r1 r2 =>
  cases r2 with
  | cons r3 r4=>cases r4;show⟨_,_,rfl,r1,r3⟩
theorem call_max2(hc:X.calm=true):zG X (.builtin "max") (fun xs H Q=>∃ i j,xs=[.int i,.int j]/\Q (.int (if j>i then j else i)) H):=by
 intro pins s σ H xs us Q I r h;obtain⟨i,j,rfl,q⟩:=h;obtain⟨u,b,rfl,⟨t,rfl⟩,⟨t',rfl⟩⟩:=qdn r;show max_two_ints (I.ok.hd hc) fun h' tk k=>⟨_,H,I.kept k,?_,q⟩;by_cases a:j>i
 .rw [yF a,yF a];show⟨_,rfl⟩
 .rw [yA a,yA a];show⟨_,rfl⟩
theorem qah(hc:X.calm=true):zG X (.builtin "min") (fun xs H Q=>∃ i j,xs=[.int i,.int j]/\Q (.int (if j<i then j else i)) H):=by
 intro pins s σ H xs us Q I r h;obtain⟨i,j,rfl,q⟩:=h;obtain⟨u,b,rfl,⟨t,rfl⟩,⟨t',rfl⟩⟩:=qdn r;show min_two_ints (I.ok.hd hc) fun h' tk k=>⟨_,H,I.kept k,?_,q⟩;by_cases a:j<i
 .rw [yF a,yF a];show⟨_,rfl⟩
 .rw [yA a,yA a];show⟨_,rfl⟩
theorem call_int1:zG X (.type "int") (fun xs H Q=>(∃ i,xs=[.int i]/\Q (.int i) H)\/∃ k,xs=[.bl k]/\Q (.int (if k then 1 else 0)) H):=by
 intro pins s σ H xs us Q I r h;rcases h with⟨i,rfl,q⟩ | ⟨k,rfl,q⟩
 .obtain⟨u,rfl,t,rfl⟩:=qaQ r;show call_int_int ⟨.int i,H,I,⟨_,rfl⟩,q⟩
 .obtain⟨u,rfl,a⟩:=qaQ r;cases a;show call_int_bool ⟨.int (if k then 1 else 0),H,I.tok _,⟨_,rfl⟩,q⟩
end
structure ObjM(h:Heap)(x dx C:Addr)(mA:Str->Option Value):Prop where
 obj:h.get? x=some (PySem.W.instObj C dx)
 ns:h.Ns1 dx mA
 ne:dx≠x
theorem qbP(n:h.Ns1 dx mA):∃ od,h.get? dx=some od/\∀ name,PySem.W.lookIn name od=some (mA name):=by
 obtain⟨o,es,ep,i,d,f,_,g⟩:=n;show⟨o,i,fun name=>?_⟩;have e:=g name;unfold nsFind findBy at e;rw[<- Array.find?_toList] at e;unfold PySem.W.lookIn;rw[d];dsimp only;split
 .rename_i y q
  rw[q] at e;show congrArg some e
 .rename_i q
  rw[q] at e
  have a:es.toList.any (·.refKey)=false:=by
   rw[List.any_eq_false];intro y j;obtain⟨z,t,b⟩:=f y (Array.mem_toList_iff.mp j);simp[DictEntry.refKey,b]
  have c:¬ es.toList.any (·.refKey)=true:=by rw[a];show Yq
  rw[yA c];show congrArg some e
theorem ObjM.look{x:Addr}(I:ObjM h x dx C mA):∃ od,PySem.W.InstAt h x (PySem.W.instObj C dx) C (some od)/\∀ name,PySem.W.lookIn name od=some (mA name):=
 let ⟨od,ho,hl⟩:=qbP I.ns
 ⟨od,⟨I.obj,rfl,rfl,ho⟩,hl⟩
section
variable{prog:Program}{w:World}{A:Around}{E:Value->Shared->Prop}{s:Shared}{K:yg}{x dx C f:Addr}{mA:Str->Option Value}{name:Str}{v:Value}
theorem get_map{a:Bool}{Q:Value->Shared->Prop}(X:K.In s.heap)(I:ObjM s.heap x dx C mA)(d:PySem.W.plainGet K C name=true)(e:PySem.W.hasDictIn K C=true)
  (c:PySem.W.findIn K (.ref C) name=some none) (hv:mA name=some v) (b:PySem.W.handedIn v=true) (h:Q v { s with toks:=s.toks+1 }) :
  wpAny (model prog w) A (getAttr (.ref x) name a) Q E s:=by
 obtain⟨od,J,hl⟩:=I.look;show PySem.W.get_value X J (X2 d).1 (PySem.W.findObj_own e c rfl (by rw[hl,hv])) b h
theorem get_meth{pl:Sem Bool}{Q:Value×List Value->Shared->Prop}(X:K.In s.heap)(I:ObjM s.heap x dx C mA)(a:PySem.W.plainGet K C name=true)
  (b:PySem.W.findIn K (.ref C) name=some (some (.ref f))) (c:PySem.W.isFn K (.ref f)=true) (hv:mA name=none) (h:Q (.ref f,[.ref x]) s) :
  wpAny (model prog w) A (getMethod (.ref x) name pl) Q E s:=by
 obtain⟨od,J,hl⟩:=I.look;show PySem.W.method_fn X J (X2 a).1 (X2 a).2 b (Yo.mp c) (by show(PySem.W.lookIn name od).map (·.isSome)=some false;rw[hl,hv];rfl) h
theorem set_map{ns:LS}{Q:Unit->Shared->Prop}(X:K.In s.heap)(I:ObjM s.heap x dx C mA)
  (o:PySem.W.findIn K (.ref C) "__setattr__"=some (some (.builtin "object.__setattr__"))) (n:PySem.W.plainOver K C=true) (p:PySem.W.takerIn K C name=some none) (m:PySem.W.hasDictIn K C=true)
  (hw:PySem.Within mA ns) (hsz:ns.length<=sizeLine)
  (h:∀ h',ObjM h' x dx C (fun y=>if y=name then some v else mA y)->Heap.SameBut dx s.heap h'->Q () { s with heap:=h',toks:=s.toks+2 }) :
  wpAny (model prog w) A (setAttr (.ref x) name v) Q E s:=by
 obtain⟨od,J,hl⟩:=I.look;show PySem.W.set_plain X J o (PySem.W.osa_open (s:={ s with toks:=s.toks+1 }) (r:=none) X J n p fun b=>?_);obtain⟨t,hc,f⟩:=xK m;have q:s.heap.get? x=some ⟨.ref C,some dx,.plain,#[]⟩:=I.obj;show yt (yv (yt (yt (wpAny_loadPart q (yt (PySem.W.Looks.here (s:={ s with toks:=s.toks+1 }) (X3 X hc) ?_))))));rw[f];show yv (a:=some dx) (yt (yv (yt ?_)));show wpAny_nsSet1 (s:={ s with toks:=s.toks+1 }) I.ns fun h' c d=>?_;obtain⟨u,l,j,i,g,e⟩:=c.count (PySem.Within.cons name v hw);show yt (wpAny_lookBehind i (by rw[g];show pastItsLine_dict (yi e (by rw[yD];lk))) ?_);show yv (h _ ⟨(d.2 _ (yZ I.ne)).trans I.obj,c,I.ne⟩ d)
theorem make_map{R:Result->Shared->Prop}{vs:List Value}(X:K.In s.heap)(c:PySem.W.makesIn K C=true)
  (b:PySem.W.findIn K (.ref C) "__init__"=some (some (.ref f))) (a:PySem.W.typeIn K (.ref f)=some (.type "function"))
  (h:codeAny (model prog w) (A.under (.builtin "type.__call__" ⟨.ref C::vs,kw⟩)) (.call (.ref f) ⟨.ref (s.heap.objs.size+1)::vs,kw⟩) (PySem.W.InitBack (s.heap.objs.size+1) R)
   { s with heap:=(s.heap.push PySem.W.emptyDict).push (PySem.W.instObj C s.heap.objs.size) }) :
  codeAny (model prog w) A (.call (.ref C) ⟨vs,kw⟩) R s:=by
 obtain⟨e,g,d,t,i⟩:=s;show PySem.W.make_core (PySem.W.makes_of X c) (Y9 X b) (fun self=>PySem.W.bind_fn X self a) (.inl rfl) h
end
noncomputable def qD(f:Str)(v:V):List (Str×V)->List (Str×V)
 | []=>[(f,v)]
 | (g,x)::r=>if g=f then(g,v)::r else(g,x)::qD f v r
theorem qB(f g:Str)(v:V):∀ fs:List (Str×V),(qD f v fs).lookup g=if g=f then some v else fs.lookup g
 | []=>by
  show List.lookup g [(f,v)]=_;by_cases h:g=f
  .have a:(g==f)=true:=Yo.mpr h;simp only[List.lookup,a,yF h]
  .have a:(g==f)=false:=YE.mpr h;simp only[List.lookup,a,yA h]
 | (k,x)::r=>by
  have c:=qB f g v r;rw[show qD f v ((k,x)::r)=(if k=f then(k,v)::r else(k,x)::qD f v r) from rfl];by_cases b:k=f
  .rw [yF b];by_cases h:g=k
   .have a:(g==k)=true:=Yo.mpr h;simp only[List.lookup,a,yF (h.trans b)]
   .have a:(g==k)=false:=YE.mpr h;simp only[List.lookup,a,yA (fun e:g=f=>h (e.trans b.symm))]
  .rw [yA b];by_cases h:g=k
   .have a:(g==k)=true:=Yo.mpr h;simp only[List.lookup,a,yA (fun e:g=f=>b (h.symm.trans e))]
   .have a:(g==k)=false:=YE.mpr h;simp only[List.lookup,a];show c
theorem qaR(f:Str)(v:V):∀ fs:List (Str×V),f∈(qD f v fs).map (·.1)/\∀ g,g∈fs.map (·.1)->g∈(qD f v fs).map (·.1)
 | []=>⟨by simp[qD],fun g h=>by simp at h⟩
 | (k,x)::r=>by
  obtain⟨b,c⟩:=qaR f v r;rw[show qD f v ((k,x)::r)=(if k=f then(k,v)::r else(k,x)::qD f v r) from rfl];by_cases a:k=f
  .rw [yF a];subst a;show⟨by simp,fun g h=>by simpa using h⟩
  .rw [yA a];show⟨?_,fun g h=>?_⟩
   .rw [Yu];show yI _ b
   .rw [Yu] at h ⊢;rcases yB.mp h with e | e
    .show yB.mpr (.inl e)
    .show yI _ (c g e)
theorem ju(f:Str)(v:V):∀ fs:List (Str×V),(qD f v fs).length<=fs.length+1
 | []=>by simp[qD]
 | (k,x)::r=>by
  have b:=ju f v r;rw[show qD f v ((k,x)::r)=(if k=f then(k,v)::r else(k,x)::qD f v r) from rfl];by_cases a:k=f
  .rw [yF a,yD,yD];lk
  .rw [yA a,yD,yD];lk
theorem RelO.some_of{o:Option Value}(r:RelO (some v) o):∃ u,o=some u/\RelV v u:=by
 cases o with
 | none=>show(show False from r).elim
 | some u=>show⟨u,rfl,r⟩
theorem RelO.none_of{o:Option Value}(r:RelO none o):o=none:=by
 cases o with
 | none=>rfl
 | some u=>show(show False from r).elim
theorem qbQ(r:RelV v u):PySem.W.handedIn u=true:=by
 cases v with
 | non=>cases (show u=Value.none from r);rfl
 | bl b=>cases (show u=Value.bool b from r);rfl
 | int i=>obtain⟨t,e⟩:=(show ∃ t,u=Value.int i t from r);cases e;rfl
 | str x=>obtain⟨t,e⟩:=(show ∃ t,u=Value.str x t from r);cases e;rfl
 | byt b=>obtain⟨t,e⟩:=(show ∃ t,u=Value.bytes b t from r);cases e;rfl
 | flt b=>obtain⟨t,e⟩:=(show ∃ t,u=Value.float b t from r);cases e;rfl
 | ref a=>cases (show u=Value.ref a from r);rfl
 | ty n=>cases (show u=Value.type n from r);rfl
section
variable{P:Program}{w:World}{H H':Hp}{h h':Heap}{a C dx:Addr}{fs fs':List (Str×V)}
theorem qau(b:HOk P w H h)(e:H a=some (.ins C dx fs)):∃ mA,ObjM h a dx C mA/\(∀ f,RelO (fs.lookup f) (mA f))/\PySem.Within mA (fs.map (·.1))/\fs.length<=1000/\H dx=some (.own a):=by
 obtain⟨d,z,ne,c,mA,n,r,q⟩:=(show ObjOk P w H h a (.ins C dx fs) from b a _ e);show⟨mA,⟨c,n,ne⟩,r,q,z,d⟩
end
structure Cls(K:yg)(C:Addr):Prop where
 pg:PySem.W.plainGet K C Str.empty=true
 hd:PySem.W.hasDictIn K C=true
 po:PySem.W.plainOver K C=true
 sa:PySem.W.findIn K (.ref C) "__setattr__"=some (some (.builtin "object.__setattr__"))
theorem Cls.get{K:yg}(c:Cls K C)(f:Str):PySem.W.plainGet K C f=true:=c.pg
def NoAttr(K:yg)(C:Addr)(f:Str):Prop:=PySem.W.findIn K (.ref C) f=some none
theorem NoAttr.taker{K:yg}{f:Str}(n:NoAttr K C f):PySem.W.takerIn K C f=some none:=by
 unfold PySem.W.takerIn;rw[show PySem.W.findIn K (.ref C) f=some none from n];rfl
structure Con(K:yg)(C:Addr)(f:Str)(v:V)(u:Value):Prop where
 at_:PySem.W.findIn K (.ref C) f=some (some u)
 rel:RelV v u
 get:PySem.W.specialIn K u "__get__"=some none
 cp:PySem.W.copiedNames.contains f=false
structure Meth(K:yg)(C:Addr)(m:Str)(f:Addr):Prop where
 at_:PySem.W.findIn K (.ref C) m=some (some (.ref f))
 fn:PySem.W.isFn K (.ref f)=true
 kp:PySem.W.keepIn K (.ref f)=true
section
variable{X:Cx}{pins:List (Addr×Obj)}{σ:St}{H:Hp}{s:Shared}{a C dx:Addr}{fs:List (Str×V)}{f:Str}{v:V}{A:Around}{E:Value->Shared->Prop}
theorem getattr_ok{b:Bool}{Q:Value->Shared->Prop}(I:Inv X pins σ H s)(e:H a=some (.ins C dx fs))(c:Cls X.K C)(n:NoAttr X.K C f)(l:fs.lookup f=some v)
  (h:∀ u s',Inv X pins σ H s'->RelV v u->Q u s'):wpAny (model X.prog X.w) A (getAttr (.ref a) f b) Q E s:=by
 obtain⟨mA,O,r,_,_,_⟩:=qau I.hok e;obtain⟨u,g,d⟩:=RelO.some_of (v:=v) (o:=mA f) (by rw[<- l];show r f);show get_map I.kIn O (c.get f) c.hd n g (qbQ d) (h u _ (I.tok _) d)
theorem qbh{m:Str}{g:Addr}{pl:Sem Bool}{Q:Value×List Value->Shared->Prop}(I:Inv X pins σ H s)(e:H a=some (.ins C dx fs))(c:Cls X.K C)(k:Meth X.K C m g)(l:fs.lookup m=none)
  (h:Q (.ref g,[.ref a]) s):wpAny (model X.prog X.w) A (getMethod (.ref a) m pl) Q E s:=by
 obtain⟨mA,O,r,_,_,_⟩:=qau I.hok e;have b:mA m=none:=RelO.none_of (by rw[<- l];show r m);show get_meth I.kIn O (c.get m) k.at_ k.fn b h
theorem setattr_ok{Q:Unit->Shared->Prop}(I:Inv X pins σ H s)(e:H a=some (.ins C dx fs))(c:Cls X.K C)(n:NoAttr X.K C f)(hl:fs.length<1000)(t:RelV y u)
  (h:∀ s',Inv X pins σ (upd H a (.ins C dx (qD f y fs))) s'->Q () s'):wpAny (model X.prog X.w) A (setAttr (.ref a) f u) Q E s:=by
 obtain⟨mA,O,r,j,_,i⟩:=qau I.hok e;have hz:(fs.map (·.1)).length<=sizeLine:=by rw[ya,Yi];lk
 show set_map I.kIn O c.sa c.po n.taker c.hd j hz fun h' d v=>h _ ?_;have m:∃ o,h'.get? dx=some o:=let ⟨o,_,_,e',_⟩:=d.ns;⟨o,e'⟩;show I.write (x:=a) (e:=dx) (by rw[e];show YZ) (.inr i) (fun b q l z=>(v.2 b l).trans z) m ?_;show⟨by rw[qe O.ne];show i,?_,O.ne,d.obj,_,d.ns,fun g=>?_,fun g p=>?_⟩
 .have:=ju f y fs;lk
 .show RelO ((qD f y fs).lookup g) (if g=f then some u else mA g);rw[qB];by_cases q:g=f
  .rw [yF q,yF q];show t
  .rw [yA q,yA q];show r g
 .by_cases q:g=f
  .rw [q];show(qaR f y fs).1
  .show(qaR f y fs).2 g (j g fun z=>p ?_);show(if g=f then some u else mA g)=none;rw[yA q];show z
theorem Inv.made(I:Inv X pins σ H s):Inv X pins σ (upd (upd H s.heap.objs.size (.own (s.heap.objs.size+1))) (s.heap.objs.size+1) (.ins C s.heap.objs.size []))
  { s with heap:=(s.heap.push PySem.W.emptyDict).push (PySem.W.instObj C s.heap.objs.size) }:=by
 have c:(s.heap.push PySem.W.emptyDict).get? s.heap.objs.size=some PySem.W.emptyDict:=yR s.heap rfl
 have f:((s.heap.push PySem.W.emptyDict).push (PySem.W.instObj C s.heap.objs.size)).get? (s.heap.objs.size+1)=some (PySem.W.instObj C s.heap.objs.size):=by
  have:=yR (s.heap.push PySem.W.emptyDict) (o:=PySem.W.instObj C s.heap.objs.size) rfl
  rwa[xy] at this
 have g:(s.heap.push PySem.W.emptyDict).Ns s.heap.objs.size (fun _=>none):=⟨PySem.W.emptyDict,#[],_,c,rfl,(fun e h=>absurd h (by simp)),fun _=>rfl⟩;have d:=I.laid (a:=s.heap.objs.size) (o:=.own (s.heap.objs.size+1)) (h':=s.heap.push PySem.W.emptyDict) (t':=s.toks) (fun b u q=>yw _ q) (yh _) ⟨_,c⟩;show d.laid (a:=s.heap.objs.size+1) (o:=.ins C s.heap.objs.size []) (t':=s.toks) (fun b u q=>yw _ q) (xG (xy _ _)) ?_;have ne:s.heap.objs.size≠s.heap.objs.size+1:=yE (xL _);show⟨by rw[qe ne,qb],YF _,ne,f,fun _=>none,(Heap.Ns1.of_empty g).at fun o q=>yw _ q,fun _=>YZ,fun y i=>absurd rfl i⟩
theorem attr_of{prog:Program}{env:Env}{f:Str}{Q:Value->Shared->Prop}(b:attributeBase e f env (eval e env)=eval e env)
  (h:wpAny (model prog w) A (eval e env) (fun o a=>wpAny (model prog w) A (getAttr o f true) Q E a) E s):wpAny (model prog w) A (eval (.Attribute e f pos) env) Q E s:=
 Attribute_any_ h (by rw[arm_eval_Attribute,b])
end
section
variable{X:Cx}{o e value:Expr}{f:Str}{pos pos' tpos:Pos}{ta tv:TE}
end
section
variable{X:Cx}{pins:List (Addr×Obj)}{σ:St}{H:Hp}{s:Shared}{A:Around}{E:Value->Shared->Prop}{Q:Value->Shared->Prop}{c:Value}{b:Bool}
inductive TyOf(K:yg)(H:Hp):V->Value->Prop where
 | non:TyOf K H .non (.type "NoneType")
 | bl (x:Bool):TyOf K H (.bl x) (.type "bool")
 | int (i:Int):TyOf K H (.int i) (.type "int")
 | str (x:Str):TyOf K H (.str x) (.type "str")
 | flt (x:UInt64):TyOf K H (.flt x) (.type "float")
 | lst {a:Addr} {xs:List V} (e:H a=some (.lst xs)):TyOf K H (.ref a) (.type "list")
 | frz {a:Addr} {o:Obj} {xs:List V} (e:H a=some (.frz o (.lst xs))):TyOf K H (.ref a) (.type "list")
 | tup {a:Addr} {xs:List V} (e:H a=some (.tup xs)):TyOf K H (.ref a) (.type "tuple")
 | dK {a:Addr} {kvs:List (Key×V)} (e:H a=some (.dK kvs)):TyOf K H (.ref a) (.type "dict")
 | dT {a:Addr} {kvs:List (List Key×V)} (e:H a=some (.dT kvs)):TyOf K H (.ref a) (.type "dict")
 | ins {a C dx:Addr} {fs:List (Str×V)} (e:H a=some (.ins C dx fs)) (cl:Cls K C) (ha:PySem.W.findIn K (.ref C) "__class__"=some (some (.builtin "object.__class__")))
   (hn:PySem.W.specialIn K (.builtin "object.__class__") "__get__"=some (some (.builtin "getset_descriptor.__get__"))) (htk:PySem.W.takesIn K (.builtin "object.__class__")=some true)
   (hm:PySem.W.mroIn K C (.type "object")=some true):TyOf K H (.ref a) (.ref C)
end
structure Room(k:Nat)(A:Around):Prop where
 hd:A.handled=none
 dp:A.depth+3*k+5<recursionLimit
 un:A.units+16*k+200<cLine
 gd:A.guards=some []
theorem Room.mono{k:Nat}(r:Room k A)(h:j<=k):Room j A:=⟨r.hd,by have:=r.dp;lk,by have:=r.un;lk,r.gd⟩
theorem Room.deeper{k:Nat}(r:Room (k+1) A)(env:Env):Room k (A.deeper env):=
 ⟨r.hd,by have:=r.dp;show A.depth+1+3*k+5<_;lk,by have:=r.un;show A.units+3+16*k+200<_;lk,r.gd⟩
theorem Room.in1{k:Nat}(r:Room (k+1) A):Room k A.in1:=
 ⟨r.hd,by have:=r.dp;show A.depth+3*k+5<_;lk,by have:=r.un;show A.units+1+16*k+200<_;lk,r.gd⟩
theorem make_depth:(A.under (.builtin "type.__call__" ⟨.ref C::us,kw⟩)).depth=A.depth+1:=by
 first | rfl | simp[Around.under,Code.weight,Code.isCreation,Code.isGuard,Code.isCaller,Code.frames,Code.isFrame,guardIds]
theorem make_units:(A.under (.builtin "type.__call__" ⟨.ref C::us,kw⟩)).units=A.units+1:=by
 first | rfl | simp[Around.under,Code.cUnits,Code.frames,Code.isFrame]
theorem make_guards:(A.under (.builtin "type.__call__" ⟨.ref C::us,kw⟩)).guards=A.guards:=by
 first | rfl | simp[Around.under,Code.guards,Code.isGuard,guardIds,pushGuards]
theorem Room.make{k:Nat}(r:Room (k+1) A)(C:Addr)(us:List Value)(kw:List (Str×Value)):Room k (A.under (.builtin "type.__call__" ⟨.ref C::us,kw⟩)):=
 ⟨r.hd,by have:=r.dp;rw[make_depth];lk,by have:=r.un;rw[make_units];lk,by rw[make_guards];show r.gd⟩
theorem Room.depth{k:Nat}(r:Room k A):A.depth<recursionLimit:=by have:=r.dp;lk
def qfm:TA:=fun _ H Q=>Q [] H
def qeX(ta:TE)(c:TA):TA:=fun σ H Q=>ta σ H fun x a=>c σ a fun xs b=>Q (x::xs) b
section
variable{X:Cx}{e:Expr}{es:List Expr}{te:TE}{t:TA}{pos:Pos}
theorem qd:PA X [] qfm:=fun _ _ _ _ H Q I h=>kh ⟨[],H,I,.nil,h⟩
theorem qa(f:PE X e te)(g:PA X es t)(i:starEach (e::es) X.env=(false,eval e X.env)::starEach es X.env:=by rfl):PA X (e::es) (qeX te t):=by
 intro pos pins s σ H Q I h;rw[i];show wpAny _ _ (spliced ((false,eval e X.env)::backTo pos (starEach es X.env))) _ _ s;show X8 (thn (f pins s σ H _ I h) fun u o ⟨x,a,c,m,j⟩=>?_);show thn (g pos pins o σ a _ c j) fun us p ⟨xs,b,d,n,l⟩=>⟨x::xs,b,d,.cons m n,l⟩
inductive NewT(xs:List V)(H:Hp)(Q:VK):Prop|mk (_:xs.length<=sizeLine) (_:∀ p,H p=none->Q (.ref p) (upd H p (.tup xs)))
inductive NewL(xs:List V)(H:Hp)(Q:VK):Prop|mk (_:xs.length<=sizeLine) (_:∀ p,H p=none->Q (.ref p) (upd H p (.lst xs)))
def qfN(t:TA):TE:=fun σ H Q=>t σ H fun xs a=>NewT xs a Q
def qfO(t:TA):TE:=fun σ H Q=>t σ H fun xs a=>NewL xs a Q
theorem jQ{x1}(h:PA X es t):PE X (.Tuple es x1 pos) (qfN t):=by
 intro pins s σ H Q I g;show wpAny_Tuple_spliced (thn (h pos pins s σ H _ I g) fun us a ⟨xs,c,d,r,z,q⟩=>⟨by rw[<- r.length];show z,?_⟩);have f:c a.heap.objs.size=none:=d.hok.fresh (yh _);show⟨.ref a.heap.objs.size,upd c a.heap.objs.size (.tup xs),d.laid (t':=a.toks) (fun b u e=>yw _ e) (yh _) ?_,rfl,q _ f⟩;show⟨z,us,r,⟨_,yR _ rfl,rfl,_,rfl⟩⟩
theorem qY(h:PA X es t):PE X (.List es pos) (qfO t):=by
 intro pins s σ H Q I g;show wpAny_List_spliced (thn (h pos pins s σ H _ I g) fun us a ⟨xs,c,d,r,z,q⟩=>⟨by rw[<- r.length];show z,?_⟩);have f:c a.heap.objs.size=none:=d.hok.fresh (yh _);show⟨.ref a.heap.objs.size,upd c a.heap.objs.size (.lst xs),d.laid (t':=a.toks) (fun b u e=>yw _ e) (yh _) ?_,rfl,q _ f⟩;show⟨z,us,0,r,yR _ rfl⟩
end
abbrev Sp:=List V->Hp->VK->XK->Prop
abbrev CXT:=List Env->Hp->Shared->XK->Value->Shared->Prop
structure Env0(P:Program)(w:World)(K:yg)(mg:Str->Option Value)(base:Heap)(A:Around)(outer:List Env)(s:Shared)(H:Hp):Prop where
 frames:A.frames=some outer
 mod:Mod K mg base
 bs:∀ b o,base.get? b=some o->s.heap.get? b=some o/\H b=none
 bsz:base.objs.size<=s.heap.objs.size
 funs:s.heap.FunFrames base outer
 frf:∀ b∈frs outer,H b=none
 hok:HOk P w H s.heap
 bare:AllBare s.gens
def CE(outer:List Env)(P:Program)(w:World)(H:Hp)(s:Shared)(Q:VK)(u:Value)(s':Shared):Prop:=
 ∃ v H',s'.os=s.os/\AllBare s'.gens/\Un (frs outer) [] H H' s.heap s'.heap/\HOk P w H' s'.heap/\RelV v u/\Q v H'
def CR(CX:CXT)(outer:List Env)(P:Program)(w:World)(H:Hp)(s:Shared)(Q:VK)(E:XK)(r:Result)(s':Shared):Prop:=
 match r with
 | .ok (.ret u)=>CE outer P w H s Q u s'
 | .ok _=>False
 | .error e=>CX outer H s E e s'
structure FnOk(P:Program)(w:World)(K:yg)(mg:Str->Option Value)(base:Heap)(CX:CXT)(k:Nat)(f:Addr)(fd:FuncData)(ps:LS)(sp:Sp):Prop where
 len:∀ vs H Q E,sp vs H Q E->vs.length=ps.length
 run:∀(A:Around) (outer:List Env) (s:Shared) (H:Hp) (args:Args) (us:List Value) (vs:List V) (Q:VK) (E:XK),Room k A->Env0 P w K mg base A outer s H->BindsTo s fd args (ps.zip us)->Vals vs us->sp vs H Q E ->
  codeAny (model P w) A (.call (.ref f) args) (CR CX outer P w H s Q E) s
theorem Env0.make{K:yg}(e:Env0 P w K mg base A outer s H)(C:Addr)(us:List Value)(kw:List (Str×Value)) :
  Env0 P w K mg base (A.under (.builtin "type.__call__" ⟨.ref C::us,kw⟩)) outer s H:=⟨by first | show e.frames | (simpa [Around.under,Code.envs,Code.isFrame,pushEnvs] using e.frames),e.mod,e.bs,e.bsz,e.funs,e.frf,e.hok,e.bare⟩
section
variable{X:Cx}{pins:List (Addr×Obj)}{σ:St}{H:Hp}{s s':Shared}
theorem Inv.env0(I:Inv X pins σ H s):Env0 X.prog X.w X.K X.mg X.base X.A X.stack s H:=
 ⟨I.ok.frames,I.ok.mod,I.bs,yi I.ok.bsz I.sz,I.stack,I.stkFree,I.hok,I.bare⟩
theorem Inv.after{Q:VK}(I:Inv X pins σ H s)(h:CE X.stack X.prog X.w H s Q u s'):EP X pins σ Q u s':=by
 obtain⟨v,H',i,a,un,c,r,q⟩:=h;obtain⟨f,g,d,t,e⟩:=s';obtain rfl:e=s.os:=i;show⟨v,H',I.call (h':=f) (g':=g) (d':=d) (t':=t) (ch:=[]) un c a (fun b z=>absurd z (by simp)),r,q⟩
end
def qez(sp:Sp)(a:List V)(E:XK)(t:TA):TE:=fun σ H Q=>t σ H fun vs b=>sp (vs++a) b Q E
inductive MeR(C:Addr)(m:Str)(x:V)(H:Hp)(k:Prop):Prop|mk (a dx:Addr) (fs:List (Str×V)) (_:x=.ref a) (_:H a=some (.ins C dx fs)) (_:fs.lookup m=none) (_:k)
def qdo(C:Addr)(m:Str)(sp:Sp)(a:List V)(E:XK)(ta:TE)(t:TA):TE:=fun σ H Q=>ta σ H fun x b=>MeR C m x b (t σ b fun vs c=>sp (x::(vs++a)) c Q E)
def qeA(C:Addr)(sp:Sp)(b:List V)(E:XK)(t:TA):TE:=fun σ H Q=>t σ H fun vs a=>∀ x dx,a x=none->a dx=none->dx≠x ->
 sp (.ref x::(vs++b)) (upd (upd a dx (.own x)) x (.ins C dx [])) (fun v c=>v=.non/\Q (.ref x) c) E
def Binds(K:yg)(b:FuncData)(ps:LS)(a:List Value):Prop:=
 ∀(s:Shared) (us:List Value),K.In s.heap->(us++a).length=ps.length->BindsTo s b ⟨us,[]⟩ (ps.zip (us++a))
theorem Binds.all{K:yg}{a:FuncData}(h:∀ us:List Value,us.length=ps.length->bindArgs a ⟨us,[]⟩=pure (ps.zip us)):Binds K a ps []:=fun s us _ hl=>by
 rw[Ye] at hl ⊢;show .of_eq (h us hl)
def qaz(CX:CXT)(X:Cx)(E:XK):Prop:=∀(pins:List (Addr×Obj)) (σ:St) (H:Hp) (s:Shared) (e:Value) (s':Shared),Inv X pins σ H s->CX X.stack H s E e s'->X.xe e s'
section
variable{X:Cx}{CX:CXT}{k:Nat}{f C:Addr}{fd:FuncData}{ps:LS}{sp:Sp}{dvs:List V}{ds:List Value}{E:XK}{x m:Str}{p pos apos:Pos}{e o:Expr}{es:List Expr}{ta:TE}{t:TA}
theorem qdp{Q:VK}(F:FnOk X.prog X.w X.K X.mg X.base CX k f fd ps sp)(g:Room k X.A)(c:Binds X.K fd ps ds)(d:Vals dvs ds)(i:qaz CX X E)
  (I:Inv X pins σ H s) (r:Vals vs us) (h:sp (vs++dvs) H Q E):wpAny (model X.prog X.w) X.A (call (.ref f) us) (EP X pins σ Q) X.xe s:=by
 have b:Vals (vs++dvs) (us++ds):=r.append d;have hl:(us++ds).length=ps.length:=by rw[<- b.length];show F.len _ _ _ _ h
 show XG (X5 (F.run X.A X.stack s H ⟨us,[]⟩ (us++ds) (vs++dvs) Q E g I.env0 (c s us I.kIn hl) b h) fun r s' a=>?_)
 cases r with
 | error e=>show i pins σ H s e s' I a
 | ok fl =>
  cases fl with
  | ret u=>show I.after a
  | next=>show False.elim a
  | brk=>show False.elim a
  | cont=>show False.elim a
theorem pe_call(F:FnOk X.prog X.w X.K X.mg X.base CX k f fd ps sp)(o:Room k X.A)(l:Gl X x)(n:X.mg x=some (.ref f))(m:PySem.W.keepIn X.K (.ref f)=true)(g:Binds X.K fd ps ds)(i:Vals dvs ds)(u:qaz CX X E)
  (d:PA X (e::es) t) (a:(x==("__debug__":Str))=false:=by decide) (j:starEach (e::es) X.env=(false,eval e X.env)::starEach es X.env:=by rfl) (b:(backTo pos (starEach es X.env)).any (·.1)=false:=by rfl) :
  PE X (.Call (.Name x p) (e::es) [] pos) (qez sp dvs E t):=by
 intro pins s σ H Q I h;show xT (qck I l n ?_ a);show X9 (h₀:=X.base) I.ok.mod.kin m (thn (d pos pins s σ H _ I h) fun us y ⟨vs,v,c,r,q⟩=>⟨c.kIn,?_⟩) j b;show qdp F o g i u c r q
theorem pe_meth{pl:Sem Bool}(D:PE X o ta)(c:Cls X.K C)(j:Meth X.K C m f)(F:FnOk X.prog X.w X.K X.mg X.base CX k f fd ps sp)(G:Room k X.A)(y:Binds X.K fd ps ds)(B:Vals dvs ds)(L:qaz CX X E)(v:PA X (e::es) t)
  (d:starEach (e::es) X.env=(false,eval e X.env)::starEach es X.env:=by rfl) (b:(backTo pos (starEach es X.env)).any (·.1)=false:=by rfl)
  (J:eval (.Call (.Attribute o m apos) (e::es) [] pos) X.env=(do
   let ov <- eval o X.env
   standAt apos.atName
   let (f,first) <- holding [ov] (getMethod ov m pl)
   callWith pos f first (backTo pos (starEach (e::es) X.env)) (backToKw pos (keywordEach [] X.env))):=by rfl) :
  PE X (.Call (.Attribute o m apos) (e::es) [] pos) (qdo C m sp dvs E ta t):=by
 intro pins s σ H Q I h;show PySem.W.methodCall_KW (pl:=pl) (thn (D pins s σ H _ I h) fun u O ⟨x,n,g,N,a,dx,fs,ex,p,l,q⟩=>?_) J;subst ex;obtain rfl:u=Value.ref a:=N;show qbh g p c j l ?_;show X9 (first:=[.ref a]) (h₀:=X.base) I.ok.mod.kin j.kp (thn (v pos pins O σ n _ g q) fun us R ⟨vs,P,i,r,M⟩=>⟨i.kIn,?_⟩) d b;show qdp (us:=.ref a::us) (vs:=.ref a::vs) F G y B L i (.cons rfl r) M
theorem pe_meth0{pl:Sem Bool}(j:PE X o ta)(c:Cls X.K C)(d:Meth X.K C m f)(F:FnOk X.prog X.w X.K X.mg X.base CX k f fd ps sp)(n:Room k X.A)(g:Binds X.K fd ps ds)(i:Vals dvs ds)(r:qaz CX X E)
  (p:eval (.Call (.Attribute o m apos) [] [] pos) X.env=(do
   let ov <- eval o X.env
   standAt apos.atName
   let (f,first) <- holding [ov] (getMethod ov m pl)
   callWith pos f first (backTo pos (starEach [] X.env)) (backToKw pos (keywordEach [] X.env))):=by rfl) :
  PE X (.Call (.Attribute o m apos) [] [] pos) (qdo C m sp dvs E ta qfm):=by
 intro pins s σ H Q I h;show PySem.W.methodCall_KW (pl:=pl) (thn (j pins s σ H _ I h) fun u y ⟨x,v,b,t,a,dx,fs,ex,e,l,q⟩=>?_) p;subst ex;obtain rfl:u=Value.ref a:=t;show qbh b e c d l ?_;show PySem.W.callWith_K0 (first:=[.ref a]) b.kIn d.kp (qdp (us:=[.ref a]) (vs:=[.ref a]) F n g i r b (.cons rfl .nil) q)
structure Mk(K:yg)(C f:Addr):Prop where
 makes:PySem.W.makesIn K C=true
 init:PySem.W.findIn K (.ref C) "__init__"=some (some (.ref f))
 fn:PySem.W.isFn K (.ref f)=true
 kp:PySem.W.keepIn K (.ref C)=true
theorem run_make{Q:VK}(M:Mk X.K C f)(F:FnOk X.prog X.w X.K X.mg X.base CX k f fd ps sp)(n:Room (k+1) X.A)(l:Binds X.K fd ps ds)(m:Vals dvs ds)
  (o:qaz CX X E) (I:Inv X pins σ H s) (r:Vals vs us)
  (h:∀ x dx,H x=none->H dx=none->dx≠x->sp (.ref x::(vs++dvs)) (upd (upd H dx (.own x)) x (.ins C dx [])) (fun v g=>v=.non/\Q (.ref x) g) E) :
  wpAny (model X.prog X.w) X.A (call (.ref C) us) (EP X pins σ Q) X.xe s:=by
 have c:=h (s.heap.objs.size+1) s.heap.objs.size (I.hok.fresh (Xg _)) (I.hok.fresh (yh _)) (yE (xL _));have b:=Inv.made (C:=C) I;have d:Vals (V.ref (s.heap.objs.size+1)::(vs++dvs)) (Value.ref (s.heap.objs.size+1)::(us++ds)):=.cons rfl (r.append m)
 have hl:(Value.ref (s.heap.objs.size+1)::us++ds).length=ps.length:=by
  have e:=d.length;rw[F.len _ _ _ _ c] at e;show e.symm
 show XG (make_map (f:=f) I.kIn M.makes M.init (Yo.mp M.fn) (X5 (F.run _ X.stack _ _ ⟨Value.ref (s.heap.objs.size+1)::us,[]⟩ (Value.ref (s.heap.objs.size+1)::(us++ds)) _ _ E (n.make C us [])
  (b.env0.make C us []) (l _ (Value.ref (s.heap.objs.size+1)::us) b.kIn hl) d c) fun r s' a=>?_))
 cases r with
 | error e=>show o pins σ _ _ e s' b a
 | ok fl =>
  cases fl with
  | ret u =>
   obtain⟨v,H',i,q,j,p⟩:=b.after a;subst j;show⟨q,⟨V.ref (s.heap.objs.size+1),H',i,rfl,p⟩⟩
  | next=>show False.elim a
  | brk=>show False.elim a
  | cont=>show False.elim a
theorem pe_make(M:Mk X.K C f)(F:FnOk X.prog X.w X.K X.mg X.base CX k f fd ps sp)(n:Room (k+1) X.A)(l:Gl X x)(m:X.mg x=some (.ref C))(g:Binds X.K fd ps ds)(i:Vals dvs ds)(o:qaz CX X E)
  (d:PA X (e::es) t) (a:(x==("__debug__":Str))=false:=by decide) (j:starEach (e::es) X.env=(false,eval e X.env)::starEach es X.env:=by rfl) (b:(backTo pos (starEach es X.env)).any (·.1)=false:=by rfl) :
  PE X (.Call (.Name x p) (e::es) [] pos) (qeA C sp dvs E t):=by
 intro pins s σ H Q I h;show xT (qck I l m ?_ a);show X9 (h₀:=X.base) I.ok.mod.kin M.kp (thn (d pos pins s σ H _ I h) fun us v ⟨vs,u,c,r,q⟩=>⟨c.kIn,?_⟩) j b;show run_make M F n g i o c r q
end
section
variable{X:Cx}{CX:CXT}{k:Nat}{f C:Addr}{fd:FuncData}{ps ks:LS}{sp:Sp}{E:XK}{x m:Str}{p pos apos kpos:Pos}{e o:Expr}{es:List Expr}{kws:List Keyword}{te ta:TE}{t tk:TA}{nm:Option Str}
structure KBinds(K:yg)(fd:FuncData)(ps ks:LS)(g:List Value->List Value->List Value)(gV:List V->List V->List V):Prop where
 to:∀(s:Shared) (us ws:List Value),K.In s.heap->(g us ws).length=ps.length->BindsTo s fd ⟨us,ks.zip ws⟩ (ps.zip (g us ws))
 rel:∀{vs:List V} {us:List Value} {zs:List V} {ws:List Value},Vals vs us->Vals zs ws->Vals (gV vs zs) (g us ws)
variable{g:List Value->List Value->List Value}{gV:List V->List V->List V}
end
structure FnScope(N P:LS)(sc:Scope):Prop where
 kind:sc.kind=.function
 co:sc.isCoroutine=false
 gen:sc.isGenerator=false
 nd:N.Nodup
 pre:N.take P.length=P
 par:∀ x∈P,sc.names.lookup x=some .local\/sc.names.lookup x=some .cell
 nofree:∀ y∈sc.names,y.2≠.free
theorem fS{P:LS}(a:sc.kind=.function:=by rfl)(b:sc.isCoroutine=false:=by rfl)(c:sc.isGenerator=false:=by rfl)(d:N.Nodup:=by room)(e:N.take P.length=P:=by rfl)(f:∀ x∈P,sc.names.lookup x=some .local\/sc.names.lookup x=some .cell:=by room)(g:∀ y∈sc.names,y.2≠.free:=by room):FnScope N P sc:=⟨a,b,c,d,e,f,g⟩
theorem qbR:∀{binds:List (Str×Value)} {m:Str->Option Value},(∀ v,(x,v)∉binds)->bindL kindOf binds m x=m x
 | [],_,_=>rfl
 | (n,v)::r,m,h=>by
  unfold bindL;rw[qbR fun w hw=>h w (yI _ hw)];split
  .have:x≠n:=by rintro rfl;show h v yG
   simp[this]
  .rfl
theorem qbS:∀{binds:List (Str×Value)} {m:Str->Option Value},(∀ v,(x,v)∉binds)->bindC kindOf binds m x=m x
 | [],_,_=>rfl
 | (n,v)::r,m,h=>by
  unfold bindC;rw[qbS fun w hw=>h w (yI _ hw)];split
  .rfl
  .have:x≠n:=by rintro rfl;show h v yG
   simp[this]
theorem qbT{v:Value}:∀{P:LS} {vs:List Value} {i:Nat} {m:Str->Option Value},P.Nodup->P[i]?=some x->vs[i]?=some v->kindOf x=some .local ->
  bindL kindOf (P.zip vs) m x=some v
 | [],_,_,_,_,h,_,_=>by simp at h
 | _::_,[],_,_,_,_,h,_=>by simp at h
 | p::P,w::vs,0,m,nd,h1,h2,hk=>by
  simp at h1 h2;subst h1;subst h2;show bindL kindOf ((p,w)::P.zip vs) m p=_;unfold bindL;rw[qbR fun v hv=>(yp.mp nd).1 (kQ hv).1,yF hk];simp
 | p::P,w::vs,i+1,m,nd,h1,h2,hk=>by
  show bindL kindOf ((p,w)::P.zip vs) m x=_;unfold bindL;show qbT (i:=i) (yp.mp nd).2 (by simpa using h1) (by simpa using h2) hk
theorem qbU{v:Value}:∀{P:LS} {vs:List Value} {i:Nat} {m:Str->Option Value},P.Nodup->P[i]?=some x->vs[i]?=some v->kindOf x≠some .local ->
  bindC kindOf (P.zip vs) m x=some v
 | [],_,_,_,_,h,_,_=>by simp at h
 | _::_,[],_,_,_,_,h,_=>by simp at h
 | p::P,w::vs,0,m,nd,h1,h2,hk=>by
  simp at h1 h2;subst h1;subst h2;show bindC kindOf ((p,w)::P.zip vs) m p=_;unfold bindC;rw[qbS fun v hv=>(yp.mp nd).1 (kQ hv).1,yA hk];simp
 | p::P,w::vs,i+1,m,nd,h1,h2,hk=>by
  show bindC kindOf ((p,w)::P.zip vs) m x=_;unfold bindC;show qbU (i:=i) (yp.mp nd).2 (by simpa using h1) (by simpa using h2) hk
noncomputable def start(N:LS)(vs:List V):St:=vs.map some++List.replicate (N.length-vs.length) none
noncomputable def qeB(CX:CXT)(P:Program)(w:World)(K:yg)(mg:Str->Option Value)(base:Heap)(N:LS)(qual:Str)(scope:Scope)(f:Addr)(b:Value)(A:Around)(outer:List Env)(s:Shared)(H:Hp)(E:XK):Cx where
 prog:=P
 w:=w
 K:=K
 mg:=mg
 base:=base
 A:=A.deeper (envOfC qual scope s.heap.objs.size f b)
 N:=N
 s₀:=s
 H₀:=H
 env:=envOfC qual scope s.heap.objs.size f b
 outer:=outer
 stack:=envOfC qual scope s.heap.objs.size f b::outer
 ex:=[]
 calm:=true
 fn:=fun _=>true
 pn:=[]
 xe:=fun e s'=>wpAny (model P w) (A.deeper (envOfC qual scope s.heap.objs.size f b)) (leaving (envOfC qual scope s.heap.objs.size f b) e) (fun _ a=>CX outer H s E e a) (fun c a=>CX outer H s E c a) s'
theorem qcP(h:sc.names.lookup x=some .cell):∃ c,(cellsFrom n sc.names []).lookup x=some c:=by
 have q:=PySem.W.cellsFrom_some sc.names n [] (.inl h);show Option.isSome_iff_exists.mp q
theorem inv_start{K:yg}{f:Addr}{o:Value}{D:Shared}{E:XK}
  (S:FnScope N ps scope) (G:A.handled=none) (g:Env0 P w K mg base A outer s H) (hl:vs.length=ps.length) (r:Vals vs us)
  (x:InCallC s s.heap.objs.size (bindL (envOfC qual scope s.heap.objs.size f o).kindOf (ps.zip us) fun _=>none) (cellsFrom (s.heap.objs.size+1) scope.names []) (bindC (envOfC qual scope s.heap.objs.size f o).kindOf (ps.zip us) fun _=>none) D) :
  Inv (qeB CX P w K mg base N qual scope f o A outer s H E) [] (start N vs) H D:=by
 have I:ps.length<=N.length:=by have:=congrArg List.length S.pre;rw[yO] at this;lk
 obtain⟨h1,tk,rfl,B⟩:=x.done;have j:∀ b:Addr,b∉(qeB CX P w K mg base N qual scope f o A outer s H E).ex:=fun b z=>absurd (show b∈([]:LQ) from z) (by simp);show⟨⟨g.mod,S.kind,rfl,rfl,yh _,fun y z c h1 d=>?_,fun y hy=>?_,fun y c _ h=>?_,fun _=>G,Around.frames_deeper g.frames,.inr ⟨rfl,rfl⟩,fun b z=>absurd z (j b),g.bs,g.bsz,fun b _ _=>j b,fun b z=>absurd z (j b),g.funs,g.frf⟩,
  rfl,g.bare,Un.kept B,⟨_,x.toInCall.ns,fun i y v h1 d L=>?_⟩,fun y c h=>⟨_,x.cell y c h⟩,g.hok.fresh (yh _),fun y c h=>?_,fun p l=>absurd (show p∈([]:List (Addr×Obj)) from l) (by simp),g.hok.kept B,?_⟩
 .show name_of_addr x.apart (Y2 h1) (Y2 d)
 .have hy:scope.names.lookup y=some .cell\/scope.names.lookup y=some .free:=hy;rcases hy with hy | hy
  .show qcP hy
  .show absurd rfl (S.nofree _ (Y2 hy))
 .show yY (x.above y c (Y2 h))
 .have t:i<vs.length:=by
   unfold start at d;by_cases t:i<vs.length
   .show t
   .rw [yy (by simpa using t)] at d;rw[Xz] at d;split at d<;>cases d
  have F:vs[i]?=some v:=by
   unfold start at d;rw[yU (by simpa using t),yd] at d
   cases e:vs[i]? with
   | none=>rw[e] at d;cases d
   | some a=>rw[e] at d;cases d;rfl
  obtain⟨u,C,J⟩:=r.get F
  have l:ps[i]?=some y:=by
   rw[<- S.pre,List.getElem?_take_of_lt (by lk)];show h1
  have m:ps.Nodup:=by rw[<- S.pre];show S.nd.sublist (XB _ _)
  show⟨u,J,?_⟩;rcases S.par y (ye l) with k | k
  .show .inl ⟨k,qbT m l C k⟩
  .obtain⟨c,e⟩:=qcP (n:=s.heap.objs.size+1) k;show .inr ⟨.inl k,c,e,?_⟩;have q:=x.cell y c e;rw[qbU m l C (by show scope.names.lookup y≠_;rw[k];decide)] at q;show q
 .show g.hok.fresh (yY (x.above y c (Y2 h)))
 .unfold start;show _=N.length;rw[yu,ya,YW];lk
theorem qeY{K:yg}{k:Nat}{f:Addr}{name:Str}{c:Arguments}{O kV j R a ct oc:Value}{M od:Option Addr}
  {F:Array (Option Value)} {sp:Sp} (lk:K.lookup f=some ⟨oc,od,.func (PySem.W.fnOf name qual c body scope O kV j R M a ct),F⟩) (B:PySem.W.codeIn K a qual=true) (S:FnScope N ps scope)
  (len:∀ vs H Q E,sp vs H Q E->vs.length=ps.length)
  (g:∀(A:Around) (outer:List Env) (s:Shared) (H:Hp) (vs:List V) (Q:VK) (E:XK),Room k (A.deeper (envOfC qual scope s.heap.objs.size f a))->sp vs H Q E ->
   ∃ t,PSs (qeB CX P w K mg base N qual scope f a A outer s H E) body t/\t { nx:=fun _ H'=>Q .non H',rt:=Q } (start N vs) H) :
  FnOk P w K mg base CX (k+1) f (PySem.W.fnOf name qual c body scope O kV j R M a ct) ps sp:=by
 show⟨len,fun A outer s H args us vs Q E C l X r p=>?_⟩;have hl:=len _ _ _ _ p;have L:K.In s.heap:=l.mod.kin.keeps fun b o e=>(l.bs b o e).1;have D:s.heap.NoLimit:=l.mod.nolimit.keeps fun b o e=>(l.bs b o e).1
 have h:∀ y∈ps.zip us,scope.names.lookup y.1=some .local\/(scope.names.lookup y.1=some .cell/\((cellsFrom (s.heap.objs.size+1) scope.names []).lookup y.1).isSome=true):=fun⟨n,v⟩ hy=>by
  rcases S.par n (kQ hy).1 with q | q
  .show .inl q
  .show .inr ⟨q,PySem.W.cellsFrom_some _ _ _ (.inl q)⟩
 show codeAny_call_function C.depth (L _ _ lk) rfl S.co S.gen rfl (PySem.W.codeRec_of L B) (X _ _ _ _ ?_);show wpAny_newFunctionEnv_cells S.kind h fun env Y T x=>?_;subst Y;show⟨D.keeps x.toInCall.keep,codeAny_func ?_⟩;obtain⟨t,ht,Z⟩:=g A outer s H vs Q E (C.deeper _) p;have I:Inv (qeB CX P w K mg base N qual scope f a A outer s H E) [] (start N vs) H T:=inv_start S C.hd l hl r x;show YK (ht [] T (start N vs) H _ I Z) (fun U s' i=>?_) fun e s' i=>i
 have m:∀{d:St} {H':Hp} {v:V} {u:Value},Inv (qeB CX P w K mg base N qual scope f a A outer s H E) [] d H' s'->RelV v u->Q v H'->CE outer P w H s Q u s':=
  fun{d H' v u} J G q=>⟨v,H',J.os,J.bare,J.base,J.hok,G,q⟩
 cases U with
 | ret u =>
  obtain⟨v,d,H',J,G,q⟩:=i;show m J G q
 | next =>
  obtain⟨d,H',J,q⟩:=i;show m (v:=V.non) (u:=Value.none) J rfl q
 | brk =>
  obtain⟨_,_,_,q⟩:=i;show False.elim q
 | cont =>
  obtain⟨_,_,_,q⟩:=i;show False.elim q
section
variable{X:Cx}{x:Str}{p pos:Pos}{e:Expr}{es:List Expr}{t:TA}{id T:String}{r:List V->Hp->VK->Prop}
def tCB(r:List V->Hp->VK->Prop)(t:TA):TE:=fun σ H Q=>t σ H fun vs a=>r vs a Q
theorem qq(hc:zG X (.builtin id) r)(i:Gl X x)(j:X.mg x=none)(hv:bootBuiltins x=some (.builtin id))(f:PA X (e::es) t)(l:x≠"__name__":=by decide)(a:(x==("__debug__":Str))=false:=by decide)
  (g:starEach (e::es) X.env=(false,eval e X.env)::starEach es X.env:=by rfl) (b:(backTo pos (starEach es X.env)).any (·.1)=false:=by rfl):PE X (.Call (.Name x p) (e::es) [] pos) (tCB r t):=by
 intro pins s σ H Q I h;show xT (qaf I i j hv ?_ l a);show PyProof.Rows.callWith_builtin1 (thn (f pos pins s σ H _ I h) fun us o ⟨vs,c,d,n,m⟩=>hc pins o σ c vs us Q d n m) g b
theorem jK(hc:zG X (.type T) r)(i:Gl X x)(j:X.mg x=none)(hv:bootBuiltins x=some (.type T))(f:PA X (e::es) t)(l:x≠"__name__":=by decide)(a:(x==("__debug__":Str))=false:=by decide)
  (g:starEach (e::es) X.env=(false,eval e X.env)::starEach es X.env:=by rfl) (b:(backTo pos (starEach es X.env)).any (·.1)=false:=by rfl):PE X (.Call (.Name x p) (e::es) [] pos) (tCB r t):=by
 intro pins s σ H Q I h;show xT (qaf I i j hv ?_ l a);show YH (thn (f pos pins s σ H _ I h) fun us o ⟨vs,c,d,n,m⟩=>hc pins o σ c vs us Q d n m) g b
end
end L2
namespace HT
open PySem PyProof.Rows
variable{hi lo:Option Int}{sl t:Addr}{vl vu:Value}
noncomputable def lexLt:LX->LX->Bool
 | [],[]=>false
 | [],_::_=>true
 | _::_,[]=>false
 | x::xs,y::ys=>if x=y then lexLt xs ys else decide (x<y)
section
open PySem.SeqAt
open PySem.AutoSeq1 (wpAny_loadPart')
open PySem.MeetsSeq PySem.MeetsSeq2 PySem.MeetsSeq3
end
section
variable{prog:Program}{w:World}{A:Around}{E:Value->Shared->Prop}{s:Shared}
theorem cat_tup{b:Addr}{vs a:List Value}{Q:Value->Shared->Prop}(u:IsTup s.heap t vs.toArray)(r:IsTup s.heap b a.toArray)(hv:vs≠[])
  (h1:a=[]->Q (.ref t) s) (q:a≠[]->Q (.ref s.heap.objs.size) { s with heap:=s.heap.push { cls:=.type "tuple",data:=.seq (vs++a).toArray } })
  (hsz:vs.length+a.length<=sizeLine):wpAny (model prog w) A (binaryOp .Add (.ref t) (.ref b)) Q E s:=by
 obtain⟨⟨cls,m,data,sl⟩,i,hc,n,o⟩:=id u;obtain⟨⟨l,d,j,h⟩,c,f,p,g⟩:=id r;simp only at hc o f g;subst hc o f g;have e:vs.toArray++a.toArray=(vs++a).toArray:=by simp
 by_cases hw:a=[]
 .show concat_meets ⟨_,i,rfl⟩ ⟨_,c,rfl⟩ noFill_tuple_add seq_tuple_add PySem.F.slot_tuple_add PySem.F.entry_tuple_add (PySem.F.args_tuple_add_2 _ _)
   (tuple_addW1 t b vs.toArray a.toArray n p m d sl h (by simpa using hv) (by simp[hw])) ⟨i,c,h1 hw⟩
 .show concat_meets ⟨_,i,rfl⟩ ⟨_,c,rfl⟩ noFill_tuple_add seq_tuple_add PySem.F.slot_tuple_add PySem.F.entry_tuple_add (PySem.F.args_tuple_add_2 _ _)
   (tuple_addW2 t b vs.toArray a.toArray n p m d sl h (by simpa using hv) (by simpa using hw) (by rw[yx,yx];show hsz)) ⟨i,c,?_⟩
  rw[e];show q hw
noncomputable def sIx(n d:Nat):Option Int->Nat
 | none=>d
 | some v=>if v<0 then(v+(n:Int)).toNat else min v.toNat n
theorem sIx_none(n d:Nat):sIx n d none=d:=rfl
theorem sIx_nat(n d k:Nat):sIx n d (some (k:Int))=min k n:=by
 show(if (k:Int)<0 then((k:Int)+(n:Int)).toNat else min (k:Int).toNat n)=min k n;rw[yA (by lk),YI]
theorem sIx_le(n d:Nat)(a:d<=n)(o:Option Int):sIx n d o<=n:=by
 cases o with
 | none=>show a
 | some v =>
  show(if v<0 then(v+(n:Int)).toNat else min v.toNat n)<=n;by_cases hv:v<0
  .rw [yF hv];lk
  .rw [yA hv];show kG _ _
theorem qdq(v:Int)(n d:Nat):(if v<0 then max (v+(n:Int)) 0 else min v (n:Int))=((sIx n d (some v):Nat):Int):=by
 show(if v<0 then max (v+(n:Int)) 0 else min v (n:Int))=(((if v<0 then(v+(n:Int)).toNat else min v.toNat n):Nat):Int);by_cases hv:v<0
 .simp only[yF hv];lk
 .simp only[yA hv];lk
theorem adjust_gen(lo hi:Option Int)(n:Nat):Builtin.Slice.sliceAdjust lo hi 1 (n:Int)=(((sIx n 0 lo:Nat):Int),((sIx n n hi:Nat):Int)):=by
 have h1:¬ ((1:Int)<0):=by lk
 unfold Builtin.Slice.sliceAdjust;simp only[h1,Xh];show kc ?_ ?_
 .cases lo with
  | none=>rfl
  | some v=>show qdq v n 0
 .cases hi with
  | none=>rfl
  | some v=>show qdq v n n
theorem places_gen(i j:Nat):Builtin.Slice.slicePlaces (i:Int) (j:Int) 1=j-i:=by
 unfold Builtin.Slice.slicePlaces;have h1:(1:Int)>0:=by lk
 simp only[h1,XM,Int.ediv_one];split<;>lk
theorem qav{v:Value}{o:Option Int}{Q:Option Int->Shared->Prop}(p:IsPart v o)(h:Q o s):wpAny (model prog w) A (Builtin.Slice.slicePartIndex v) Q E s:=by
 cases p with
 | none=>show ke h
 | int i t=>show slicePart_int h
theorem sliceApplied_gen{n:Nat}{Q:Int×Int×Nat->Shared->Prop}(d:s.heap.IsSliceOf sl vl vu .none)(pl:IsPart vl lo)(e:IsPart vu hi)
  (h:Q (((sIx n 0 lo:Nat):Int),1,sIx n n hi-sIx n 0 lo) s):wpAny (model prog w) A (Builtin.Slice.sliceApplied (.ref sl) (pure (n:Int))) Q E s:=by
 obtain⟨f,b,c,a⟩:=id d;unfold Builtin.Slice.sliceApplied Builtin.Slice.sliceFields;show yt (yt (xi b a (x:=vl) rfl (yt (xi b a (x:=vu) rfl (yt (xi b a (x:=.none) rfl (yv ?_)))))));show yt (ke ?_);show wpAny _ _ (if ((1:Int)==0)=true then _ else _) _ _ s;rw[yA (by decide)];show yt (qav pl (yt (qav e (yt (yv ?_)))));show wpAny _ _ (match Builtin.Slice.sliceAdjust lo hi 1 (n:Int) with | (lo,hi)=>pure (lo,(1:Int),Builtin.Slice.slicePlaces lo hi 1)) _ _ s;rw[adjust_gen lo hi n];show wpAny _ _ (pure (((sIx n 0 lo:Nat):Int),(1:Int),Builtin.Slice.slicePlaces ((sIx n 0 lo:Nat):Int) ((sIx n n hi:Nat):Int) 1)) _ _ s;rw[places_gen];show yv h
theorem pick_gen(xs:Array Value)(i k:Nat):((List.range k).filterMap fun(m:Nat)=>xs[((i:Int)+(m:Int)*1).toNat]?).toArray=((xs.toList.drop i).take k).toArray:=by
 have e:(fun(m:Nat)=>xs[((i:Int)+(m:Int)*1).toNat]?)=fun m=>xs[i+m]?:=by
  funext m;have:((i:Int)+(m:Int)*1).toNat=i+m:=by lk
  rw[this]
 rw[e];have:=pick_run xs i k;rw[List.filterMap_map] at this;have a:((fun x=>xs[x]?) ∘ fun x=>i+x)=fun m=>xs[i+m]?:=rfl;rw[a] at this;rw[this]
theorem getItem_tuple_cut{a:Array Value}{Q:Value->Shared->Prop}(c:IsTup s.heap t a)(i:s.heap.IsSliceOf sl vl vu .none)(pl:IsPart vl lo)(n:IsPart vu hi)
  (hw:¬ (sIx a.size 0 lo=0/\sIx a.size a.size hi=a.size))
  (h:Q (.ref s.heap.objs.size) { s with heap:=s.heap.push { cls:=.type "tuple",data:=.seq ((a.toList.drop (sIx a.size 0 lo)).take (sIx a.size a.size hi-sIx a.size 0 lo)).toArray } })
  (hsz:a.size<=sizeLine):wpAny (model prog w) A (getItem (.ref t) (.ref sl)) Q E s:=by
 have b:sizeOk (.seq ((a.toList.drop (sIx a.size 0 lo)).take (sIx a.size a.size hi-sIx a.size 0 lo)).toArray):=by
  show((a.toList.drop (sIx a.size 0 lo)).take (sIx a.size a.size hi-sIx a.size 0 lo)).toArray.size<=sizeLine;rw[yx,yO,kH,Y1];lk
 have o:sIx a.size a.size hi<=a.size:=sIx_le _ _ (yh _) hi;obtain⟨l,g,e,j⟩:=id i;have d:s.TypeIs (.ref sl) "slice":=⟨l,g,e⟩;unfold getItem
 try with_reducible show Yk ?_
 first | show yt (yv ?_) | skip
 show yt (wpAny_sequenceKey c.typeIs (by decide) ?_);show yt (xM (name:=Str.ofString "__getitem__") c.typeIs Yy
  (xN Yy c.typeIs entry_tuple_getitem ?_ (args_tuple_getitem _ _)))
 show wpAny _ _ (Builtin.Tuple.tupleItemsOf (.ref t)>>=_) _ _ s;show yt (tupleItemsOf_ c ?_);show yt (wpAny_typeOf d ?_);rw[yF (by decide)];show yt (sliceApplied_gen i pl n ?_)
 have f:¬ ((((sIx a.size 0 lo:Nat):Int)==0&&(1:Int)==1&&(sIx a.size a.size hi-sIx a.size 0 lo)==a.size)=true):=by
  intro q;rw[Ym,Ym] at q;have p:((sIx a.size 0 lo:Nat):Int)=0:=eq_of_beq q.1.1;have r:sIx a.size a.size hi-sIx a.size 0 lo=a.size:=eq_of_beq q.2;show hw ⟨by lk,by lk⟩
 show wpAny _ _ (if (((sIx a.size 0 lo:Nat):Int)==0&&(1:Int)==1&&(sIx a.size a.size hi-sIx a.size 0 lo)==a.size)=true then _ else _) _ _ s;rw[yA f,pick_gen]
 first
  | show yt (m:=Builtin.Tuple.tupleExact _) (YV (yv ⟨_,rfl,yv h⟩) b)
  | show yt (m:=Builtin.Tuple.tupleExact _) (YV (yt (yv (yv ⟨_,rfl,yv h⟩))) b)
  | show yt (yt (m:=Builtin.Tuple.tupleExact _) (YV (yv (yv ⟨_,rfl,yv h⟩)) b))
  | show yt (yt (m:=Builtin.Tuple.tupleExact _) (YV (yv ⟨_,rfl,yv h⟩) b))
end
end HT
namespace L2
open PySem PySem.Spec PyProof.Rows
variable{A:Around}{H H':Hp}{P:Program}{X:Cx}{a p:Addr}{h':Heap}{i:Int}{its its' us:List Value}{j n t':Nat}{kvs:List (List Key×V)}{o:Option V}{pins:List (Addr×Obj)}{r:R2}{s:Shared}{u v:Value}{w:World}{x y:V}{xs:List V}{α:Type}{σ:St}
abbrev TO:=St->Hp->(Option Int->Hp->Prop)->Prop
def PO(X:Cx)(e:Option Expr)(t:TO):Prop:=
 ∀(pins:List (Addr×Obj)) (s:Shared) (σ:St) (H:Hp) (Q:Option Int->Hp->Prop),Inv X pins σ H s->t σ H Q ->
  wpAny (model X.prog X.w) X.A (evalPart e X.env) (fun u a=>∃ o H',Inv X pins σ H' a/\IsPart u o/\Q o H') X.xe s
def qdr:TO:=fun _ H Q=>Q none H
def qeZ(t:TE):TO:=fun σ H Q=>t σ H fun x a=>∃ i,x=.int i/\Q (some i) a
section
variable{X:Cx}{e:Expr}{te:TE}{lo hi:Option Expr}{tl th:TO}{pos p2:Pos}
theorem jy:PO X none qdr:=by
 intro pins s σ H Q I h;rw[kD];show yv ⟨none,H,I,.none,h⟩
theorem ji(h:PE X e te):PO X (some e) (qeZ te):=by
 intro pins s σ H Q I hw;rw[evalPart_some];show thn (h pins s σ H _ I hw) fun u f ⟨x,a,b,d,c⟩=>?_;obtain⟨i,rfl,q⟩:=c;obtain⟨t,rfl⟩:=d;show⟨some i,a,b,.int i t,q⟩
def SlR(X:Cx)(r:V->Option Int->Option Int->Hp->VK->Prop):Prop:=
 ∀(pins:List (Addr×Obj)) (s:Shared) (σ:St) (H:Hp) (x:V) (v b c:Value) (lo hi:Option Int) (a:Addr) (Q:VK),Inv X pins σ H s->RelV x v->s.heap.IsSliceOf a b c .none->IsPart b lo->IsPart c hi->r x lo hi H Q ->
  ∃ T id,typeLookup (.type T) "__getitem__"=pure (some (.builtin id))/\s.TypeIs v T/\wpAny (model X.prog X.w) X.A (getItem v (.ref a)) (EP X pins σ Q) X.xe s
def tSl(r:V->Option Int->Option Int->Hp->VK->Prop)(te:TE)(tl th:TO):TE:=fun σ H Q=>te σ H fun x a=>tl σ a fun l b=>th σ b fun u c=>r x l u c Q
theorem jg{r:V->Option Int->Option Int->Hp->VK->Prop}(B:SlR X r)(t:PE X e te)(hl:PO X lo tl)(D:PO X hi th):PE X (.Subscript e (.Slice lo hi none p2) pos) (tSl r te tl th):=by
 intro pins s σ H Q I h;show Subscript_ (thn (t pins s σ H _ I h) fun v L ⟨x,g,j,K,F⟩=>?_);show wpAny_Slice (thn (hl pins L σ g _ j F) fun c M ⟨l,i,m,pl,G⟩=>thn (D pins M σ i _ m G) fun d a ⟨u,f,n,E,J⟩=>?_);rw[kD];show yv ?_;have o:Inv X pins σ f { a with heap:=a.heap.push { cls:=.type "slice",data:=.fields #[c,d,.none] } }:=n.kept (t':=a.toks) fun b N q=>yw _ q;obtain⟨T,id,p,C,y⟩:=B pins { a with heap:=a.heap.push { cls:=.type "slice",data:=.fields #[c,d,.none] } } σ f x v c d l u a.heap.objs.size Q o K (kf ..) pl E J;show wpAny (model X.prog X.w) X.A (subscriptTail e (.Slice lo hi none p2) v (.ref a.heap.objs.size)) (EP X pins σ Q) X.xe { a with heap:=a.heap.push { cls:=.type "slice",data:=.fields #[c,d,.none] } };show tail_any (ops:=[.ref a.heap.objs.size,v]) C p y (by with_unfolding_all rfl)
noncomputable def qbb(xs:List V)(lo hi:Option Int):List V:=(xs.drop (HT.sIx xs.length 0 lo)).take (HT.sIx xs.length xs.length hi-HT.sIx xs.length 0 lo)
theorem qaS(xs:List V)(lo hi:Option Int):(qbb xs lo hi).length<=xs.length:=by
 unfold qbb;rw[yO,kH];lk
inductive rSlT(K:yg)(x:V)(lo:Option Int)(hi:Option Int)(H:Hp)(Q:VK):Prop|mk (a xs:_) (_:x=.ref a) (_:SqT K H a xs) (_:¬ (HT.sIx xs.length 0 lo=0/\HT.sIx xs.length xs.length hi=xs.length)) (_:∀ p,H p=none->Q (.ref p) (upd H p (.tup (qbb xs lo hi))))
theorem sl_tup:SlR X (rSlT X.K):=by
 intro pins s σ H x v m n lo hi l Q I i e pl g h;obtain⟨a,xs,rfl,f,hw,q⟩:=h;cases i;obtain⟨its,r,d,hz⟩:=I.tuple f;have c:its.toArray.size=xs.length:=by rw[yx];show r.length.symm
 show⟨"tuple",_,Yy.lookup,d.typeIs,?_⟩;show HT.getItem_tuple_cut d e pl g (by rw[c];show hw) ?_ (by rw[c];show hz);rw[c];show⟨.ref s.heap.objs.size,_,I.laid (t':=s.toks) (o:=.tup (qbb xs lo hi)) (fun b j q=>yw _ q) (yh _) ?_,rfl,q _ (I.hok.fresh (yh _))⟩;show⟨yi (qaS xs lo hi) hz,_,(r.drop (HT.sIx xs.length 0 lo)).take (HT.sIx xs.length xs.length hi-HT.sIx xs.length 0 lo),IsTup.new _ _⟩
inductive rLtT(K:yg)(x:V)(y:V)(H:Hp)(Q:VK):Prop|mk (a b ns ms:_) (_:x=.ref a) (_:y=.ref b) (_:SqT K H a (ns.map V.int)) (_:SqT K H b (ms.map V.int)) (_:Q (.bl (HT.lexLt ns ms)) H)
inductive rCatT(K:yg)(x:V)(y:V)(H:Hp)(Q:VK):Prop|mk (a b xs ys:_) (_:x=.ref a) (_:y=.ref b) (_:SqT K H a xs) (_:SqT K H b ys) (_:xs≠[]) (_:xs.length+ys.length<=sizeLine) (_:(ys=[]->Q (.ref a) H)) (_:(ys≠[]->∀ p,H p=none->Q (.ref p) (upd H p (.tup (xs++ys)))))
theorem Vals.nil_iff(r:Vals xs us):us=[]↔xs=[]:=by
 cases r with
 | nil=>simp
 | cons _ _=>simp
theorem op_catT:OpR X (binaryOp .Add) (rCatT X.K):=by
 intro pins s σ H x y v u Q I n p h;obtain⟨a,b,xs,ys,rfl,rfl,f,g,i,hz,l,m⟩:=h;cases n;cases p;obtain⟨its,d,j,_⟩:=I.tuple f;obtain⟨e,c,p2,_⟩:=I.tuple g;show HT.cat_tup j p2 (fun z=>i (d.nil_iff.mp z)) (fun z=>⟨.ref a,H,I,rfl,l (c.nil_iff.mp z)⟩) (fun z=>?_) (by rw[<- d.length,<- c.length];show hz);show⟨.ref s.heap.objs.size,_,I.laid (t':=s.toks) (o:=.tup (xs++ys)) (fun b r q=>yw _ q) (yh _) ?_,rfl,m (fun w=>z (c.nil_iff.mpr w)) _ (I.hok.fresh (yh _))⟩;show⟨by rw[yu];show hz,_,d.append c,IsTup.new _ _⟩
end
noncomputable def ixN(n:Nat)(i:Int):Option Nat:=if 0<=i then(if i<n then some i.toNat else none) else if -(n:Int)<=i then some (i+n).toNat else none
noncomputable def atI{α:Type}(xs:List α)(i:Int):Option α:=(ixN xs.length i).bind fun j=>xs[j]?
theorem qcn(h:ixN n i=some j):seqIndex? i n=some j/\j<n/\-(n:Int)<=i/\i<n:=by
 unfold ixN at h;by_cases a:0<=i
 .rw [yF a] at h;by_cases h1:i<n
  .rw [yF h1] at h;have e:i.toNat=j:=yn h;show⟨by rw[seqIndex_of a h1,e],by lk,by lk,h1⟩
  .rw [yA h1] at h;cases h
 .rw [yA a] at h;by_cases h1:-(n:Int)<=i
  .rw [yF h1] at h;have e:(i+n).toNat=j:=yn h;show⟨by rw[seqIndex_neg (by lk) h1,e],by lk,h1,by lk⟩
  .rw [yA h1] at h;cases h
theorem qco{xs:List α}{v:α}(h:atI xs i=some v):∃ j,seqIndex? i xs.length=some j/\xs[j]?=some v/\j<xs.length/\-(xs.length:Int)<=i/\i<xs.length:=by
 unfold atI at h
 cases e:ixN xs.length i with
 | none=>rw[e] at h;cases h
 | some j =>
  rw[e] at h;obtain⟨h1,a,b,c⟩:=qcn e;show⟨j,h1,h,a,b,c⟩
theorem qw{xs:List α}{v:α}(h:xs[j]?=some v):atI xs (j:Int)=some v:=by
 have a:j<xs.length:=(yc.mp h).1
 have e:ixN xs.length (j:Int)=some j:=by
  unfold ixN;rw[yF (by lk),yF (by lk)];simp
 unfold atI;rw[e];show h
theorem atI_last(xs:List α)(v:α):atI (xs++[v]) (-1)=some v:=by
 have hl:(xs++[v]).length=xs.length+1:=by simp
 have e:ixN (xs++[v]).length (-1)=some xs.length:=by
  unfold ixN;rw[hl,yA (by decide),yF (by lk)]
  congr 1
  lk
 unfold atI;rw[e];show(xs++[v])[xs.length]?=some v;simp
def PlainIx(b:Expr):Prop:=∀ o i,subscripted b false o i=operate [o,i] (getItem o i)
def IxR(X:Cx)(r:R2):Prop:=
 ∀(b a:Expr) (pins:List (Addr×Obj)) (s:Shared) (σ:St) (H:Hp) (x y:V) (v u:Value) (Q:VK),Inv X pins σ H s->RelV x v->RelV y u->r x y H Q ->
  subscripted a false v u=operate [v,u] (getItem v u)->wpAny (model X.prog X.w) X.A (subscriptTail b a v u) (EP X pins σ Q) X.xe s
def MtR(X:Cx)(id:String)(r:V->List V->Hp->VK->Prop):Prop:=
 ∀(pins:List (Addr×Obj)) (s:Shared) (σ:St) (H:Hp) (x:V) (xs:List V) (v:Value) (us:List Value) (Q:VK),Inv X pins σ H s->RelV x v->Vals xs us->r x xs H Q ->
  wpAny (model X.prog X.w) X.A (call (.builtin id) (v::us)) (EP X pins σ Q) X.xe s
section
variable{X:Cx}{a b:Expr}{ta tb:TE}{pos:Pos}
theorem IxR.or{d:R2}(h:IxR X r)(h':IxR X d):IxR X (fun x y H Q=>r x y H Q\/d x y H Q):=by
 intro b a pins s σ H x y v u Q I e f q c;rcases q with q | q
 .show h b a pins s σ H x y v u Q I e f q c
 .show h' b a pins s σ H x y v u Q I e f q c
theorem qu(g:IxR X r)(e:PE X a ta)(f:PE X b tb)(i:PlainIx b):PE X (.Subscript a b pos) (tOp r ta tb):=by
 intro pins s σ H Q I h;show Subscript_ (qft e f I h fun v u m x y c d j l q=>g a b pins m σ c x y v u Q d j l q (i _ _))
inductive rIxL(K:yg)(x:V)(y:V)(H:Hp)(Q:VK):Prop|mk (p xs i v:_) (_:x=.ref p) (_:y=.int i) (_:SqL K H p xs) (_:atI xs i=some v) (_:Q v H)
inductive rIxT(K:yg)(x:V)(y:V)(H:Hp)(Q:VK):Prop|mk (p xs i v:_) (_:x=.ref p) (_:y=.int i) (_:SqT K H p xs) (_:atI xs i=some v) (_:Q v H)
inductive rIxS(x:V)(y:V)(H:Hp)(Q:VK):Prop|mk (z i c:_) (_:x=.str z) (_:y=.int i) (_:z.length<=sizeLine) (_:atI z.cps.toList i=some c) (_:Q (.str ⟨#[c]⟩) H)
theorem ix_list:IxR X (rIxL X.K):=by
 intro e d pins s σ H x y v u Q I C D h l;obtain⟨p,xs,i,z,rfl,rfl,B,A,q⟩:=h;cases C;obtain⟨t,rfl⟩:=D;obtain⟨its,r,pl,hz⟩:=I.list B;obtain⟨j,h1,m,F,n,o⟩:=qco A;obtain⟨w,f,c⟩:=r.get m;have hl:=r.length;have G:=qbg;have a:EP X pins σ Q w s:=⟨z,H,I,c,q⟩;by_cases g:0<=i
 .have b:i.toNat=j:=by
   rw[seqIndex_of g o] at h1;show yn h1
  show item_listR pl.isList g (by lk) (by rw[b];simpa using f) a l
 .have b:(i+(its.toArray.size:Int)).toNat=j:=by
   rw[seqIndex_neg (by lk) n] at h1;rw[yx,<- hl];show yn h1
  show subscriptTail_builtinR (x:=w) pl.isList.typeIs ki.lookup
   (wpAny_getItem_list_neg (Q:=fun r E=>r=w/\EP X pins σ Q r E) pl.isList (by lk) (by rw[yx]<;>lk) (by lk) (by rw[b];simpa using f) ⟨rfl,a⟩) l
theorem ix_tup:IxR X (rIxT X.K):=by
 intro d c pins s σ H x y v u Q I n o h m;obtain⟨p,xs,i,z,rfl,rfl,l,g,q⟩:=h;cases n;obtain⟨t,rfl⟩:=o;obtain⟨its,r,pl,hz⟩:=I.tuple l;obtain⟨j,h1,f,B,C,D⟩:=qco g;obtain⟨w,e,b⟩:=r.get f;have hl:=r.length;have E:=qbg;have a:EP X pins σ Q w s:=⟨z,H,I,b,q⟩;show subscriptTail_builtinR (x:=w) pl.typeIs slot_tuple_getitem.lookup
  (getItem_tuple (j:=j) (Q:=fun r A=>r=w/\EP X pins σ Q r A) pl (by lk) (by lk) (by rw[yx,<- hl];show h1) (by simpa using e) ⟨rfl,a⟩) m
theorem ix_str:IxR X rIxS:=by
 intro b a pins s σ H x y v u Q I o p h n;obtain⟨z,i,c,rfl,rfl,hz,m,q⟩:=h;obtain⟨t,rfl⟩:=o;obtain⟨t',rfl⟩:=p;obtain⟨j,h1,f,r,g,l⟩:=qco m;have hl:z.cps.toList.length=z.length:=by simp[Str.length]
 rw[hl] at h1 g l;have w:=qbg
 show tail_any (typeIs_str s z t) slot_str_getitem.lookup (getItem_str (c:=c) (by
  have d:decide (i < -(2 ^ 63:Int))=false:=yl (by lk);have e:decide (i ≥ 2 ^ 63)=false:=yl (by lk);rw[d,e,XR]) (by rw[h1];simpa using f) ⟨.str ⟨#[c]⟩,H,I.tok _,⟨_,rfl⟩,q⟩) n
def rIx(K:yg):R2:=fun x y H Q=>rIxL K x y H Q\/rIxT K x y H Q\/rIxS x y H Q
theorem ix_seq:IxR X (rIx X.K):=ix_list.or (ix_tup.or ix_str)
theorem mapSeq_set(its:List Value)(n j:Nat)(u:Value):Obj.mapSeq (·.setIfInBounds j u) { cls:=.type "list",data:=.seq its.toArray n }={ cls:=.type "list",data:=.seq (its.set j u).toArray n }:=by
 simp[Obj.mapSeq]
theorem Inv.lst(I:Inv X pins σ H s)(h:H p=some (.lst xs)) :
  ∃(its:List Value) (n:Nat),Vals xs its/\s.heap.get? p=some { cls:=.type "list",data:=.seq its.toArray n }/\xs.length<=sizeLine:=by
 obtain⟨z,its,n,r,e⟩:=I.hok p _ h;show⟨its,n,r,e,z⟩
theorem Inv.lstUpd{ys:List V}{a:Nat}{f:Obj->Obj}(I:Inv X pins σ H s)(h:H p=some (.lst xs))
  (g:s.heap.get? p=some { cls:=.type "list",data:=.seq its.toArray n }) (c:f { cls:=.type "list",data:=.seq its.toArray n }={ cls:=.type "list",data:=.seq its'.toArray a }) (r:Vals ys its') (hz:ys.length<=sizeLine) (t:Nat) :
  Inv X pins σ (upd H p (.lst ys)) { s with heap:=s.heap.update p f,toks:=t }:=by
 have e:(s.heap.update p f).get? p=some { cls:=.type "list",data:=.seq its'.toArray a }:=by
  rw[Y6 f g (by rw[c]<;>rfl),c]
 show I.write (x:=p) (e:=p) (by rw[h];trivial) (.inl rfl) (fun b u d q=>(Heap.get?_update_other _ _ (yZ d)).trans q) ⟨_,e⟩ ?_;show⟨hz,its',a,r,e⟩
inductive rSetL(o:V)(i:V)(v:V)(H:Hp)(Q:(Hp->Prop)):Prop|mk (p xs k j:_) (_:o=.ref p) (_:i=.int k) (_:H p=some (.lst xs)) (_:ixN xs.length k=some j) (_:Q (upd H p (.lst (xs.set j v))))
theorem set_list:qfs X rSetL:=by
 intro pins s σ H o i v C B u Q I w m x h;obtain⟨p,xs,k,j,rfl,rfl,g,l,q⟩:=h;cases w;obtain⟨t,rfl⟩:=m;obtain⟨its,n,r,b,hz⟩:=I.lst g;obtain⟨h1,y,e,f⟩:=qcn l;have hl:=r.length;have A:=qbg
 have c:Inv X pins σ (upd H p (.lst (xs.set j v))) { s with heap:=s.heap.update p (Obj.mapSeq (·.setIfInBounds j u)) }:=
  I.lstUpd g b (mapSeq_set its n j u) (r.set x j) (by rw[XW];show hz) s.toks
 by_cases d:0<=k
 .have a:k.toNat=j:=by
   rw[seqIndex_of d f] at h1;show yn h1
  show PySem.W.ki_setAt b d (by lk) (by rw[yx,<- hl];show f) (by rw[a];show⟨_,c,q⟩)
 .have a:(k+(its.toArray.size:Int)).toNat=j:=by
   rw[seqIndex_neg (by lk) e] at h1;rw[yx,<- hl];show yn h1
  show PySem.W.ki_setBack b (by lk) (by rw[yx,<- hl];show e) (by lk) (by rw[a];show⟨_,c,q⟩)
theorem slice_bounds(lo a:Option Int)(n:Nat):(sliceBounds lo a none n).1=((HT.sIx n 0 lo:Nat):Int)/\(sliceBounds lo a none n).2.1=((HT.sIx n n a:Nat):Int)/\(sliceBounds lo a none n).2.2=1:=by
 show⟨?_,?_,rfl⟩
 .cases lo with
  | none=>simp[sliceBounds,HT.sIx]
  | some i =>
   simp only[sliceBounds,HT.sIx,Option.getD_none,show(1:Int)>0 by decide,XM];by_cases h:i<0
   .simp only[h,XM]<;>lk
   .simp only[h,Xh]<;>lk
 .cases a with
  | none=>simp[sliceBounds,HT.sIx]
  | some i =>
   simp only[sliceBounds,HT.sIx,Option.getD_none,show(1:Int)>0 by decide,XM];by_cases h:i<0
   .simp only[h,XM]<;>lk
   .simp only[h,Xh]<;>lk
theorem slicePick_cut(its:List Value)(lo a:Option Int):slicePick its.toArray lo a none=((its.drop (HT.sIx its.length 0 lo)).take (HT.sIx its.length its.length a-HT.sIx its.length 0 lo)).toArray:=by
 obtain⟨h1,b,c⟩:=slice_bounds lo a its.toArray.size;unfold slicePick;rw[h1,b,c];simp only[sliceRange_one,pick_run,yx]<;>rfl
inductive rSlL(K:yg)(x:V)(lo:Option Int)(hi:Option Int)(H:Hp)(Q:VK):Prop|mk (a xs:_) (_:x=.ref a) (_:SqL K H a xs) (_:∀ p,H p=none->Q (.ref p) (upd H p (.lst (qbb xs lo hi))))
theorem sl_list:SlR X (rSlL X.K):=by
 intro pins s σ H x v n p lo d m Q I j f pl i h;obtain⟨a,xs,rfl,g,q⟩:=h;cases j;obtain⟨its,r,e,hz⟩:=I.list g;have c:=r.length;show⟨"list",_,ki.lookup,e.isList.typeIs,?_⟩;show wpAny_getItem_list_slice e.isList f pl i .none (by simp) ?_ (by rw[yx]<;>lk);rw[slicePick_cut,<- c];show⟨.ref s.heap.objs.size,_,I.laid (t':=s.toks) (o:=.lst (qbb xs lo d)) (fun b l q=>yw _ q) (yh _) ?_,rfl,q _ (I.hok.fresh (yh _))⟩;show⟨yi (qaS xs lo d) hz,_,0,(r.drop (HT.sIx xs.length 0 lo)).take (HT.sIx xs.length xs.length d-HT.sIx xs.length 0 lo),yR _ rfl⟩
noncomputable def qaa:V->Bool
 | .non=>true
 | .bl _=>true
 | .int _=>true
 | .str _=>true
 | _=>false
noncomputable def eqV:V->V->Bool
 | .non,.non=>true
 | .bl a,.bl b=>a==b
 | .bl a,.int b=>(if a then 1 else 0)==b
 | .int a,.bl b=>a==(if b then 1 else 0)
 | .int a,.int b=>a==b
 | .str a,.str b=>a==b
 | _,_=>false
theorem qds(e:RelV y u)(c:RelV x v)(f:qaa y=true)(d:qaa x=true):SeqAt.EqAt A s u v (eqV y x):=by
 cases y with
 | non =>
  cases e
  cases x with
  | non=>cases c;show XX _
  | bl b=>cases c;show SeqAt.EqAt.none_bool b
  | int b=>obtain⟨t,rfl⟩:=c;show SeqAt.EqAt.none_int b t
  | str b=>obtain⟨t,rfl⟩:=c;show SeqAt.EqAt.none_str b t
  | _=>show absurd (show false=true from d) Yq
 | bl a =>
  cases e
  cases x with
  | non=>cases c;show SeqAt.EqAt.bool_none a
  | bl b=>cases c;show SeqAt.EqAt.bool_bool a b
  | int b=>obtain⟨t,rfl⟩:=c;show SeqAt.EqAt.bool_int a b t
  | str b=>obtain⟨t,rfl⟩:=c;show SeqAt.EqAt.bool_str a b t
  | _=>show absurd (show false=true from d) Yq
 | int a =>
  obtain⟨t',rfl⟩:=e
  cases x with
  | non=>cases c;show SeqAt.EqAt.int_none a t'
  | bl b=>cases c;show SeqAt.EqAt.int_bool a t' b
  | int b=>obtain⟨t,rfl⟩:=c;show SeqAt.EqAt.int_int a t' b t
  | str b=>obtain⟨t,rfl⟩:=c;show SeqAt.EqAt.int_str a t' b t
  | _=>show absurd (show false=true from d) Yq
 | str a =>
  obtain⟨t',rfl⟩:=e
  cases x with
  | non=>cases c;show SeqAt.EqAt.str_none a t'
  | bl b=>cases c;show SeqAt.EqAt.str_bool a t' b
  | int b=>obtain⟨t,rfl⟩:=c;show SeqAt.EqAt.str_int a t' b t
  | str b=>obtain⟨t,rfl⟩:=c;show SeqAt.EqAt.str_str a t' b t
  | _=>show absurd (show false=true from d) Yq
 | _=>show absurd (show false=true from f) Yq
noncomputable def eqU(x:V)(u:Value):Bool:=match u with
 | .none=>eqV .non x
 | .bool b=>eqV (.bl b) x
 | .int i _=>eqV (.int i) x
 | .str z _=>eqV (.str z) x
 | _=>false
theorem qdt(r:RelV y u)(f:qaa y=true):eqU x u=eqV y x:=by
 cases y with
 | non=>cases r;rfl
 | bl b=>cases r;rfl
 | int i=>obtain⟨t,rfl⟩:=r;rfl
 | str z=>obtain⟨t,rfl⟩:=r;rfl
 | _=>show absurd (show false=true from f) Yq
theorem qaT:∀{xs:List V} {us:List Value},Vals xs us->xs.all qaa=true->us.any (eqU x)=xs.any fun y=>eqV y x
 | _,_,.nil,_=>rfl
 | y::xs,u::us,.cons r t,f=>by
  rw[Xr,Ym] at f;rw[Xs,Xs,qdt r f.1,qaT t f.2]
theorem zM(b:RelV x v)(a:qaa x=true):∀{xs:List V} {us:List Value},Vals xs us->xs.all qaa=true->∀ u∈us,SeqAt.EqAt A s u v (eqU x u)
 | _,_,.nil,_=>fun u hu=>by cases hu
 | y::xs,u::us,.cons r t,f=>fun c hu=>by
  rw[Xr,Ym] at f;rcases yB.mp hu with rfl | hu
  .rw [qdt r f.1];show qds r b f.1 a
  .show zM b a t f.2 c hu
noncomputable def inV(x:V)(xs:List V):Bool:=xs.any fun y=>eqV y x
inductive rIn(K:yg)(neg:Bool)(x:V)(y:V)(H:Hp)(Q:VK):Prop|mk (p xs:_) (_:y=.ref p) (_:(SqL K H p xs\/SqT K H p xs)) (_:qaa x=true) (_:xs.all qaa=true) (_:Q (.bl (if neg then !inV x xs else inV x xs)) H)
theorem op_in_seq:OpR X (compareOp .In) (rIn X.K false):=by
 intro pins s σ H x y v u Q I b c h;obtain⟨p,xs,rfl,hq,a,fs,q⟩:=h;cases c;rcases hq with hq | hq
 .obtain⟨its,r,pl,hz⟩:=I.list hq;show SeqAt.in_listAt (eqU x) pl.isList (fun w hw=>zM b a r fs w (by simpa using hw)) ⟨.bl _,H,I,rfl,?_⟩;rw[show its.toArray.any (eqU x)=its.any (eqU x) by simp,qaT r fs];show q
 .obtain⟨its,r,pl,hz⟩:=I.tuple hq;show SeqAt.in_tupleAt (eqU x) pl (fun w hw=>zM b a r fs w (by simpa using hw)) ⟨.bl _,H,I,rfl,?_⟩;rw[show its.toArray.any (eqU x)=its.any (eqU x) by simp,qaT r fs];show q
theorem op_notIn_seq:OpR X (compareOp .NotIn) (rIn X.K true):=by
 intro pins s σ H x y v u Q I b c h;obtain⟨p,xs,rfl,hq,a,fs,q⟩:=h;cases c;rcases hq with hq | hq
 .obtain⟨its,r,pl,hz⟩:=I.list hq;show SeqAt.notIn_listAt (eqU x) pl.isList (fun w hw=>zM b a r fs w (by simpa using hw)) ⟨.bl _,H,I,rfl,?_⟩;rw[show its.toArray.any (eqU x)=its.any (eqU x) by simp,qaT r fs];show q
 .obtain⟨its,r,pl,hz⟩:=I.tuple hq;show SeqAt.notIn_tupleAt (eqU x) pl (fun w hw=>zM b a r fs w (by simpa using hw)) ⟨.bl _,H,I,rfl,?_⟩;rw[show its.toArray.any (eqU x)=its.any (eqU x) by simp,qaT r fs];show q
theorem call_len_seq:zG X (.builtin "len") (fun xs H Q=>∃ p ys,xs=[.ref p]/\(SqL X.K H p ys\/SqT X.K H p ys)/\Q (.int ys.length) H):=by
 intro pins s σ H xs us Q I r h;obtain⟨p,ys,rfl,hq,q⟩:=h;obtain⟨u,rfl,c⟩:=qaQ r;cases c;have d:=qbg;rcases hq with hq | hq
 .obtain⟨its,b,pl,hz⟩:=I.list hq;have a:=b.length;show Calls.call_len_list pl.isList (by simp only[yx]<;>lk) ⟨.int ys.length,H,I.tok _,⟨s.toks+1,by rw[yx,a]⟩,q⟩
 .obtain⟨its,b,pl,hz⟩:=I.tuple hq;have a:=b.length;show len_tuple pl (by simp only[yx]<;>lk) ⟨.int ys.length,H,I.tok _,⟨s.toks+1,by rw[yx,a]⟩,q⟩
theorem call_len_str:zG X (.builtin "len") (fun xs H Q=>∃ z,xs=[.str z]/\z.length<=sizeLine/\Q (.int z.length) H):=by
 intro pins s σ H xs us Q I r h;obtain⟨z,rfl,hz,q⟩:=h;obtain⟨u,rfl,t,rfl⟩:=qaQ r;have a:=qbg;show len_str (by lk) ⟨.int z.length,H,I.tok _,⟨_,rfl⟩,q⟩
theorem call_list_of:zG X (.type "list") (fun xs H Q=>∃ p ys,xs=[.ref p]/\(SqL X.K H p ys\/SqT X.K H p ys)/\∀ l,H l=none->Q (.ref l) (upd H l (.lst ys))):=by
 intro pins s σ H xs us Q I r h;obtain⟨p,ys,rfl,hq,q⟩:=h;obtain⟨u,rfl,t⟩:=qaQ r;cases t;have d:∀(its:List Value),Vals ys its->ys.length<=sizeLine->∀(h':Heap) (a:Nat),(∀ b m,s.heap.get? b=some m->h'.get? b=some m) ->
   h'.get? s.heap.objs.size=some { cls:=.type "list",dict:=none,data:=.seq its.toArray a,slots:=#[] }->EP X pins σ Q (.ref s.heap.objs.size) { s with heap:=h' }:=fun its c hz h' a g e =>
  ⟨.ref s.heap.objs.size,_,I.laid (t':=s.toks) g (yh _) (show ObjOk X.prog X.w _ h' _ (.lst ys) from⟨hz,its,a,c,e⟩),rfl,q _ (I.hok.fresh (yh _))⟩
 rcases hq with hq | hq
 .obtain⟨its,c,pl,hz⟩:=I.list hq;have f:=c.length;obtain⟨o,j,hc,n,i⟩:=pl.isList;show call_list_seq p (.inl rfl) j hc i (fun h' a g e=>d its c hz h' a g e) (by simp only[yx]<;>lk)
 .obtain⟨its,c,pl,hz⟩:=I.tuple hq;have f:=c.length;obtain⟨o,j,hc,n,i⟩:=pl;show call_list_seq p (.inr rfl) j hc i (fun h' a g e=>d its c hz h' a g e) (by simp only[yx]<;>lk)
def tyV(K:yg)(T:String)(x:V)(H:Hp):Prop:=match x with
 | .str _=>T="str"
 | .int _=>T="int"
 | .ref p=>(T="list"/\∃ xs,SqL K H p xs)\/(T="tuple"/\∃ o,K.lookup p=some o/\o.cls=.type "tuple"/\o.dict=none) \/
   (T="dict"/\((∃ kvs,H p=some (.dK kvs))\/∃ kvs,H p=some (.dT kvs)))\/(T="set"/\∃ S n,H p=some (.set S n))
 | _=>False
theorem qd9{T:String}(I:Inv X pins σ H s)(r:RelV x v)(ty:tyV X.K T x H) :
  s.TypeIs v T/\∀ a,v=.ref a->∃ g,s.heap.get? a=some g/\g.dict=none:=by
 cases x with
 | str z =>
  obtain⟨t,rfl⟩:=r;cases (show T="str" from ty);show⟨typeIs_str s z t,fun _ e=>nomatch e⟩
 | int i =>
  obtain⟨t,rfl⟩:=r;cases (show T="int" from ty);show⟨typeIs_int s i t,fun _ e=>nomatch e⟩
 | ref p =>
  cases r;rcases ty with⟨rfl,xs,h⟩ | ⟨rfl,o,b,hc,f⟩ | ⟨rfl,b⟩ | ⟨rfl,S,n,b⟩
  .obtain⟨its,_,pl,_⟩:=I.list h;show⟨pl.isList.typeIs,fun a e=>?_⟩;cases e;obtain⟨o,n,e,c,f,_⟩:=pl;show⟨o,e,f⟩
  .show⟨⟨o,I.kIn p o b,hc⟩,fun a e=>?_⟩;cases e;show⟨o,I.kIn _ o b,f⟩
  .have z:∃ o,s.heap.get? p=some o/\o.ExactDict:=by
    rcases b with⟨kvs,b⟩ | ⟨kvs,b⟩
    .obtain⟨_,_,_,_,o,_,_,e,ex,_⟩:=I.hok p _ b;show⟨o,e,ex⟩
    .obtain⟨_,_,_,_,o,_,_,e,ex,_⟩:=I.hok p _ b;show⟨o,e,ex⟩
   obtain⟨o,e,ex⟩:=z;show⟨⟨o,e,ex.1⟩,fun a d=>?_⟩;cases d;show⟨o,e,ex.2.1⟩
  .obtain⟨o,_,_,_,e,ex,_⟩:=I.hok p _ b;show⟨⟨o,e,ex.1⟩,fun a d=>?_⟩;cases d;show⟨o,e,ex.2.1⟩
 | _=>show False.elim ty
def qfu(K:yg)(T:String)(r:V->List V->Hp->VK->Prop)(b:TE):TE:=fun σ H Q=>b σ H fun x a=>tyV K T x a/\r x [] a Q
def tBM(K:yg)(T:String)(r:V->List V->Hp->VK->Prop)(c:TE)(t:TA):TE:=fun σ H Q=>c σ H fun x a=>tyV K T x a/\t σ a fun xs b=>r x xs b Q
variable{o e:Expr}{es:List Expr}{to:TE}{t:TA}{name:Str}{apos cpos:Pos}{T id:String}{r:V->List V->Hp->VK->Prop}
theorem pe_bm0(m:PlainAttrs T)(c:Slot T name id)(d:typeOf (.builtin id)=pure (.type "method_descriptor"))(j:MtR X id r)(l:PE X o to)
  (a:attributeBase o name X.env (eval o X.env)=eval o X.env:=by rfl) (b:(apos.endLine==cpos.line)=true:=by rfl):PE X (.Call (.Attribute o name apos) [] [] cpos) (qfu X.K T r to):=by
 intro pins s σ H Q I h;show wpAny_Call_method0_late a b (thn (l pins s σ H _ I h) fun v p ⟨x,g,e,f,ty,n⟩=>?_);obtain⟨h1,i⟩:=qd9 e f ty;show⟨T,id,m,c,d,h1,i,XC rfl (PySem.evalArgs_none (j pins p σ g x [] v [] Q e f .nil n))⟩
theorem pe_bm(B:PlainAttrs T)(f:Slot T name id)(g:typeOf (.builtin id)=pure (.type "method_descriptor"))(w:MtR X id r)(y:PE X o to)(u:PA X (e::es) t)
  (b:attributeBase o name X.env (eval o X.env)=eval o X.env:=by rfl)
  (d:((backTo cpos (starEach (e::es) X.env)).all (fun x=>!x.1)&&(backToKw cpos (keywordEach [] X.env)).all (fun x=>x.1.isSome)
   && decide ((e::es).length+([]:List Keyword).length+(if ([]:List Keyword).isEmpty then 0 else 1)<30))=true:=by rfl)
  (c:(apos.endLine==cpos.line)=true:=by rfl) (A:starEach (e::es) X.env=(false,eval e X.env)::starEach es X.env:=by rfl) (a:(backTo cpos (starEach es X.env)).any (·.1)=false:=by rfl) :
  PE X (.Call (.Attribute o name apos) (e::es) [] cpos) (tBM X.K T r to t):=by
 intro pins s σ H Q I h;show wpAny_Call_method_late b d c rfl (thn (y pins s σ H _ I h) fun v F ⟨x,m,i,l,ty,C⟩=>?_);obtain⟨h1,q⟩:=qd9 i l ty;show⟨T,id,B,f,g,h1,q,?_⟩;have j:=u cpos pins F σ m _ i C;rw[A] at j ⊢;show XC (by show(false||(backTo cpos (starEach es X.env)).any (·.1))=false;rw[a]<;>rfl) (Calls.evalArgs_plain ?_);show thn j fun us G ⟨vs,n,p,E,D⟩=>w pins G σ n x vs v us Q p l E D
end
def MtM(X:Cx)(id:String)(r:V->List V->Hp->VK->Prop):Prop:=
 ∀(pins:List (Addr×Obj)) (s:Shared) (σ:St) (H:Hp) (x:V) (xs:List V) (v:Value) (us:List Value) (Q:VK),Inv X pins σ H s->RelV x v->Vals xs us->r x xs H Q ->
  wpAny (model X.prog X.w) X.A (call (.builtin id) (v::us)) (EP X pins σ Q) X.xe s
theorem Vals.one:∀{x:V} {us:List Value},Vals [x] us->∃ u,us=[u]/\RelV x u
 | _,_,.cons r .nil=>⟨_,rfl,r⟩
theorem Vals.zero:∀{us:List Value},Vals [] us->us=[]
 | _,.nil=>rfl
theorem Vals.eraseIdx:∀{xs:List V} {us:List Value} (i:Nat),Vals xs us->Vals (xs.eraseIdx i) (us.eraseIdx i)
 | _,_,_,.nil=>.nil
 | _,_,0,.cons _ t=>t
 | _,_,i+1,.cons r t=>.cons r (Vals.eraseIdx i t)
theorem Vals.rep(h:Vals xs us):∀ k:Nat,Vals (List.replicate k xs).flatten (List.replicate k us).flatten
 | 0=>.nil
 | k+1=>by
  rw[xq,xq,Xb,Xb];show Vals.append h (Vals.rep h k)
theorem qbV:∀(l:List α) (i:Nat),(l.eraseIdx i).length<=l.length
 | [],_=>yh _
 | _::_,0=>Xg _
 | _::r,i+1=>xt (qbV r i)
theorem qbW(its:List Value):∀(k:Nat) (acc:List Value),
  List.foldl (fun b c=>b++c) acc.toArray (List.replicate k its.toArray)=(acc++(List.replicate k its).flatten).toArray
 | 0,acc=>by simp
 | k+1,acc=>by
  have e:acc.toArray++its.toArray=(acc++its).toArray:=by simp
  have a:(acc++its)++(List.replicate k its).flatten=acc++(List.replicate (k+1) its).flatten:=by
   rw[xq,Xb,Yh]
  rw[<- a,<- qbW its k (acc++its),<- e,xq,List.foldl_cons]
section
variable{X:Cx}{pins:List (Addr×Obj)}{σ:St}{H:Hp}{s:Shared}{l b:Addr}{xs ys zs:List V}
theorem Inv.lset{f:Array Value->Array Value}(I:Inv X pins σ H s)(a:H l=some (.lst xs))
  (e:s.heap.get? l=some { cls:=.type "list",data:=.seq its.toArray n }) (c:f its.toArray=its'.toArray) (hv:Vals ys its') (hz:ys.length<=sizeLine) :
  Inv X pins σ (upd H l (.lst ys)) { s with heap:=s.heap.update l (Obj.mapSeq f),toks:=t' }:=by
 have q:=PySem.IsL.update e f;rw[c] at q;show I.write (x:=l) (e:=l) (by rw[a];show trivial) (.inl rfl) (fun g u b d=>(Heap.get?_update_other s.heap (Obj.mapSeq f) (yZ b)).trans d) ⟨_,q⟩ ?_;show⟨hz,its',_,hv,q⟩
theorem Inv.lnew(I:Inv X pins σ H s)(hv:Vals ys its)(hz:ys.length<=sizeLine) :
  Inv X pins σ (upd H s.heap.objs.size (.lst ys)) { s with heap:=s.heap.push { cls:=.type "list",data:=.seq its.toArray },toks:=t' }:=
 I.laid (fun _ _ q=>yw _ q) (yh _) ⟨hz,its,0,hv,yR _ rfl⟩
theorem Inv.fresh(I:Inv X pins σ H s):H s.heap.objs.size=none:=I.hok.fresh (yh _)
theorem Inv.lstM(I:Inv X pins σ H s)(a:H l=some (.lst xs)):xs.length<=sizeLine/\∃(its:List Value) (n:Nat),Vals xs its/\xs.length=its.length/\s.heap.get? l=some { cls:=.type "list",data:=.seq its.toArray n }:=by
 obtain⟨z,its,n,r,e⟩:=I.hok l _ a;show⟨z,its,n,r,r.length,e⟩
theorem qcQ(h:n<=sizeLine):Builtin.List.listTooLong n=false:=by
 unfold Builtin.List.listTooLong;show yl (by lk)
end
section
variable{X:Cx}
inductive rAppend(x:V)(vs:List V)(H:Hp)(Q:VK):Prop|mk (l xs y:_) (_:x=.ref l) (_:vs=[y]) (_:H l=some (.lst xs)) (_:xs.length<sizeLine) (_:Q .non (upd H l (.lst (xs++[y]))))
theorem mt_append:MtM X "list.append" rAppend:=by
 intro pins s σ H x vs v us Q I d c h;obtain⟨l,xs,y,rfl,rfl,a,hz,q⟩:=h;cases d;obtain⟨u,rfl,b⟩:=c.one;obtain⟨z,its,n,r,hl,e⟩:=I.lstM a;show XH F.slot_list_append ⟨_,e,rfl⟩ F.entry_list_append (F.args_list_append_2 _ _) (PySem.list_append l its.toArray n u (by rw[yx];lk)) ⟨e,?_⟩;show⟨.non,_,I.lset (its':=its++[u]) a e (by simp) (r.append (.cons b .nil)) ?_,rfl,q⟩;rw[yu,xA];lk
inductive rExtend(x:V)(vs:List V)(H:Hp)(Q:VK):Prop|mk (l b xs zs:_) (_:x=.ref l) (_:vs=[.ref b]) (_:H l=some (.lst xs)) (_:H b=some (.lst zs)) (_:xs.length+zs.length<=sizeLine) (_:Q .non (upd H l (.lst (xs++zs))))
theorem mt_extend:MtM X "list.extend" rExtend:=by
 intro pins s σ H x vs v us Q I t p h;obtain⟨l,b,xs,y,rfl,rfl,d,g,hz,q⟩:=h;cases t;obtain⟨u,rfl,o⟩:=p.one;cases o;obtain⟨z,its,n,r,hl,e⟩:=I.lstM d;obtain⟨w,a,j,m,i,f⟩:=I.lstM g;have hsz:its.toArray.size+a.toArray.size<=sizeLine:=by rw[yx,yx];lk
 have c:¬ (!its.toArray.isEmpty&&Builtin.List.listTooLong (its.toArray.size+a.toArray.size))=true:=by
  rw[qcQ hsz,Bool.and_false];show Yq
 show XH F.slot_list_extend ⟨_,e,rfl⟩ F.entry_list_extend (F.args_list_extend_2 _ _)
  (AutoSeq1.list_extend_list_list_0 l its.toArray n b a.toArray j c (by rw[yx];lk) (by lk)) ⟨e,f,?_⟩
 show⟨.non,_,I.lset (its':=its++a) d e (by simp) (r.append m) ?_,rfl,q⟩;rw[yu];lk
inductive rPop(x:V)(vs:List V)(H:Hp)(Q:VK):Prop|mk (l xs y:_) (_:x=.ref l) (_:vs=[]) (_:H l=some (.lst xs)) (_:xs[xs.length-1]?=some y) (_:Q y (upd H l (.lst xs.dropLast)))
inductive rPopAt(x:V)(vs:List V)(H:Hp)(Q:VK):Prop|mk (l xs i k y:_) (_:x=.ref l) (_:vs=[.int i]) (_:H l=some (.lst xs)) (_:-(2 ^ 63)<=i) (_:i<2 ^ 63) (_:seqIndex? i xs.length=some k) (_:xs[k]?=some y) (_:Q y (upd H l (.lst (xs.eraseIdx k))))
theorem mt_popAt:MtM X "list.pop" rPopAt:=by
 intro pins s σ H x vs v us Q I m j h;obtain⟨l,xs,i,k,y,rfl,rfl,b,h1,c,d,f,q⟩:=h;cases m;obtain⟨u,rfl,g⟩:=j.one;obtain⟨t,rfl⟩:=g;obtain⟨z,its,n,r,hl,e⟩:=I.lstM b;obtain⟨w,hw,a⟩:=r.get f;show XH F.slot_list_pop ⟨_,e,rfl⟩ F.entry_list_pop (F.args_list_pop_2 _ _)
  (MeetsSeq.list_pop_at l its.toArray n i t k w (fitsIndex_both h1 c) (by rw[yx,<- hl];show d) (by rw[<- x8];show hw) (by rw[yx];lk)) ⟨e,?_⟩
 show⟨y,_,I.lset (its':=its.eraseIdx k) b e ?_ (r.eraseIdx k) ?_,a,q⟩
 .show its.toArray.eraseIdxIfInBounds k=(its.eraseIdx k).toArray;rw[List.eraseIdxIfInBounds_toArray]
 .have:=qbV xs k;lk
inductive rReverse(x:V)(vs:List V)(H:Hp)(Q:VK):Prop|mk (l xs:_) (_:x=.ref l) (_:vs=[]) (_:H l=some (.lst xs)) (_:Q .non (upd H l (.lst xs.reverse)))
inductive rClear(x:V)(vs:List V)(H:Hp)(Q:VK):Prop|mk (l xs:_) (_:x=.ref l) (_:vs=[]) (_:H l=some (.lst xs)) (_:Q .non (upd H l (.lst [])))
theorem mt_clear:MtM X "list.clear" rClear:=by
 intro pins s σ H x vs v us Q I d c h;obtain⟨l,xs,rfl,rfl,b,q⟩:=h;cases d;have a:=c.zero;subst a;obtain⟨z,its,n,r,hl,e⟩:=I.lstM b;show XH F.slot_list_clear ⟨_,e,rfl⟩ F.entry_list_clear (F.args_list_clear_1 _) (AutoSeq1.list_clear_list_0 l its.toArray n (by rw[yx];lk)) ⟨e,?_⟩;show⟨.non,_,I.lset (its':=[]) (ys:=[]) b e rfl .nil (YF _),rfl,q⟩
inductive rCat(x:V)(y:V)(H:Hp)(Q:VK):Prop|mk (l b xs zs:_) (_:x=.ref l) (_:y=.ref b) (_:H l=some (.lst xs)) (_:H b=some (.lst zs)) (_:xs.length+zs.length<=sizeLine) (_:∀ p,H p=none->Q (.ref p) (upd H p (.lst (xs++zs))))
theorem op_cat:OpR X (binaryOp .Add) rCat:=by
 intro pins s σ H x y v u Q I m o h;obtain⟨l,b,xs,w,rfl,rfl,g,f,hz,q⟩:=h;cases m;cases o;obtain⟨z,its,n,r,hl,e⟩:=I.lstM g;obtain⟨t,a,p,j,i,c⟩:=I.lstM f;show PySem.P.add_list e c ?_ (by rw[yx,yx];lk);have d:its.toArray++a.toArray=(its++a).toArray:=by simp
 rw[d];show⟨.ref _,_,I.lnew (t':=s.toks) (r.append j) (by rw[yu];lk),rfl,q _ I.fresh⟩
inductive rRep(x:V)(y:V)(H:Hp)(Q:VK):Prop|mk (l k xs:_) (_:x=.ref l) (_:y=.int k) (_:H l=some (.lst xs)) (_:-(2 ^ 63)<=k) (_:k<2 ^ 63) (_:xs.length*k.toNat<=sizeLine) (_:∀ p,H p=none->Q (.ref p) (upd H p (.lst (List.replicate k.toNat xs).flatten)))
theorem len_rep(xs:List α)(k:Nat):(List.replicate k xs).flatten.length=k*xs.length:=by
 induction k with
 | zero=>simp
 | succ k ih=>rw[xq,Xb,yu,ih,Nat.succ_mul,Nat.add_comm]
theorem qea:OpR X (binaryOp .Mult) rRep:=by
 intro pins s σ H x y v u Q I A B h;obtain⟨l,k,xs,rfl,rfl,w,h1,p,hz,q⟩:=h;cases A;obtain⟨t,rfl⟩:=B;obtain⟨z,its,n,r,hl,e⟩:=I.lstM w;have f:its.toArray.size*k.toNat<=sizeLine:=by rw[yx,<- hl];show hz
 have c:¬ its.toArray.size*k.toNat>(2 ^ 63-1) / 8:=by
  have:(sizeLine:Nat)<=(2 ^ 63-1) / 8:=by decide
  lk
 have d:¬ (!Builtin.List.listFitsIndex k)=true:=by
  rw[fitsIndex_both h1 p];show Yq
 have b:¬ Builtin.List.listTooLong (its.toArray.size*k.toNat)=true:=by
  rw[qcQ f];show Yq
 have g:List.foldl (fun i j=>i++j) #[] (List.replicate (if its.toArray.isEmpty=true then 0 else k.toNat) its.toArray)=(List.replicate k.toNat its).flatten.toArray:=by
  have o:∀ m:Nat,List.foldl (fun i j=>i++j) #[] (List.replicate m its.toArray)=(List.replicate m its).flatten.toArray:=fun m=>by
   have:=qbW its m [];rw[List.nil_append] at this;show this
  rw[o]
  cases its with
  | nil=>simp
  | cons a r'=>rw[yA (by simp)]
 show wpAny_binaryOp_repeat_ref (T:="list") (U:="int") (by decide) ⟨_,e,rfl⟩ (fun C=>typeIs_int C k t) noFill_list_mul F.fills_int_mul F.slot_int_rmul repeat_list F.slot_int_index.lookup
  (XH F.slot_int_rmul (typeIs_int s k t) F.entry_int_rmul (F.args_int_rmul_2 _ _) (int___rmul___int_list k t l its.toArray n)
   ⟨e,rfl,⟨_,e,rfl⟩,XH F.slot_list_mul ⟨_,e,rfl⟩ F.entry_list_mul (F.args_list_mul_2 _ _) (AutoListH.list___mul___list_int_3 l its.toArray n k t d c b) ⟨e,?_⟩⟩)
 rw[g];show⟨.ref _,_,I.lnew (t':=s.toks) (r.rep k.toNat) (by rw[len_rep,Nat.mul_comm];show hz),rfl,q _ I.fresh⟩
end
section
variable{prog:Program}{w:World}{A:Around}{E:Value->Shared->Prop}{s:Shared}
set_option maxRecDepth 100000 in
end
section
variable{X:Cx}
end
section
variable{κ:Type}[DecidableEq κ]
noncomputable def j4(kvs:List (κ×V))(k:κ):Option V:=(kvs.find? fun a=>decide (a.1=k)).map (·.2)
noncomputable def zo(kvs:List (κ×V))(k:κ)(v:V):List (κ×V):=
 if (kvs.any fun a=>decide (a.1=k))=true then kvs.map (fun a=>if a.1=k then(a.1,v) else a) else kvs++[(k,v)]
noncomputable def dropK(kvs:List (κ×V))(k:κ):List (κ×V):=kvs.filter fun a=>decide (a.1≠k)
theorem jh{p:κ×V}{r:List (κ×V)}{k:κ}(e:p.1=k):j4 (p::r) k=some p.2:=by simp[j4,xC,e]
theorem qZ{p:κ×V}{r:List (κ×V)}{k:κ}(e:¬ p.1=k):j4 (p::r) k=j4 r k:=by simp[j4,xC,e]
theorem zN(k:κ):∀ kvs:List (κ×V),(kvs.any fun a=>decide (a.1=k))=(j4 kvs k).isSome
 | []=>rfl
 | p::r=>by
  rw[Xs];by_cases e:p.1=k
  .simp only[jh e,yS e,Bool.true_or,Option.isSome_some]
  .rw [qZ e,yl e,Bool.false_or];show zN k r
theorem qcR(k j:κ)(y:V):∀ kvs:List (κ×V),j4 (kvs.map fun a=>if a.1=k then(a.1,y) else a) j=(j4 kvs j).map fun x=>if j=k then y else x
 | []=>rfl
 | p::r=>by
  have b:=qcR k j y r;rw[Yu];by_cases h:p.1=k
  .rw [yF h];by_cases e:p.1=j
   .rw [jh (p:=(p.1,y)) e,jh e,Xw,yF (e.symm.trans h)]
   .rw [qZ (p:=(p.1,y)) e,qZ e,b]
  .rw [yA h];by_cases e:p.1=j
   .rw [jh (p:=p) e,jh e,Xw,yA (fun z=>h (e.trans z))]
   .rw [qZ (p:=p) e,qZ e,b]
theorem qbX(k j:κ)(y:V):∀ kvs:List (κ×V),j4 kvs k=none->j4 (kvs++[(k,y)]) j=if j=k then some y else j4 kvs j
 | [],_=>by
  by_cases e:k=j
  .rw [yF e.symm];show jh (p:=(k,y)) e
  .rw [yA (fun z=>e z.symm)];show qZ (p:=(k,y)) e
 | p::r,hn=>by
  rw[kI];have a:¬ p.1=k:=fun z=>by rw[jh z] at hn;cases hn
  rw[qZ a] at hn;have b:=qbX k j y r hn;by_cases e:p.1=j
  .rw [jh e,jh e,yA (fun z=>a (e.trans z))]
  .rw [qZ e,qZ e,b]
theorem qaC(kvs:List (κ×V))(k j:κ)(y:V):j4 (zo kvs k y) j=if j=k then some y else j4 kvs j:=by
 unfold zo;by_cases a:(kvs.any fun c=>decide (c.1=k))=true
 .rw [yF a,qcR];rw[zN] at a;by_cases e:j=k
  .obtain⟨x,b⟩:=Option.isSome_iff_exists.mp a;rw[yF e,e,b,Xw,yF rfl]
  .rw [yA e]
   cases j4 kvs j with
   | none=>rfl
   | some x=>rw[Xw,yA e]
 .rw [yA a];show qbX k j y kvs ?_;rw[zN] at a
  cases q:j4 kvs k with
  | none=>rfl
  | some x=>rw[q] at a;show(a rfl).elim
theorem jD(kvs:List (κ×V))(k:κ)(v:V):(zo kvs k v).length<=kvs.length+1:=by
 unfold zo;split
 .rw [ya];lk
 .rw [yu,yD,xD];lk
theorem qaD{kvs:List (κ×V)}{k:κ}(v:V)(h:j4 kvs k=none):zo kvs k v=kvs++[(k,v)]:=by
 unfold zo;rw[zN,h];show yA (by decide)
theorem RelO.isSome_eq{u:Option Value}(r:RelO o u):o.isSome=u.isSome:=by
 cases o with
 | none=>cases u with
  | none=>rfl
  | some _=>show(show False from r).elim
 | some _=>cases u with
  | none=>show(show False from r).elim
  | some _=>rfl
theorem RelO.getD{u:Option Value}{d:V}{d':Value}(r:RelO o u)(rd:RelV d d'):RelV (o.getD d) (u.getD d'):=by
 cases o with
 | none=>cases u with
  | none=>show rd
  | some _=>show(show False from r).elim
 | some _=>cases u with
  | none=>show(show False from r).elim
  | some _=>show r
theorem KV.val{kvs:List (κ×V)}{vs:List (κ×Value)}(r:KV kvs vs)(k:κ):RelO (j4 kvs k) (valueAt vs k):=by
 unfold KV at r
 induction r with
 | nil=>show YZ
 | @cons p q ps qs h t ih =>
  obtain⟨h1,c⟩:=h;by_cases e:p.1=k
  .have a:q.1=k:=h1.symm.trans e;have b:valueAt (q::qs) k=some q.2:=by simp[valueAt,xC,a]
   rw[jh e,b];show c
  .have a:¬ q.1=k:=fun z=>e (h1.trans z);have b:valueAt (q::qs) k=valueAt qs k:=by simp[valueAt,xC,a]
   rw[qZ e,b];show ih
theorem KV.any{kvs:List (κ×V)}{vs:List (κ×Value)}(r:KV kvs vs)(k:κ):(kvs.any fun a=>decide (a.1=k))=vs.any fun a=>decide (a.1=k):=by
 unfold KV at r
 induction r with
 | nil=>rfl
 | cons h t ih=>rw[Xs,Xs,ih,h.1]
theorem KV.repl{kvs:List (κ×V)}{vs:List (κ×Value)}(r:KV kvs vs)(k:κ)(c:RelV y u) :
  KV (kvs.map fun a=>if a.1=k then(a.1,y) else a) (vs.map fun a=>if a.1=k then(a.1,u) else a):=by
 unfold KV at r ⊢
 induction r with
 | nil=>show .nil
 | @cons p q ps qs h t ih =>
  rw[Yu,Yu];show .cons ?_ ih;obtain⟨h1,b⟩:=h;by_cases e:p.1=k
  .rw [yF e,yF (h1.symm.trans e)];show⟨h1,c⟩
  .rw [yA e,yA (fun z=>e (h1.trans z))];show⟨h1,b⟩
theorem KV.put{kvs:List (κ×V)}{vs:List (κ×Value)}(r:KV kvs vs)(k:κ)(a:RelV y u):KV (zo kvs k y) (stored vs k u):=by
 unfold zo stored;rw[r.any k];by_cases e:(vs.any fun b=>decide (b.1=k))=true
 .rw [yF e,yF e];show r.repl k a
 .rw [yA e,yA e];show Paired.snoc r ⟨rfl,a⟩
theorem KV.length{kvs:List (κ×V)}{vs:List (κ×Value)}(r:KV kvs vs):kvs.length=vs.length:=Paired.length r
end
theorem qdc{k:Key}(r:RelV (kV k) u):(jm P w).is k u=true:=by
 cases k with
 | inl i=>obtain⟨t,e⟩:=(show ∃ t,u=Value.int i t from r);subst e;show mixKind_int P w i t
 | inr x=>obtain⟨t,e⟩:=(show ∃ t,u=Value.str x t from r);subst e;show mixKind_str P w x t
theorem qbY:∀{ks:List Key} {us:List Value},Vals (ks.map kV) us->ItemsAre (jm P w) ks us
 | [],_,r=>by rw[List.map_nil] at r;cases r;show .nil
 | k::ks,_,r=>by
  rw[Yu] at r
  cases r with
  | cons h t=>show .cons (qdc h) (qbY t)
abbrev KT(H:Hp):List (List Key×V)->List (List Key×Addr×Value)->Prop:=Paired fun p q=>p.1=q.1/\H q.2.1=some (.tup (p.1.map kV))/\RelV p.2 q.2.2
theorem KT.val{xs:List (List Key×Addr×Value)}(r:KT H kvs xs)(k:List Key):RelO (j4 kvs k) ((atKey xs k).map (·.2)):=by
 induction r with
 | nil=>show YZ
 | @cons p q ps qs h t ih =>
  obtain⟨h1,_,c⟩:=h;by_cases e:p.1=k
  .have a:q.1=k:=h1.symm.trans e;have b:atKey (q::qs) k=some q.2:=by simp[atKey,xC,a]
   rw[jh e,b];show c
  .have a:¬ q.1=k:=fun z=>e (h1.trans z);have b:atKey (q::qs) k=atKey qs k:=by simp[atKey,xC,a]
   rw[qZ e,b];show ih
theorem KT.repl{xs:List (List Key×Addr×Value)}(r:KT H kvs xs)(k:List Key)(d:RelV y u) :
  KT H (kvs.map fun a=>if a.1=k then(a.1,y) else a) (xs.map (putAt k u)):=by
 induction r with
 | nil=>show .nil
 | @cons p q ps qs h t ih =>
  rw[Yu,Yu];show .cons ?_ ih;obtain⟨h1,b,c⟩:=h;unfold putAt;by_cases e:p.1=k
  .rw [yF e,yF (h1.symm.trans e)];show⟨h1,b,d⟩
  .rw [yA e,yA (fun z=>e (h1.trans z))];show⟨h1,b,c⟩
theorem KT.put{xs:List (List Key×Addr×Value)}(r:KT H kvs xs)(k:List Key){b:Addr}(c:H b=some (.tup (k.map kV)))(a:RelV y u) :
  KT H (zo kvs k y) (storedH xs k b u):=by
 have e:(kvs.any fun d=>decide (d.1=k))=(atKey xs k).isSome:=by
  rw[zN,(r.val k).isSome_eq,Xc]
 unfold zo storedH;rw[e];by_cases q:(atKey xs k).isSome=true
 .rw [yF q,yF q];show r.repl k a
 .rw [yA q,yA q];show Paired.snoc r ⟨rfl,c,a⟩
theorem KT.keeps{xs:List (List Key×Addr×Value)}(r:KT H kvs xs)(a:∀ b ys,H b=some (.tup ys)->H' b=some (.tup ys)):KT H' kvs xs:=
 Paired.mapP r fun _ _ z=>⟨z.1,a _ _ z.2.1,z.2.2⟩
section
variable{P:Program}{w:World}{H:Hp}{h:Heap}{a:Addr}
theorem qe0{u:HO}(ok:HOk P w H h)(e:Rd H a u):ObjOk P w H h a u:=e.ok ok
theorem qbZ{kvs:List (Key×V)}(ok:HOk P w H h)(e:Rd H a (.dK kvs)):kvs.length<=sizeLine/\(a==sysModules)=false/\∃ vs,KV kvs vs/\h.DictOf (jm P w) a vs:=
 show ObjOk P w H h a (.dK kvs) from qe0 ok e
theorem dk_of{kvs:List (Key×V)}(ok:HOk P w H h)(e:H a=some (.dK kvs)):kvs.length<=sizeLine/\(a==sysModules)=false/\∃ vs,KV kvs vs/\h.DictOf (jm P w) a vs:=qbZ ok (.inl e)
theorem qbi{ks:List Key}(ok:HOk P w H h)(e:H a=some (.tup (ks.map kV))):(tupleKind (jm P w)).is h ks a:=by
 obtain⟨_,its,r,o,h1,b,n,c⟩:=(show ObjOk P w H h a (.tup (ks.map kV)) from ok a _ e);show⟨o,its.toArray,n,h1,b,c,by simpa using qbY r⟩
theorem qcp(ok:HOk P w H h)(e:Rd H a (.dT kvs)):kvs.length<=sizeLine/\(a==sysModules)=false /\
  ∃ xs,KT H kvs xs/\h.DictOfH (tupleKind (jm P w)) a xs:=by
 obtain⟨z,y,xs,r,o,b,ep,h1,c,d,f,g⟩:=(show ObjOk P w H h a (.dT kvs) from qe0 ok e);show⟨z,y,xs,r,o,b,ep,h1,c,d,f,fun x hx=>?_,g⟩
 have all:∀{l:List (List Key×V)} {m:List (List Key×Addr×Value)},KT H l m->∀ x∈m,(tupleKind (jm P w)).is h x.1 x.2.1:=by
  intro l m q
  induction q with
  | nil=>intro x hx;show nomatch hx
  | @cons p q ps qs hq t ih =>
   intro x hx;rcases yB.mp hx with e | hx
   .subst e;show qbi ok (by rw[<- hq.1];show hq.2.1)
   .show ih x hx
 show all r x hx
theorem dt_of(ok:HOk P w H h)(e:H a=some (.dT kvs)):kvs.length<=sizeLine/\(a==sysModules)=false /\
  ∃ xs,KT H kvs xs/\h.DictOfH (tupleKind (jm P w)) a xs:=qcp ok (.inl e)
end
def DGet(H:Hp)(a:Addr)(y:V)(r:Option V):Prop:=
 (∃ kvs k,Rd H a (.dK kvs)/\y=kV k/\r=j4 kvs k)\/∃ kvs k b,Rd H a (.dT kvs)/\y=.ref b/\H b=some (.tup (k.map kV))/\r=j4 kvs k
def DPut(H:Hp)(a:Addr)(y v:V)(H':Hp):Prop:=
 (∃ kvs k,H a=some (.dK kvs)/\y=kV k/\kvs.length<sizeLine/\H'=upd H a (.dK (zo kvs k v))) \/
 ∃ kvs k b,H a=some (.dT kvs)/\y=.ref b/\H b=some (.tup (k.map kV))/\kvs.length<sizeLine/\H'=upd H a (.dT (zo kvs k v))
theorem DGet.k{kvs:List (Key×V)}{k:Key}(e:H a=some (.dK kvs)):DGet H a (kV k) (j4 kvs k):=.inl ⟨kvs,k,.inl e,rfl,rfl⟩
theorem DPut.k{kvs:List (Key×V)}{k:Key}{v:V}(e:H a=some (.dK kvs))(hl:kvs.length<sizeLine):DPut H a (kV k) v (upd H a (.dK (zo kvs k v))):=.inl ⟨kvs,k,e,rfl,hl,rfl⟩
section
variable{X:Cx}{pins:List (Addr×Obj)}{σ:St}{H:Hp}{s:Shared}{a:Addr}{y v:V}{u r:Value}{o:Option V}{A:Around}{E:Value->Shared->Prop}
theorem Inv.big(I:Inv X pins σ H s):sysModules<s.heap.objs.size:=by
 have h:mainGlobals<s.heap.objs.size:=(I.mod.glob.keeps I.bk).lt;show Xj (by decide) h
theorem d_getItem{Q:Value->Shared->Prop}(B:A.units+1<cLine)(I:Inv X pins σ H s)(g:DGet H a y (some v))(n:RelV y u)(h:∀ f q,Inv X pins σ H q->RelV v f->Q f q) :
  wpAny (model X.prog X.w) A (getItem (.ref a) u) Q E s:=by
 rcases g with⟨kvs,k,e,j,l⟩ | ⟨kvs,k,b,e,j,r,l⟩
 .subst j;obtain⟨z,t,vs,c,i⟩:=qbZ I.hok e;obtain⟨f,hw,d⟩:=RelO.some_of (v:=v) (o:=valueAt vs k) (by rw[l];show c.val k);show wpAny_getItem_of (qdc n) i.mapOf hw (h f _ (I.tok _) d)
 .subst j;cases (show u=Value.ref b from n);obtain⟨z,t,xs,c,i⟩:=qcp I.hok e;obtain⟨f,hw,d⟩:=RelO.some_of (v:=v) (o:=(atKey xs k).map (·.2)) (by rw[l];show c.val k);obtain⟨p,x,m⟩:=yo.mp hw;show wpAny_getItem_heap (xU B) (qbi I.hok r) i x ?_;rw[m];show h f _ (I.tok _) d
theorem d_in{Q:Value->Shared->Prop}(p:A.units+1<cLine)(I:Inv X pins σ H s)(g:DGet H a y o)(j:RelV y u)(h:∀ m,Inv X pins σ H m->Q (.bool o.isSome) m) :
  wpAny (model X.prog X.w) A (compareOp .In u (.ref a)) Q E s:=by
 rcases g with⟨kvs,k,e,f,l⟩ | ⟨kvs,k,b,e,f,n,l⟩
 .subst f;obtain⟨z,i,vs,c,d⟩:=qbZ I.hok e;show wpAny_in_of (qdc j) i d.mapOf ?_;rw[<- (c.val k).isSome_eq,<- l];show h _ (I.tok _)
 .subst f;cases (show u=Value.ref b from j);obtain⟨z,i,xs,c,d⟩:=qcp I.hok e;show wpAny_in_heap (xU p) (qbi I.hok n) i d ?_;have q:=(c.val k).isSome_eq;rw[Xc] at q;rw[<- q,<- l];show h _ (I.tok _)
theorem d_notIn{Q:Value->Shared->Prop}(p:A.units+1<cLine)(I:Inv X pins σ H s)(g:DGet H a y o)(j:RelV y u)(h:∀ m,Inv X pins σ H m->Q (.bool (!o.isSome)) m) :
  wpAny (model X.prog X.w) A (compareOp .NotIn u (.ref a)) Q E s:=by
 rcases g with⟨kvs,k,e,f,l⟩ | ⟨kvs,k,b,e,f,n,l⟩
 .subst f;obtain⟨z,i,vs,c,d⟩:=qbZ I.hok e;show wpAny_notIn_of (qdc j) i d.mapOf ?_;rw[<- (c.val k).isSome_eq,<- l];show h _ (I.tok _)
 .subst f;cases (show u=Value.ref b from j);obtain⟨z,i,xs,c,d⟩:=qcp I.hok e;show wpAny_notIn_heap (xU p) (qbi I.hok n) i d ?_;have q:=(c.val k).isSome_eq;rw[Xc] at q;rw[<- q,<- l];show h _ (I.tok _)
theorem qdu{c:HO}(I:Inv X pins σ H s)(h:Mut (H a))(g:Heap.SameBut a s.heap h')(f:∃ q,h'.get? a=some q)(new:ObjOk X.prog X.w (upd H a c) h' a c) :
  Inv X pins σ (upd H a c) { s with heap:=h',toks:=t' }:=
 I.write (x:=a) (e:=a) h (.inl rfl) (fun b q d z=>(g.2 b d).trans z) f new
theorem dk_new{kvs:List (Key×V)}{vs:List (Key×Value)}(z:kvs.length<=sizeLine)(d:(a==sysModules)=false)(b:KV kvs vs)(c:h'.DictOf (jm P w) a vs) :
  ObjOk P w H' h' a (.dK kvs):=⟨z,d,vs,b,c⟩
theorem d_setItem{Q:Unit->Shared->Prop}(N:A.units+1<cLine)(I:Inv X pins σ H s)(g:DPut H a y v H')(C:RelV y u)(B:RelV v r)(h:∀ D,Inv X pins σ H' D->Q () D) :
  wpAny (model X.prog X.w) A (setItem (.ref a) u r) Q E s:=by
 rcases g with⟨kvs,k,e,n,l,m⟩ | ⟨kvs,k,b,e,n,t,l,m⟩
 .subst n m;obtain⟨z,o,vs,d,j⟩:=dk_of I.hok e;have hz:vs.length<=sizeLine:=by rw[<- d.length];show z
  have hl:(zo kvs k v).length<=sizeLine:=by have:=jD kvs k v;lk
  show wpAny_setItem_pairs (hsz:=hz) (qdc C) j fun h' f p=>h _ ?_;have M:∃ q,h'.get? a=some q:=let ⟨q,_,_,i,_⟩:=f;⟨q,i⟩;show qdu I (by rw[e];show YZ) p M (dk_new hl o (d.put k B) f)
 .subst n m;cases (show u=Value.ref b from C);obtain⟨z,o,xs,d,j⟩:=dt_of I.hok e;have hz:xs.length<=sizeLine:=by rw[<- Paired.length d];show z
  have hl:(zo kvs k v).length<=sizeLine:=by have:=jD kvs k v;lk
  show wpAny_setItem_heap (hsz:=hz) (xU N) (qbi I.hok t) j fun h' f p=>h _ ?_;obtain⟨q,F,ep,i,G,J,K,_,L⟩:=f;show qdu I (by rw[e];show YZ) p ⟨q,i⟩ ⟨hl,o,_,(d.put k t B).keeps fun c ys x=>?_,q,F,ep,i,G,J,K,L⟩;rw[qe (jv x e (fun z=>nomatch z))];show x
end
section
variable{X:Cx}{pins:List (Addr×Obj)}{σ:St}{H:Hp}{s:Shared}{a:Addr}{kvs:List (Key×V)}{k:Key}{u:Value}{A:Around}{E:Value->Shared->Prop}
theorem d_len{Q:Value->Shared->Prop}(I:Inv X pins σ H s)(e:Rd H a (.dK kvs))(h:∀ t c,Inv X pins σ H c->Q (.int kvs.length t) c):wpAny (model X.prog X.w) A (call (.builtin "len") [.ref a]) Q E s:=by
 obtain⟨z,f,vs,b,d⟩:=qbZ I.hok e;show call_len_dict f d (by rw[<- b.length];rw[Yi] at z;lk) ?_;rw[<- b.length];show h _ _ (I.tok _)
end
theorem dict_typeIs(I:Inv X pins σ H s)(g:DGet H a y o):s.TypeIs (.ref a) "dict":=by
 rcases g with⟨kvs,k,e,_,_⟩ | ⟨kvs,k,b,e,_,_,_⟩
 .obtain⟨_,_,vs,_,c⟩:=qbZ I.hok e;show c.typeIs
 .obtain⟨_,_,xs,_,c⟩:=qcp I.hok e;show c.typeIs
section
variable{X:Cx}{o i e value:Expr}{pos pos' tpos:Pos}{td ty tv:TE}
end
theorem dk_empty(h:Heap)(a:sysModules<h.objs.size):ObjOk P w H (h.push { cls:=.type "dict",data:=.dict #[] }) h.objs.size (.dK []):=
 ⟨YF _,YE.mpr (yZ (yE a)),[],.nil,Heap.DictOf.new h⟩
def tDNewK:TE:=fun _ H Q=>∀ p,H p=none->Q (.ref p) (upd H p (.dK []))
section
variable{X:Cx}{pos:Pos}
theorem zq:PE X (.Dict [] [] pos) tDNewK:=fun pins s σ H Q I h =>
 wpAny_Dict_empty ⟨.ref s.heap.objs.size,_,I.laid (a:=s.heap.objs.size) (o:=.dK []) (t':=s.toks) (fun _ _ q=>yw _ q) (yh _) (dk_empty s.heap I.big),rfl,h _ (I.hok.fresh (yh _))⟩
end
noncomputable def mergeK(kvs more:List (Key×V)):List (Key×V):=more.foldl (fun acc a=>zo acc a.1 a.2) kvs
structure M1(X:Cx)(o:Expr)(m:Str)(apos:Pos)(e:Expr)(cpos:Pos):Prop where
 base:attributeBase o m X.env (eval o X.env)=eval o X.env
 few:((backTo cpos (starEach [e] X.env)).all (fun x=>!x.1)&&(backToKw cpos (keywordEach [] X.env)).all (fun x=>x.1.isSome)
  && decide (([e]:List Expr).length+([]:List Keyword).length+(if ([]:List Keyword).isEmpty then 0 else 1)<30))=true
 line:(apos.endLine==cpos.line)=true
 trees:backTo cpos (starEach [e] X.env)=[(false,eval e X.env)]
structure M2(X:Cx)(o:Expr)(m:Str)(apos:Pos)(e f:Expr)(cpos:Pos):Prop where
 base:attributeBase o m X.env (eval o X.env)=eval o X.env
 few:((backTo cpos (starEach [e,f] X.env)).all (fun x=>!x.1)&&(backToKw cpos (keywordEach [] X.env)).all (fun x=>x.1.isSome)
  && decide (([e,f]:List Expr).length+([]:List Keyword).length+(if ([]:List Keyword).isEmpty then 0 else 1)<30))=true
 line:(apos.endLine==cpos.line)=true
 trees:backTo cpos (starEach [e,f] X.env)=[(false,eval e X.env),(false,eval f X.env)]
def IsD(H:Hp)(a:Addr):Prop:=(∃ kvs,Rd H a (.dK kvs))\/∃ kvs,Rd H a (.dT kvs)
theorem isD_at(I:Inv X pins σ H s)(d:IsD H a) :
  s.TypeIs (.ref a) "dict"/\(∀ b,Value.ref a=.ref b->∃ c,s.heap.get? b=some c/\c.dict=none)/\(a==sysModules)=false:=by
 rcases d with⟨kvs,e⟩ | ⟨kvs,e⟩
 .obtain⟨_,h,vs,_,f⟩:=qbZ I.hok e;show⟨f.typeIs,fun b q=>?_,h⟩;cases q;obtain⟨c,_,_,h1,g,_⟩:=f;show⟨c,h1,g.2.1⟩
 .obtain⟨_,h,xs,_,f⟩:=qcp I.hok e;show⟨f.typeIs,fun b q=>?_,h⟩;cases q;obtain⟨c,_,_,h1,g,_⟩:=f;show⟨c,h1,g.2.1⟩
section
variable{X:Cx}{pins:List (Addr×Obj)}{σ:St}{H:Hp}{s:Shared}{a:Addr}{y d:V}{u r:Value}{o:Option V}{A:Around}{E:Value->Shared->Prop}
theorem d_get1{Q:Value->Shared->Prop}(q:A.units+1<cLine)(I:Inv X pins σ H s)(g:DGet H a y o)(j:RelV y u)(h:∀ n m,Inv X pins σ H m->RelV (o.getD .non) n->Q n m) :
  wpAny (model X.prog X.w) A (call (.builtin "dict.get") [.ref a,u]) Q E s:=by
 rcases g with⟨kvs,k,e,f,l⟩ | ⟨kvs,k,b,e,f,p,l⟩
 .subst f;obtain⟨z,i,vs,c,d⟩:=qbZ I.hok e;show call_meetsIn XF d.typeIs PySem.F.entry_dict_get (PySem.F.args_dict_get_2 _ _) (meets_dict_get (jm X.prog X.w) a (qdc j) i) ⟨_,d.mapOf,h _ _ (I.tok _) ?_⟩;rw[l];show(c.val k).getD rfl
 .subst f;cases (show u=Value.ref b from j);obtain⟨z,i,xs,c,d⟩:=qcp I.hok e;show call_meetsIn XF d.typeIs PySem.F.entry_dict_get (PySem.F.args_dict_get_2 _ _) (meetsH_dict_get (tupleKind (jm X.prog X.w)) a b i) ⟨xU q,k,xs,qbi I.hok p,d,h _ _ (I.tok _) ?_⟩;rw[l];show(c.val k).getD rfl
end
def qeb(d ty:TE):TE:=fun σ H Q=>d σ H fun x b=>∃ a,x=.ref a/\IsD b a/\ty σ b fun y c=>∃ o,DGet c a y o/\Q (o.getD .non) c
def tDGet2(e ty f:TE):TE:=fun σ H Q=>e σ H fun x b=>∃ a,x=.ref a/\IsD b a/\ty σ b fun y d=>f σ d fun z c=>∃ o,DGet c a y o/\Q (o.getD z) c
section
variable{X:Cx}{o e f:Expr}{apos cpos:Pos}{td ty tx:TE}
theorem qai(q:X.A.units+1<cLine)(p:PE X o td)(n:PE X e ty)(m:M1 X o "get" apos e cpos):PE X (.Call (.Attribute o "get" apos) [e] [] cpos) (qeb td ty):=by
 intro pins s σ H Q I h;show wpAny_Call_method m.base m.few m.line PySem.F.plainAttrs_dict XF PySem.F.type_dict_get (thn (p pins s σ H _ I h) fun u B ⟨x,f,c,v,a,ex,d,r⟩=>?_);subst ex;obtain rfl:u=Value.ref a:=v;obtain⟨C,D,_⟩:=isD_at c d;show⟨C,D,?_⟩;rw[m.trees];show XC rfl (Calls.evalArgs_plain (X8 (thn (n pins B σ f _ c r) fun E J ⟨y,i,j,w,G,g,t⟩=>kh ?_)));show d_get1 q j g w fun L K l b=>⟨_,i,l,b,t⟩
end
section
variable{X:Cx}{pins:List (Addr×Obj)}{σ:St}{H:Hp}{s:Shared}{a:Addr}{kvs:List (Key×V)}{A:Around}{E:Value->Shared->Prop}
end
section
variable{X:Cx}{pins:List (Addr×Obj)}{σ:St}{H:Hp}{s:Shared}{a:Addr}{y:V}{u:Value}{A:Around}{E:Value->Shared->Prop}
end
end L2
namespace Att
open PySem PySem.W PySem.Calls PyProof.Rows
variable{P:Params}{h:Heap}{l:OpenLaw}{n:Nat}
theorem ints_of_wellAll:∀(ns:LX) (vs:List Value),WellAll P h vs (ns.map WData.int)->IntsAre vs ns:=by
 intro ns
 induction ns with
 | nil =>
  intro vs w;rw[List.map_nil] at w;cases w;show .nil
 | cons n ns ih =>
  intro vs w;rw[Yu] at w
  cases w with
  | cons a b =>
   cases a;show .cons _ _ (ih _ b)
theorem script_of(p:l.most=some n){args:List WData}{c:List Value}
  (b:l.row.toRowW.claim.pre args=true) (j:WellAll P h c args) :
  ∃ a vs ns,c=[Value.ref a]/\args=[WData.list (ns.map WData.int)]/\h.get? a=some { cls:=.type "list",data:=.seq vs.toArray }/\IntsAre vs ns/\ns.length<=n:=by
 have i:WShape.hasAll [] args [.list .int]=true:=(pre_splitW b).1;have hc:l.pre.holds [] { args:=args }=true:=(pre_splitW b).2;obtain⟨d,r,rfl,h1,m⟩:=hasAllW_cons i;obtain rfl:=hasAllW_nil m;obtain⟨xs,rfl,o⟩:=hasW_list h1;obtain⟨ns,rfl⟩:=items_int o
 have e:ns.length<=n:=by
  unfold OpenLaw.pre at hc
  have f:(WTm.not (.lt (.lit (.int (n:Int))) (.len (.arg 0)))).holds [] { args:=[.list (ns.map .int)] }=true:=by
   have f:=(holds_andW hc).1;rw[p] at f;show f
  have g:=condW_of f (w_not (w_lt w_lit (w_len_list (w_arg rfl))));rw[ya] at g;show Nat.le_of_not_lt fun q=>?_;have s:(n:Int)<((ns.length:Nat):Int):=by lk
  first
   | (rw[yS s] at g;show absurd g (by decide))
   | (simp at g;lk)
 cases j with
 | cons w1 w2 =>
  cases w2
  cases w1 with
  | list ho hall=>show⟨_,_,ns,rfl,rfl,ho,ints_of_wellAll ns _ hall,e⟩
theorem post_true(l:OpenLaw)(args:List WData):l.row.toRowW.claim.post args (.bool true) args=true:=
 postW_of (r:=l.row.toRowW) (X:=(true==true))
  (show WShape.has [] (.bool true) .bool=true by first | rfl | decide | simp[WShape.has,WShape.arms,WShape.armsAll])
  (show(WTm.eq .res (.lit (.bool true))).value [] { args:=args,res:=some (.bool true),after:=args }=some (.bool (true==true)) from w_eq_bool (w_res rfl) w_lit) rfl
theorem attach_call{q:Program}{loose:LS}{XP:(Str->Option Value)->Heap->Prop}{YP:World->Heap->Prop}{d:DefRec}
  (N:l.most=some n) (u:d.params.defaults=[])
  (call:∀(w:World) (c b:Shared) (mg y:Str->Option Value) (h:Addr) (o:Obj) (A p e:Value) (a:Addr) (vs:List Value) (ns:LX),
   Ground q loose [] XP w c mg y b.heap->YP w b.heap ->
   b.heap.get? h=some o->o.data=.func (docDef d.name d.params d.body d.scope A p e)->b.heap.CodeRec p d.name->mg d.name=some (.ref h) ->
   b.heap.get? a=some { cls:=.type "list",data:=.seq vs.toArray }->IntsAre vs ns->ns.length<=n->b.gens=#[] ->
   codeAny (model l.prog w) callerA (.call (.ref h) ⟨[.ref a],[]⟩) (fun r s=>r=.ok (.ret (.bool true))/\OldK b.heap s.heap/\s.os=b.os/\AllBare s.gens) b) :
  WalkO q loose XP YP l.row.toRowW d [] (fun f vs=>PySem.call f vs):=by
 intro w c b mg y G Y h o A p e E kV O J t B v K args D as m C R x L;obtain rfl:E=.none:=Dflts.none B u;obtain rfl:kV=.none:=Dflts.noKw B;obtain⟨a,vs,ns,rfl,rfl,j,g,i⟩:=script_of N m x;show enter_call (X5 (call w c b mg y h o A p e a vs ns G Y O (fd_plain J) t v j g i K) fun r s P=>?_);obtain⟨rfl,F,H,I⟩:=P;show⟨.inl ⟨.bool true,.bool true,[],rfl,fun _=>rfl,.bool true,post_true l _,fun _=>⟨List.Pairwise.nil,fun _ M=>(nomatch M)⟩⟩,F,H,I⟩
section
variable{prog:Program}{w:World}{A:Around}{E:Value->Shared->Prop}{s:Shared}{K:Frag}
noncomputable def ledger(h:Heap)(L d:Addr):List (Addr×Obj):=(List.range h.objs.size).filterMap fun a=>if a=L\/a=d then none else(h.get? a).map fun o=>(a,o)
end
end Att
namespace L2
open PySem PySem.Spec PyProof.Rows
variable{A B:Prop}{H:Hp}{f:Addr}{fd:FuncData}{n:Nat}{ps:LS}{qual x:Str}{sp:Sp}{st:Stmt}
theorem qaU:∀{vs:List Value} {ns:LX},IntsAre vs ns->Vals (ns.map V.int) vs
 | _,_,.nil=>.nil
 | _,_,.cons n t h=>.cons ⟨t,rfl⟩ (qaU h)
def qfv(H:Hp):Prop:=∀ b,H b=none\/∃ o xs,H b=some (.frz o (.lst xs))
theorem law_call{P:Program}{w:World}{K:yg}{mg T:Str->Option Value}{CX:CXT}{k:Nat}{M a:Addr}{c:Shared}{vs:List Value}{ns:LX}
  (W:K.In c.heap) (C:c.heap.Ns mainGlobals mg) (f:c.heap.Ns builtinsNs T) (O:∀ x:Str,x≠"__name__"->T x=bootBuiltins x) (B:c.heap.NoLimit) (hg:c.gens=#[])
  (J:c.heap.get? a=some { cls:=.type "list",data:=.seq vs.toArray }) (hi:IntsAre vs ns) (hl:ns.length<=sizeLine) (hr:Room k callerA)
  (F:∀ g:Heap,K.In g->g.Ns mainGlobals mg->FnOk P w K mg g CX k M fd [x] sp) (p:∀(s:Shared) (u:Value),BindsTo s fd ⟨[u],[]⟩ [(x,u)])
  (S:∀ H:Hp,qfv H->SqL K H a (ns.map V.int)->sp [.ref a] H (fun v _=>v=.bl true) fun _ _ _=>False)
  (N:∀ H e i,CX [] H c (fun _ _ _=>False) e i->False) :
  codeAny (model P w) callerA (.call (.ref M) ⟨[.ref a],[]⟩) (fun r i=>r=.ok (.ret (.bool true))/\OldK c.heap i.heap/\i.os=c.os/\AllBare i.gens) c:=by
 have rv:=qaU hi;have G:=hi.length;have l:∀ H:Hp,qfv H->SqL K H a (ns.map V.int)->HOk P w H c.heap->(∀ b,H b≠none->b=a)->(H a≠none->K.lookup a=none) ->
   codeAny (model P w) callerA (.call (.ref M) ⟨[.ref a],[]⟩) (fun r i=>r=.ok (.ret (.bool true))/\OldK c.heap i.heap/\i.os=c.os/\AllBare i.gens) c:=by
  intro H Z hS D Y hK;have base_of:∀{b:Addr} {o:Obj},c.heap.get? b=some o->H b=none->(qcH c.heap H).get? b=some o:=fun e n=>qcI e n
  have U:∀{b:Addr} {o:Obj} {y:Array DictEntry} {ep:Nat},c.heap.get? b=some o->o.data=.dict y ep->H b=none:=fun{b o y ep} e d=>by
   cases q:H b with
   | none=>rfl
   | some u =>
    have L:b=a:=Y b (by rw[q];simp);subst L;rw[J] at e;cases e;have d':Data.seq vs.toArray _=Data.dict y ep:=d;cases d'
  have j:∀{b:Addr} {m:Str->Option Value},c.heap.Ns b m->(qcH c.heap H).Ns b m:=fun{b m} ⟨o,y,ep,e,d,r⟩=>⟨o,y,ep,base_of e (U e d),d,r⟩
  have A:K.In (qcH c.heap H):=fun b o e=>base_of (W b o e) (by
   cases q:H b with
   | none=>rfl
   | some u =>
    have L:b=a:=Y b (by rw[q];simp);subst L;rw[hK (by rw[q];simp)] at e;cases e)
  have hM:Mod K mg (qcH c.heap H):=⟨A,j C,⟨T,j f,O⟩,let ⟨mc,h1,h2⟩:=B;⟨mc,j h1,h2⟩⟩;have e0:Env0 P w K mg (qcH c.heap H) callerA [] c H:=⟨rfl,hM,fun b o e=>qdj e,xG (qbJ _ _),trivial,fun b f=>absurd (show b∈([]:LQ) from f) (by simp),D,.of_eq hg⟩;show X5 ((F _ A (j C)).run callerA [] c H ⟨[.ref a],[]⟩ [.ref a] [.ref a] _ _ hr e0 (p c (.ref a)) (.cons rfl .nil) (S H Z hS)) fun r i h=>?_
  cases r with
  | error e=>show(N H e i h).elim
  | ok fl =>
   cases fl with
   | next=>show False.elim h
   | brk=>show False.elim h
   | cont=>show False.elim h
   | ret u =>
    obtain⟨v,H',os,t,un,E,r',q⟩:=h;have q':v=.bl true:=q;subst q';obtain rfl:u=Value.bool true:=r';show⟨rfl,OldK.of_keep fun b o e=>?_,os,t⟩
    cases q:H b with
    | none=>show un.keep b o e q (by intro z;show absurd (show b∈([]:LQ) from z) (by simp)) (by simp)
    | some u =>
     rcases Z b with z | ⟨ob,xs,z⟩
     .rw [q] at z;cases z
     .have z2:=un.frzs b ob _ z;obtain⟨X,_⟩:=D b _ z;obtain⟨e2,_⟩:=E b _ z2;rw[e] at X;cases X;show e2
 cases R:K.lookup a with
 | some o =>
  have e:=W a o R;rw[J] at e;cases e;show l (fun _=>none) (fun _=>.inl rfl) (.inr ⟨_,vs.toArray,_,R,rfl,rfl,rfl,by rw[yx,G];show hl,by simpa using rv⟩) (fun b u z=>by have I:(none:Option HO)=some u:=z;cases I) (fun b z=>absurd rfl z) fun z=>absurd rfl z
 | none =>
  show l (fun b=>if b=a then some (.frz { cls:=.type "list",data:=.seq vs.toArray } (.lst (ns.map V.int))) else none) (fun b=>?_) (.inl (.inr ⟨{ cls:=.type "list",data:=.seq vs.toArray },yF rfl⟩)) (fun b u z=>?_) (fun b z=>?_) fun _=>R
  .by_cases f:b=a
   .show .inr ⟨_,_,yF f⟩
   .show .inl (yA f)
  .by_cases f:b=a
   .have I:=(yF f).symm.trans z;cases I;subst f;show⟨J,by rw[ya];show hl,vs,_,rv,J⟩
   .have I:=(yA f).symm.trans z;cases I
  .by_cases f:b=a
   .show f
   .show absurd (yA f) z
noncomputable abbrev KOf{K:yg}{h:Heap}(_:K.In h):yg:=K
theorem walk_of{l:PySem.W.OpenLaw}{k:Nat}{q:Program}{loose:LS}{XP:(Str->Option Value)->Heap->Prop}{YP:World->Heap->Prop}{d:DefRec}{K:Params->yg}{CX:World->CXT}{sp:World->Sp}
  (U:l.most=some n) (B:n<=sizeLine) (y:d.params.defaults=[]) (X:Room k callerA)
  (O:∀(w:World) (h:Heap),YP w h->(K w.params).In h)
  (F:∀(w:World) (mg:Str->Option Value) (r:Addr) (h:Heap),(K w.params).In h->h.Ns mainGlobals mg->mg d.name=some (.ref r) ->
   ∃ fd:FuncData,(∀(s:Shared) (u:Value),BindsTo s fd ⟨[u],[]⟩ [(x,u)]) /\
    ∀ c:Heap,(K w.params).In c->c.Ns mainGlobals mg->FnOk l.prog w (K w.params) mg c (CX w) k r fd [x] (sp w))
  (C:∀(w:World) (H:Hp) (a:Addr) (ns:LX),ns.length<=n->qfv H->SqL (K w.params) H a (ns.map V.int)->sp w [.ref a] H (fun v _=>v=.bl true) fun _ _ _=>False)
  (t:∀(w:World) (H:Hp) (s:Shared) (e:Value) (D:Shared),CX w [] H s (fun _ _ _=>False) e D->False) :
  PySem.W.WalkO q loose XP YP l.row.toRowW d [] (fun f vs=>PySem.call f vs):=by
 show Att.attach_call U y fun w I p mg mb r o pm Z J a vs ns G Y ho hd R A m j i S=>?_;have E:=O w _ Y;obtain⟨fd,P,L⟩:=F w mg r _ E G.T.g A;show law_call E G.T.g G.T.b G.T.builtins G.T.nolimit S m j (yi i B) X L P (fun H M N=>C w H a ns i M N) fun H e D=>t w H p e D
abbrev CX0:CXT:=fun _ _ _ _ _ _=>False
abbrev E0:XK:=fun _ _ _=>False
theorem qC{X:Cx}:qaz CX0 X E0:=fun _ _ _ _ _ _ _ h=>h.elim
structure Fun(K:yg)(x qual:Str)(st:Stmt)(f:Addr)(fd:FuncData):Prop where
 ex:∃(oc:Value) (od:Option Addr) (kV doc pm:Value) (an:Option Addr) (cdv ct:Value) (osl:Array (Option Value)),
  fd=PySem.W.fnOf x qual (qab st) (zf st) (qg st) .none kV doc pm an cdv ct/\K.lookup f=some ⟨oc,od,.func fd,osl⟩/\PySem.W.codeIn K cdv qual=true
 kp:PySem.W.keepIn K (.ref f)=true
section
variable{P:Program}{w:World}{K:yg}{mg:Str->Option Value}{base:Heap}
theorem Fun.ok{N:LS}{k:Nat}(F:Fun K x qual st f fd)(S:FnScope N ps (qg st)) (c:∀(b:Value) (A:Around) (a:List Env) (s:Shared) (H:Hp) (vs:List V) (Q:VK) (E:XK),Room k (A.deeper (envOfC qual (qg st) s.heap.objs.size f b))->sp vs H Q E ->
   ∃ t,PSs (qeB CX0 P w K mg base N qual (qg st) f b A a s H E).nox (zf st) t/\t { nx:=fun _ H'=>Q .non H',rt:=Q } (start N vs) H) (len:∀ vs H Q E,sp vs H Q E->vs.length=ps.length:=by intro _ _ _ _ h;cases h;subst_vars;rfl):FnOk P w K mg base CX0 (k+1) f fd ps sp:=by
 obtain⟨n,od,kV,g,o,m,b,ct,l,rfl,j,d⟩:=F.ex;show qeY j d S len fun A a s H vs Q E i e=>?_;obtain⟨t,h,q⟩:=c b A a s H vs Q E i e;show⟨t,h.nox,q⟩
theorem Fun.binds(F:Fun K x qual st f fd)
  (h:∀(kV b d:Value) (c:Option Addr) (a ct:Value) (us:List Value),us.length=ps.length->bindArgs (PySem.W.fnOf x qual (qab st) (zf st) (qg st) .none kV b d c a ct) ⟨us,[]⟩=pure (ps.zip us)):Binds K fd ps []:=by
 obtain⟨j,od,kV,b,d,c,a,ct,g,rfl,i,e⟩:=F.ex;show .all (h kV b d c a ct)
theorem fun_mk{h:Value}{od e:Option Addr}{d:Array (Option Value)}{kV b g a ct:Value}(l:K.lookup f=some ⟨h,od,.func (PySem.W.fnOf x qual (qab st) (zf st) (qg st) .none kV b g e a ct),d⟩)
  (c:PySem.W.codeIn K a qual=true) (k:PySem.W.keepIn K (.ref f)=true):Fun K x qual st f (PySem.W.fnOf x qual (qab st) (zf st) (qg st) .none kV b g e a ct):=⟨⟨h,od,kV,b,g,e,a,ct,d,rfl,l,c⟩,k⟩
end
theorem qi(h:n<=1000):n<sizeLine:=Yr h (by decide)
section
variable{X:Cx}
theorem pv(i:Nat){b:Pos}(c:X.N[i]?=some x:=by rfl)(hv:Vis X.env.scope x:=by first | show yP rfl | show XD (yP rfl) | show XD (XD rfl))(d:(x==("__debug__":Str))=false:=by decide)
  (a:(x==("__classdict__":Str))=false:=by decide):PE X (.Name x b) (qfq i):=pe_var c hv d a
theorem call_lenD:zG X (.builtin "len") (fun xs H Q=>∃ a kvs,xs=[V.ref a]/\H a=some (.dK kvs)/\Q (.int kvs.length) H):=by
 intro b s g H xs us Q I r h;obtain⟨a,kvs,rfl,d,q⟩:=h;obtain⟨u,rfl,e⟩:=qaQ r;cases e;show d_len I (.inl d) fun t f c=>⟨.int kvs.length,H,c,⟨t,rfl⟩,q⟩
end
theorem zr(h:A):if true=true then A else B:=by
 rw[yF rfl];show h
theorem qL{c:Prop}[Decidable c](h1:c->A)(a:¬ c->B):if c then A else B:=by
 by_cases h:c
 .rw [yF h];show h1 h
 .rw [yA h];show a h
def Same(H H':Hp):Prop:=∀ b o,H b=some o->H' b=some o
theorem Same.refl(H:Hp):Same H H:=fun _ _ h=>h
theorem Same.trans{d e:Hp}(a:Same H d)(b:Same d e):Same H e:=fun c o h=>b c o (a c o h)
theorem Same.free{H':Hp}(e:Same H H'){l:Addr}(h:H' l=Option.none):H l=Option.none:=by
 cases q:H l with
 | none=>rfl
 | some o =>
  rw[e l o q] at h;cases h
section
variable{κ:Type}[DecidableEq κ]
end
end L2
set_option maxHeartbeats 4000000
namespace L2
open PySem PySem.Spec PyProof.Rows
variable{C D c e it p:Addr}{E:Value->Shared->Prop}{H:Hp}{N:LS}{P:Program}{QO:Option Int->Hp->Prop}{R:It->Hp->Prop}{T:String}{X:Cx}{acc:List (Str×Addr)}{dx:Option Addr}{elt iter tg:Expr}{env:Env}{expr:Bool}{f:V->List V->Hp->VK->Prop}{fp:LQ}{g:TG}{h:Heap}{i j:Int}{ifs:List Expr}{its:List Value}{ixs:LN}{n nl:Nat}{od:Option Obj}{ox:Obj}{pins:List (Addr×Obj)}{pos:Pos}{s:Shared}{sc scope:Scope}{t u:Value}{tc:TT}{te:TE}{tk:Tok}{v y:V}{w:World}{wi:TI}{x:Str}{xs ys:List V}{α:Type}{σ:St}
section
variable{prog:Program}{w:World}{A:Around}{R:Result->Shared->Prop}{s:Shared}
theorem compLoop_own{a:Expr}{it acc:Value}(I:Nat->Shared->Prop)
  (turn:∀ n s,I n s->wpAny (model prog w) A (pyNext it) (fun r e=>match r with
   | none=>R (.ok .next) e
   | some v=>wpAny (model prog w) A (letOwnedTupleGo a it v) (fun _ b=>wpAny (model prog w) A (assign a env v) (fun _ i =>
     wpAny (model prog w) A (forIn ifs true fun c r=>if r=true then do let ok <- isTrue c env (eval c env);pure (ForInStep.yield ok) else pure (ForInStep.yield r)) (fun ok f =>
      if ok=true then wpAny (model prog w) A (eval elt env) (fun x j =>
       wpAny (model prog w) A (call (.builtin "list.append") [acc,x]) (fun _ l=>∃ m,m<n/\I m l) (fun _ _=>False) j) (fun _ _=>False) f
      else ∃ m,m<n/\I m f) (fun _ _=>False) i) (fun _ _=>False) b) (fun _ _=>False) e) (fun _ _=>False) s)
  (n:Nat) (h:I n s) :
  codeAny (model prog w) A (.compLoop (.ListComp elt [⟨a,iter,ifs,0⟩] scope pos) 0 it acc env) R s:=by
 show codeAny_loop rfl I (fun n s t=>?_) n h;show wpAny _ A ((compTurn (.ListComp elt [⟨a,iter,ifs,0⟩] scope pos) 0 it acc env).onRaise (fun x=>do noteFrame x env;theTreesLotGoes x)) _ _ s;show wpAny_noted ?_;rw[compTurn_list];show yt (kC (yt (YK (turn n s t) (fun r e h1=>?_) fun _ _ h'=>h'.elim)))
 cases r with
 | none=>show yv h1
 | some v =>
  show yt (YK h1 (fun _ b d=>?_) fun _ _ h'=>h'.elim);show yt (YK d (fun _ i o=>yt (YK o (fun ok f g=>?_) fun _ _ h'=>h'.elim)) fun _ _ h'=>h'.elim)
  cases ok with
  | false=>show yv ⟨rfl,g⟩
  | true =>
   show yt (yt (YK g (fun x j p=>yt (YK p (fun _ l q=>yv (yv ⟨rfl,q⟩)) fun _ _ h'=>h'.elim)) fun _ _ h'=>h'.elim))
end
noncomputable def qM(env:Env):List (Str×NameKind)->List (Str×Addr)->List (Str×Addr)
 | [],acc=>acc
 | (n,k)::r,acc=>qM env r (if (k==.free)=true then(n,(env.cells.lookup n).getD 0)::acc else acc)
theorem zt:∀{names:List (Str×NameKind)} {acc:List (Str×Addr)} {x:Str} {c:Addr},(qM env names acc).lookup x=some c ->
  ((x,NameKind.free)∈names/\c=(env.cells.lookup x).getD 0)\/acc.lookup x=some c
 | [],_,_,_,h=>.inr h
 | (n,k)::r,acc,x,c,h=>by
  unfold qM at h;rcases zt h with⟨h1,f⟩ | h1
  .show .inl ⟨yI _ h1,f⟩
  .by_cases a:(k==NameKind.free)=true
   .rw [yF a,xu] at h1
    cases b:x==n with
    | true =>
     rw[b] at h1;have e:x=n:=Yo.mp b;have d:k=.free:=Yo.mp a;subst e d;show .inl ⟨yG,(yn h1).symm⟩
    | false =>
     rw[b] at h1;show .inr h1
   .rw [yA a] at h1;show .inr h1
theorem qaj:∀{names:List (Str×NameKind)} {acc:List (Str×Addr)} {x:Str},(∃ c,acc.lookup x=some c)->∃ c,(qM env names acc).lookup x=some c
 | [],_,_,h=>h
 | (n,k)::r,acc,x,h=>by
  unfold qM;apply qaj;by_cases a:(k==NameKind.free)=true
  .rw [yF a,xu]
   cases b:x==n with
   | true=>show⟨_,rfl⟩
   | false=>show h
  .rw [yA a];show h
theorem zu:∀{names:List (Str×NameKind)} {acc:List (Str×Addr)} {x:Str},(x,NameKind.free)∈names->∃ c,(qM env names acc).lookup x=some c
 | [],_,_,h=>by cases h
 | (n,k)::r,acc,x,h=>by
  unfold qM;rcases yB.mp h with e | e
  .cases e;apply qaj;rw[show(NameKind.free==NameKind.free)=true from rfl,yF rfl,xu,xv];show⟨_,rfl⟩
  .show zu e
theorem qak(h:∀ n,(n,NameKind.free)∈scope.names->∃ c,env.cells.lookup n=some c):closureFor scope env=pure (qM env scope.names []):=by
 have f:∀(names:List (Str×NameKind)) (acc:List (Str×Addr)),(∀ n,(n,NameKind.free)∈names->∃ c,env.cells.lookup n=some c) ->
   (forIn names acc (fun(x:Str×NameKind) (r:List (Str×Addr))=>(if (x.2==NameKind.free)=true then(cellOf env x.1>>=fun c=>pure (ForInStep.yield ((x.1,c)::r))) else pure (ForInStep.yield r):Sem (ForInStep (List (Str×Addr))))))=(pure (qM env names acc):Sem (List (Str×Addr))):=by
  intro names
  induction names with
  | nil=>intro acc _;rfl
  | cons x r ih =>
   intro acc d;obtain⟨n,k⟩:=x;rw[kR];unfold qM;by_cases a:(k==NameKind.free)=true
   .have g:k=.free:=Yo.mp a;subst g;obtain⟨c,hc⟩:=d n yG;have i:cellOf env n=pure c:=by unfold cellOf;rw[hc]
    simp only[a,XM,i,hc,Option.getD_some];show ih _ fun m b=>d m (yI _ b)
   .simp only[a,Xh];show ih _ fun m b=>d m (yI _ b)
 have e:=f scope.names [] h;unfold closureFor;show Eq.trans (congrArg (fun m=>m>>=pure) e) rfl
@[reducible] noncomputable def Cx.comp(X:Cx)(N:LS)(scope:Scope)(C:Addr)(s0:Shared)(H0:Hp)(ex:LQ):Cx where
 prog:=X.prog
 w:=X.w
 K:=X.K
 mg:=X.mg
 base:=X.base
 A:=X.A
 N:=N
 s₀:=s0
 H₀:=H0
 env:=compEnvC scope (cellsFrom (C+1) scope.names (qM X.env scope.names [])) C X.env
 outer:=X.stack
 stack:=X.stack
 ex:=ex
 fn:=fun x=>scope.names.lookup x==some NameKind.cell
 calm:=X.calm
 pn:=[]
 xe:=fun _ _=>False
theorem jp:∀(names:List (Str×NameKind)) (n:Nat) (acc:List (Str×Addr)),cellsFrom n names acc=cellsFrom n names []++acc
 | [],_,_=>rfl
 | (m,k)::r,n,acc=>by
  unfold cellsFrom;split
  .rw [jp r (n+1) ((m,n)::acc),jp r (n+1) [(m,n)],Yh];rfl
  .show jp r n acc
theorem qal:∀{names:List (Str×NameKind)} {n:Nat} {x:Str},(x,NameKind.cell)∈names->∃ c,(cellsFrom n names []).lookup x=some c
 | (m,k)::r,n,x,h=>by
  unfold cellsFrom;rcases yB.mp h with e | e
  .cases e;rw[yF (show(NameKind.cell==NameKind.cell)=true from rfl),jp,xz]
   cases q:(cellsFrom (n+1) r []).lookup m with
   | some c=>show⟨c,rfl⟩
   | none=>show⟨n,by show List.lookup m [(m,n)]=some n;rw[xu,xv]⟩
  .split
   .rw [jp,xz];obtain⟨c,hc⟩:=qal (n:=n+1) e;show⟨c,by rw[hc];rfl⟩
   .show qal e
theorem qaV:∀{names:List (Str×NameKind)} {n:Nat} {x:Str} {c:Addr},(x,c)∈cellsFrom n names []->(x,NameKind.cell)∈names
 | (m,k)::r,n,x,c,h=>by
  unfold cellsFrom at h;split at h
  .rename_i hk
   rw[jp] at h;rcases yC.mp h with z | z
   .show yI _ (qaV z)
   .have e:(x,c)=(m,n):=yz.mp z;cases e;rw[Yo.mp hk];show yG
  .show yI _ (qaV h)
theorem qaW{names:List (Str×NameKind)}(h:(cellsFrom n names acc).lookup x=some c):(x,c)∈cellsFrom n names []\/acc.lookup x=some c:=by
 rw[jp,xz] at h
 cases e:(cellsFrom n names []).lookup x with
 | some d=>rw[e] at h;cases h;show .inl (mem_of_lookup e)
 | none=>rw[e] at h;show .inr h
theorem cells_some{names:List (Str×NameKind)}(h:(x,NameKind.cell)∈names\/∃ c,acc.lookup x=some c):∃ c,(cellsFrom n names acc).lookup x=some c:=by
 rw[jp,xz]
 cases e:(cellsFrom n names []).lookup x with
 | some d=>show⟨d,rfl⟩
 | none =>
  rcases h with z | ⟨c,hc⟩
  .obtain⟨d,a⟩:=qal (n:=n) z;rw[e] at a;cases a
  .show⟨c,hc⟩
section
variable{M:Model}{A:Around}{E:Value->Shared->Prop}{s:Shared}
theorem newEnvK{c:Addr}{b:List (Str×Addr)}{g:Str}{f:Option Addr}{e:Value}{d:Env}{a:Addr}{Q:Env->Shared->Prop}
  (j:Q (newEnv scope s.heap.objs.size c (cellsFrom (s.heap.objs.size+1) scope.names b) g f e (some d) a) { s with heap:=pushCells (s.heap.push { cls:=.type "dict",data:=.dict #[] }) scope.names }) :
  wpAny M A (newFunctionEnv scope c b [] g f e (some d) a) Q E s:=by
 simp only[newFunctionEnv,Option.isSome_some,XM];show yt (wpAny_alloc ?_);show yt (wpAny_layCells _ (fun name kind h=>by cases i:kind==NameKind.cell<;>simp[i]) _ _ _ _ ?_);rw[show({ s with heap:=s.heap.push { cls:=.type "dict",data:=.dict #[] } }:Shared).heap.objs.size=s.heap.objs.size+1 from xy ..];rw[kX];show yt (yv (yv j))
end
structure CompOk(sc scope:Scope):Prop where
 kind:scope.kind=.function
 cel:∀ y∈scope.names,y.2=.cell->scope.names.lookup y.1=some .cell
 loc:∀ y∈scope.names,y.2=.local->scope.names.lookup y.1=some .local
 free:∀ y∈scope.names,y.2=.free->sc.names.lookup y.1=some .cell\/sc.names.lookup y.1=some .free
 once:∀ y∈scope.names,y.2=.free->scope.names.lookup y.1=some .free
noncomputable def qdZ(sc scope:Scope):Bool:=decide (scope.kind=.function)&&scope.names.all fun y=>match y.2 with
 | .local=>scope.names.lookup y.1==some .local
 | .free=>(sc.names.lookup y.1==some .cell||sc.names.lookup y.1==some .free)&&scope.names.lookup y.1==some .free
 | .cell=>scope.names.lookup y.1==some .cell
 | _=>true
theorem qcS(h:qdZ sc scope=true):CompOk sc scope:=by
 unfold qdZ at h;rw[Ym] at h;have b:=YA.mp h.2;show⟨yk h.1,fun y a e=>?_,fun y a e=>?_,fun y a e=>?_,fun y a e=>?_⟩
 .have:=b y a;rw[e] at this;show Yo.mp this
 .have:=b y a;rw[e] at this;show Yo.mp this
 .have:=b y a;rw[e,Ym,kS] at this;show this.1.imp Yo.mp Yo.mp
 .have:=b y a;rw[e,Ym] at this;show Yo.mp this.2
noncomputable def qfw(nl:Nat)(ixs:LN)(N XN:LS)(names:List (Str×NameKind)):Bool:=(List.range ixs.length).all fun k=>match ixs[k]?,N[nl+k]? with
 | some j,some x=>XN[j]?==some x&&names.any fun y=>y.1==x&&y.2==.free
 | _,_=>true
theorem qdv{XN:LS}{names:List (Str×NameKind)}(h:qfw nl ixs N XN names=true)(k j:Nat)(x:Str)(h1:ixs[k]?=some j)(c:N[nl+k]?=some x):XN[j]?=some x/\(x,NameKind.free)∈names:=by
 have d:k<ixs.length:=(yc.mp h1).1;have:=YA.mp h k (xx.mpr d);rw[h1,c] at this;simp only[Ym] at this;show⟨Yo.mp this.1,?_⟩;obtain⟨⟨n,g⟩,f,e⟩:=Y7.mp this.2;rw[Ym] at e;have a:n=x:=Yo.mp e.1;have b:g=.free:=Yo.mp e.2;subst a b;show f
noncomputable def qdi(nl:Nat)(ixs:LN)(σ:St):St:=List.replicate nl none++ixs.map fun j=>(σ[j]?).getD none
theorem capS_len(nl:Nat)(ixs:LN)(σ:St):(qdi nl ixs σ).length=nl+ixs.length:=by
 unfold qdi;rw[yu,YW,ya]
theorem qcT{i:Nat}(h:(qdi nl ixs σ)[i]?=some (some v)):nl<=i/\∃ j,ixs[i-nl]?=some j/\σ[j]?=some (some v):=by
 unfold qdi at h;by_cases a:i<nl
 .rw [yU (by rw[YW];show a),Xz] at h;split at h<;>cases h
 .rw [yy (by rw[YW];lk),YW,yd] at h;show⟨by lk,?_⟩
  cases e:ixs[i-nl]? with
  | none=>rw[e] at h;cases h
  | some j =>
   rw[e] at h;have h':(σ[j]?).getD none=some v:=yn h
   cases q:σ[j]? with
   | none=>rw[q] at h';cases h'
   | some u =>
    rw[q] at h';show⟨j,rfl,by rw[q];show congrArg some h'⟩
noncomputable def qd0(env:Env)(y:Str×NameKind):Str×NameKind:=if (y.2==NameKind.free&&env.scope.kind==.function&&env.kindOf y.1==some .cell)=true then(y.1,NameKind.cell) else(y.1,y.2)
theorem relF_fst(env:Env)(y:Str×NameKind):(qd0 env y).1=y.1:=by unfold qd0;split<;>rfl
theorem relF_snd(env:Env)(y:Str×NameKind):(qd0 env y).2=y.2\/((qd0 env y).2=.cell/\y.2=.free):=by
 unfold qd0;split
 .rename_i h
  rw[Ym,Ym] at h;show .inr ⟨rfl,Yo.mp h.1.1⟩
 .show .inl rfl
theorem j7:∀{names:List (Str×NameKind)} {x:Str} {k:NameKind},(names.map (qd0 env)).lookup x=some k->∃ b,names.lookup x=some b/\(x,b)∈names/\(k=b\/(k=.cell/\b=.free))
 | [],_,_,h=>by cases h
 | (n,k1)::r,x,k,h=>by
  rw[Yu,show qd0 env (n,k1)=((qd0 env (n,k1)).1,(qd0 env (n,k1)).2) from rfl,xu,relF_fst] at h;rw[xu]
  cases c:x==n with
  | true =>
   have e:x=n:=Yo.mp c;subst e;have a:(x==(x,k1).1)=true:=c;rw[a] at h;have h':=yn h;show⟨k1,rfl,yG,?_⟩;rcases relF_snd env (x,k1) with z | ⟨z1,z2⟩
   .show .inl (h'.symm.trans z)
   .show .inr ⟨h'.symm.trans z1,z2⟩
  | false =>
   have a:(x==(n,k1).1)=false:=c;rw[a] at h;obtain⟨b,d,f,g⟩:=j7 h;show⟨b,d,yI _ f,g⟩
section
variable{X:Cx}{pins:List (Addr×Obj)}{σ:St}{H:Hp}{s:Shared}
theorem comp_free_of{b:List (Str×Addr)}(h:(compEnvC scope b C X.env).kindOf x=some .cell\/(compEnvC scope b C X.env).kindOf x=some .free):(x,NameKind.cell)∈scope.names\/(x,NameKind.free)∈scope.names:=by
 rcases h with h | h
 .obtain⟨c,_,a,e | ⟨_,e⟩⟩:=j7 (env:=X.env) (names:=scope.names) h
  .rw [<- e] at a;show .inl a
  .rw [e] at a;show .inr a
 .obtain⟨c,_,a,e | ⟨e,_⟩⟩:=j7 (env:=X.env) (names:=scope.names) h
  .rw [<- e] at a;show .inr a
  .cases e
theorem Inv.comp{T:Obj}{h1:Heap}{tk:Nat}(I:Inv X pins σ H s)(O:CompOk X.env.scope scope)
  (hN:N.length=nl+ixs.length) (J:∀(k j:Nat) (x:Str),ixs[k]?=some j->N[nl+k]?=some x->X.N[j]?=some x/\(x,NameKind.free)∈scope.names)
  (R:∀ b∈fp,qcl X pins H b) (K:∀ b∈fp,b<s.heap.objs.size) (M:s.heap.objs.size<=C) (Y:s.heap.objs.size<=D) (Z:D≠C) (ad:h1.Ns C fun _=>none) (k:∀ b o,s.heap.get? b=some o->h1.get? b=some o)
  (ae:h1.get? D=some T) (ab:∀ v,T.data≠.cell v) (E:CellsOk h1 (C+1) (cellsFrom (C+1) scope.names [])):Inv (X.comp N scope C s H fp) [(D,T)] (qdi nl ixs σ) H { s with heap:=h1,toks:=tk }:=by
 have a:∀ x c,(qM X.env scope.names []).lookup x=some c->X.env.cells.lookup x=some c/\(x,NameKind.free)∈scope.names:=fun x c h=>by
  rcases zt h with⟨h1,L⟩ | h1
  .obtain⟨G,l⟩:=I.ok.has x (by
    rcases O.free _ h1 rfl with z | z
    .show .inl z
    .show .inr z)
   rw[l] at L;show⟨by rw[l,L];rfl,h1⟩
  .cases h1
 have big:∀ c:Addr,C+1<=c->s.heap.objs.size<=c:=fun c h=>yi M (Nat.le_of_succ_le h);have S:∀{P:Prop} {c:Addr},C+1<=c->c<s.heap.objs.size->P:=fun h g=>absurd (yj g (big _ h)) (Yt _)
 have all:∀ x c,(cellsFrom (C+1) scope.names (qM X.env scope.names [])).lookup x=some c->((x,c)∈cellsFrom (C+1) scope.names []/\C+1<=c/\h1.IsCell c none)\/(X.env.cells.lookup x=some c/\c<s.heap.objs.size):=fun x c h=>by
  rcases qaW h with z | z
  .show .inl ⟨z,(E.empty _ _ z).2,(E.empty _ _ z).1⟩
  .obtain⟨_,q⟩:=I.cell x c (a x c z).1;show .inr ⟨(a x c z).1,q.lt⟩
 show⟨⟨I.ok.mod,O.kind,I.ok.glob,I.ok.blt,M,fun x y c h1 L=>?inj,fun x hx=>cells_some ((comp_free_of hx).imp id zu),fun x c z h=>?cab,I.ok.hd,I.ok.frames,.inl rfl,
   fun b w=>⟨yE (yj (K b w) M),fun x c e=>?exf⟩,I.bs,yi I.ok.bsz I.sz,fun b o e w=>?_,fun b w z=>?_,I.stack,I.stkFree⟩,
  rfl,I.bare,Un.kept k,⟨_,ad,fun i x v e1 e2 e3=>?_⟩,fun x c e=>?_,I.hok.fresh M,fun x c e=>?fre,fun p hp=>?_,I.hok.kept k,?_⟩
 case inj =>
  rcases all x c h1 with⟨r,f,_⟩ | ⟨r,f⟩<;>rcases all y c L with⟨U,W,_⟩ | ⟨U,W⟩
  .show name_of_addr E.apart r U
  .show S f W
  .show S W f
  .show I.ok.inj x y c r U
 case cab =>
  rcases all x c h with⟨_,f,_⟩ | ⟨r,f⟩
  .show big _ f
  .exfalso;obtain⟨d,F⟩:=qal (n:=C+1) (mem_of_lookup (Yo.mp z));have h:(cellsFrom (C+1) scope.names (qM X.env scope.names [])).lookup x=some c:=h;rw[jp,xz,F] at h;cases h;show S (E.empty _ _ (mem_of_lookup F)).2 f
 case exf =>
  rcases all x c e with⟨_,f,_⟩ | ⟨r,_⟩
  .show fun z=>S f (by rw[z];show K b w)
  .show(R b w).2.2.2.2.1 x c r
 case fre =>
  rcases all x c e with⟨_,f,_⟩ | ⟨r,_⟩
  .show I.hok.fresh (big _ f)
  .show I.freeC x c r
 .rcases(R b w).2.2.2.1 with z | z
  .show I.ok.noex b o e z
  .have:=(I.ok.bs b o e).1;show absurd (yj (yL this) z) (Yt _)
 .rcases yB.mp (I.stkSub b z) with e | e
  .show(R b w).2.1 e
  .show(R b w).2.2.1 e
 .obtain⟨hi,j,hj,hv⟩:=qcT e2;obtain⟨hx,t⟩:=J (i-nl) j x hj (by rw[Nat.add_sub_cancel' hi];show e1);obtain⟨m,hn,hl⟩:=I.loc;have E:=O.free _ t rfl
  obtain⟨u,ru,lk⟩:=hl j x v hx hv (by
   rcases E with z | z
   .show .inr (.inl z)
   .show .inr (.inr z))
  show⟨u,ru,?_⟩;rcases lk with⟨ac,_⟩ | ⟨_,c,hc,B⟩
  .have A:X.env.scope.names.lookup x=some .local:=ac;rcases E with z | z<;>· rw[z] at A;cases A
  .obtain⟨G,l⟩:=zu (env:=X.env) (acc:=[]) t
   have e:G=c:=by
    have:=(a x G l).1;rw[hc] at this;show(yn this).symm
   subst e
   have aa:(cellsFrom (C+1) scope.names (qM X.env scope.names [])).lookup x=some G:=by
    rw[jp,xz]
    cases q:(cellsFrom (C+1) scope.names []).lookup x with
    | none=>show l
    | some d=>have:=O.cel _ (qaV (mem_of_lookup q)) rfl;rw[O.once _ t rfl] at this;cases this
   show .inr ⟨?_,G,aa,?_⟩
   .rcases e3 with z | z | z
    .obtain⟨k0,z3,_,e | ⟨e,_⟩⟩:=j7 (env:=X.env) (names:=scope.names) z
     .rw [O.once _ t rfl] at z3;cases z3;cases e
     .cases e
    .show .inl z
    .show .inr z
   .obtain⟨o,ho,F⟩:=B;show⟨o,k _ _ ho,F⟩
 .rcases all x c e with⟨_,_,a3⟩ | ⟨r,_⟩
  .show⟨none,a3⟩
  .obtain⟨v,o,ho,F⟩:=I.cell x c r;show⟨v,o,k _ _ ho,F⟩
 .have e:p=(D,T):=by simpa using hp
  subst e;show⟨ae,I.hok.fresh Y,Z,fun z=>?_,ab⟩;rcases yB.mp (I.stkSub D z) with e | e
  .show absurd (show X.env.locals<D from yj I.lt Y) (by rw[e];show Yt _)
  .show I.nofs Y e
 .show(qdi nl ixs σ).length=N.length;rw[capS_len,hN]
theorem Inv.compBack{j:Shared}{H':Hp}{i:St}(I:Inv X pins σ H s)(g:∀ b∈fp,qcl X pins H b)(t:s.heap.objs.size<=C)(l:s.heap.objs.size<=D)
  (J:Inv (X.comp N scope C s H fp) [(D,{ cls:=.type "list",data:=.seq its.toArray n })] i H' j) (hv:Vals ys its) (hz:ys.length<=sizeLine):Inv X pins σ (upd H' D (.lst ys)) j:=by
 obtain⟨r,f,p,_,_⟩:=J.pin (D,{ cls:=.type "list",data:=.seq its.toArray n }) (yK _ (yz.mpr rfl));have h:∀ b o,s.heap.get? b=some o->b≠D:=fun b o e=>yE (yj (yL e) l);have a:=J.base;show I.call' (ch:=fp) J.os ⟨a.keep,a.slot,fun b o e n m=>?_,a.there,fun b xs e=>?_,fun b o u e=>?_,fun b ps e=>?_⟩ (fun b u e=>?_) J.bare fun b d=>⟨(g b d).2.2.2.1,(g b d).2.1,(g b d).2.2.2.2.1,(g b d).2.2.2.2.2⟩
 .rw [qe (h b o e)];show a.free b o e n m
 .have q:=a.tups b xs e;rw[qe (qz q f)];show q
 .have q:=a.frzs b o u e;rw[qe (qz q f)];show q
 .obtain⟨more,q⟩:=a.tbls b ps e;show⟨more,by rw[qe (qz q f)];show q⟩
 .by_cases d:b=D
  .subst d;rw[qb] at e;cases e;show⟨hz,its,n,hv,r⟩
  .rw [qe d] at e;show(J.hok b u e).stay (fun c v _ q=>q) (fun c q=>by rw[qe (qz q f)];show q) fun c xs q=>by rw[qe (qz q f)];show q
end
def qfP:TT:=fun _ H Q=>Q true H
def qeC(wi:TI)(g:TG)(tc:TT)(te:TE)(nl:Nat)(ixs:LN):TE:=fun σ H Q=>wi σ H fun J e =>
 ∃ W:Nat->Nat->List V->Hp->Prop,(∃ m,W 0 m [] e)/\∀ i m ys H,W i m ys H ->
  (J.stop i H/\ys.length<=sizeLine/\∀ p,H p=none->Q (.ref p) (upd H p (.lst ys))) \/
  (J.go i H/\∃ M:List V->Hp->Prop,(∀ ys' H',M ys' H'->∃ d,d<m/\W (i+1) d ys' H')/\∀ x H',J.yld i H x H'->g x (qdi nl ixs σ) H' fun a f=>tc a f fun b c =>
   if b=true then te a c fun v h=>ys.length<sizeLine/\M (ys++[v]) h else M ys c)
def qdw(nl:Nat)(g:TG):Prop:=∀ x σ H Q,g x σ H Q->g x σ H fun a b=>Q a b/\a.length=σ.length/\∀ i,nl<=i->a[i]?=σ[i]?
theorem qU{i:Nat}(h:i<nl:=by decide):qdw nl (qbt i):=fun x σ H Q q=>⟨q,XW ..,fun j a=>xF (by lk)⟩
def qe1(X:Cx)(ifs:List Expr)(tc:TT):Prop:=
 ∀(pins:List (Addr×Obj)) (s:Shared) (σ:St) (H:Hp) (Q:Bool->Hp->Prop),Inv X pins σ H s->tc σ H Q ->
  wpAny (model X.prog X.w) X.A (forIn ifs true fun c r=>if r=true then do let ok <- isTrue c X.env (eval c X.env);pure (ForInStep.yield ok) else pure (ForInStep.yield r)) (TP X pins σ Q) X.xe s
theorem jG:qe1 X [] qfP:=fun pins s σ H Q I h=>wpAny_tests_nil ⟨H,I,h⟩
theorem jk{c:Expr}(h:PT X c tc):qe1 X [c] tc:=fun pins s σ H Q I q=>wpAny_tests_one (h pins s σ H Q I q)
section
variable{X:Cx}{pins:List (Addr×Obj)}{σ:St}{H:Hp}{s:Shared}
theorem qbj{tn:Nat->Heap->Prop}{J:It}{Q:V->Hp->Prop}
  {RR:Value->Addr->Result->Shared->Prop} (I:Inv X pins σ H s) (hc:X.calm=true) (O:CompOk X.env.scope scope)
  (hN:N.length=nl+ixs.length) (aj:∀(k j:Nat) (x:Str),ixs[k]?=some j->N[nl+k]?=some x->X.N[j]?=some x/\(x,NameKind.free)∈scope.names)
  (T:Turn X.prog X.w X.K tg J fp it tn) (st:tn 0 s.heap) (hf:∀ b∈fp,qcl X pins H b)
  (hg:∀ C s0 H0 ex,PG (X.comp N scope C s0 H0 ex) tg g) (gk:qdw nl g) (hi:∀ C s0 H0 ex,qe1 (X.comp N scope C s0 H0 ex) ifs tc) (he:∀ C s0 H0 ex,PE (X.comp N scope C s0 H0 ex) elt te)
  (h:∃ W:Nat->Nat->List V->Hp->Prop,(∃ m,W 0 m [] H)/\∀ i m ys H,W i m ys H ->
   (J.stop i H/\ys.length<=sizeLine/\∀ p,H p=none->Q (.ref p) (upd H p (.lst ys))) \/
   (J.go i H/\∃ M:List V->Hp->Prop,(∀ ys' H',M ys' H'->∃ m',m'<m/\W (i+1) m' ys' H')/\∀ x H',J.yld i H x H'->g x (qdi nl ixs σ) H' fun ap a=>tc ap a fun b H3 =>
    if b=true then te ap H3 fun v H4=>ys.length<sizeLine/\M (ys++[v]) H4 else M ys H3))
  (aw:∀(D C:Addr) (t:Shared) (H':Hp) (S:St) (ys:List V) (its:List Value) (n:Nat),s.heap.objs.size<=C->s.heap.objs.size<=D->Inv (X.comp N scope C s H fp) [(D,{ cls:=.type "list",data:=.seq its.toArray n })] S H' t->Vals ys its->ys.length<=sizeLine ->
   (∀ p,H' p=none->Q (.ref p) (upd H' p (.lst ys)))->RR (.ref D) C (.ok .next) t) :
  wpAny (model X.prog X.w) X.A (newList []) (fun acc s3=>wpAny (model X.prog X.w) X.A (newFunctionEnv scope X.env.globals (qM X.env scope.names []) [] X.env.qual none .none (some X.env)) (fun Y s4 =>
   codeAny (model X.prog X.w) X.A (.compStart (.ListComp elt [⟨tg,iter,ifs,0⟩] scope pos) 0 (.ref it) acc { Y with scope:=relabel scope X.env }) (RR acc Y.locals) s4) E s3) E s:=by
 obtain⟨W,⟨m0,w0⟩,turn⟩:=h;show YV (newEnvK ?_);dsimp only;generalize ac:s.heap.push { cls:=.type "list",dict:=none,data:=.seq ([]:List Value).toArray }=a;have aa:(pushCells (a.push { cls:=.type "dict",data:=.dict #[] }) scope.names).Ns a.objs.size fun _=>none:=(Heap.Ns.new a (.type "dict")).keeps (pushCells_keeps _ _);have G:=cellsFrom_ok scope.names (a.push { cls:=.type "dict",data:=.dict #[] }) (a.objs.size+1) [] ⟨fun _ _ hm=>(nomatch hm),List.Pairwise.nil⟩ (by rw[xy];show yh _);rw[xy] at G;have ad:∀ b o,a.get? b=some o->(pushCells (a.push { cls:=.type "dict",data:=.dict #[] }) scope.names).get? b=some o:=fun b o e=>pushCells_keeps _ _ b o (yw _ e);generalize pushCells (a.push { cls:=.type "dict",data:=.dict #[] }) scope.names=h1 at aa G ad ⊢;have hC:a.objs.size=s.heap.objs.size+1:=by rw[<- ac,xy]
 have av:s.heap.objs.size≠a.objs.size:=by rw[hC];show yE (xL _)
 have Z:s.heap.objs.size<=a.objs.size:=by rw[hC];show Xg _
 have l:∀ b,b<s.heap.objs.size->b≠a.objs.size/\b≠s.heap.objs.size:=fun b f=>⟨by rw[hC];show yE (Xd f),yE f⟩;have ae:∀ b o,s.heap.get? b=some o->h1.get? b=some o:=fun b o e=>ad b o (ac ▸ yw _ e);have ah:h1.get? s.heap.objs.size=some { cls:=.type "list",data:=.seq ([]:List Value).toArray }:=ad _ _ (ac ▸ yR _ rfl)
 have F:∀ b∈fp,b<s.heap.objs.size:=fun b f=>by
  obtain⟨o,ho,_⟩:=T.obj 0 _ st b f;show yL ho
 have ab:∀ s3:Shared,s3={ s with heap:=h1 } ->
   codeAny (model X.prog X.w) X.A (.compLoop (.ListComp elt [⟨tg,iter,ifs,0⟩] scope pos) 0 (.ref it) (.ref s.heap.objs.size) (compEnvC scope (cellsFrom (a.objs.size+1) scope.names (qM X.env scope.names [])) a.objs.size X.env)) (RR (.ref s.heap.objs.size) a.objs.size) s3:=by
  rintro s3 rfl;have I0:=I.comp (N:=N) (C:=a.objs.size) (D:=s.heap.objs.size) (h1:=h1) (tk:=s.toks) O hN aj hf F Z (yh _) av aa ae ah (fun v z=>by cases z) G
  have B:∀{H':Hp} {S:St} {t:Shared} {pl:List (Addr×Obj)},Inv (X.comp N scope a.objs.size s H fp) pl S H' t->(∀ p∈pl,p.1=s.heap.objs.size)->(∀ b∈fp,H' b=none)->∀ b∈fp,qcl (X.comp N scope a.objs.size s H fp) pl H' b:=fun{H' S t pl} J ay hn b f =>
   ⟨hn b f,(l b (F b f)).1,fun z=>(by
     rcases yB.mp (I.stkSub b z) with e | e
     .show(hf b f).2.1 e
     .show(hf b f).2.2.1 e),.inl f,J.ok.exf b f |>.2,fun p P z=>by
    have e:=ay p (by simpa using P);rw[e] at z;show(l b (F b f)).2 z.symm⟩
  show compLoop_own (fun k t=>∃ i H' ys its n,Inv (X.comp N scope a.objs.size s H fp) [(s.heap.objs.size,{ cls:=.type "list",data:=.seq its.toArray n })] (qdi nl ixs σ) H' t/\tn i t.heap/\(∀ b∈fp,H' b=none)/\Vals ys its/\W i k ys H') ?_ m0
   ⟨0,H,[],[],0,I0,T.keep _ _ _ st fun b _ o e=>ae b o e,fun b f=>(hf b f).1,.nil,w0⟩
  rintro k t ⟨i,H',ys,its,n,J1,an,ag,v1,w1⟩
  have one:∀ p∈[((s.heap.objs.size,{ cls:=.type "list",data:=.seq its.toArray n }):Addr×Obj)],p.1=s.heap.objs.size:=fun p P=>by
   have e:p=_:=yz.mp P;rw[e]
  rcases turn i k ys H' w1 with⟨ao,hz,q⟩ | ⟨go,M,hM,step⟩
  .show thn (T.done (X.comp N scope a.objs.size s H fp) rfl rfl rfl hc i _ t _ H' _ J1 (B J1 one ag) an ao) fun r s4 ⟨hr,J4⟩=>?_;subst hr;show aw _ _ s4 H' _ ys its n Z (yh _) J4 v1 hz q
  .show thn (T.item (X.comp N scope a.objs.size s H fp) rfl rfl rfl hc i _ t _ H' _ J1 (B J1 one ag) an go) fun r s4 ⟨u,hr,h4⟩=>?_;subst hr;show thn h4 fun _ s5 ⟨x,H5,J5,r5,y5,af,ar⟩=>?_;have aq:=J5.pinned (B J5 one ar) (T.obj _ _ af);show thn (hg _ _ _ _ _ s5 _ H5 x u _ aq r5 (gk _ _ _ _ (step x H5 y5))) fun _ s6 ⟨U,H6,J6,q6,l6,k6⟩=>?_;show thn (hi _ _ _ _ _ s6 U H6 _ J6 q6) fun ok s7 ⟨H7,J7,q7⟩=>?_;have again:∀{R:Shared} {H8:Hp} {ys':List V} {k':Nat},Inv (X.comp N scope a.objs.size s H fp) ([((s.heap.objs.size,{ cls:=.type "list",data:=.seq its.toArray n }):Addr×Obj)]++qbO fp s5.heap) U H8 R ->
     (∀ b o,b≠s.heap.objs.size->R.heap.get? b=some o->R.heap.get? b=some o)->tn (i+1) R.heap/\∀ b∈fp,H8 b=none:=fun{R H8 ys' k'} J8 _=>by
    show⟨T.keep _ _ _ af fun b f o e=>(J8.pin (b,o) (yK _ (yK _ (zL f e)))).1,fun b f=>?_⟩;obtain⟨o,e,d⟩:=T.obj _ _ af b f;show(J8.pin (b,o) (yK _ (yK _ (zL f e)))).2.1
   have wk:∀(j:Nat) v,(qdi nl ixs σ)[j]?=some (some v)->U[j]?=some (some v):=fun j v e=>by
    obtain⟨hj,_⟩:=qcT e;rw[k6 j hj];show e
   cases ok with
   | false =>
    rw[yA Yq] at q7 ⊢;obtain⟨m',hm,w7⟩:=hM _ _ q7;obtain⟨ba,as⟩:=again (ys':=ys) (k':=0) J7 (fun _ _ _ e=>e);show⟨m',hm,i+1,H7,ys,its,n,J7.unpinned.weak l6.symm wk,ba,as,v1,w7⟩
   | true =>
    rw[yF rfl] at q7 ⊢;show thn (he _ _ _ _ _ s7 U H7 _ J7 q7) fun y R ⟨v,H8,J8,r8,bd,mq⟩=>?_;obtain⟨m',hm,w8⟩:=hM _ _ mq;obtain⟨bc,au⟩:=again (ys':=ys) (k':=0) J8 (fun _ _ _ e=>e);have J9:=J8.unpinned;obtain⟨pD,nD,am,az,_⟩:=J9.pin (s.heap.objs.size,{ cls:=.type "list",data:=.seq its.toArray n }) (yK _ (yz.mpr rfl));show wpAny_list_append_plain (hsz:=by rw[yx,<- v1.length];lk) ⟨n,pD⟩ fun h9 L al=>?_;obtain⟨n9,L⟩:=L;have e9:(its.toArray.push y)=(its++[y]).toArray:=by simp
    rw[e9] at L
    have Ja:Inv (X.comp N scope a.objs.size s H fp) [] (qdi nl ixs σ) H8 { R with heap:=h9,toks:=R.toks }:=
     ((J9.pins_of (pins':=[]) fun p P=>absurd P (by simp)).turned (it:=s.heap.objs.size) (h':=h9) (t':=R.toks) (fun b o f e=>(al.2 b f).trans e) nD am (.inr (yh _))
      (fun x c e z=>by
       rcases qaW e with w | e
       .have:=(G.empty _ _ w).2;rw[z,hC] at this;show absurd (yi (Xg _) this) (Nat.not_succ_le_self _)
       have:=zt e;rcases this with⟨ax,hcc⟩ | hcc
       .obtain⟨c',ai⟩:=I.ok.has x (by
         rcases O.free _ ax rfl with q | q
         .show .inl q
         .show .inr q)
        rw[ai] at hcc;have ak:c=c':=hcc;obtain⟨_,q⟩:=I.cell x c' ai;rw[<- ak,z] at q;show absurd q.lt (Yt _)
       .cases hcc) (fun p P=>absurd P (by simp))).weak l6.symm wk
    show⟨m',hm,i+1,H8,ys++[v],its++[y],n9,Ja.pins_of fun p P=>?_,?_,au,v1.append (.cons r8 .nil),w8⟩
    .have e:p=_:=yz.mp P;subst e;show⟨L,nD,am,az,fun v z=>by cases z⟩
    .show T.keep _ _ _ bc fun b f o e=>(al.2 b (l b (F b f)).2).trans e
 show codeAny_compStart_list (ab _ rfl) (T.self _ 0 _ _ _ (T.keep _ _ _ st fun b _ o e=>ae b o e) (ab _ rfl))
end
section
variable{X:Cx}{tg elt iter:Expr}{ifs:List Expr}{scope:Scope}{pos:Pos}{N:LS}{nl:Nat}{ixs:LN}{wi:TI}{g:TG}{tc:TT}{te:TE}
theorem jj{XN:LS}(N:LS)(nl:Nat)(ixs:LN)(F:X.env.scope=sc)(u:X.N=XN)(hc:X.calm=true)(M:qdZ sc scope=true)(U:N.length=nl+ixs.length)(d:qfw nl ixs N XN scope.names=true)
  (hi:PI X tg iter wi) (hg:∀ C r i ex,PG (X.comp N scope C r i ex) tg g) (P:qdw nl g) (ht:∀ C r i ex,qe1 (X.comp N scope C r i ex) ifs tc) (Z:∀ C r i ex,PE (X.comp N scope C r i ex) elt te)
  (hs:∀ x,foldedSetIterable iter X.env x=pure x:=by intro _;rfl):PE X (.ListComp elt [⟨tg,iter,ifs,0⟩] scope pos) (qeC wi g tc te nl ixs):=by
 intro pins s σ H Q I h;subst F u;have O:=qcS M;have l:=qdv d;rw[eval_ListComp]
 have y:=qak (scope:=scope) (env:=X.env) fun n E=>I.ok.has n (by
  rcases O.free _ E rfl with z | z
  .show .inl z
  .show .inr z)
 show wpAny_comprehension_free (use:=none) rfl hs y O.kind O.loc (thn (hi pins s σ H _ I h) fun v s1 h1=>thn h1 fun aa s2 R=>?_);obtain⟨it,fp,tn,J,H2,e,f,T,K,L,W⟩:=R;subst e;show qbj (Q:=Q) (RR:=fun acc C=>compPost (model X.prog X.w) X.A X.xe none (EP X pins σ Q) acc C) f hc O U l T K L hg P ht Z W ?_;intro D C s' H' ab ys its n j S t hv hz q;obtain⟨m,E,_⟩:=id t.loc;have B:=f.compBack L j S t hv hz;obtain⟨_,nD,G,_,_⟩:=t.pin (D,{ cls:=.type "list",data:=.seq its.toArray n }) (yK _ (yz.mpr rfl));show⟨m,E,fun h' sb=>⟨.ref D,_,?_,rfl,q D nD⟩⟩;show B.turned (it:=C) (h':=h') (t':=s'.toks) (fun b o Y e=>(sb.2 b Y).trans e) ((qe (H:=H') (a:=D) (b:=C) (o:=.lst ys) (yZ G)).trans t.free) (Yn (yj f.lt j)) (.inr (yi f.sz j)) (fun x c e z=>?_) (fun p hp z=>?_)
 .obtain⟨_,q⟩:=f.cell x c e;show absurd (yj q.lt (by rw[z];show j)) (Yt _)
 .show absurd (yj (yL (f.pin p hp).1) (by rw[z];show j)) (Yt _)
theorem qaw{i:Nat}{y:Str}{r f:Pos}{XN:LS}(N:LS)(nl:Nat)(ixs:LN)(Y:X.env.scope=sc)(u:X.N=XN)(hc:X.calm=true)(O':qdZ sc scope=true)(hN:N.length=nl+ixs.length)(l:qfw nl ixs N XN scope.names=true)
  (P:X.N.Nodup) (S:X.N[i]?=some y) (hy:X.env.scope.names.lookup y=some .local)
  (hi:PI X tg iter wi) (hg:∀ C G t ex,PG (X.comp N scope C G t ex) tg g) (gk:qdw nl g) (ht:∀ C G t ex,qe1 (X.comp N scope C G t ex) ifs tc) (he:∀ C G t ex,PE (X.comp N scope C G t ex) elt te)
  (Z:swapsWith (.ListComp elt [⟨tg,iter,ifs,0⟩] scope pos) (some (.Name y r)) f.line X.env=pure true:=by rfl)
  (hs:∀ x,foldedSetIterable iter X.env x=pure x:=by intro _;rfl):PS X (.Assign [.Name y r] (.ListComp elt [⟨tg,iter,ifs,0⟩] scope pos) f) (qeL (qeC wi g tc te nl ixs) (qbt i)):=by
 intro pins s σ H L I h;subst Y u;have O:=qcS O';have E:=qdv l
 have R:=qak (scope:=scope) (env:=X.env) fun n U=>I.ok.has n (by
  rcases O.free _ U rfl with z | z
  .show .inl z
  .show .inr z)
 rw[exec_Assign_Name_used _ _ _ _ Z];show yt (kC (yt ?_));show wpAny _ X.A (do let _ <- comprehension (.ListComp elt [⟨tg,iter,ifs,0⟩] scope pos) scope X.env _ (newList []) false (eval iter X.env) (some (assign (.Name y r) X.env))) _ _ s;show yt (YK (wpAny_comprehension_free (use:=some (assign (.Name y r) X.env)) (Q:=fun _ F=>SP X pins L .next F) rfl hs R O.kind O.loc
  (thn (hi pins s σ H _ I h) fun v s1 h1=>thn h1 fun ad s2 h2=>?_)) (fun _ F hq=>yv (yv hq)) fun _ _ e=>e)
 obtain⟨it,fp,tn,J,H2,e,d,T,ac,f2,hW⟩:=h2;subst e;show qbj (Q:=fun v H'=>qbt i v σ H' L.nx) (RR:=fun acc C=>compPost (model X.prog X.w) X.A X.xe (some (assign (.Name y r) X.env)) (fun _ F=>SP X pins L .next F) acc C) d hc O hN E T ac f2 hg gk ht he hW ?_;intro D C F H' ae ys its n j hD K hv hz q;obtain⟨m,U,_⟩:=id K.loc;have B:=d.compBack f2 j hD K hv hz;obtain⟨_,nD,aa,_,_⟩:=K.pin (D,{ cls:=.type "list",data:=.seq its.toArray n }) (yK _ (yz.mpr rfl));show wpAny _ X.A (assign (.Name y r) X.env (.ref D)) _ _ _;show wpAny_assign_Name (qbK (i:=i) (x:=y) (v:=.ref D) B P S (.inl hy) rfl (fun ab B' W=>?_) (.inr hy));obtain⟨a,sa,ha⟩:=W
 have M:C≠a:=by
  rintro rfl;rcases ha with z | z
  .show absurd (show X.env.locals<C from yj d.lt j) (by rw[z];show Yt _)
  .obtain⟨_,q⟩:=d.cell y C z;show absurd (yj q.lt j) (Yt _)
 show⟨m,U.sameBut sa M,fun h' sb=>⟨_,_,?_,q D nD⟩⟩;show B'.turned (it:=C) (h':=h') (t':=ab.toks) (fun b o hb e=>(sb.2 b hb).trans e) ((qe (H:=H') (a:=D) (b:=C) (o:=.lst ys) (yZ aa)).trans K.free) (Yn (yj d.lt j)) (.inr (yi d.sz j)) (fun x c e z=>?_) (fun p hp z=>?_)
 .obtain⟨_,q⟩:=d.cell x c e;show absurd (yj q.lt (by rw[z];show j)) (Yt _)
 .show absurd (yj (yL (d.pin p hp).1) (by rw[z];show j)) (Yt _)
end
noncomputable def Its(x:Str):It:=⟨fun i _=>i<x.cps.size,fun i H v H'=>H'=H/\∃ c,x.cps[i]?=some c/\v=.str ⟨#[c]⟩,fun i _=>i=x.cps.size⟩
theorem qcU{K:yg}{t:Tok}(W:∀ A:Around,A.handled=none->Walks P w A it [it] [it] x.cps.size (SignAt x) fun i h=>h.IsStrIter it T x t i)
  (L:∀(A:Around) (i:Nat) (s:Shared) (Q:Value->Shared->Prop) (E:Value->Shared->Prop),s.heap.IsStrIter it T x t i->Q (.ref it) s->wpAny (model P w) A (pyIter (.ref it)) Q E s)
  (C:∀ v,letOwnedTupleGo tg (.ref it) v=pure ()):Turn P w K tg (Its x) [it] it (fun i h=>h.IsStrIter it T x t i) where
 mem:=by simp
 obj:=fun i h st b a=>by
  have e:b=it:=by simpa using a
  subst e;obtain⟨o,e,c,d⟩:=st;show⟨o,e,fun v z=>by rw[d] at z;cases z⟩
 keep:=fun i h h' st k=>by
  obtain⟨o,e,r⟩:=st;show⟨o,k it (by simp) o e,r⟩
 item:=by
  intro X q hw p hc i pins s σ H E I f st B;subst q hw p;obtain⟨g,j,J,l,m,n⟩:=f it (by simp);show(W X.A (I.ok.hd hc)).item i s _ _ B st fun v h' tk hv F D=>?_;obtain⟨c,u,y,rfl⟩:=hv;have G:Inv X pins σ H { s with heap:=h',toks:=tk }:=I.turned (fun b o a e=>D b o (by simpa using a) e) g j l m n;show⟨_,rfl,Y3 (C _) ⟨.str ⟨#[c]⟩,H,G,⟨u,rfl⟩,⟨rfl,c,y,rfl⟩,F,fun b a=>(f b a).1⟩⟩
 done:=by
  intro X q hw p hc i pins s σ H E I f st B;subst q hw p;obtain⟨g,j,J,l,m,n⟩:=f it (by simp);have e:i=x.cps.size:=B;subst e;show(W X.A (I.ok.hd hc)).done s _ _ st fun h' tk D=>⟨rfl,I.turned (fun b o a e=>D b o (by simpa using a) e) g j l m n⟩
 self:=L
section
variable{X:Cx}{tg:Expr}
end
section
variable{K:yg}{a:Addr}{xs:List V}{g:TG}{tc:TT}{te:TE}{σ':St}{H1:Hp}{Q:V->Hp->Prop}
def qdx(J:It)(g:TG)(tc:TT)(te:TE)(σ':St)(H1:Hp)(Q:V->Hp->Prop):Prop:=
 ∃ W:Nat->Nat->List V->Hp->Prop,(∃ m,W 0 m [] H1)/\∀ i m ys H,W i m ys H ->
   (J.stop i H/\ys.length<=sizeLine/\∀ p,H p=none->Q (.ref p) (upd H p (.lst ys))) \/
   (J.go i H/\∃ M:List V->Hp->Prop,(∀ ys' H',M ys' H'->∃ d,d<m/\W (i+1) d ys' H')/\∀ x H',J.yld i H x H'->g x σ' H' fun a e=>tc a e fun b c =>
    if b=true then te a c fun v f=>ys.length<sizeLine/\M (ys++[v]) f else M ys c)
theorem qE(c:Nat->List V->Hp->Prop)(n:c 0 [] H1)(hl:∀ i ys H,i<=xs.length->c i ys H->SqL K H a xs)
  (s:∀ i x ys H,xs[i]?=some x->c i ys H->g x σ' H fun f j=>tc f j fun b h=>if b=true then te f h fun v l=>ys.length<sizeLine/\c (i+1) (ys++[v]) l else c (i+1) ys h)
  (o:∀ ys H,c xs.length ys H->ys.length<=sizeLine/\∀ p,H p=none->Q (.ref p) (upd H p (.lst ys))):qdx (Itl K a) g tc te σ' H1 Q:=by
 show⟨fun i m ys H=>m=xs.length-i/\i<=xs.length/\c i ys H,⟨xs.length,by simp,YF _,n⟩,?_⟩;rintro i m ys H ⟨rfl,r,p⟩;have q:=hl i ys H r p;by_cases d:i<xs.length
 .show .inr ⟨⟨xs,xs[i],q,by simp[d]⟩,c (i+1),fun ys' H' t=>⟨xs.length-(i+1),by lk,rfl,d,t⟩,fun x H' y=>?_⟩;obtain⟨e,y⟩:=y;subst e;show s i x ys _ (y xs q) p
 .have e:i=xs.length:=by lk
  subst e;show .inl ⟨⟨xs,q,yh _⟩,o ys H p⟩
theorem qbk{lo:Int}(a:Nat->List V->Hp->Prop)(l:a 0 [] H1)
  (q:∀ i ys H,i<n->a i ys H->g (.int (lo+i)) σ' H fun d h=>tc d h fun b f=>if b=true then te d f fun v j=>ys.length<sizeLine/\a (i+1) (ys++[v]) j else a (i+1) ys f)
  (o:∀ ys H,a n ys H->ys.length<=sizeLine/\∀ p,H p=none->Q (.ref p) (upd H p (.lst ys))):qdx (Itr lo n) g tc te σ' H1 Q:=by
 show⟨fun i m ys H=>m=n-i/\i<=n/\a i ys H,⟨n,by simp,YF _,l⟩,?_⟩;rintro i m ys H ⟨rfl,s,p⟩;by_cases c:i<n
 .show .inr ⟨c,a (i+1),fun ys' H' r=>⟨n-(i+1),by lk,rfl,c,r⟩,fun x H' y=>?_⟩;obtain⟨e,y⟩:=y;subst e y;show q i ys _ c p
 .have e:i=n:=by lk
  subst e;show .inl ⟨yh _,o ys H p⟩
theorem comp_str(a:Nat->List V->Hp->Prop)(n:a 0 [] H1)
  (q:∀ i c ys H,x.cps[i]?=some c->a i ys H->g (.str ⟨#[c]⟩) σ' H fun f j=>tc f j fun b h=>if b=true then te f h fun v l=>ys.length<sizeLine/\a (i+1) (ys++[v]) l else a (i+1) ys h)
  (o:∀ ys H,a x.cps.size ys H->ys.length<=sizeLine/\∀ p,H p=none->Q (.ref p) (upd H p (.lst ys))):qdx (Its x) g tc te σ' H1 Q:=by
 show⟨fun i m ys H=>m=x.cps.size-i/\i<=x.cps.size/\a i ys H,⟨x.cps.size,by simp,YF _,n⟩,?_⟩;rintro i m ys H ⟨rfl,s,p⟩;by_cases d:i<x.cps.size
 .show .inr ⟨d,a (i+1),fun ys' H' r=>⟨x.cps.size-(i+1),by lk,rfl,d,r⟩,fun v H' y=>?_⟩;obtain⟨e,c,hc,y⟩:=y;subst e y;show q i c ys _ hc p
 .have e:i=x.cps.size:=by lk
  subst e;show .inl ⟨rfl,o ys H p⟩
end
noncomputable def qb0:V->Option Value
 | .ty n=>some (.type n)
 | .ref a=>some (.ref a)
 | _=>none
theorem qbl{c:Value}(h:qb0 y=some c)(r:RelV y u):u=c:=by
 cases y with
 | ty n=>cases h;show r
 | ref a=>cases h;show r
 | _=>cases h
section
variable{X:Cx}{pins:List (Addr×Obj)}{σ:St}{H:Hp}{s:Shared}
theorem TyOf.kit{x:V}(I:Inv X pins σ H s)(b:RelV x u)(ty:TyOf X.K H x t):∃ P:Heap->Prop,PySem.W.KitX X.K u t P/\P s.heap/\u≠.builtin "__main__.__loader__#opaque":=by
 cases ty with
 | non=>cases (show u=Value.none from b);show⟨_,PySem.W.kitx_none,YZ,(fun z=>nomatch z)⟩
 | bl y=>cases (show u=Value.bool y from b);show⟨_,PySem.W.kitx_bool,YZ,(fun z=>nomatch z)⟩
 | int i=>obtain⟨t,q⟩:=(show ∃ t,u=Value.int i t from b);cases q;show⟨_,PySem.W.kitx_int,YZ,(fun z=>nomatch z)⟩
 | str y=>obtain⟨t,q⟩:=(show ∃ t,u=Value.str y t from b);cases q;show⟨_,PySem.W.kitx_str,YZ,(fun z=>nomatch z)⟩
 | flt y=>obtain⟨t,q⟩:=(show ∃ t,u=Value.float y t from b);cases q;show⟨_,PySem.W.kitx_float,YZ,(fun z=>nomatch z)⟩
 | @lst a xs ea =>
  cases (show u=Value.ref a from b);obtain⟨_,_,n,_,h1⟩:=(show ObjOk X.prog X.w H s.heap a (.lst xs) from I.hok a _ ea);show⟨_,PySem.W.kitx_list,⟨_,h1,rfl⟩,(fun z=>nomatch z)⟩
 | @frz a ob xs ea =>
  cases (show u=Value.ref a from b);obtain⟨_,_,_,n,_,h1⟩:=(show ObjOk X.prog X.w H s.heap a (.frz ob (.lst xs)) from I.hok a _ ea);show⟨_,PySem.W.kitx_list,⟨_,h1,rfl⟩,(fun z=>nomatch z)⟩
 | @tup a xs ea =>
  cases (show u=Value.ref a from b);obtain⟨_,_,_,p⟩:=(show ObjOk X.prog X.w H s.heap a (.tup xs) from I.hok a _ ea);obtain⟨o,h1,c,_⟩:=p;show⟨_,PySem.W.kitx_tuple,⟨o,h1,c⟩,(fun z=>nomatch z)⟩
 | @dK a kvs ea =>
  cases (show u=Value.ref a from b);obtain⟨_,_,vs,_,p⟩:=(show ObjOk X.prog X.w H s.heap a (.dK kvs) from I.hok a _ ea);obtain⟨o,d,ep,h1,c,_⟩:=p;show⟨_,PySem.W.kitx_dict,⟨o,h1,c.1⟩,(fun z=>nomatch z)⟩
 | @dT a kvs ea =>
  cases (show u=Value.ref a from b);obtain⟨_,_,xs,_,o,d,ep,h1,c,_⟩:=(show ObjOk X.prog X.w H s.heap a (.dT kvs) from I.hok a _ ea);show⟨_,PySem.W.kitx_dict,⟨o,h1,c.1⟩,(fun z=>nomatch z)⟩
 | @ins a C dx fs ea cl ha hn htk hm =>
  cases (show u=Value.ref a from b);obtain⟨e,O,_⟩:=qau I.hok ea;obtain⟨od,J,_⟩:=O.look;show⟨_,PySem.W.kitx_own (cl.get _) cl.hd ha hn htk hm,J,(fun z=>nomatch z)⟩
end
section
variable{X:Cx}
theorem qaX:∀{ys:List V} {a us:List Value},ys.map qb0=a.map some->Vals ys us->us=a
 | [],[],_,_,.nil=>rfl
 | [],_::_,_,h,_=>by cases h
 | y::ys,[],_,h,_=>by cases h
 | y::ys,c::a,_,h,.cons r t=>by
  rw[Yu,Yu] at h
  injection h with h1 h2
  rw[qbl h1 r,qaX h2 t]
theorem qcV:∀{bs:List Bool} {us:List Value},Vals (bs.map V.bl) us->us=bs.map Value.bool
 | [],_,.nil=>rfl
 | b::bs,_,.cons r t=>by
  have e:=qcV t;rw[e];cases r;rfl
def qfQ(K:yg):List V->Hp->VK->Prop:=fun xs H Q=>∃(p:Addr) (bs:List Bool),xs=[.ref p]/\SqL K H p (bs.map V.bl)/\Q (.bl (bs.all id)) H
theorem call_all(hc:X.calm=true):zG X (.builtin "all") (qfQ X.K):=by
 intro pins s σ H xs us Q I r h;obtain⟨p,bs,rfl,w,q⟩:=h;obtain⟨u,rfl,y⟩:=qaQ r;cases y;obtain⟨its,B,pl,hz⟩:=I.list w;have e:=qcV B;subst e;have m:X.A.in1.handled=none:=I.ok.hd hc;show call_all_walk (kj pl.isList ?_)
 have f:p≠s.heap.objs.size:=by
  obtain⟨o,t,_⟩:=pl.isList;show yE (yL t)
 show⟨s.heap.objs.size,_,_,_,_,_,fun i=>(bs[i]?).getD false,rfl,Walks.list m s.heap.objs.size p f (bs.map Value.bool).toArray,⟨⟨_,yR _ rfl,rfl,rfl⟩,pl.isList.at fun o e=>yw _ e⟩,fun i v s Q E hv x=>?_,fun h' tk n=>?_⟩
 .have a:(bs.map Value.bool)[i]?=some v:=by simpa using hv
  rw[yd] at a
  cases e:bs[i]? with
  | none=>rw[e] at a;cases a
  | some b =>
   rw[e] at a;cases a;have c:Q ((bs[i]?).getD false) s:=x;rw[e] at c;show yv c
 .have e:((List.range (bs.map Value.bool).toArray.size).all fun i=>(bs[i]?).getD false)=bs.all id:=by
   rw[yx,ya]
   have g:∀ bs:List Bool,((List.range bs.length).all fun i=>(bs[i]?).getD false)=bs.all id:=by
    intro bs
    induction bs with
    | nil=>rfl
    | cons b r ih =>
     rw[yD,List.range_succ_eq_map,Xr,k8,Xr,<- ih];rfl
   show g bs
  rw[e];show⟨.bl _,H,?_,rfl,q⟩;have j:Inv X pins σ H { s with heap:=s.heap.push { cls:=.type "list_iterator",data:=.fields #[.ref p,.int 0 0] } }:=I.kept (t':=s.toks) fun b o e=>yw _ e;have d:=I.fpOk (b:=s.heap.objs.size) (yh _) (I.hok.fresh (yh _));show j.turned (it:=s.heap.objs.size) (h':=h') (t':=tk) (fun b o l e=>n b o (by simpa using l) e) d.1 d.2.1 d.2.2.2.1 d.2.2.2.2.1 d.2.2.2.2.2
theorem op_le_str:OpR X (compareOp .LtE) (fun x y H Q=>∃ i j,x=.str i/\y=.str j/\Q (.bl (!decide (j.cps.toList<i.cps.toList))) H):=by
 intro pins s σ H x y v u Q I a b h;obtain⟨i,j,rfl,rfl,q⟩:=h;obtain⟨t,rfl⟩:=a;obtain⟨t',rfl⟩:=b;show PySem.P.le_str (qcO I q (by rfl))
def qfx:R2:=fun x y H Q=>match x,y with
 | .int i,.int j=>Q (.bl (decide (i<=j))) H
 | .str i,.str j=>Q (.bl (!decide (j.cps.toList<i.cps.toList))) H
 | _,_=>False
theorem qfn:OpR X (compareOp .LtE) qfx:=by
 intro pins s σ H x y v u Q I a b h
 cases x with
 | int i=>cases y with
  | int j=>show op_le pins s σ H _ _ v u Q I a b ⟨i,j,rfl,rfl,h⟩
  | _=>show False.elim h
 | str i=>cases y with
  | str j=>show op_le_str pins s σ H _ _ v u Q I a b ⟨i,j,rfl,rfl,h⟩
  | _=>show False.elim h
 | _=>show False.elim h
theorem op_is_bl:OpR X (compareOp .Is) (fun x y H Q=>∃ i j,x=.bl i/\y=.bl j/\Q (.bl (i==j)) H):=by
 intro pins s σ H x y v u Q I a b h;obtain⟨i,j,rfl,rfl,q⟩:=h;cases a;cases b;show wpAny_is_plain (by cases i<;>cases j<;>rfl) (qcO I q (by cases i<;>cases j<;>rfl))
def qfy:R2:=fun x y H Q=>match x,y with
 | .bl i,.bl j=>Q (.bl (i==j)) H
 | x,.non=>Q (.bl (decide (x=.non))) H
 | _,_=>False
theorem qfo:OpR X (compareOp .Is) qfy:=by
 intro pins s σ H x y v u Q I a b h
 cases y with
 | non=>show op_isN pins s σ H x _ v u Q I a b ⟨rfl,by cases x<;>show h⟩
 | bl j=>cases x with
  | bl i=>show op_is_bl pins s σ H _ _ v u Q I a b ⟨i,j,rfl,rfl,h⟩
  | _=>show False.elim h
 | _=>cases x<;>show False.elim h
theorem op_rep_str:OpR X (binaryOp .Mult) (fun x y H Q=>∃ z k,x=.str z/\y=.int k/\MulOk z k/\Q (.str (Txt.mul z k)) H):=by
 intro pins s σ H x y v u Q I b c h;obtain⟨z,k,rfl,rfl,a,q⟩:=h;obtain⟨t,rfl⟩:=b;obtain⟨t',rfl⟩:=c;show SB.mul a fun t' k'=>⟨.str _,H,I.tok _,⟨_,rfl⟩,q⟩
def qe2:R2:=fun x y H Q=>match x,y with
 | .int i,.int j=>CMul i j/\Q (.int (i*j)) H
 | .str z,.int k=>MulOk z k/\Q (.str (Txt.mul z k)) H
 | .ref a,.int k=>rRep (.ref a) (.int k) H Q
 | _,_=>False
theorem qbc:OpR X (binaryOp .Mult) qe2:=by
 intro pins s σ H x y v u Q I b c h
 cases y with
 | int j=>cases x with
  | int i=>show op_mul pins s σ H _ _ v u Q I b c ⟨i,j,rfl,rfl,h.1,h.2⟩
  | str i=>show op_rep_str pins s σ H _ _ v u Q I b c ⟨i,j,rfl,rfl,h.1,h.2⟩
  | ref a=>show qea pins s σ H _ _ v u Q I b c h
  | _=>show False.elim h
 | _=>cases x<;>show False.elim h
def qdd(K:yg):R2:=fun x y H Q=>match x,y with
 | .int i,.int j=>Q (.int (i+j)) H
 | .str i,.str j=>i.length+j.length<=sizeLine/\Q (.str (i++j)) H
 | .ref a,.ref b=>rCat (.ref a) (.ref b) H Q\/rCatT K (.ref a) (.ref b) H Q
 | _,_=>False
theorem u_add:OpR X (binaryOp .Add) (qdd X.K):=by
 intro pins s σ H x y v u Q I c d h
 cases x with
 | int i=>cases y with
  | int j=>show op_add pins s σ H _ _ v u Q I c d ⟨i,j,rfl,rfl,h⟩
  | _=>show False.elim h
 | str i=>cases y with
  | str j=>show op_add_str pins s σ H _ _ v u Q I c d ⟨i,j,rfl,rfl,h.1,h.2⟩
  | _=>show False.elim h
 | ref a=>cases y with
  | ref b=>show h.elim (fun h=>op_cat pins s σ H _ _ v u Q I c d h) fun h=>op_catT pins s σ H _ _ v u Q I c d h
  | _=>show False.elim h
 | _=>show False.elim h
def qde(K:yg):List V->Hp->VK->Prop:=fun xs H Q=>match xs with
 | [.str z]=>z.length<=sizeLine/\Q (.int z.length) H
 | [.ref p]=>(∃ ys,(SqL K H p ys\/SqT K H p ys)/\Q (.int ys.length) H)\/∃ kvs,H p=some (.dK kvs)/\Q (.int kvs.length) H
 | _=>False
theorem call_lenU:zG X (.builtin "len") (qde X.K):=by
 intro pins s σ H xs us Q I r h
 match xs,h with
 | [.str z],h=>show call_len_str pins s σ H _ us Q I r ⟨z,rfl,h.1,h.2⟩
 | [.ref p],.inl ⟨ys,h,q⟩=>show call_len_seq pins s σ H _ us Q I r ⟨p,ys,rfl,h,q⟩
 | [.ref p],.inr ⟨kvs,h,q⟩=>show call_lenD pins s σ H _ us Q I r ⟨p,kvs,rfl,h,q⟩
theorem sl_str:SlR X (fun x lo b H Q=>∃ z,x=.str z/\z.length<=sizeLine/\Q (.str (Txt.slice z lo b)) H):=by
 intro pins s σ H x v f g lo b e Q I d a pl c h;obtain⟨z,rfl,hz,q⟩:=h;obtain⟨t,rfl⟩:=d;show⟨"str",_,F.slot_str_getitem.lookup,typeIs_str _ _ _,?_⟩
 cases pl with
 | none =>
  cases c with
  | none=>show xO (l:=none) (u:=none) (st:=none) a rfl (XY ⟨yi (kO z _ _) hz,fun t' k=>⟨.str _,H,I.tok _,⟨_,rfl⟩,q⟩⟩)
  | int j uj=>show xO (l:=none) (u:=some (j,uj)) (st:=none) a rfl (XY ⟨yi (kO z _ _) hz,fun t' k=>⟨.str _,H,I.tok _,⟨_,rfl⟩,q⟩⟩)
 | int i ui =>
  cases c with
  | none=>show xO (l:=some (i,ui)) (u:=none) (st:=none) a rfl (XY ⟨yi (kO z _ _) hz,fun t' k=>⟨.str _,H,I.tok _,⟨_,rfl⟩,q⟩⟩)
  | int j uj=>show xO (l:=some (i,ui)) (u:=some (j,uj)) (st:=none) a rfl (XY ⟨yi (kO z _ _) hz,fun t' k=>⟨.str _,H,I.tok _,⟨_,rfl⟩,q⟩⟩)
def qfz(K:yg):V->Option Int->Option Int->Hp->VK->Prop:=fun x lo b H Q=>match x with
 | .str z=>z.length<=sizeLine/\Q (.str (Txt.slice z lo b)) H
 | .ref a=>rSlL K (.ref a) lo b H Q\/rSlT K (.ref a) lo b H Q
 | _=>False
theorem u_sl:SlR X (qfz X.K):=by
 intro pins s σ H x v g i lo b f Q I e c pl d h
 cases x with
 | str z=>show sl_str pins s σ H _ v g i lo b f Q I e c pl d ⟨z,rfl,h.1,h.2⟩
 | ref a=>show h.elim (fun h=>sl_list pins s σ H _ v g i lo b f Q I e c pl d h) fun h=>sl_tup pins s σ H _ v g i lo b f Q I e c pl d h
 | _=>show False.elim h
theorem qdy:∀{ys:LS} {us:List Value},Vals (ys.map V.str) us->StrsAre us ys
 | [],_,.nil=>.nil
 | y::ys,_,.cons r t=>by
  obtain⟨tk,rfl⟩:=r;show .cons y tk (qdy t)
def qe3(K:yg):V->List V->Hp->VK->Prop:=fun x vs H Q=>∃(z:Str) (p:Addr) (ys:LS),x=.str z/\vs=[.ref p]/\SqL K H p (ys.map V.str)/\(ys.map (·.length)).sum+ys.length*z.length<=16777216/\Q (.str (Txt.join z ys)) H
theorem mt_join:MtR X "str.join" (qe3 X.K):=by
 intro pins s σ H x vs v us Q I d c h;obtain⟨z,p,ys,rfl,rfl,a,hz,q⟩:=h;obtain⟨t,rfl⟩:=d;obtain⟨u,rfl,b⟩:=c.one;cases b;obtain⟨its,r,pl,_⟩:=I.list a;show join_list pl.isList (by simpa using qdy r) hz fun t' k=>⟨.str _,H,I.tok _,⟨_,rfl⟩,q⟩
def qfA(K:yg)(te:TE):TI:=fun σ H R=>te σ H fun v b=>match v with
 | .str x=>R (Its x) b
 | .ref a=>((∃ xs,SqL K b a xs)/\R (Itl K a) b)\/((∃ xs,SqT K b a xs)/\R (Itt K a) b)
 | _=>False
theorem pi_any{e:Expr}(w:PE X e te)(g:∀ it v,letOwnedTupleGo tg it v=pure ():=by intro _ _;rfl):PI X tg e (qfA X.K te):=by
 intro pins s σ H R I h;show thn (w pins s σ H _ I h) fun v c ⟨y,f,d,u,j⟩=>?_
 cases y with
 | str x =>
  obtain⟨t,rfl⟩:=u
  have fp:∀ b∈[c.heap.objs.size],qcl X pins f b:=fun b m=>by
   have e:b=c.heap.objs.size:=by simpa using m
   subst e;show d.fpOk (yh _) (d.hok.fresh (yh _))
  cases r:x.cps.all (· < 128)
  .show wpAny_pyIter_wide r ⟨c.heap.objs.size,[c.heap.objs.size],_,_,f,rfl,d.kept (t':=c.toks) fun b o e=>yw _ e,
    qcU (T:="str_iterator") (fun A l=>Walks.strWide l _ x t) (fun A i s Q E st h=>wpAny_pyIter_striter_wide st h) (g _),⟨_,yR _ rfl,rfl,rfl⟩,fp,j⟩
  .show wpAny_pyIter_ascii r ⟨c.heap.objs.size,[c.heap.objs.size],_,_,f,rfl,d.kept (t':=c.toks) fun b o e=>yw _ e,
    qcU (T:="str_ascii_iterator") (fun A l=>Walks.strAscii l _ x t) (fun A i s Q E st h=>wpAny_pyIter_striter_ascii st h) (g _),⟨_,yR _ rfl,rfl,rfl⟩,fp,j⟩
 | ref a =>
  cases u
  have fp:∀ b∈[c.heap.objs.size],qcl X pins f b:=fun b m=>by
   have e:b=c.heap.objs.size:=by simpa using m
   subst e;show d.fpOk (yh _) (d.hok.fresh (yh _))
  rcases j with⟨⟨xs,n⟩,q⟩ | ⟨⟨xs,n⟩,q⟩
  .obtain⟨its,B,p,hz⟩:=d.list n;show kj p.isList ⟨c.heap.objs.size,[c.heap.objs.size],_,_,f,rfl,d.kept (t':=c.toks) fun b o e=>yw _ e,qbN a _,⟨_,yR _ rfl,rfl,rfl⟩,fp,q⟩
  .obtain⟨its,B,p,hz⟩:=d.tuple n;show wpAny_pyIter_tuple (show c.heap.IsTuple a its.toArray from p) ⟨c.heap.objs.size,[c.heap.objs.size],_,_,f,rfl,d.kept (t':=c.toks) fun b o e=>yw _ e,turn_tuple a _,⟨_,yR _ rfl,rfl,rfl⟩,fp,q⟩
 | _=>show False.elim j
end
section
variable{D:Ends}{σ:St}{H:Hp}{Q:VK}{QT:Bool->Hp->Prop}{QA:List V->Hp->Prop}{t u:TS}{te ta tb tc:TE}{c c':TT}{tr tas:TA}{r r':R2}{K:yg}
theorem vSeq(h:t { D with nx:=u D } σ H):qfr t u D σ H:=h
theorem vAsg{i:Nat}(h:te σ H fun x a=>D.nx (σ.set i (some x)) a):qeL te (qbt i) D σ H:=h
theorem vAsgS{b a:TE}{s:qeT}(h:te σ H fun x c=>b σ c fun o d=>a σ d fun i e=>s o i x e fun f=>D.nx σ f):qeL te (qfK b a s) D σ H:=h
theorem vIfS(h:c σ H fun b a=>if b=true then t D σ a else u D σ a):qfI c t u D σ H:=h
theorem vRet(h:te σ H D.rt):qfH te D σ H:=h
theorem vRetN(h:D.rt .non H):qeS D σ H:=h
theorem vDrop(h:te σ H fun _ a=>D.nx σ a):qeR te D σ H:=h
theorem vNext(h:D.nx σ H):qeQ D σ H:=h
theorem vC(h:Q v H):tC v σ H Q:=h
theorem vVar{i:Nat}(e:σ[i]?=some (some v))(h:Q v H):qfq i σ H Q:=⟨v,e,h⟩
theorem vOp(h:ta σ H fun x a=>tb σ a fun y b=>r x y b Q):tOp r ta tb σ H Q:=h
theorem vUn{f:V->Hp->VK->Prop}(h:ta σ H fun x a=>f x a Q):tUn f ta σ H Q:=h
theorem vChain(h:ta σ H fun x b=>tb σ b fun y c=>r x y c fun z a=>∃ k,z=.bl k/\if k=true then tc σ a fun e d=>r' y e d Q else Q (.bl false) a):qdm r r' ta tb tc σ H Q:=h
theorem vNil(h:QA [] H):qfm σ H QA:=h
theorem vCons(h:ta σ H fun x a=>tr σ a fun xs b=>QA (x::xs) b):qeX ta tr σ H QA:=h
theorem vCB{f:List V->Hp->VK->Prop}(h:tas σ H fun vs a=>f vs a Q):tCB f tas σ H Q:=h
theorem vCall{sp:Sp}{E:XK}(h:tas σ H fun vs a=>sp (vs++[]) a Q E):qez sp [] E tas σ H Q:=h
theorem vLst(h:tas σ H fun xs a=>NewL xs a Q):qfO tas σ H Q:=h
theorem vTup(h:tas σ H fun xs a=>NewT xs a Q):qfN tas σ H Q:=h
theorem vTest(h:te σ H fun x H'=>∃ k,x=.bl k/\QT k H'):qey te σ H QT:=h
theorem vB(h:te σ H fun x H'=>∃ k,x=.bl k/\QT k H'):tB te σ H QT:=h
theorem vNot(h:c σ H fun b a=>QT (!b) a):qfF c σ H QT:=h
theorem vAnd(h:c σ H fun b a=>if b=true then c' σ a QT else QT false a):qfE c c' σ H QT:=h
theorem vOr(h:c σ H fun b a=>if b=true then QT true a else c' σ a QT):tOr c c' σ H QT:=h
theorem vAndV(h:ta σ H fun x a=>∃ k,x=.bl k/\if k=true then tb σ a Q else Q (.bl false) a):qeP ta tb σ H Q:=h
theorem vOrV(h:ta σ H fun x a=>∃ k,x=.bl k/\if k=true then Q (.bl true) a else tb σ a Q):qfG ta tb σ H Q:=h
theorem vNotV(h:ta σ H fun x a=>∃ k,x=.bl k/\Q (.bl (!k)) a):tNotV ta σ H Q:=h
theorem vIf(h:c σ H fun b a=>if b=true then ta σ a Q else tb σ a Q):tIf c ta tb σ H Q:=h
theorem vYes(h:QT true H):qfP σ H QT:=h
theorem vI0{g:Int->Int->V}(h:Q (g i j) H):rI0 g (.int i) (.int j) H Q:=⟨i,j,rfl,rfl,h⟩
theorem vI{C:Int->Int->Prop}{g:Int->Int->V}(hc:C i j)(h:Q (g i j) H):rI C g (.int i) (.int j) H Q:=⟨i,j,rfl,rfl,hc,h⟩
theorem vU{g:Int->V}(h:Q (g i) H):rU g (.int i) H Q:=⟨i,rfl,h⟩
theorem vEqI(h:Q (.bl (decide (i=j))) H):rEq (.int i) (.int j) H Q:=⟨rfl,by
 have e:decide (V.int i=V.int j)=decide (i=j):=by
  by_cases h:i=j
  .subst h;simp
  .rw [yl h,yl (fun e=>h (V.int.inj e))]
 rw[e];show h⟩
theorem vEqB{i j:Bool}(h:Q (.bl (i==j)) H):rEq (.bl i) (.bl j) H Q:=⟨rfl,by rw[dec_bl];show h⟩
theorem zH(b:H p=some (.lst xs))(a:atI xs i=some v)(h:Q v H):rIx K (.ref p) (.int i) H Q:=.inl ⟨p,xs,i,v,rfl,rfl,SqL.of b,a,h⟩
theorem vIxLs(b:SqL K H p xs)(a:atI xs i=some v)(h:Q v H):rIx K (.ref p) (.int i) H Q:=.inl ⟨p,xs,i,v,rfl,rfl,b,a,h⟩
theorem qaY(b:H p=some (.tup xs))(a:atI xs i=some v)(h:Q v H):rIx K (.ref p) (.int i) H Q:=.inr (.inl ⟨p,xs,i,v,rfl,rfl,SqT.of b,a,h⟩)
theorem qfR{z:Str}{ch:Nat}(hz:z.length<=sizeLine)(a:atI z.cps.toList i=some ch)(h:Q (.str ⟨#[ch]⟩) H):rIx K (.str z) (.int i) H Q:=.inr (.inr ⟨z,i,ch,rfl,rfl,hz,a,h⟩)
theorem qd1{k:Int}{j:Nat}{a:Hp->Prop}(c:H p=some (.lst xs))(b:ixN xs.length k=some j)(h:a (upd H p (.lst (xs.set j v)))):rSetL (.ref p) (.int k) v H a:=⟨p,xs,k,j,rfl,rfl,c,b,h⟩
theorem vEx{k:Bool}{P:Bool->Prop}(h:P k):∃ k',V.bl k=.bl k'/\P k':=⟨k,rfl,h⟩
theorem vLeI(h:Q (.bl (decide (i<=j))) H):qfx (.int i) (.int j) H Q:=h
theorem vLeS{i j:Str}(h:Q (.bl (!decide (j.cps.toList<i.cps.toList))) H):qfx (.str i) (.str j) H Q:=h
theorem vIsB{i j:Bool}(h:Q (.bl (i==j)) H):qfy (.bl i) (.bl j) H Q:=h
theorem vAddI(h:Q (.int (i+j)) H):qdd K (.int i) (.int j) H Q:=h
theorem qeD{i j:Str}(hz:i.length+j.length<=sizeLine)(h:Q (.str (i++j)) H):qdd K (.str i) (.str j) H Q:=⟨hz,h⟩
theorem qbd(hc:CMul i j)(h:Q (.int (i*j)) H):qe2 (.int i) (.int j) H Q:=⟨hc,h⟩
theorem vLenS{z:Str}(hz:z.length<=sizeLine)(h:Q (.int z.length) H):qde K [.str z] H Q:=⟨hz,h⟩
theorem zD(a:H p=some (.lst ys))(h:Q (.int ys.length) H):qde K [.ref p] H Q:=.inl ⟨ys,.inl (SqL.of a),h⟩
theorem qec(a:SqL K H p ys)(h:Q (.int ys.length) H):qde K [.ref p] H Q:=.inl ⟨ys,.inl a,h⟩
theorem vLenT(a:H p=some (.tup ys))(h:Q (.int ys.length) H):qde K [.ref p] H Q:=.inl ⟨ys,.inr (SqT.of a),h⟩
theorem qfB{z:Str}{lo a:Option Int}(hz:z.length<=sizeLine)(h:Q (.str (Txt.slice z lo a)) H):qfz K (.str z) lo a H Q:=⟨hz,h⟩
theorem vSl{f:V->Option Int->Option Int->Hp->VK->Prop}{tl a:TO}(h:te σ H fun x b=>tl σ b fun l c=>a σ c fun u d=>f x l u d Q):tSl f te tl a σ H Q:=h
theorem vNoPart(h:QO none H):qdr σ H QO:=h
theorem vPart(h:te σ H fun x a=>∃ i,x=.int i/\QO (some i) a):qeZ te σ H QO:=h
theorem vExI{P:Int->Prop}(h:P i):∃ j,V.int i=.int j/\P j:=⟨i,rfl,h⟩
theorem vBM(h:te σ H fun x a=>tyV K T x a/\tas σ a fun xs b=>f x xs b Q):tBM K T f te tas σ H Q:=h
theorem vBM0(h:te σ H fun x a=>tyV K T x a/\f x [] a Q):qfu K T f te σ H Q:=h
theorem vComp(h:wi σ H fun J a=>qdx J g c te (qdi nl ixs σ) a Q):qeC wi g c te nl ixs σ H Q:=h
theorem vFor (h:wi σ H fun J d=>∃ W:Nat->Nat->St->Hp->Prop,(∃ m,W 0 m σ d)/\∀ i m σ H,W i m σ H ->
 (J.stop i H/\D.nx σ H)\/(J.go i H/\∃ N:St->Hp->Prop,(∀ a H',N a H'->∃ c,c<m/\W (i+1) c a H')/\∀ x H',J.yld i H x H'->g x σ H' fun b e=>t { D with nx:=N,ct:=N,bk:=D.nx } b e)):qfL wi g t D σ H:=h
theorem vRng1(h:tas σ H fun vs a=>∃ j:Int,vs=[.int j]/\-(2 ^ 62)<=j/\j<2 ^ 62/\R (Itr 0 j.toNat) a):qeU tas σ H R:=h
theorem vAny (h:te σ H fun v b=>match v with
 | .str x=>R (Its x) b
 | .ref a=>((∃ xs,SqL K b a xs)/\R (Itl K a) b)\/((∃ xs,SqT K b a xs)/\R (Itt K a) b)
 | _=>False):qfA K te σ H R:=h
theorem vGN{i:Nat}{a:St->Hp->Prop}(h:a (σ.set i (some v)) H):qbt i v σ H a:=h
theorem qdz{xs:List α}(b:0<=i)(h1:i<xs.length):∃ v,atI xs i=some v/\xs[i.toNat]?=some v:=by
 obtain⟨n,rfl⟩:=xk b;have a:n<xs.length:=by lk
 show⟨xs[n],qw (by simp[a]),by simp[a]⟩
end
section
variable{X:Cx}{K:yg}{o e:Expr}{es:List Expr}{to ta:TE}{t:TA}{name f:Str}{apos cpos pos:Pos}{T id:String}{r:V->List V->Hp->VK->Prop}{tg:Expr}
theorem jR(a:X.K=K):zG X (.builtin "len") (qde K):=by subst a;show call_lenU
theorem qeE(a:X.K=K)(hc:X.calm=true):zG X (.builtin "all") (qfQ K):=by subst a;show call_all hc
theorem qcW(a:X.K=K):SlR X (qfz K):=by subst a;show u_sl
theorem zh(a:X.K=K):OpR X (binaryOp .Add) (qdd K):=by subst a;show u_add
theorem k_join(a:X.K=K):MtR X "str.join" (qe3 K):=by subst a;show mt_join
theorem qK(b:X.K=K)(c:PE X e ta)(a:∀ it v,letOwnedTupleGo tg it v=pure ():=by intro _ _;rfl):PI X tg e (qfA K ta):=by subst b;show pi_any c a
theorem qe4(e:X.K=K)(h:PlainAttrs T)(c:Slot T name id)(d:typeOf (.builtin id)=pure (.type "method_descriptor"))(f:MtR X id r)(g:PE X o to)
  (a:attributeBase o name X.env (eval o X.env)=eval o X.env:=by rfl) (b:(apos.endLine==cpos.line)=true:=by rfl):PE X (.Call (.Attribute o name apos) [] [] cpos) (qfu K T r to):=by
 subst e;show pe_bm0 h c d f g a b
theorem qa9(h:X.K=K)(n:PlainAttrs T)(f:Slot T name id)(g:typeOf (.builtin id)=pure (.type "method_descriptor"))(j:MtR X id r)(l:PE X o to)(i:PA X (e::es) t)
  (b:attributeBase o name X.env (eval o X.env)=eval o X.env:=by rfl)
  (d:((backTo cpos (starEach (e::es) X.env)).all (fun x=>!x.1)&&(backToKw cpos (keywordEach [] X.env)).all (fun x=>x.1.isSome)
   && decide ((e::es).length+([]:List Keyword).length+(if ([]:List Keyword).isEmpty then 0 else 1)<30))=true:=by rfl)
  (c:(apos.endLine==cpos.line)=true:=by rfl) (m:starEach (e::es) X.env=(false,eval e X.env)::starEach es X.env:=by rfl) (a:(backTo cpos (starEach es X.env)).any (·.1)=false:=by rfl) :
  PE X (.Call (.Attribute o name apos) (e::es) [] cpos) (tBM K T r to t):=by
 subst h;show pe_bm n f g j l i b d c m a
end
structure DefOk(P:Program)(w:World)(K:yg)(mg:Str->Option Value)(base:Heap)(CX:CXT)(k:Nat)(x:Str)(ps:LS)(sp:Sp):Prop where
 ex:∃ f fd,FnOk P w K mg base CX k f fd ps sp/\mg x=some (.ref f)/\PySem.W.keepIn K (.ref f)=true/\Binds K fd ps []
section
variable{X:Cx}{CX:CXT}{k:Nat}{ps:LS}{sp:Sp}{E:XK}{x:Str}{p pos:Pos}{e:Expr}{es:List Expr}{t:TA}
theorem qr(D:DefOk X.prog X.w X.K X.mg X.base CX k x ps sp)(l:Room k X.A)(m:qaz CX X E)(c:PA X (e::es) t)(h:Gl X x:=by rfl)(a:(x==("__debug__":Str))=false:=by decide)
  (g:starEach (e::es) X.env=(false,eval e X.env)::starEach es X.env:=by rfl) (b:(backTo pos (starEach es X.env)).any (·.1)=false:=by rfl):PE X (.Call (.Name x p) (e::es) [] pos) (qez sp [] E t):=by
 obtain⟨f,n,F,j,i,d⟩:=D.ex;show pe_call F l h j i d .nil m c a g b
theorem qbv(c:Gl X x)(a:∃ tk,X.mg x=some (.int i tk))(b:(x==("__debug__":Str))=false:=by decide):PE X (.Name x pos) (tC (.int i)):=by
 obtain⟨tk,a⟩:=a;show pe_glob c a ⟨tk,rfl⟩ b
end
noncomputable def isaT(t c:String):Bool:=t==c||(t=="bool"&&c=="int")
theorem qax(K:yg):∀ t∈["NoneType","bool","int","str","list","tuple","dict"],∀ c∈["bool","int","str","list","tuple","dict"],PySem.W.kitOne K (.type t) (.type c)=some (isaT t c):=by
 intro t a c hc;simp only[yB,yW,YU] at a hc;rcases a with rfl | rfl | rfl | rfl | rfl | rfl | rfl<;>rcases hc with rfl | rfl | rfl | rfl | rfl | rfl<;>rfl
noncomputable def qed:List Value->Bool
 | [.type a,.type b,.type c,.type d]=>a=="ValueError"&&b=="Exception"&&c=="BaseException"&&d=="object"
 | .ref _::r=>qed r
 | _=>false
noncomputable def xcIn(K:yg)(C:Addr):Bool:=match K.lookup C with
 | some ⟨.type "type",_,.cls cd,sl⟩=>(match cd.mro,sl.toList with
  | .ref D::bm,[_,_,_,_,some (.builtin n),_]=>D==C&&!cd.hasDel&&qed bm&&n=="ValueError.__new__"
  | _,_=>false)
 | _=>false
structure XAt(K:yg)(C:Addr):Prop where
 ga:PySem.W.findIn K (.ref C) "__getattribute__"=some (some (.builtin "BaseException.__getattribute__"))
 gn:PySem.W.findIn K (.ref C) "__getattr__"=some none
 bx:PySem.W.mroIn K C (.type "BaseException")=some true
 ob:PySem.W.mroIn K C (.type "object")=some true
 hd:PySem.W.hasDictIn K C=true
 cl:PySem.W.findIn K (.ref C) "__class__"=some (some (.builtin "object.__class__"))
 cg:PySem.W.specialIn K (.builtin "object.__class__") "__get__"=some (some (.builtin "getset_descriptor.__get__"))
 ct:PySem.W.takesIn K (.builtin "object.__class__")=some true
 sa:PySem.W.findIn K (.ref C) "__setattr__"=some (some (.builtin "object.__setattr__"))
 mr:(PySem.W.clsIn K C).any (fun cd=>qed cd.mro)=true
 xc:xcIn K C=true
theorem bexc_ga_slot:Slot "ValueError" "__getattribute__" "BaseException.__getattribute__":=PySem.F.attr_ValueError.ga
section
variable{prog:Program}{w:World}{A:Around}{E:Value->Shared->Prop}{s:Shared}{K:yg}{x C:Addr}{ox:Obj}{od:Option Obj}{name:Str}{v:Value}
theorem xga_value{Q:Fin->Shared->Prop}(X:K.In s.heap)(I:PySem.W.InstAt s.heap x ox C od)(a:PySem.W.findObj K C od name=some (.value v))(h:Q (.done (.ret v)) s) :
  wpAny (model prog w) A (Builtin.«object.__getattribute__» ⟨[.ref x,.str name tk],[]⟩) Q E s:=by
 have F:=PySem.W.looks_find (M:=model prog w) X I a;show yt (yv (yt (yv (yt (I.type.here (yt (F.here ?_)))))));show yv h
theorem xga_call{R:Result->Shared->Prop}(X:K.In s.heap)(I:PySem.W.InstAt s.heap x ox C od)(c:PySem.W.mroIn K C (.type "BaseException")=some true)
  (h:wpAny (model prog w) A.in1 (Builtin.«object.__getattribute__» ⟨[.ref x,.str name tk],[]⟩) (fun b a=>match b with | .done f=>R (.ok f) a | .again c'=>c'.quiet=true/\codeAny (model prog w) A c' R a) (fun e a=>R (.error e) a) s) :
  codeAny (model prog w) A (.call (.builtin "BaseException.__getattribute__") ⟨[.ref x,.str name tk],[]⟩) R s:=by
 show Xi bexc_ga_slot.plain PySem.F.entry_bexc_ga ?_;show @PySem.W.check_slot (model prog w) _ _ s "BaseException.__getattribute__" "BaseException" "__getattribute__" (.ref x) [.str name tk] [] _ (by room) (by room) (I.type.andThen (xJ X c)) (PySem.F.args_bexc_ga _ _) h
theorem qdA{b:Bool}{Q:Value->Shared->Prop}(X:K.In s.heap)(I:PySem.W.InstAt s.heap x ox C od)(c:XAt K C)
  (h:wpAny (model prog w) A.in1 (Builtin.«object.__getattribute__» ⟨[.ref x,.str name tk],[]⟩) (fun a d=>match a with | .done (.ret v)=>wpAny (model prog w) A (handedOut v) Q E d | _=>False) (fun _ _=>False) s) :
  wpAny (model prog w) A (getAttrBy (.ref x) (.str name tk) b expr) Q E s:=by
 unfold getAttrBy;show Yk (yt (I.type.here (yt ((Y9 X c.ga).here ?_))))
 have e:(onTheHeap (Value.ref C)&&Value.builtin "BaseException.__getattribute__"==Value.builtin "object.__getattribute__")=false:=by
  rw[show(Value.builtin "BaseException.__getattribute__"==Value.builtin "object.__getattribute__")=false by room];rfl
 dsimp only;rw[e,yA (by decide)];unfold getAttrByItsOwn hookBefore;rw[yF (show onTheHeap (Value.ref C)=true from rfl)];show yt ((Y9 X c.gn).here (yt (XS (Yk ?_))));have f:(expr&&onTheHeap (Value.builtin "BaseException.__getattribute__"))=false:=by cases expr<;>rfl
 unfold callGetattribute;rw[f,yA (by decide)];unfold boundAndCalled;rw[bexc_ga_slot.bind];show yt (yv ?_);show wpAny _ _ (call (.builtin "BaseException.__getattribute__") [.ref x,.str name tk]) _ _ _;show XG (xga_call X I c.bx (YK h (fun a d z=>?_) fun _ _ z=>z.elim));rcases a with(_ | _ | _ | _) | _<;>first | show z | show z.elim
theorem xget{Q:Value->Shared->Prop}(X:K.In s.heap)(I:PySem.W.InstAt s.heap x ox C od)(c:XAt K C)(a:PySem.W.findObj K C od name=some (.value v))(b:PySem.W.handedIn v=true)
  (h:Q v { s with toks:=s.toks+1 }):wpAny (model prog w) A (getAttr (.ref x) name expr) Q E s:=by
 unfold getAttr;show yt (wpAny_mkText (qdA (s:={ s with toks:=s.toks+1 }) X I c (xga_value (s:={ s with toks:=s.toks+1 }) X I a ?_)));show wpAny _ _ (handedOut v) _ _ _;rw[PySem.W.handedOut_of b];show yv h
theorem xclass{Q:Option Value->Shared->Prop}(X:K.In s.heap)(I:PySem.W.InstAt s.heap x ox C od)(c:XAt K C)(a:PySem.W.findObj K C od "__class__"=some (.bind (.builtin "getset_descriptor.__get__") (.builtin "object.__class__")))
  (h:Q (some (.ref C)) { s with toks:=s.toks+1 }):wpAny (model prog w) A (getAttr? (.ref x) "__class__") Q E s:=by
 unfold getAttr? getAttrBy?;show yt (wpAny_mkText (yt (XS (qdA (s:={ s with toks:=s.toks+1 }) X I c ?_))));have F:=PySem.W.looks_find (M:=model prog w) X I a;show yt (yv (yt (yv (yt (I.type.here (s:={ s with toks:=s.toks+1 }) (yt (F.here (s:={ s with toks:=s.toks+1 }) ?_)))))));show wpAny _ _ (holding [Value.builtin "object.__class__"] (call (.builtin "getset_descriptor.__get__") [.builtin "object.__class__",.ref x,.ref C])>>=ret) _ _ _;show yt (Yk (XG (PySem.W.class_get (s:={ s with toks:=s.toks+1 }) X I c.ob ?_)));show yv ?_;show wpAny _ _ (handedOut (.ref C)) _ _ _;show yv (yv h)
theorem findObj_class(c:XAt K C):PySem.W.findObj K C od "__class__"=some (.bind (.builtin "getset_descriptor.__get__") (.builtin "object.__class__")):=by
 obtain⟨a,hc,_⟩:=xK c.hd;unfold PySem.W.findObj;rw[hc,Option.bind_some,c.cl,Option.bind_some];simp[c.cg,c.ct]
theorem qcX(c:XAt K C):PySem.W.KitX K (.ref x) (.ref C) (fun h=>PySem.W.InstAt h x ox C od) where
 ty:=fun _ _ _ I=>I.type
 it:=fun _ _ X _=>by
  obtain⟨b,hc,_⟩:=xK c.hd;unfold PySem.W.clsIn at hc;split at hc
  .rename_i c1 d1 cd1 sl1 ho
   intro f i g l k q;unfold isType loadHead;show yt (wpAny_loadPart (k _ _ (X _ _ ho)) (yv q))
  .cases hc
 ne:=fun h d j its n m X a=>by
  obtain⟨b,hc,_⟩:=xK c.hd;show Bool.eq_false_iff.mpr fun q=>?_;have e:C=d:=Value.ref.inj (Yo.mp q);subst e;unfold PySem.W.clsIn at hc;split at hc
  .rename_i c1 d1 cd1 sl1 ho
   have z:=(X _ _ ho).symm.trans a;cases z
  .cases hc
 ca:=fun X I k=>xclass X I c (findObj_class c) k
end
theorem qb1{r:List Value}(e:qed (.ref c::r)=true):qed r=true:=by
 cases r with
 | nil=>cases e
 | cons a r=>show e
theorem qb2:∀{l:List Value},qed l=true->∃ f:LQ,l=f.map Value.ref++[.type "ValueError",.type "Exception",.type "BaseException",.type "object"]
 | [],e=>by cases e
 | .ref c::r,e=>by
  obtain⟨f,q⟩:=qb2 (qb1 e);show⟨c::f,by rw[q];rfl⟩
 | .type a::r,e=>by
  match r,e with
  | [.type b,.type c,.type d],e =>
   simp only[qed,Ym,Yo] at e;obtain⟨⟨⟨rfl,rfl⟩,rfl⟩,rfl⟩:=e;show⟨[],rfl⟩
theorem refuse_exc(self:Value){l:List Value}(e:qed l=true):refuseLoop self "__setattr__" l=pure ():=by
 obtain⟨a,rfl⟩:=qb2 e
 induction a with
 | nil=>show PySem.F.store_ValueError.passes self
 | cons c a ih=>rw[Yu,kI,refuseLoop_ref];show ih (qb1 e)
section
variable{prog:Program}{w:World}{A:Around}{E:Value->Shared->Prop}{s:Shared}{K:yg}{x C:Addr}{name:Str}{v:Value}{R:Result->Shared->Prop}
theorem xosa(X:K.In s.heap)(I:PySem.W.InstAt s.heap x ox C od)(c:XAt K C)(n:NoAttr K C name)
  (h:wpAny (model prog w) A.in1 (Builtin.ObjectAttr.storeInOwnDict (.ref x) (.ref C) (.str name tk) name v false)
   (fun d b=>match d with | .done f=>R (.ok f) b | .again c'=>c'.quiet=true/\codeAny (model prog w) A c' R b) (fun e b=>R (.error e) b) s) :
  codeAny (model prog w) A (.call (.builtin "object.__setattr__") ⟨[.ref x,.str name tk,v],[]⟩) R s:=by
 have a:=PySem.F.store_object;obtain⟨g,hc,j⟩:=xK c.mr;have i:PySem.W.Looks (model prog w) s.heap (mroOf (.ref C)) g.mro:=(X3 X hc).andThen .now;show Xi a.slot.plain a.entry (@PySem.W.check_slot (model prog w) _ _ s "object.__setattr__" "object" "__setattr__" (.ref x) [.str name tk,v] [] _ a.kind a.split (I.type.andThen (xJ X c.ob)) (a.args (.ref x) (.str name tk) v) ?_);rw[PySem.W.osa_eq,refuse_eq];show yt (yt (I.type.here (yt (i.here ?_))));rw[refuse_exc _ j];show yv (yt (I.type.here (yt ((Y9 X n).here (yt (yv ?_))))));show h
theorem xset{vs:Array Value}(X:K.In s.heap)(m:s.heap.get? x=some ⟨.ref C,none,.fields vs,#[]⟩)(c:XAt K C)(n:NoAttr K C name){Q:Unit->Shared->Prop}
  (h:∀ h',h'.get? x=some ⟨.ref C,some s.heap.objs.size,.fields vs,#[]⟩->h'.Ns1 s.heap.objs.size (fun y=>if y=name then some v else none)->(∀ b o,b≠x->s.heap.get? b=some o->h'.get? b=some o) ->
   Q () { s with heap:=h',toks:=s.toks+2 }):wpAny (model prog w) A (setAttr (.ref x) name v) Q E s:=by
 have I:PySem.W.InstAt s.heap x ⟨.ref C,none,.fields vs,#[]⟩ C none:=⟨m,rfl,rfl,YZ⟩;obtain⟨L,hc,G⟩:=xK c.hd;show PySem.W.set_plain X I c.sa (xosa (s:={ s with toks:=s.toks+1 }) X I c n ?_);show yt (yv (yt (yt (wpAny_loadPart m (yt ((X3 X hc).here (s:={ s with toks:=s.toks+1 }) ?_))))));rw[G];obtain⟨a,g,M,tk,O⟩:=s;show wpAny _ _ (alloc { cls:=.type "dict",data:=.dict #[] }>>=fun d=>update x (fun o=>{ cls:=o.cls,dict:=some d,data:=o.data,slots:=o.slots })>>=fun _=>pure (some d)) _ _ _;have l:x≠a.objs.size:=yE (yL m);have i:=yw { cls:=.type "dict",data:=.dict #[] } m;show yt (wpAny_alloc' (yt (wpAny_update' i (yv ?_))));have j:=Y6 (fun o:Obj=>{ cls:=o.cls,dict:=some a.objs.size,data:=o.data,slots:=o.slots }) i rfl;have f:=(Xo (a.push { cls:=.type "dict",data:=.dict #[] }) a.objs.size x (fun o:Obj=>{ cls:=o.cls,dict:=some a.objs.size,data:=o.data,slots:=o.slots }) l.symm).trans (Heap.get?_push_at rfl rfl);generalize J:(a.push { cls:=.type "dict",data:=.dict #[] }).update x (fun o:Obj=>{ cls:=o.cls,dict:=some a.objs.size,data:=o.data,slots:=o.slots })=h2 at j f ⊢;have nd:h2.Ns a.objs.size (fun _=>none):=⟨_,#[],_,f,rfl,fun e H=>absurd H (by simp),fun _=>rfl⟩;show wpAny _ _ (Builtin.ObjectAttr.storeInDict a.objs.size (.str name tk) name v) _ _ _;unfold Builtin.ObjectAttr.storeInDict Builtin.ObjectAttr.newKeyGuard;show yt (yv (yt (wpAny_nsSet1 (Heap.Ns1.of_empty nd) fun h' u B=>?_)));obtain⟨N,p,D,t,r,q⟩:=u.count (PySem.Within.cons name v PySem.Within.nil);have hz:p.size<=sizeLine:=yi q (by rw[yD,xD,Yi];lk);show yt (wpAny_lookBehind t (by rw[r];show pastItsLine_dict (Xe hz)) ?_);show yv (h h' ((B.2 x l).trans j) u fun b o F e=>(B.2 b (yE (yL e))).trans ?_);rw[<- J];show(Xo _ _ _ _ F).trans (yw _ e)
noncomputable abbrev xfs(a:Addr):Array Value:=#[.ref a,.none,.none,.none,.bool false,.none]
end
section
variable{prog:Program}{w:World}{A:Around}{R:Result->Shared->Prop}{E:Value->Shared->Prop}{h:Heap}{g:Array GenState}{d:Drawn}{t:Nat}{os:OsState}
variable{nm q:Str}{C N:Addr}{bs bm:List Value}{hdct:Bool}{sn:LS}{sub:List Value}{ab:Bool}{col:Option Bool}{dd:Option Addr}{k0 k1 k2 k3 k5:Option Value}
end
noncomputable def XN(e C:Addr)(dx:Option Addr):HO:=.ext fun h=>∃ a,h.get? e=some ⟨.ref C,dx,.fields (xfs a),#[]⟩
noncomputable def XO(e C:Addr)(dx:Option Addr):HO:=.ext fun h=>∃ vs,h.get? e=some ⟨.ref C,dx,.fields vs,#[]⟩
theorem XN.ok{b:Addr}(q:h.get? e=some ⟨.ref C,dx,.fields (xfs b),#[]⟩):ObjOk P w H h e (XN e C dx):=
 ⟨⟨b,q⟩,⟨_,q⟩,fun _ _ ⟨a,x⟩ k=>⟨a,k _ x⟩⟩
def IsX(H:Hp)(e C:Addr)(dx:Option Addr):Prop:=H e=some (XN e C dx)\/H e=some (XO e C dx)
theorem IsX.get(q:IsX H e C dx)(b:HOk P w H h):∃ vs,h.get? e=some ⟨.ref C,dx,.fields vs,#[]⟩:=by
 rcases q with q | q
 .obtain⟨⟨a,x⟩,_⟩:=(show ObjOk P w H h e (XN e C dx) from b e _ q);show⟨_,x⟩
 .obtain⟨⟨a,x⟩,_⟩:=(show ObjOk P w H h e (XO e C dx) from b e _ q);show⟨_,x⟩
section
variable{X:Cx}{pins:List (Addr×Obj)}{σ:St}{H:Hp}{s:Shared}{e C:Addr}{dx:Option Addr}
theorem qee(I:Inv X pins σ H s){d:Addr}{fs:List (Str×V)}(h:H d=some (.xd fs)):∃(od:Obj) (a:Str->Option Value),s.heap.get? d=some od/\(∀ name,PySem.W.lookIn name od=some (a name))/\∀ f,RelO (fs.lookup f) (a f):=by
 obtain⟨a,n,r⟩:=(show ObjOk X.prog X.w H s.heap d (.xd fs) from I.hok d _ h);obtain⟨od,h1,b⟩:=qbP n;show⟨od,a,h1,b,r⟩
end
section
variable{X:Cx}{pins:List (Addr×Obj)}{σ:St}{H:Hp}{s:Shared}{a d:Addr}{h':Heap}{o u:HO}{t':Nat}
theorem Inv.both(I:Inv X pins σ H s)(i:Mut (H a))(l:s.heap.objs.size<=d)(k:∀ b v,b≠a->s.heap.get? b=some v->h'.get? b=some v)(m:∃ v,h'.get? a=some v)
  (p:ObjOk X.prog X.w (upd (upd H d u) a o) h' a o) (t:ObjOk X.prog X.w (upd (upd H d u) a o) h' d u) (ne:d≠a):Inv X pins σ (upd (upd H d u) a o) { s with heap:=h',toks:=t' }:=by
 have nd:H d=none:=I.hok.fresh l;have g:∀ b q,H b=some q->¬ Mut (some q)->b≠a:=fun b q e x z=>by subst z;rw[e] at i;show x i
 have j:∀ b,H b=none->b≠a:=fun b e z=>by subst z;rw[e] at i;show i
 have big:∀ b v,s.heap.get? b=some v->b≠d:=fun b v e=>yE (yj (yL e) l);have up:∀ b q,H b=some q->b≠a->upd (upd H d u) a o b=some q:=fun b q e n=>by rw[qe n,qe (qz e nd)];show e
 show I.un ⟨fun b v e n _ _=>k b v (j b n) e,fun b v e n _ _=>⟨v.slots,k b v (j b n) e⟩,fun b v e n _=>by rw[qe (j b n),qe (big b v e)];show n,fun b v e _=>?_,fun b xs e=>up b _ e (g b _ e fun z=>z),fun b q xs e=>up b _ e (g b _ e fun z=>z),
  fun b ps e=>⟨#[],by rw[up b _ e (g b _ e fun z=>z)];simp⟩⟩ fun b q e=>?_
 .by_cases f:b=a
  .subst f;show m
  .show⟨v,k b v f e⟩
 .by_cases f:b=a
  .subst f;rw[qb] at e;cases e;show p
  .rw [qe f] at e;by_cases h:b=d
   .subst h;rw[qb] at e;cases e;show t
   .rw [qe h] at e;show(I.hok b q e).stay (fun c v hc r=>k c v ?_ r) (fun c r=>up c _ r (g c _ r fun z=>z)) fun c xs r=>up c _ r (g c _ r fun z=>z);rcases hc with rfl | hc
    .show f
    .show g c _ hc fun z=>z
end
inductive FldR(K:yg)(f:Str)(x:V)(H:Hp)(Q:VK):Prop|mk (a C dx:Addr) (fs:List (Str×V)) (v:V) (_:x=.ref a) (_:H a=some (.ins C dx fs)) (_:Cls K C) (_:NoAttr K C f) (_:fs.lookup f=some v) (_:Q v H)
inductive XFlR(K:yg)(f:Str)(x:V)(H:Hp)(Q:VK):Prop|mk (a C dx:Addr) (fs:List (Str×V)) (v:V) (_:x=.ref a) (_:IsX H a C (some dx)) (_:XAt K C) (_:NoAttr K C f) (_:H dx=some (.xd fs)) (_:fs.lookup f=some v) (_:Q v H)
inductive FlUR(K:yg)(f:Str)(x:V)(H:Hp)(Q:VK):Prop | inl (_:FldR K f x H Q) | inr (_:XFlR K f x H Q)
inductive SFdR(K:yg)(f:Str)(x y:V)(H:Hp)(k:Hp->Prop):Prop|mk (a C dx:Addr) (fs:List (Str×V)) (_:x=.ref a) (_:H a=some (.ins C dx fs)) (_:Cls K C) (_:NoAttr K C f) (_:fs.length<1000) (_:k (upd H a (.ins C dx (qD f y fs))))
inductive SXdR(K:yg)(f:Str)(x y:V)(H:Hp)(k:Hp->Prop):Prop|mk (a C:Addr) (_:x=.ref a) (_:H a=some (XN a C none)) (_:XAt K C) (_:NoAttr K C f) (_:∀ dx,H dx=none->k (upd (upd H dx (.xd [(f,y)])) a (XN a C (some dx))))
inductive SFUR(K:yg)(f:Str)(x y:V)(H:Hp)(k:Hp->Prop):Prop | inl (_:SFdR K f x y H k) | inr (_:SXdR K f x y H k)
def qe5(K:yg)(b:TE)(f:Str):TE:=fun σ H Q=>b σ H fun x a=>FlUR K f x a Q
def qe6(K:yg)(c d:TE)(f:Str):TS:=fun D σ H=>d σ H fun y a=>c σ a fun x b=>SFUR K f x y b (D.nx σ)
section
variable{X:Cx}{o e value:Expr}{f:Str}{pos pos':Pos}{ta tv:TE}{K:yg}
theorem qA(w:X.K=K)(B:PE X e ta)(y:attributeBase e f X.env (eval e X.env)=eval e X.env):PE X (.Attribute e f pos) (qe5 K ta f):=by
 subst w;intro pins s σ H Q I h;show attr_of y (thn (B pins s σ H _ I h) fun u G ⟨x,j,b,m,i⟩=>?_);rcases i with⟨a,C,dx,fs,v,rfl,g,c,n,l,q⟩ | ⟨a,C,dx,fs,v,rfl,g,c,n,A,l,q⟩
 .obtain rfl:u=Value.ref a:=m;show getattr_ok b g c n l fun F J p d=>⟨v,j,p,d,q⟩
 .obtain rfl:u=Value.ref a:=m;obtain⟨vs,i⟩:=g.get b.hok;obtain⟨od,E,h1,t,r⟩:=qee b A;obtain⟨F,D,d⟩:=RelO.some_of (v:=v) (o:=E f) (by rw[<- l];show r f);show xget b.kIn (od:=some od) ⟨i,rfl,rfl,h1⟩ c (PySem.W.findObj_own c.hd n rfl (by rw[t,D])) (qbQ d) ⟨v,j,b.tok _,d,q⟩
theorem jP(L:X.K=K)(M:PE X o ta)(hv:PE X value tv)(O:swapsWith value (some (.Attribute o f pos')) pos.line X.env=pure false):PS X (.Assign [.Attribute o f pos'] value pos) (qe6 K ta tv f):=by
 subst L;intro pins s σ H D I h;show plainObj_wpAny_Assign_Attribute (thn (hv pins s σ H _ I h) fun u P ⟨y,B,E,A,q⟩=>thn (M pins P σ B _ E q) fun t i ⟨x,p,b,v,e⟩=>?_) O;rcases e with⟨a,C,dx,fs,rfl,d,c,n,l,m⟩ | ⟨a,C,rfl,d,c,n,m⟩
 .obtain rfl:t=Value.ref a:=v;show setattr_ok b d c n l A fun S F=>⟨σ,_,F,m⟩
 .obtain rfl:t=Value.ref a:=v;obtain⟨⟨R,e⟩,_⟩:=(show ObjOk X.prog X.w p i.heap a (XN a C none) from b.hok a _ d);show xset b.kIn e c n fun h' r G J=>?_;have nd:p i.heap.objs.size=none:=b.hok.fresh (yh _);have ne:i.heap.objs.size≠a:=Yn (yL e);show⟨σ,_,b.both (o:=XN a C (some i.heap.objs.size)) (u:=.xd [(f,y)]) (by rw[d];show YZ) (yh _) J ⟨_,r⟩ (XN.ok r) ⟨_,G,fun g=>?_⟩ ne,m _ nd⟩;by_cases j:g=f
  .subst j;simp only[List.lookup,xv,XM];show A
  .have N:(g==f)=false:=YE.mpr j;simp only[List.lookup,N,yA j];show YZ
end
def tXMake(C:Addr)(sp:Sp)(E:XK)(t:TA):TE:=fun σ H Q=>t σ H fun vs a=>vs.length<=1000/\∀ x,a x=none->sp (.ref x::vs) (upd a x (XN x C none)) (fun v b=>v=.non/\Q (.ref x) b) E
structure XMk(K:yg)(C f:Addr):Prop where
 at_:XAt K C
 init:PySem.W.findIn K (.ref C) "__init__"=some (some (.ref f))
 fn:PySem.W.isFn K (.ref f)=true
 kp:PySem.W.keepIn K (.ref C)=true
section
variable{X:Cx}{CX:CXT}{k:Nat}{f C:Addr}{fd:FuncData}{ps:LS}{sp:Sp}{E:XK}{x m:Str}{p pos apos:Pos}{e o:Expr}{es:List Expr}{ta:TE}{t:TA}
structure CMeth(K:yg)(C:Addr)(m:Str)(f:Addr):Prop where
 rd:PySem.W.readsIn K C (.type "type")=true
 at_:PySem.W.findCls K (.ref C) (.type "type") m=some (.val (.ref f))
 ga:PySem.W.specialIn K (.ref C) "__getattribute__"=some (some (.builtin "type.__getattribute__"))
 kp:PySem.W.keepIn K (.ref f)=true
end
def tVinit(K:yg)(t:TA):TE:=fun σ H Q=>t σ H fun vs b=>∃ a C y,vs=[.ref a,y]/\b a=some (XN a C none)/\XAt K C/\Q .non b
structure VInit(K:yg):Prop where
 ga:PySem.W.findIn K (.type "type") "__getattribute__"=some (some (.builtin "type.__getattribute__"))
 su:PySem.W.subIn K (.type "type") (.type "type")=some true
 at_:PySem.W.findCls K (.type "ValueError") (.type "type") "__init__"=some (.val (.builtin "ValueError.__init__"))
section
variable{X:Cx}{p pos apos:Pos}{e:Expr}{es:List Expr}{t:TA}{K:yg}
end
structure Keep(fs zs:LQ)(h h':Heap):Prop where
 keep:∀ b o,h.get? b=some o->b∉zs->b∉fs->h'.get? b=some o
 slot:∀ b o,h.get? b=some o->b∉zs->b∈fs->∃ sl,h'.get? b=some { o with slots:=sl }
structure Trc(h:Heap)(e:Addr)(C:Value)(dx:Option Addr)(T:Addr)(fl:Value):Prop where
 ex:∃ vs,h.get? e=some ⟨C,dx,.fields vs,#[]⟩/\vs[1]?=some (.ref T)/\vs[2]?=some .none
 tb:∃ ts,h.get? T=some ⟨.type "traceback",none,.fields ts,#[]⟩/\ts[3]?=some fl
 ne:T≠e
section
variable{M:Model}{A:Around}{E:Value->Shared->Prop}{s:Shared}{base:Heap}{env:Env}{outer:List Env}{L e:Addr}{C:Value}{dx:Option Addr}{vs:Array Value}
end
def CX1(P:Program)(w:World):CXT:=fun b H s E d c=>∃(a C:Addr) (dx:Option Addr) (T:Addr) (H':Hp),d=.ref a/\c.os=s.os/\AllBare c.gens/\Un (frs b) [] H H' s.heap c.heap/\HOk P w H' c.heap /\
 H' a=some (XO a C dx)/\Trc c.heap a (.ref C) dx T .none/\s.heap.objs.size<=T/\H' T=none/\E (.ref C) dx H'
section
variable{X:Cx}{pins:List (Addr×Obj)}{σ:St}{H:Hp}{s:Shared}
end
structure XOk(X:Cx)(EK:St->XK):Prop where
 pass:∀(pins:List (Addr×Obj)) (σ:St) (H:Hp) (s:Shared) (e:Value) (s':Shared),Inv X pins σ H s->CX1 X.prog X.w X.stack H s (EK σ) e s'->X.xe e s'
 rais:∀(pins:List (Addr×Obj)) (σ:St) (H:Hp) (s:Shared) (a C:Addr) (dx:Option Addr),Inv X pins σ H s->H a=some (XN a C dx)->EK σ (.ref C) dx (upd H a (XO a C dx))->X.xe (.ref a) s
 calm:X.calm=true
section
variable{P:Program}{w:World}{K:yg}{mg:Str->Option Value}{base:Heap}{N:LS}{qual:Str}{scope:Scope}{f:Addr}{cd:Value}{A:Around}{outer:List Env}{s0:Shared}{H0:Hp}{E:XK}
end
def tRaise(K:yg)(c:St->XK)(te:TE):TS:=fun _ σ H=>te σ H fun x b=>∃ a C dx,x=.ref a/\b a=some (XN a C dx)/\XAt K C/\c σ (.ref C) dx (upd b a (XO a C dx))
section
variable{X:Cx}{EK:St->XK}{e:Expr}{te:TE}{pos:Pos}{K:yg}
end
def tCallS(sp:Sp)(a:St->XK)(t:TA):TE:=fun σ H Q=>t σ H fun vs b=>sp vs b Q (a σ)
def tMethS(C:Addr)(m:Str)(sp:Sp)(b:St->XK)(d:TE)(t:TA):TE:=fun σ H Q=>d σ H fun x a=>MeR C m x a (t σ a fun vs c=>sp (x::vs) c Q (b σ))
def tMakeS(C:Addr)(sp:Sp)(b:St->XK)(t:TA):TE:=fun σ H Q=>t σ H fun vs a=>∀ x dx,a x=none->a dx=none->dx≠x ->
 sp (.ref x::vs) (upd (upd a dx (.own x)) x (.ins C dx [])) (fun v c=>v=.non/\Q (.ref x) c) (b σ)
structure MethOk(P:Program)(w:World)(K:yg)(mg:Str->Option Value)(base:Heap)(CX:CXT)(k:Nat)(C:Addr)(m:Str)(ps:LS)(sp:Sp):Prop where
 ex:∃ f fd,FnOk P w K mg base CX k f fd ps sp/\Meth K C m f/\Binds K fd ps []
 cl:Cls K C
structure MakeOk(P:Program)(w:World)(K:yg)(mg:Str->Option Value)(base:Heap)(CX:CXT)(k:Nat)(C:Addr)(x:Str)(ps:LS)(sp:Sp):Prop where
 ex:∃ f fd,FnOk P w K mg base CX k f fd ps sp/\Mk K C f/\Binds K fd ps []
 mg_:mg x=some (.ref C)
structure XMakeOk(P:Program)(w:World)(K:yg)(mg:Str->Option Value)(base:Heap)(k:Nat)(C:Addr)(x:Str)(ps:LS)(sp:Sp):Prop where
 ex:∃ f fd,FnOk P w K mg base CX0 k f fd ps sp/\XMk K C f/\Binds K fd ps []
 mg_:mg x=some (.ref C)
section
variable{X:Cx}{EK:St->XK}{k:Nat}{f C:Addr}{fd:FuncData}{ps:LS}{sp:Sp}{x m:Str}{p pos apos:Pos}{e o:Expr}{es:List Expr}{ta:TE}{t:TA}
theorem qF{pl:Sem Bool}(D:MethOk X.prog X.w X.K X.mg X.base CX0 k C m ps sp)(i:Room k X.A)(g:PE X o ta)(c:PA X (e::es) t)
  (b:starEach (e::es) X.env=(false,eval e X.env)::starEach es X.env:=by rfl) (a:(backTo pos (starEach es X.env)).any (·.1)=false:=by rfl)
  (j:eval (.Call (.Attribute o m apos) (e::es) [] pos) X.env=(do
   let ov <- eval o X.env
   standAt apos.atName
   let (f,first) <- holding [ov] (getMethod ov m pl)
   callWith pos f first (backTo pos (starEach (e::es) X.env)) (backToKw pos (keywordEach [] X.env))):=by rfl) :
  PE X (.Call (.Attribute o m apos) (e::es) [] pos) (qdo C m sp [] E0 ta t):=by
 obtain⟨f,fd,F,h,d⟩:=D.ex;show pe_meth (pl:=pl) g D.cl h F i d .nil qC c b a j
theorem je{pl:Sem Bool}(D:MethOk X.prog X.w X.K X.mg X.base CX0 k C m ps sp)(d:Room k X.A)(b:PE X o ta)
  (e:eval (.Call (.Attribute o m apos) [] [] pos) X.env=(do
   let ov <- eval o X.env
   standAt apos.atName
   let (f,first) <- holding [ov] (getMethod ov m pl)
   callWith pos f first (backTo pos (starEach [] X.env)) (backToKw pos (keywordEach [] X.env))):=by rfl) :
  PE X (.Call (.Attribute o m apos) [] [] pos) (qdo C m sp [] E0 ta qfm):=by
 obtain⟨f,fd,F,c,a⟩:=D.ex;show pe_meth0 (pl:=pl) b D.cl c F d a .nil qC e
end
section
variable{P:Program}{w:World}{K:yg}{mg:Str->Option Value}{base:Heap}
end
noncomputable abbrev Cx.tried(X:Cx)(pn:List (Addr×Obj))(E:Value->Shared->Prop):Cx:={ X with pn:=pn,xe:=E }
noncomputable abbrev Cx.hand(X:Cx)(a:Addr):Cx:={ X with A:=X.A.mark (some (.ref a)),calm:=false,xe:=fun _ _=>False }
section
variable{X:Cx}{pins pins':List (Addr×Obj)}{σ:St}{H:Hp}{s:Shared}{E:Value->Shared->Prop}{a:Addr}
structure Loose(X:Cx)(pins:List (Addr×Obj))(H:Hp)(T:Addr):Prop where
 hn:H T=none
 lo:X.s₀.heap.objs.size<=T
 nl:T≠X.env.locals
 nf:T∉X.fs
 nc:∀ x c,X.env.cells.lookup x=some c->c≠T
 np:∀ p∈X.pn++pins,p.1≠T
end
structure Held(X:Cx)(pins:List (Addr×Obj))(H:Hp)(h:Heap)(a C:Addr)(dx:Option Addr):Prop where
 at_:H a=some (XO a C dx)
 tr:∃ T,Trc h a (.ref C) dx T .none/\Loose X pins H T
section
variable{X:Cx}{a C D:Addr}{dx:Option Addr}{c n:Str}{cp pos:Pos}{b0:Stmt}{body:List Stmt}{qcj:List ExceptHandler}{tb tr:TS}{i:Nat}{K:yg}
end
section
variable{X:Cx}{body orelse:List Stmt}{h0:ExceptHandler}{hs:List ExceptHandler}{pos:Pos}{te:TS}
end
def TyX(K:yg)(H:Hp)(x:V)(t:Value):Prop:=TyOf K H x t\/∃ a C dx,x=.ref a/\t=.ref C/\IsX H a C dx/\XAt K C/\∀ d,dx=some d->∃ fs,H d=some (.xd fs)
theorem TyX.kit{x:V}(I:Inv X pins σ H s)(e:RelV x u)(ty:TyX X.K H x t):∃ P:Heap->Prop,PySem.W.KitX X.K u t P/\P s.heap/\u≠.builtin "__main__.__loader__#opaque":=by
 rcases ty with ty | ⟨a,C,dx,rfl,rfl,hx,c,hd⟩
 .show ty.kit I e
 .cases e;obtain⟨vs,b⟩:=hx.get I.hok
  cases dx with
  | none=>show⟨_,qcX (od:=none) c,⟨b,rfl,rfl,YZ⟩,fun z=>nomatch z⟩
  | some d =>
   obtain⟨fs,f⟩:=hd d rfl;obtain⟨od,g,h1,_⟩:=qee I f;show⟨_,qcX (od:=some od) c,⟨b,rfl,rfl,h1⟩,fun z=>nomatch z⟩
def qe7(K:yg):List V->Hp->VK->Prop:=fun xs H Q=>∃ x y t c b,xs=[x,y]/\TyX K H x t/\qb0 y=some c/\PySem.W.kitOne K t c=some b/\Q (.bl b) H
def qef(K:yg):List V->Hp->VK->Prop:=fun xs H Q=>∃ x p ys t a b,xs=[x,.ref p]/\TyX K H x t/\H p=some (.tup ys)/\ys.map qb0=a.map some/\PySem.W.kitAny K t a=some b/\Q (.bl b) H
section
variable{X:Cx}{K:yg}
theorem qbm(a:X.K=K):zG X (.builtin "isinstance") (qe7 K):=by
 subst a;intro pins s σ H xs us Q I r h;obtain⟨x,y,t,c,b,rfl,ty,f,d,q⟩:=h;obtain⟨u,v,rfl,g,i⟩:=qdn r;have e:=qbl f i;subst e;obtain⟨P,Z,p,ne⟩:=ty.kit I g;show PySem.W.kia_one Z I.kIn p d ne fun tk=>⟨.bl b,H,I.tok tk,rfl,q⟩
theorem qdB(i:X.K=K):zG X (.builtin "isinstance") (qef K):=by
 subst i;intro pins s σ H xs us Q I r h;obtain⟨x,p,ys,t,D,b,rfl,ty,y,A,j,q⟩:=h;obtain⟨u,v,rfl,C,f⟩:=qdn r;cases f;obtain⟨P,Z,B,ne⟩:=ty.kit I C;obtain⟨_,its,f,o,m,hc,n,l⟩:=(show ObjOk X.prog X.w H s.heap p (.tup ys) from I.hok p _ y);have e:=qaX A f;subst e;obtain⟨c,E,g,F⟩:=o;have a:c=.type "tuple":=hc;have d:g=.seq its.toArray n:=l;subst a d;show PySem.W.kia_tup Z I.kIn B m j ne fun tk=>⟨.bl b,H,I.tok tk,rfl,q⟩
end
mutual
inductive EqD(K:yg)(H:Hp):Nat->V->V->Bool->Prop
 | flat {n:Nat} {x y:V} (fx:qaa x=true) (fy:qaa y=true):EqD K H n x y (eqV x y)
 | self {n:Nat} {a:Addr}:EqD K H n (.ref a) (.ref a) true
 | deep {n:Nat} {a b:Addr} {k:Bool} (h:EqT K H n a b k) (ne:a≠b):EqD K H n (.ref a) (.ref b) k
inductive EqT(K:yg)(H:Hp):Nat->Addr->Addr->Bool->Prop
 | lst {n:Nat} {a b:Addr} {xs ys:List V} {e:Nat->Bool} (ha:SqL K H a xs) (hb:SqL K H b ys) (hl:xs.length=ys.length) (he:∀ j x y,xs[j]?=some x->ys[j]?=some y->EqD K H n x y (e j)):EqT K H (n+1) a b ((List.range xs.length).all e)
 | lstL {n:Nat} {a b:Addr} {xs ys:List V} (ha:SqL K H a xs) (hb:SqL K H b ys) (hl:xs.length≠ys.length):EqT K H (n+1) a b false
 | tup {n:Nat} {a b:Addr} {xs ys:List V} {e:Nat->Bool} (ha:SqT K H a xs) (hb:SqT K H b ys) (he:∀ j x y,xs[j]?=some x->ys[j]?=some y->EqD K H n x y (e j)):EqT K H (n+1) a b ((List.range (min xs.length ys.length)).all e&&xs.length==ys.length)
 | lt {n:Nat} {a b:Addr} {xs ys:List V} (ha:SqL K H a xs) (hb:SqT K H b ys):EqT K H (n+1) a b false
 | tl {n:Nat} {a b:Addr} {xs ys:List V} (ha:SqT K H a xs) (hb:SqL K H b ys):EqT K H (n+1) a b false
end
theorem jq:∀{xs:List V} {us:List Value} {j:Nat} {u:Value},Vals xs us->us[j]?=some u->∃ x,xs[j]?=some x/\RelV x u
 | _,_,_,_,.nil,e=>by simp at e
 | _,_,0,_,.cons r _,e=>by simp at e;subst e;show⟨_,rfl,r⟩
 | _,_,j+1,u,.cons _ t,e=>by
  obtain⟨x,h1,a⟩:=jq (j:=j) (u:=u) t (by simpa using e);show⟨x,by simpa using h1,a⟩
section
variable{X:Cx}{pins:List (Addr×Obj)}{σ:St}{H:Hp}{s:Shared}
theorem qcq(I:Inv X pins σ H s):∀ n,(∀(A:Around) (x y:V) (k:Bool) (u v:Value),EqD X.K H n x y k->RelV x u->RelV y v->A.units+n<cLine->SeqAt.EqAt A s u v k)/\(∀(A:Around) (a b:Addr) (k:Bool),EqT X.K H n a b k->A.units+n<cLine->SeqAt.RcAt A s (.ref a) (.ref b) k):=by
 intro n
 induction n with
 | zero =>
  have G:∀(A:Around) (a b:Addr) (k:Bool),EqT X.K H 0 a b k->A.units+0<cLine->SeqAt.RcAt A s (.ref a) (.ref b) k:=fun A a b k h=>by cases h
  show⟨fun A x y k u v h g i B=>?_,G⟩
  cases h with
  | flat fx fy=>show qds g i fx fy
  | self=>cases g;cases i;show XX _
  | deep h ne=>cases h
 | succ n ih =>
  have E:∀(A:Around) (a b:Addr) (k:Bool),EqT X.K H (n+1) a b k->A.units+(n+1)<cLine->SeqAt.RcAt A s (.ref a) (.ref b) k:=fun A a b k h B=>by
   have f:A.units<cLine:=by lk
   have o:A.in1.units+n<cLine:=by show A.units+1+n<cLine;lk
   cases h with
   | @lst _ _ _ xs ys e ha hb hl he =>
    obtain⟨its,r,pl,hz⟩:=I.list ha;obtain⟨c,m,d,l⟩:=I.list hb;have p:xs.length=its.toArray.size:=by rw[yx];show r.length
    have q:ys.length=c.toArray.size:=by rw[yx];show m.length
    rw[p];show SeqAt.RcAt.lists pl.isList d.isList (by rw[<- p,<- q,hl]) f fun j h1 F=>?_;have t:its[j]?=some its.toArray[j]:=by simp
    have w:c[j]?=some c.toArray[j]:=by simp
    obtain⟨x,C,g⟩:=jq r t;obtain⟨y,D,i⟩:=jq m w;show ih.1 A.in1 x y (e j) _ _ (he j x y C D) g i o
   | @lstL _ _ _ xs ys ha hb hl =>
    obtain⟨its,r,pl,hz⟩:=I.list ha;obtain⟨c,m,d,l⟩:=I.list hb;show SeqAt.RcAt.lists_lengths pl.isList d.isList ?_ f;rw[yx,yx,<- r.length,<- m.length];simp[hl]
   | @tup _ _ _ xs ys e ha hb he =>
    obtain⟨its,r,pl,hz⟩:=I.tuple ha;obtain⟨c,m,d,l⟩:=I.tuple hb;have p:xs.length=its.toArray.size:=by rw[yx];show r.length
    have q:ys.length=c.toArray.size:=by rw[yx];show m.length
    rw[p,q];show SeqAt.RcAt.tuples pl d f fun j h1 F=>?_;have t:its[j]?=some its.toArray[j]:=by simp
    have w:c[j]?=some c.toArray[j]:=by simp
    obtain⟨x,C,g⟩:=jq r t;obtain⟨y,D,i⟩:=jq m w;show ih.1 A.in1 x y (e j) _ _ (he j x y C D) g i o
   | lt ha hb =>
    obtain⟨its,r,pl,hz⟩:=I.list ha;obtain⟨c,m,d,l⟩:=I.tuple hb;show SeqAt.RcAt.list_tuple pl.isList d f
   | tl ha hb =>
    obtain⟨its,r,pl,hz⟩:=I.tuple ha;obtain⟨c,m,d,l⟩:=I.list hb;show SeqAt.RcAt.tuple_list pl d.isList f
  show⟨fun A x y k u v h g i B=>?_,E⟩
  cases h with
  | flat fx fy=>show qds g i fx fy
  | self=>cases g;cases i;show XX _
  | deep h ne=>cases g;cases i;show SeqAt.EqAt.of_refs ne (E A _ _ k h B)
theorem ne_refs(I:Inv X pins σ H s){n:Nat}{A:Around}{a b:Addr}{k:Bool}(h:EqT X.K H n a b k)(B:A.units+n<cLine):SeqAt.RcNeAt A s (.ref a) (.ref b) (!k):=by
 cases n with
 | zero=>cases h
 | succ n =>
  have v:=qcq I n;have f:A.units<cLine:=by lk
  have l:A.in1.units+n<cLine:=by show A.units+1+n<cLine;lk
  cases h with
  | @lst _ _ _ xs ys e ha hb hl he =>
   obtain⟨its,r,pl,hz⟩:=I.list ha;obtain⟨c,i,d,g⟩:=I.list hb;have m:xs.length=its.toArray.size:=by rw[yx];show r.length
   have o:ys.length=c.toArray.size:=by rw[yx];show i.length
   rw[m];show SeqAt.RcNeAt.lists pl.isList d.isList (by rw[<- m,<- o,hl]) f fun j h1 w=>?_;obtain⟨x,p,t⟩:=jq r (show its[j]?=some its.toArray[j] by simp);obtain⟨y,q,u⟩:=jq i (show c[j]?=some c.toArray[j] by simp);show v.1 A.in1 x y (e j) _ _ (he j x y p q) t u l
  | @lstL _ _ _ xs ys ha hb hl =>
   obtain⟨its,r,pl,hz⟩:=I.list ha;obtain⟨c,i,d,g⟩:=I.list hb;show SeqAt.RcNeAt.lists_lengths pl.isList d.isList ?_ f;rw[yx,yx,<- r.length,<- i.length];simp[hl]
  | @tup _ _ _ xs ys e ha hb he =>
   obtain⟨its,r,pl,hz⟩:=I.tuple ha;obtain⟨c,i,d,g⟩:=I.tuple hb;have m:xs.length=its.toArray.size:=by rw[yx];show r.length
   have o:ys.length=c.toArray.size:=by rw[yx];show i.length
   rw[m,o];show SeqAt.RcNeAt.tuples pl d f fun j h1 w=>?_;obtain⟨x,p,t⟩:=jq r (show its[j]?=some its.toArray[j] by simp);obtain⟨y,q,u⟩:=jq i (show c[j]?=some c.toArray[j] by simp);show v.1 A.in1 x y (e j) _ _ (he j x y p q) t u l
  | lt ha hb =>
   obtain⟨its,r,pl,hz⟩:=I.list ha;obtain⟨c,i,d,g⟩:=I.tuple hb;show SeqAt.RcNeAt.list_tuple pl.isList d f
  | tl ha hb =>
   obtain⟨its,r,pl,hz⟩:=I.tuple ha;obtain⟨c,i,d,g⟩:=I.list hb;show SeqAt.RcNeAt.tuple_list pl d.isList f
theorem qeg{A:Around}{x y:V}{u v:Value}(e:RelV x u)(c:RelV y v)(f:qaa x=true)(d:qaa y=true):SeqAt.RcAt A s u v (eqV x y)/\SeqAt.RcNeAt A s u v (!eqV x y):=by
 cases x with
 | non =>
  cases e
  cases y with
  | non=>cases c;show⟨SeqAt.RcAt.none_none,SeqAt.RcNeAt.none_none⟩
  | bl b=>cases c;show⟨SeqAt.RcAt.none_bool b,SeqAt.RcNeAt.none_bool b⟩
  | int b=>obtain⟨t,rfl⟩:=c;show⟨SeqAt.RcAt.none_int b t,SeqAt.RcNeAt.none_int b t⟩
  | str b=>obtain⟨t,rfl⟩:=c;show⟨SeqAt.RcAt.none_str b t,SeqAt.RcNeAt.none_str b t⟩
  | _=>cases d
 | bl a =>
  cases e
  cases y with
  | non=>cases c;show⟨SeqAt.RcAt.bool_none a,SeqAt.RcNeAt.bool_none a⟩
  | bl b=>cases c;show⟨SeqAt.RcAt.bool_bool a b,SeqAt.RcNeAt.bool_bool a b⟩
  | int b=>obtain⟨t,rfl⟩:=c;show⟨SeqAt.RcAt.bool_int a b t,SeqAt.RcNeAt.bool_int a b t⟩
  | str b=>obtain⟨t,rfl⟩:=c;show⟨SeqAt.RcAt.bool_str a b t,SeqAt.RcNeAt.bool_str a b t⟩
  | _=>cases d
 | int a =>
  obtain⟨t',rfl⟩:=e
  cases y with
  | non=>cases c;show⟨SeqAt.RcAt.int_none a t',SeqAt.RcNeAt.int_none a t'⟩
  | bl b=>cases c;show⟨SeqAt.RcAt.int_bool a t' b,SeqAt.RcNeAt.int_bool a t' b⟩
  | int b=>obtain⟨t,rfl⟩:=c;show⟨SeqAt.RcAt.int_int a t' b t,SeqAt.RcNeAt.int_int a t' b t⟩
  | str b=>obtain⟨t,rfl⟩:=c;show⟨SeqAt.RcAt.int_str a t' b t,SeqAt.RcNeAt.int_str a t' b t⟩
  | _=>cases d
 | str a =>
  obtain⟨t',rfl⟩:=e
  cases y with
  | non=>cases c;show⟨SeqAt.RcAt.str_none a t',SeqAt.RcNeAt.str_none a t'⟩
  | bl b=>cases c;show⟨SeqAt.RcAt.str_bool a t' b,SeqAt.RcNeAt.str_bool a t' b⟩
  | int b=>obtain⟨t,rfl⟩:=c;show⟨SeqAt.RcAt.str_int a t' b t,SeqAt.RcNeAt.str_int a t' b t⟩
  | str b=>obtain⟨t,rfl⟩:=c;show⟨SeqAt.RcAt.str_str a t' b t,SeqAt.RcNeAt.str_str a t' b t⟩
  | _=>cases d
 | _=>cases f
end
def qd2(K:yg)(c:Bool):R2:=fun x y H Q=>(qaa x=true/\qaa y=true/\Q (.bl (if c then !eqV x y else eqV x y)) H) \/
 (∃ a b k n,x=.ref a/\y=.ref b/\n<=60/\EqT K H n a b k/\Q (.bl (if c then !k else k)) H) \/
 (∃ a kvs,x=.ref a/\y=.ref a/\H a=some (.dK kvs)/\Q (.bl (!c)) H)
theorem qaZ{b:Type}[DecidableEq b]:∀{a:List (b×Value)} {k:b} {v:Value},(a.map (·.1)).Nodup->(k,v)∈a->valueAt a k=some v
 | [],_,_,_,h=>by cases h
 | (k',v')::r,k,v,hn,h=>by
  obtain⟨h1,c⟩:=yp.mp (show(k'::r.map (·.1)).Nodup from hn);unfold valueAt;rw[xC];by_cases e:k'=k
  .subst e;simp only[decide_true];rcases yB.mp h with z | z
   .cases z;rfl
   .show absurd (YJ.mpr ⟨(k',v),z,rfl⟩) h1
  .simp only[e,k9];rcases yB.mp h with z | z
   .cases z;show absurd rfl e
   .show qaZ c z
theorem qcr{A:Around}{s:Shared}{c:Type}[DecidableEq c](a:List (c×Value))(d:(a.map (·.1)).Nodup):∀ f:List (c×Value),(∀ p∈f,p∈a)->PySem.W.KeqHits A s a f true
 | [],_=>.nil
 | (k,v)::r,h=>by
  have hv:valueAt a k=some v:=qaZ d (h (k,v) yG);show .hit (e:=true) (b:=true) hv (XX v) (qcr a d r fun p g=>h p (yI _ g))
section
variable{X:Cx}{K:yg}
theorem k_eqU(m:X.K=K)(p:X.A.units+100<cLine):OpR X (compareOp .Eq) (qd2 K false):=by
 subst m;intro pins s σ H x y u v Q I c f h;rcases h with⟨j,l,q⟩ | ⟨a,b,k,n,rfl,rfl,o,e,q⟩ | ⟨a,kvs,rfl,rfl,i,q⟩
 .show(qeg c f j l).1 _ _ _ _ ⟨.bl _,H,I,rfl,q⟩
 .cases c;cases f;show(qcq I n).2 X.A a b k e (by lk) _ _ _ _ ⟨.bl _,H,I,rfl,q⟩
 .cases c;cases f;obtain⟨_,g,vs,r,d⟩:=(show ObjOk X.prog X.w H s.heap a (.dK kvs) from I.hok a _ i);obtain⟨_,_,_,_,_,_,_,_,nd⟩:=id d;show PySem.W.keq_eq g g d d (by lk) (fun _=>qcr vs nd vs fun _ h=>h) ?_;rw[xv];show⟨.bl true,H,I,rfl,q⟩
theorem qam(m:X.K=K)(p:X.A.units+100<cLine):OpR X (compareOp .NotEq) (qd2 K true):=by
 subst m;intro pins s σ H x y u v Q I c f h;rcases h with⟨j,l,q⟩ | ⟨a,b,k,n,rfl,rfl,o,e,q⟩ | ⟨a,kvs,rfl,rfl,i,q⟩
 .show(qeg c f j l).2 _ _ _ _ ⟨.bl _,H,I,rfl,q⟩
 .cases c;cases f;show ne_refs I e (by lk) _ _ _ _ ⟨.bl _,H,I,rfl,q⟩
 .cases c;cases f;obtain⟨_,g,vs,r,d⟩:=(show ObjOk X.prog X.w H s.heap a (.dK kvs) from I.hok a _ i);obtain⟨_,_,_,_,_,_,_,_,nd⟩:=id d;show PySem.W.keq_ne g g d d (by lk) (fun _=>qcr vs nd vs fun _ h=>h) ?_;rw[xv];show⟨.bl false,H,I,rfl,q⟩
end
section
variable{X:Cx}{K:yg}
def qe8(K:yg):R2:=fun x y H Q=>rIx K x y H Q\/∃ a v,x=.ref a/\DGet H a y (some v)/\Q v H
theorem qv(f:X.K=K)(m:X.A.units+100<cLine):IxR X (qe8 K):=by
 subst f;show IxR.or ix_seq ?_;intro d c pins s σ H x y v u Q I j l h i;obtain⟨a,z,rfl,g,q⟩:=h;cases j;show tail_any (dict_typeIs I g) PySem.F.slot_dict_getitem.lookup (d_getItem (by lk) I g l fun o n e b=>⟨z,H,e,b,q⟩) i
def rSetU:qeT:=fun o i v H Q=>rSetL o i v H Q\/∃ a H',o=.ref a/\DPut H a i v H'/\Q H'
theorem j8(l:X.A.units+100<cLine):qfs X rSetU:=by
 intro pins s σ H o i v j f u Q I c b d h;rcases h with h | ⟨a,H',rfl,g,q⟩
 .show set_list pins s σ H o i v j f u Q I c b d h
 .cases c;show d_setItem (by lk) I g b d fun m e=>⟨H',e,q⟩
def qeh(K:yg)(b:Bool):R2:=fun x y H Q=>rIn K b x y H Q\/(∃ a o,y=.ref a/\DGet H a x o/\Q (.bl (if b then !o.isSome else o.isSome)) H) \/
 (∃ p xs e n,y=.ref p/\SqL K H p xs/\n<=60/\(∀ z∈xs,EqD K H n z x (e z))/\Q (.bl (if b then !xs.any e else xs.any e)) H)
theorem qei{pins:List (Addr×Obj)}{σ:St}{H:Hp}{s:Shared}{xs:List V}{its:List Value}{x:V}{u:Value}{e:V->Bool}{n:Nat}{A:Around}(I:Inv X pins σ H s)(r:Vals xs its)(p:RelV x u)(o:A.units+n<cLine)(m:∀ z∈xs,EqD X.K H n z x (e z)) :
  ∃ g:Value->Bool,(∀ w,w∈its.toArray->SeqAt.EqAt A s w u (g w))/\its.toArray.any g=xs.any e:=by
 classical
 show⟨fun w=>decide (∃ z∈xs,RelV z w/\e z=true),fun w hw=>?_,?_⟩
 .have d:w∈its:=by simpa using hw
  obtain⟨j,c⟩:=Xa.mp d;obtain⟨z,hz,a⟩:=jq r c;have i:=ye hz
  have eq:decide (∃ z∈xs,RelV z w/\e z=true)=e z:=by
   cases q:e z with
   | true=>show yS ⟨z,i,a,q⟩
   | false =>
    show yl fun⟨t,_,f,l⟩=>?_;rw[RelV.inj f a,q] at l;cases l
  show SeqAt.EqAt A s w u (decide (∃ z∈xs,RelV z w/\e z=true));rw[eq];show(qcq I n).1 A z x (e z) w u (m z i) a p o
 .rw [xn,Y7];constructor
  .intro h;have h':its.any (fun w=>decide (∃ z∈xs,RelV z w/\e z=true))=true:=by simpa using h
   obtain⟨w,_,q⟩:=Y7.mp h';obtain⟨z,hz,_,b⟩:=yk q;show⟨z,hz,b⟩
  .rintro ⟨z,hz,b⟩;obtain⟨j,c⟩:=Xa.mp hz;obtain⟨w,hw,a⟩:=r.get c;have:its.any (fun w=>decide (∃ z∈xs,RelV z w/\e z=true))=true:=Y7.mpr ⟨w,ye hw,yS ⟨z,hz,a,b⟩⟩;simpa using this
theorem j5(j:X.K=K)(l:X.A.units+100<cLine):OpR X (compareOp .In) (qeh K false):=by
 subst j;intro pins s σ H x y u v Q I b c h;rcases h with h | ⟨a,o,rfl,g,q⟩ | ⟨p,xs,e,n,rfl,hl,hn,he,q⟩
 .show op_in_seq pins s σ H x y u v Q I b c h
 .cases c;show d_in (by lk) I g b fun m d=>⟨.bl _,H,d,rfl,q⟩
 .cases c;obtain⟨its,r,pl,hz⟩:=I.list hl;obtain⟨f,h1,i⟩:=qei (A:=X.A.in1) I r b (by show X.A.units+1+n<cLine;lk) he;show SeqAt.in_listAt f pl.isList h1 (by rw[i];show⟨.bl _,H,I,rfl,q⟩)
theorem qbw(j:X.K=K)(l:X.A.units+100<cLine):OpR X (compareOp .NotIn) (qeh K true):=by
 subst j;intro pins s σ H x y u v Q I b c h;rcases h with h | ⟨a,o,rfl,g,q⟩ | ⟨p,xs,e,n,rfl,hl,hn,he,q⟩
 .show op_notIn_seq pins s σ H x y u v Q I b c h
 .cases c;show d_notIn (by lk) I g b fun m d=>⟨.bl _,H,d,rfl,q⟩
 .cases c;obtain⟨its,r,pl,hz⟩:=I.list hl;obtain⟨f,h1,i⟩:=qei (A:=X.A.in1) I r b (by show X.A.units+1+n<cLine;lk) he;show SeqAt.notIn_listAt f pl.isList h1 (by rw[i];show⟨.bl _,H,I,rfl,q⟩)
def rListU(K:yg):List V->Hp->VK->Prop:=fun xs H Q=>(∃ p ys,xs=[.ref p]/\(SqL K H p ys\/SqT K H p ys)/\∀ l,H l=none->Q (.ref l) (upd H l (.lst ys))) \/
 (∃ p kvs,xs=[.ref p]/\H p=some (.dK kvs)/\∀ l,H l=none->Q (.ref l) (upd H l (.lst (kvs.map fun a=>kV a.1)))) \/
 (∃ x,xs=[.str x]/\x.length<=1000/\∀ l,H l=none->Q (.ref l) (upd H l (.lst (x.cps.toList.map fun c=>.str ⟨#[c]⟩))))
theorem qbn{α c:Type}{F:α->c->Prop}:∀{l:List α} {m:List c} {j:Nat} {a:α},Paired F l m->l[j]?=some a->∃ b,m[j]?=some b/\F a b
 | _,_,_,_,.nil,e=>by simp at e
 | _,_,0,_,.cons r _,e=>by simp at e;subst e;show⟨_,rfl,r⟩
 | _,_,j+1,a,.cons _ t,e=>by
  obtain⟨b,h1,d⟩:=qbn (j:=j) (a:=a) t (by simpa using e);show⟨b,by simpa using h1,d⟩
theorem zO:∀{ys:List V} {us:List Value},ys.length=us.length->(∀(j:Nat) y u,ys[j]?=some y->us[j]?=some u->RelV y u)->Vals ys us
 | [],[],_,_=>.nil
 | [],_::_,h,_=>by cases h
 | _::_,[],h,_=>by cases h
 | y::ys,u::us,h,q=>.cons (q 0 y u rfl rfl) (zO (Nat.succ.inj h) fun j c b h1 a=>q (j+1) c b (by simpa using h1) (by simpa using a))
theorem qac(J:X.K=K)(hc:X.calm=true):zG X (.type "list") (rListU K):=by
 subst J;intro pins s σ H xs us Q I r h;rcases h with h | ⟨p,kvs,rfl,ea,q⟩ | ⟨x,rfl,hx,q⟩
 .show call_list_of pins s σ H xs us Q I r h
 .obtain⟨u,rfl,M⟩:=qaQ r;cases M;obtain⟨hz,L,vs,D,d⟩:=(show ObjOk X.prog X.w H s.heap p (.dK kvs) from I.hok p _ ea);obtain⟨ep,n⟩:=d.dictAt;have hl:kvs.length=vs.length:=D.length;show PySem.W.kdl_call (PySem.W.kdl_dict (knd:=jm X.prog X.w) (kvs:=vs) (ep:=ep) L) (I.ok.hd hc) n (by rw[<- hl];show hz) fun h' tk a f A e it=>?_;obtain⟨o,v⟩:=it
  have hv:Vals (kvs.map fun b=>kV b.1) a.toList:=by
   show zO (by rw[ya,hl,<- o];simp) fun j y u h1 g=>?_;obtain⟨k,x,l,F⟩:=v j u (by simpa using g);rw[yd] at h1
   cases B:kvs[j]? with
   | none=>rw[B] at h1;cases h1
   | some b =>
    rw[B] at h1;cases h1;obtain⟨O,C,G,N⟩:=qbn D B;rw[l] at C;cases C;have E:b.1=k:=G;show RelV (kV b.1) u;rw[E];rcases qW (show qci k u=true from F) with⟨i,t,rfl,rfl⟩ | ⟨z,t,rfl,rfl⟩
    .show⟨t,rfl⟩
    .show⟨t,rfl⟩
  show⟨.ref s.heap.objs.size,_,I.laid (t':=tk) A (yh _) (show ObjOk X.prog X.w _ h' _ (.lst (kvs.map fun b=>kV b.1)) from⟨by rw[ya];show hz,a.toList,f,hv,by simpa using e⟩),rfl,q _ (I.hok.fresh (yh _))⟩
 .obtain⟨u,rfl,t,rfl⟩:=qaQ r;have hsz:x.cps.size<=sizeLine:=yY (qi hx);show call_list_str (I.ok.hd hc) x t (fun h' tk a f A e it=>?_) hsz;obtain⟨o,v⟩:=it
  have hv:Vals (x.cps.toList.map fun c=>V.str ⟨#[c]⟩) a.toList:=by
   show zO (by rw[ya];simp[o]) fun j y u h1 g=>?_;obtain⟨c,t',l,rfl⟩:=v j u (by simpa using g);rw[yd] at h1;have m:x.cps.toList[j]?=some c:=by simpa using l
   rw[m] at h1;cases h1;show⟨t',rfl⟩
  show⟨.ref s.heap.objs.size,_,I.laid (t':=tk) A (yh _) (show ObjOk X.prog X.w _ h' _ (.lst (x.cps.toList.map fun c=>V.str ⟨#[c]⟩)) from⟨by rw[ya];simpa using hsz,a.toList,f,hv,by simpa using e⟩),rfl,q _ (I.hok.fresh (yh _))⟩
end
structure CMethOk(P:Program)(w:World)(K:yg)(mg:Str->Option Value)(base:Heap)(CX:CXT)(k:Nat)(C:Addr)(x m:Str)(ps:LS)(sp:Sp):Prop where
 ex:∃ f fd,FnOk P w K mg base CX k f fd ps sp/\CMeth K C m f/\Binds K fd ps []
 mg_:mg x=some (.ref C)
section
variable{X:Cx}{k:Nat}{C:Addr}{ps:LS}{sp:Sp}{x m:Str}{p pos apos:Pos}{e:Expr}{es:List Expr}{t:TA}
theorem qan(D:MakeOk X.prog X.w X.K X.mg X.base CX0 k C x ps sp)(i:Room (k+1) X.A)(c:PA X (e::es) t)(h:Gl X x:=by rfl)(a:(x==("__debug__":Str))=false:=by decide)
  (g:starEach (e::es) X.env=(false,eval e X.env)::starEach es X.env:=by rfl) (b:(backTo pos (starEach es X.env)).any (·.1)=false:=by rfl):PE X (.Call (.Name x p) (e::es) [] pos) (qeA C sp [] E0 t):=by
 obtain⟨f,j,F,M,d⟩:=D.ex;show pe_make M F i h D.mg_ d .nil qC c a g b
end
theorem own_eq_same{prog:Program}{w:World}{A:Around}{E:Value->Shared->Prop}{s:Shared}{K:yg}{x C:Addr}{ox:Obj}{od:Option Obj}{Q:Value->Shared->Prop}(m:A.units<cLine)(X:K.In s.heap)(I:PySem.W.InstAt s.heap x ox C od)
  (l:PySem.W.findIn K (.ref C) "__eq__"=some (some (.builtin "object.__eq__"))) (i:PySem.W.mroIn K C (.type "object")=some true) (h:Q (.bool true) s):wpAny (model prog w) A (richCompare .Eq (.ref x) (.ref x)) Q E s:=by
 have a:∀{g:Around} {f:Value->Shared->Prop},f (.bool true) s->wpAny (model prog w) g (call (.builtin "object.__eq__") [.ref x,.ref x]) f E s:=fun{g f} q=>by
  show XG (Xi PySem.F.slot_object_eq.plain PySem.F.entry_object_eq (@PySem.W.check_slot (model prog w) _ _ s "object.__eq__" "object" "__eq__" (.ref x) [.ref x] [] _ (by room) (by room) (I.type.andThen (xJ X i)) (PySem.F.args_object_eq_2 _ _) ?_));show yt (yv (yt (wpAny_isSame_ref_self ?_)));show yv q
 have one:wpAny (model prog w) A (tryCompare (.ref x) "__eq__" (.ref x)) (fun r c=>∃ v,r=some v/\Q v c) E s:=by
  unfold tryCompare;show yt ?_;simp only[callSpecialIfBound?,bindSpecialIfBound?];show Yk (yt (yt (yt (I.type.here ((Y9 X l).here ?_)))));show yt (kJ (wpAny_ite ?_));have b:=PySem.F.slot_object_eq.bind (.ref x)
  have d:wpAny (model prog w) A (call (.builtin "object.__eq__") ([.ref x]++[.ref x])>>=fun v=>pure (some v)) (fun r c=>wpAny (model prog w) A (match r with | some .notImplemented | none=>pure none | some v=>pure (some v)) (fun r c=>∃ v,r=some v/\Q v c) E c) E s:=
   yt (a (yv (yv ⟨_,rfl,h⟩)))
  split
  .show yt (Y3 b (yv d))
  .show wpAny_tryCatch (yt (Y3 b (yv d)))
 unfold richCompare;simp only[oneThing_ref];show Yk (yt (wpAny_cRoomFor m ?_));show yt (I.type.here (yt (I.type.here ?_)));rw[yA (by simp)];show yt (yv ?_);simp only[YY,Xh];show yt (YK one (fun r c z=>?_) fun _ _ e=>e);obtain⟨v,rfl,j⟩:=z;show yv j
structure OEq(K:yg)(C:Addr):Prop where
 eq:PySem.W.findIn K (.ref C) "__eq__"=some (some (.builtin "object.__eq__"))
 ob:PySem.W.mroIn K C (.type "object")=some true
def qfS(K:yg):R2:=fun x y H Q=>qd2 K false x y H Q\/∃ a C dx fs,x=.ref a/\y=.ref a/\H a=some (.ins C dx fs)/\OEq K C/\Q (.bl true) H
theorem k_eqW{X:Cx}{K:yg}(d:X.K=K)(e:X.A.units+100<cLine):OpR X (compareOp .Eq) (qfS K):=by
 subst d;intro pins s σ H x y u v Q I b c h;rcases h with h | ⟨a,C,dx,fs,rfl,rfl,ea,oe,q⟩
 .show k_eqU rfl e pins s σ H x y u v Q I b c h
 .cases b;cases c;obtain⟨f,O,_⟩:=qau I.hok ea;obtain⟨od,J,_⟩:=O.look;show own_eq_same (by lk) I.kIn J oe.eq oe.ob ⟨.bl true,H,I,rfl,q⟩
theorem qR{X:Cx}:MtR X "list.append" rAppend:=mt_append
theorem qbo{X:Cx}:MtR X "list.extend" rExtend:=mt_extend
theorem qb3{X:Cx}:MtR X "list.pop" rPopAt:=mt_popAt
theorem qb4{X:Cx}:MtR X "list.clear" rClear:=mt_clear
section
variable{D:Ends}{σ:St}{H:Hp}{Q:VK}{t u:TS}{te ta tb tc:TE}{tas:TA}{K:yg}{sp:Sp}{E:XK}{EK:St->XK}{C:Addr}{f m:Str}
theorem vFldU(h:ta σ H fun x a=>FlUR K f x a Q):qe5 K ta f σ H Q:=h
theorem vSFldU(h:te σ H fun y a=>ta σ a fun x b=>SFUR K f x y b (D.nx σ)):qe6 K ta te f D σ H:=h
theorem vXMake(h:tas σ H fun vs a=>vs.length<=1000/\∀ x,a x=none->sp (.ref x::vs) (upd a x (XN x C none)) (fun v b=>v=.non/\Q (.ref x) b) E):tXMake C sp E tas σ H Q:=h
theorem vMake(h:tas σ H fun vs a=>∀ x dx,a x=none->a dx=none->dx≠x->sp (.ref x::(vs++[])) (upd (upd a dx (.own x)) x (.ins C dx [])) (fun v b=>v=.non/\Q (.ref x) b) E):qeA C sp [] E tas σ H Q:=h
theorem vMeth(h:ta σ H fun x a=>MeR C m x a (tas σ a fun vs b=>sp (x::(vs++[])) b Q E)):qdo C m sp [] E ta tas σ H Q:=h
theorem vVinit(h:tas σ H fun vs b=>∃ a C y,vs=[.ref a,y]/\b a=some (XN a C none)/\XAt K C/\Q .non b):tVinit K tas σ H Q:=h
theorem vCallS(h:tas σ H fun vs a=>sp vs a Q (EK σ)):tCallS sp EK tas σ H Q:=h
theorem vMethS(h:ta σ H fun x a=>MeR C m x a (tas σ a fun vs b=>sp (x::vs) b Q (EK σ))):tMethS C m sp EK ta tas σ H Q:=h
theorem vMakeS(h:tas σ H fun vs a=>∀ x dx,a x=none->a dx=none->dx≠x->sp (.ref x::vs) (upd (upd a dx (.own x)) x (.ins C dx [])) (fun v b=>v=.non/\Q (.ref x) b) (EK σ)):tMakeS C sp EK tas σ H Q:=h
theorem vRaise(h:te σ H fun x b=>∃ a C dx,x=.ref a/\b a=some (XN a C dx)/\XAt K C/\EK σ (.ref C) dx (upd b a (XO a C dx))):tRaise K EK te D σ H:=h
theorem qdf{x y:V}{t a:Value}{b:Bool}(ty:TyX K H x t)(d:qb0 y=some a)(c:PySem.W.kitOne K t a=some b)(h:Q (.bl b) H):qe7 K [x,y] H Q:=⟨x,y,t,a,b,rfl,ty,d,c,h⟩
end
section
variable{prog:Program}{w:World}{A:Around}{E:Value->Shared->Prop}{s:Shared}
theorem none_dict{a:Addr}{Q:Value->Shared->Prop}(d:s.TypeIs (.ref a) "dict")(e:A.units<cLine)(h:Q (.bool false) s):wpAny (model prog w) A (richCompare .Eq .none (.ref a)) Q E s:=by
 show SeqAt.rc_eq_decline_or (k:=false) rfl d (by decide) PySem.F.sub_dict_NoneType YX PySem.F.slot_dict_eq_refl
  (fun _ c=>call_gives YX rfl PySem.F.entry_NoneType_eq (PySem.F.args_NoneType_eq_2 _ _) (SeqAt.NoneType___eq___none_ref_0 a) c) (fun f c=>?_) (fun _ c=>Y3 (rfl:isSame .none (.ref a)=pure false) c) (.inr e) h
 show xN PySem.F.slot_dict_eq_refl d PySem.F.entry_dict_eq ?_ (PySem.F.args_dict_eq_2 _ _);show wpAny _ _ (Builtin.Dict.dictSlotArgs "__eq__" ⟨[.ref a,.none],[]⟩>>=_) _ _ s;show yt ?_;unfold Builtin.Dict.dictSlotArgs;show yt (wpAny_notOrdered_dict d ?_);show wpAny _ _ (pure (Value.ref a,Value.none)) _ _ s;show yv ?_;show yt (wpAny_isInstance (T:="NoneType") (b:=false) rfl PySem.F.sub_NoneType_dict ?_);simp only[Bool.not_false,XM];show yt (wpAny_rule (yv ⟨_,rfl,c⟩))
theorem none_own{K:yg}{x C:Addr}{ox:Obj}{od:Option Obj}{Q:Value->Shared->Prop}(j:A.units<cLine)(X:K.In s.heap)(I:PySem.W.InstAt s.heap x ox C od)(g:OEq K C)(i:PySem.W.mroIn K C (.type "NoneType")=some false)
  (h:Q (.bool false) s):wpAny (model prog w) A (richCompare .Eq .none (.ref x)) Q E s:=by
 have l:wpAny (model prog w) A (tryCompare .none "__eq__" (.ref x)) (fun r a=>r=none/\a=s) E s:=by
  unfold tryCompare;show yt ?_;simp only[callSpecialIfBound?,bindSpecialIfBound?];show Yk (yt (yt ?_));show yt (Y3 (rfl:typeOf .none=pure (.type "NoneType")) ?_);show Y3 YX.lookup ?_;show yt (kJ (wpAny_ite ?_))
  have d:wpAny (model prog w) A (call (.builtin "NoneType.__eq__") ([.none]++[.ref x])>>=fun v=>pure (some v)) (fun r a=>wpAny (model prog w) A (match r with | some .notImplemented | none=>pure none | some v=>pure (some v)) (fun r a=>r=none/\a=s) E a) E s:=
   yt (call_gives YX rfl PySem.F.entry_NoneType_eq (PySem.F.args_NoneType_eq_2 _ _) (SeqAt.NoneType___eq___none_ref_0 x) (yv (yv ⟨rfl,rfl⟩)))
  split
  .show yt (Y3 (YX.bind .none) (yv d))
  .show wpAny_tryCatch (yt (Y3 (YX.bind .none) (yv d)))
 have m:wpAny (model prog w) A (tryCompare (.ref x) "__eq__" .none) (fun r a=>r=none/\a=s) E s:=by
  unfold tryCompare;show yt ?_;simp only[callSpecialIfBound?,bindSpecialIfBound?];show Yk (yt (yt (yt (I.type.here ((Y9 X g.eq).here ?_)))));show yt (kJ (wpAny_ite ?_));have b:=PySem.F.slot_object_eq.bind (.ref x)
  have c:∀{f:Value->Shared->Prop},f .notImplemented s->wpAny (model prog w) A (call (.builtin "object.__eq__") [.ref x,.none]) f E s:=fun{f} q=>by
   show XG (Xi PySem.F.slot_object_eq.plain PySem.F.entry_object_eq (@PySem.W.check_slot (model prog w) _ _ s "object.__eq__" "object" "__eq__" (.ref x) [.none] [] _ (by room) (by room) (I.type.andThen (xJ X g.ob)) (PySem.F.args_object_eq_2 _ _) ?_));show yt (yv (yt (Y3 (rfl:isSame (.ref x) .none=pure false) ?_)));show yv q
  have d:wpAny (model prog w) A (call (.builtin "object.__eq__") ([.ref x]++[.none])>>=fun v=>pure (some v)) (fun r a=>wpAny (model prog w) A (match r with | some .notImplemented | none=>pure none | some v=>pure (some v)) (fun r a=>r=none/\a=s) E a) E s:=
   yt (c (yv (yv ⟨rfl,rfl⟩)))
  split
  .show yt (Y3 b (yv d))
  .show wpAny_tryCatch (yt (Y3 b (yv d)))
 unfold richCompare;show Yk (yt (wpAny_cRoomFor j ?_));show wpAny _ _ (typeOf .none>>=_) _ _ _;show yt (Y3 (rfl:typeOf .none=pure (.type "NoneType")) (yt (I.type.here ?_)));rw[yF (by rfl)];show yt ((xJ X i).here ?_);simp only[YY,Xh];show yt (YK l (fun r a z=>?_) fun _ _ e=>e);obtain⟨rfl,rfl⟩:=z;simp only[Bool.not_false,XM];show yt (YK m (fun r a z=>?_) fun _ _ e=>e);obtain⟨rfl,rfl⟩:=z;show yt (wpAny_rule (yt (Y3 (rfl:isSame .none (.ref x)=pure false) (yv h))))
end
def rNoneRef(K:yg):R2:=fun x y H Q=>∃ a,x=.non/\y=.ref a/\((∃ xs,SqL K H a xs\/SqT K H a xs)\/(∃ kvs,H a=some (.dK kvs))\/∃ C dx fs,H a=some (.ins C dx fs)/\OEq K C/\PySem.W.mroIn K C (.type "NoneType")=some false)/\Q (.bl false) H
def qfp(K:yg):R2:=fun x y H Q=>qfS K x y H Q\/rNoneRef K x y H Q
theorem zZ{X:Cx}{K:yg}(e:X.K=K)(j:X.A.units+100<cLine):OpR X (compareOp .Eq) (qfp K):=by
 intro pins s σ H x y u v Q I f g h;rcases h with h | ⟨a,rfl,rfl,h,q⟩
 .show k_eqW e j pins s σ H x y u v Q I f g h
 .subst e;cases f;cases g;have b:EP X pins σ Q (.bool false) s:=⟨.bl false,H,I,rfl,q⟩;rcases h with⟨xs,hl | hl⟩ | ⟨kvs,c⟩ | ⟨C,dx,fs,c,l,i⟩
  .obtain⟨its,r,pl,_⟩:=I.list hl;show SeqAt.RcAt.none_list pl.isList (by lk) _ _ _ _ b
  .obtain⟨its,r,pl,_⟩:=I.tuple hl;show SeqAt.RcAt.none_tuple pl (by lk) _ _ _ _ b
  .obtain⟨_,_,vs,_,d⟩:=(show ObjOk X.prog X.w H s.heap a (.dK kvs) from I.hok a _ c);show none_dict d.typeIs (by lk) b
  .obtain⟨m,O,_⟩:=qau I.hok c;obtain⟨od,J,_⟩:=O.look;show none_own (by lk) I.kIn J l i b
def XL(K:yg)(C:Addr)(c:List Value):Prop:=∃ j l N bs a sn sub ab b d e f g h i,K.lookup C=some (excClassObj j l C N bs c a sn sub ab b d e f g h i "ValueError.__new__")
section
variable{K:yg}{C D:Addr}{bm bn:List Value}
end
end L2
namespace HT
open PySem PySem.Spec PyProof.Rows
variable{sl:Addr}{vs:Value}
section
variable{prog:Program}{w:World}{A:Around}{E:Value->Shared->Prop}{s:Shared}
theorem sliceApplied_rev{Q:Int×Int×Nat->Shared->Prop}(d:s.heap.IsSliceOf sl .none .none vs)(ps:IsPart vs (some (-1)))
  (h:Q (1,-1,2) s):wpAny (model prog w) A (Builtin.Slice.sliceApplied (.ref sl) (pure ((2:Nat):Int))) Q E s:=by
 obtain⟨e,b,c,a⟩:=id d;unfold Builtin.Slice.sliceApplied Builtin.Slice.sliceFields;show yt (yt (xi b a (x:=.none) rfl (yt (xi b a (x:=.none) rfl (yt (xi b a (x:=vs) rfl (yv ?_)))))));show yt (qav ps ?_);show wpAny _ _ (if ((-1:Int)==0)=true then _ else _) _ _ s;rw[yA (by decide)];show yt (ke (yt (ke (yt (yv ?_)))));show yv h
theorem getItem_pair_rev{t:Addr}{x y:Value}{Q:Value->Shared->Prop}(b:IsTup s.heap t #[x,y])(f:s.heap.IsSliceOf sl .none .none vs)(ps:IsPart vs (some (-1)))
  (h:Q (.ref s.heap.objs.size) { s with heap:=s.heap.push { cls:=.type "tuple",data:=.seq #[y,x] } }):wpAny (model prog w) A (getItem (.ref t) (.ref sl)) Q E s:=by
 have a:sizeOk (.seq #[y,x]):=by
  show 2<=sizeLine
  decide
 obtain⟨i,e,d,g⟩:=id f;have c:s.TypeIs (.ref sl) "slice":=⟨i,e,d⟩;unfold getItem
 try with_reducible show Yk ?_
 first | show yt (yv ?_) | skip
 show yt (wpAny_sequenceKey b.typeIs (by decide) ?_);show yt (xM (name:=Str.ofString "__getitem__") b.typeIs Yy
  (xN Yy b.typeIs entry_tuple_getitem ?_ (args_tuple_getitem _ _)))
 show wpAny _ _ (Builtin.Tuple.tupleItemsOf (.ref t)>>=_) _ _ s;show yt (tupleItemsOf_ b ?_);show yt (wpAny_typeOf c ?_);rw[yF (by decide)];show yt (sliceApplied_rev f ps ?_);show wpAny _ _ (if ((1:Int)==0&&(-1:Int)==1&&2==2)=true then _ else _) _ _ s;rw[yA (by decide)]
 first
  | show yt (m:=Builtin.Tuple.tupleExact _) (YV (yv ⟨_,rfl,yv h⟩) a)
  | show yt (m:=Builtin.Tuple.tupleExact _) (YV (yt (yv (yv ⟨_,rfl,yv h⟩))) a)
  | show yt (yt (m:=Builtin.Tuple.tupleExact _) (YV (yv (yv ⟨_,rfl,yv h⟩)) a))
  | show yt (yt (m:=Builtin.Tuple.tupleExact _) (YV (yv ⟨_,rfl,yv h⟩) a))
end
end HT
namespace L2
open PySem PySem.Spec PyProof.Rows
variable{H:Hp}{σ:St}
def qfT(K:yg)(d:TE)(e:TO):TE:=fun σ H Q=>d σ H fun x c=>e σ c fun o b=>o=some (-1)/\∃ a y z,x=.ref a/\SqT K b a [y,z]/\∀ p,b p=none->Q (.ref p) (upd b p (.tup [z,y]))
theorem vRev{K:yg}{c:TE}{d:TO}{Q:VK}(h:c σ H fun x e=>d σ e fun o b=>o=some (-1)/\∃ a y z,x=.ref a/\SqT K b a [y,z]/\∀ p,b p=none->Q (.ref p) (upd b p (.tup [z,y]))):qfT K c d σ H Q:=h
section
variable{X:Cx}{K:yg}{e st:Expr}{te:TE}{ts:TO}{p2 pos:Pos}
theorem pe_rev(B:X.K=K)(C:PE X e te)(D:PO X (some st) ts):PE X (.Subscript e (.Slice none none (some st) p2) pos) (qfT K te ts):=by
 subst B;intro c s σ H Q I h;show Subscript_ (thn (C c s σ H _ I h) fun v M ⟨x,m,p,L,J⟩=>?_);show wpAny_Slice ?_;rw[kD];show yv ?_;show yv ?_;show thn (D c M σ m _ p J) fun l d ⟨o,n,t,pt,u,a,y,z,ex,E,q⟩=>?_;subst u ex;cases L;have f:Inv X c σ n { d with heap:=d.heap.push { cls:=.type "slice",data:=.fields #[.none,.none,l] } }:=t.kept (t':=d.toks) fun b G q=>yw _ q;obtain⟨F,r,j,hz⟩:=f.tuple E;obtain⟨N,O,rfl,g,i⟩:=qdn r;show wpAny (model X.prog X.w) X.A (subscriptTail e (.Slice none none (some st) p2) (.ref a) (.ref d.heap.objs.size)) (EP X c σ Q) X.xe { d with heap:=d.heap.push { cls:=.type "slice",data:=.fields #[.none,.none,l] } };show tail_any (ops:=[.ref a,.ref d.heap.objs.size]) j.typeIs Yy.lookup (HT.getItem_pair_rev j (kf ..) pt ?_) (by with_unfolding_all rfl);show⟨.ref _,_,f.laid (t':=d.toks) (o:=.tup [z,y]) (fun b G q=>yw _ q) (yh _) ?_,rfl,q _ (f.hok.fresh (yh _))⟩;show⟨by show 2<=sizeLine;decide,_,.cons i (.cons g .nil),IsTup.new _ _⟩
end
theorem Inv.turnedL{X:Cx}{a:List (Addr×Obj)}{s:Shared}{h':Heap}{t':Nat}{fp:LQ}(I:Inv X a σ H s)(k:∀ b o,b∉fp->s.heap.get? b=some o->h'.get? b=some o)(f:∀ b∈fp,qcl X a H b):Inv X a σ H { s with heap:=h',toks:=t' }:=by
 have d:∀ b u,H b=some u->b∉fp:=fun b u e z=>by rw[(f b z).1] at e;cases e
 have p:X.env.locals∉fp:=fun z=>(f _ z).2.1 rfl;show I.step (g':=s.gens) (d':=s.drawn) (ch:=fp) (fun b t=>?_) (fun b o _ _ hc e _=>k b o hc e) (fun b o _ _ hc e _=>⟨o.slots,k b o hc e⟩) (fun _ _ _ _ n=>n)
  (fun b o hc e=>⟨o,k b o hc e⟩) (fun _ _ e=>e) (fun _ _ _ e=>e) (fun b ps e=>⟨#[],by rw[e];simp⟩) (fun m w=>?_) (fun b u e=>?_) I.bare
 .obtain⟨y,h,A,i,j,l⟩:=f b t;show⟨i,h,j,l⟩
 .obtain⟨o,g,ep,x,r⟩:=w;show⟨o,g,ep,k _ o p x,r⟩
 .show(I.hok b u e).stay (fun c v hc q=>k c v ?_ q) (fun _ q=>q) fun _ _ q=>q;rcases hc with z | z
  .rw [z];show d b u e
  .show d c _ z
noncomputable def Ite(K:yg)(a:Addr):It:=
 ⟨fun i H=>∃ xs x,SqL K H a xs/\xs[i]?=some x,fun i H x H'=>∃ t y,x=.ref t/\H t=none/\H'=upd H t (.tup [.int i,y])/\∀ xs,SqL K H a xs->xs[i]?=some y,fun i H=>∃ xs,SqL K H a xs/\xs.length<=i⟩
theorem push_some{h:Heap}{o v:Obj}{b:Addr}(e:(h.push o).get? b=some v)(ne:b≠h.objs.size):h.get? b=some v:=(Heap.get?_push_cases e).elim (fun z=>absurd z.1 ne) fun z=>z
def iEnum(K:yg)(c:TA):TI:=fun σ H R=>c σ H fun vs b=>∃ a xs,vs=[.ref a]/\SqL K b a xs/\R (Ite K a) b
theorem vEnum{K:yg}{b:TA}{R:It->Hp->Prop}(h:b σ H fun vs c=>∃ a xs,vs=[.ref a]/\SqL K c a xs/\R (Ite K a) c):iEnum K b σ H R:=h
section
variable{X:Cx}
end
end L2
namespace L2
open PySem PySem.Spec PyProof.Rows PySem.Builtin PySem.Builtin.Str
theorem qe9{a c:Nat}(h:a+100<c):a+1<c:=by lk
theorem vDGet2{e ty f:TE}{b:St}{H:Hp}{Q:VK}(h:e b H fun x c=>∃ a,x=.ref a/\IsD c a/\ty b c fun y g=>f b g fun z d=>∃ o,DGet d a y o/\Q (o.getD z) d):tDGet2 e ty f b H Q:=h
end L2
namespace L2
open PySem PySem.Spec PyProof.Rows
theorem eqV_strD(a b:Str):eqV (.str a) (.str b)=decide (a=b):=by
 have e:eqV (.str a) (.str b)=(a==b):=by simp[eqV]
 rw[e,xn,Yo,Ys]
theorem qb5:∀(ys:LS) (y:Str) (m:Nat) (b:m<ys.length),m<ys.idxOf y->ys[m]≠y
 | [],_,_,b,_=>by simp at b
 | a::r,y,m,b,h=>by
  rw[List.idxOf_cons] at h;by_cases e:a=y
  .subst e;simp at h
  .have c:(a==y)=false:=YE.mpr e;rw[c] at h
   cases m with
   | zero=>show e
   | succ k =>
    have d:k<r.idxOf y:=by
     have h:k+1<r.idxOf y+1:=h;lk
    show qb5 r y k (by simpa using b) d
section
variable{X:Cx}{K:yg}
def rIndex(K:yg):V->List V->Hp->VK->Prop:=fun x vs H Q=>∃(p:Addr) (ys:LS) (y:Str),x=.ref p/\vs=[.str y]/\SqL K H p (ys.map V.str)/\y∈ys/\Q (.int (ys.idxOf y:Nat)) H
theorem qbx(B:X.K=K):MtR X "list.index" (rIndex K):=by
 subst B;intro t s O H x vs v us Q I L J h;obtain⟨p,ys,y,rfl,rfl,C,E,q⟩:=h;cases L;obtain⟨u,rfl,G⟩:=J.one;obtain⟨a,r,pl,hz⟩:=I.list C;obtain⟨⟨cls,A,data,M⟩,o,hc,n,l⟩:=id pl.isList;simp only at hc l;subst hc l;have fs:(ys.map V.str).all qaa=true:=by rw[k8];show YA.mpr fun _ _=>rfl
 have b:(ys.map V.str).length=a.length:=r.length;rw[ya] at b;have d:ys.idxOf y<ys.length:=List.idxOf_lt_length_iff.mpr E
 have at_:∀(m:Nat) (i:m<ys.length) (c:m<a.toArray.size),eqU (.str y) a.toArray[m]=decide (ys[m]=y):=fun m i c=>by
  have g:(ys.map V.str)[m]?=some (.str ys[m]):=by rw[yd,yb i];rfl
  obtain⟨w,hw,j⟩:=r.get g
  have e:a.toArray[m]=w:=by
   have:a.toArray[m]?=some w:=by simpa using hw
   rw[Y4 c] at this;show yn this
  rw[e,qdt j rfl,eqV_strD]
 have N:ys.length<=sizeLine:=by rw[ya] at hz;show hz
 have D:sizeLine<2 ^ 63-1:=by decide
 show XH xl ⟨_,o,rfl⟩ PySem.F.entry_list_index (PySem.F.args_list_index_2 _ _)
  (SeqAt.list_indexAt p a.toArray n A M u (eqU (.str y)) (ys.idxOf y) (by simpa [<- b] using d) (by lk) ?_ ?_) ⟨o,fun w hw=>zM G rfl r fs w (by simpa using hw),.int _,H,I.tok _,⟨_,rfl⟩,q⟩
 .rw [at_ _ d];show yS (Yx d)
 .intro m i f;rw[at_ m (by lk)];show yl fun e=>qb5 ys y m (by lk) f e
end
theorem qa0(xs:List V)(k:Nat):qbb xs none (some (k:Int))=xs.take k:=by
 unfold qbb;rw[HT.sIx_none,HT.sIx_nat,List.drop_zero,kP];by_cases h:k<=xs.length
 .rw [kT h]
 .rw [kK (by lk),YC (yh _),YC (by lk)]
theorem qb6(xs:List V)(k:Nat):qbb xs (some (k:Int)) none=xs.drop k:=by
 unfold qbb;rw[HT.sIx_none,HT.sIx_nat];by_cases h:k<=xs.length
 .rw [kT h,YC (by rw[kH];lk)]
 .rw [kK (by lk),List.drop_length,List.drop_of_length_le (by lk)];simp
section
variable{X:Cx}{K:yg}
end
end L2
namespace HT
open PySem PySem.Spec PyProof.Rows
section
variable{prog:Program}{w:World}{A:Around}{E:Value->Shared->Prop}{s:Shared}
end
end HT
namespace L2
open PySem PySem.Spec PyProof.Rows
def tStep(K:yg)(e:TE)(f:TO):TE:=fun c H Q=>e c H fun x d=>f c d fun o b=>∃ a y z,x=.ref a/\SqT K b a [y,z]/\((o=some (-1)/\∀ p,b p=none->Q (.ref p) (upd b p (.tup [z,y])))\/(o=some 1/\Q (.ref a) b))
theorem vStep{K:yg}{d:TE}{e:TO}{c:St}{H:Hp}{Q:VK}(h:d c H fun x f=>e c f fun o b=>∃ a y z,x=.ref a/\SqT K b a [y,z]/\((o=some (-1)/\∀ p,b p=none->Q (.ref p) (upd b p (.tup [z,y])))\/(o=some 1/\Q (.ref a) b))):tStep K d e c H Q:=h
section
variable{X:Cx}{K:yg}{e st:Expr}{te:TE}{ts:TO}{p2 pos:Pos}
end
def FG(K:yg)(a:Str)(st:Stmt):Prop:=∃ f b,PySem.W.nsIn K mainGlobals a=some (some (.ref f))/\Fun K a a st f b
def FM(K:yg)(C:Addr)(m b:Str)(st:Stmt):Prop:=∃ f a,PySem.W.findIn K (.ref C) m=some (some (.ref f))/\PySem.W.isFn K (.ref f)=true/\Fun K m b st f a
def FC(K:yg)(C:Addr)(m b:Str)(st:Stmt):Prop:=∃ f a,PySem.W.findCls K (.ref C) (.type "type") m=some (.val (.ref f))/\Fun K m b st f a
structure XQ(K:yg)(C:Addr):Prop where
 xa:PySem.W.findIn K (.ref C) "__getattribute__"=some (some (.builtin "BaseException.__getattribute__"))
 xb:PySem.W.findIn K (.ref C) "__getattr__"=some none
 xd:PySem.W.mroIn K C (.type "BaseException")=some true
 xe:PySem.W.mroIn K C (.type "object")=some true
 xf:PySem.W.hasDictIn K C=true
 xg:PySem.W.findIn K (.ref C) "__class__"=some (some (.builtin "object.__class__"))
 xh:PySem.W.findIn K (.ref C) "__setattr__"=some (some (.builtin "object.__setattr__"))
 p:PySem.W.keepIn K (.ref C)=true
section
variable{P:Program}{w:World}{K:yg}{mg:Str->Option Value}{base h:Heap}{CX:CXT}{k:Nat}{sp:Sp}{st:Stmt}{f:Addr}{fd:FuncData}{ps:LS}{nm m ql x:Str}{C:Addr}
theorem lN0{P:List Value->Prop}(h:P []):∀ us:List Value,us.length=0->P us:=fun us e=>by rw[List.eq_nil_of_length_eq_zero e];show h
theorem lNs{P:List Value->Prop}{n:Nat}(h:∀ a r,r.length=n->P (a::r)):∀ us:List Value,us.length=n+1->P us:=fun us e=>by
 cases us with
 |nil=>cases e
 |cons a r=>show h a r (Nat.succ.inj e)
theorem lN1{P:List Value->Prop}(h:∀ a,P [a]):∀ us:List Value,us.length=1->P us:=lNs fun a=>lN0 (h a)
theorem lN2{P:List Value->Prop}(h:∀ a b,P [a,b]):∀ us:List Value,us.length=2->P us:=lNs fun a=>lN1 (h a)
theorem lN3{P:List Value->Prop}(h:∀ a b c,P [a,b,c]):∀ us:List Value,us.length=3->P us:=lNs fun a=>lN2 (h a)
theorem lN4{P:List Value->Prop}(h:∀ a b c d,P [a,b,c,d]):∀ us:List Value,us.length=4->P us:=lNs fun a=>lN3 (h a)
abbrev BA(x ql:Str)(st:Stmt)(ps:LS):Prop:=∀(kV b d:Value) (c:Option Addr) (a ct:Value) (us:List Value),us.length=ps.length->bindArgs (PySem.W.fnOf x ql (qab st) (zf st) (qg st) .none kV b d c a ct) ⟨us,[]⟩=pure (ps.zip us)
theorem fg_mk(X:K.In h)(G:h.Ns mainGlobals mg)(a:PySem.W.nsIn K mainGlobals nm=some (some (.ref f)))(F:Fun K nm nm st f fd)(o:FnOk P w K mg base CX k f fd ps sp)
  (b:BA nm nm st ps:=by first | (show fun _ _ _ _ _ _=>lN1 fun _=>rfl) | (show fun _ _ _ _ _ _=>lN2 fun _ _=>rfl) | (show fun _ _ _ _ _ _=>lN3 fun _ _ _=>rfl) | (show fun _ _ _ _ _ _=>lN4 fun _ _ _ _=>rfl)) :
  DefOk P w K mg base CX k nm ps sp:=⟨_,_,o,PySem.W.mg_of X G a,F.kp,F.binds b⟩
theorem fm_mk(b:Cls K C)(a:PySem.W.findIn K (.ref C) m=some (some (.ref f)))(n:PySem.W.isFn K (.ref f)=true)(F:Fun K m ql st f fd)(o:FnOk P w K mg base CX k f fd ps sp)
  (c:BA m ql st ps:=by first | (show fun _ _ _ _ _ _=>lN1 fun _=>rfl) | (show fun _ _ _ _ _ _=>lN2 fun _ _=>rfl) | (show fun _ _ _ _ _ _=>lN3 fun _ _ _=>rfl) | (show fun _ _ _ _ _ _=>lN4 fun _ _ _ _=>rfl)) :
  MethOk P w K mg base CX k C m ps sp:=⟨⟨_,_,o,⟨a,n,F.kp⟩,F.binds c⟩,b⟩
theorem fw_mk(X:K.In h)(G:h.Ns mainGlobals mg)(c:PySem.W.nsIn K mainGlobals x=some (some (.ref C)))(d:PySem.W.makesIn K C=true)(e:PySem.W.keepIn K (.ref C)=true)(a:PySem.W.findIn K (.ref C) "__init__"=some (some (.ref f)))(n:PySem.W.isFn K (.ref f)=true)(F:Fun K "__init__" ql st f fd)(o:FnOk P w K mg base CX k f fd ps sp)
  (b:BA "__init__" ql st ps:=by first | (show fun _ _ _ _ _ _=>lN1 fun _=>rfl) | (show fun _ _ _ _ _ _=>lN2 fun _ _=>rfl) | (show fun _ _ _ _ _ _=>lN3 fun _ _ _=>rfl)) :
  MakeOk P w K mg base CX k C x ps sp:=⟨⟨_,_,o,⟨d,a,n,e⟩,F.binds b⟩,PySem.W.mg_of X G c⟩
end
end L2
namespace HT
open PySem PySem.Spec PyProof.Rows
section
variable{prog:Program}{w:World}{A:Around}{E:Value->Shared->Prop}{s:Shared}
end
end HT
namespace L2
open PySem PySem.Spec PyProof.Rows
variable{H:Hp}{R:It->Hp->Prop}{es:List Expr}{pos:Pos}{te:TE}{σ:St}
section
variable{X:Cx}{K:yg}{pos p:Pos}{x:Str}
end
section
variable{X:Cx}{K:yg}{e lo st:Expr}{te:TE}{tl ts:TO}{p2 pos:Pos}
def qfU(K:yg)(te:TE):TI:=fun σ H R=>te σ H fun v b=>∃ a xs,v=.ref a/\SqL K b a xs/\R (Itl K a) b
theorem qeF{K:yg}(h:te σ H fun v b=>∃ a xs,v=.ref a/\SqL K b a xs/\R (Itl K a) b):qfU K te σ H R:=h
theorem qdC{u:Expr}(j:X.K=K)(m:PE X e te):PI X u e (qfU K te):=by
 subst j;intro c s σ H R I h;show thn (m c s σ H _ I h) fun v d ⟨y,g,f,t,a,xs,i,n,q⟩=>?_;subst i;cases t
 have fp:∀ b∈[d.heap.objs.size],qcl X c g b:=fun b l=>by
  have e:b=d.heap.objs.size:=by simpa using l
  subst e;show f.fpOk (yh _) (f.hok.fresh (yh _))
 obtain⟨r,w,p,hz⟩:=f.list n;show kj p.isList ⟨d.heap.objs.size,[d.heap.objs.size],_,_,g,rfl,f.kept (t':=d.toks) fun b o e=>yw _ e,qbN a _,⟨_,yR _ rfl,rfl,rfl⟩,fp,q⟩
end
noncomputable def Itz(K:yg)(a b:Addr):It:=
 ⟨fun i H=>∃ xs ys x y,SqL K H a xs/\SqL K H b ys/\xs[i]?=some x/\ys[i]?=some y,fun i H v H'=>∃ t x y,v=.ref t/\H t=none/\H'=upd H t (.tup [x,y])/\(∀ xs,SqL K H a xs->xs[i]?=some x)/\∀ ys,SqL K H b ys->ys[i]?=some y,fun i H=>∃ xs ys,SqL K H a xs/\SqL K H b ys/\(xs.length<=i\/ys.length<=i)⟩
def tnZ(z TI TO c d a b:Addr)(i:Nat)(h:Heap):Prop:=IsZip h z TI TO .none/\IsPair h TI (.ref c) (.ref d)/\(∃ u v,IsPair h TO u v)/\h.IsListIter c a i/\h.IsListIter d b i
theorem turn_zip{P:Program}{w:World}{K:yg}{x1}(a b z TI TO n q:Addr)(D:ZipApart z TI TO n q a b):Turn P w K (.Tuple es x1 pos) (Itz K a b) [z,TI,TO,n,q] z (tnZ z TI TO n q a b) where
 mem:=by simp
 obj:=fun i h st c hc=>by
  obtain⟨hz,d,⟨u,v,g⟩,⟨o1,e1,c1,d1⟩,⟨o2,e2,c2,d2⟩⟩:=st;simp only[yB,yW,YU] at hc;rcases hc with rfl | rfl | rfl | rfl | rfl
  .show⟨_,hz,fun v z=>by have F:Data.fields _=Data.cell v:=z;cases F⟩
  .show⟨_,d,fun v z=>by have F:Data.seq _ _=Data.cell v:=z;cases F⟩
  .show⟨_,g,fun v z=>by have F:Data.seq _ _=Data.cell v:=z;cases F⟩
  .show⟨o1,e1,fun v z=>by rw[d1] at z;cases z⟩
  .show⟨o2,e2,fun v z=>by rw[d2] at z;cases z⟩
 keep:=fun i h h' st k=>by
  obtain⟨hz,d,⟨u,v,g⟩,h1,t⟩:=st;show⟨k z (by simp) _ hz,k TI (by simp) _ d,⟨u,v,k TO (by simp) _ g⟩,h1.at fun o x=>k n (by simp) o x,t.at fun o x=>k q (by simp) o x⟩
 item:=by
  intro X S hw R hc i l s σ H E I T st U;subst S hw R;obtain⟨hz,d,⟨u,v,g⟩,h1,t⟩:=st;obtain⟨xs,ys,x,y,J,m,hx,hy⟩:=U;obtain⟨ad,rv,p,_⟩:=I.list J;obtain⟨C,r,p2,_⟩:=I.list m;obtain⟨L,W,ag⟩:=rv.get hx;obtain⟨M,Y,ah⟩:=r.get hy;show wpAny_pyNext_zip_item D hz d g h1 t p.isList p2.isList (x:=L) (y:=M) (by simpa using W) (by simpa using Y) fun h' ab A N O hT hsz G=>?_;show⟨_,rfl,wpAny_letOwnedTupleGo_zip ab fun h3 ac j=>?_⟩;have fre:H s.heap.objs.size=none:=I.hok.fresh (yh _);have lt:∀{c o},s.heap.get? c=some o->s.heap.objs.size≠c:=fun e=>Yn (yL e);have nz:=lt hz;have ae:=lt d;have af:=lt g;have n1:s.heap.objs.size≠n:=by obtain⟨_,e,_⟩:=h1;show lt e
  have n2:s.heap.objs.size≠q:=by obtain⟨_,e,_⟩:=t;show lt e
  have I1:Inv X l σ (upd H s.heap.objs.size (.tup [x,y])) { s with heap:=s.heap.push { cls:=.type "tuple",data:=.seq #[L,M] },toks:=s.toks }:=
   I.laid (fun b u e=>yw _ e) (yh _) ⟨by show 2<=sizeLine;decide,[L,M],.cons ag (.cons ah .nil),⟨_,yR _ rfl,rfl,_,rfl⟩⟩
  have B:∀ c∈[z,TI,TO,n,q],qcl X l (upd H s.heap.objs.size (.tup [x,y])) c:=fun c hc=>by
   obtain⟨f0,f⟩:=T c hc;show⟨?_,f⟩;rw[qe]
   .show f0
   .simp only[yB,yW,YU] at hc;rcases hc with rfl | rfl | rfl | rfl | rfl
    .show nz.symm
    .show ae.symm
    .show af.symm
    .show n1.symm
    .show n2.symm
  have kk:∀ c o,c∉[z,TI,TO,n,q]->(s.heap.push { cls:=.type "tuple",data:=.seq #[L,M] }).get? c=some o->h3.get? c=some o:=fun c o hc e=>by
   simp only[yB,yW,YU,not_or] at hc;show j.extBut _ _ hc.1 ?_;by_cases hz:c=s.heap.objs.size
   .subst hz;rw[yR _ rfl] at e;cases e;show hT
   .show G c o hc.1 hc.2.2.1 hc.2.2.2.1 hc.2.2.2.2 (push_some e hz)
  have I2:=I1.turnedL (h':=h3) (t':=s.toks) (fp:=[z,TI,TO,n,q]) kk B;show⟨.ref s.heap.objs.size,_,I2,rfl,⟨_,x,y,rfl,fre,rfl,fun ai Z=>by rw[I.list_inj Z J];show hx,fun ys' aa=>by rw[I.list_inj aa m];show hy⟩,⟨ac,?_,⟨_,_,j.extBut _ _ D.TOz A⟩,N.extBut j.extBut D.i1z,O.extBut j.extBut D.i2z⟩,fun c hc=>(B c hc).1⟩;show j.extBut _ _ D.TIz (G _ _ D.TIz D.TITO D.TIi1 D.TIi2 d)
 done:=by
  intro X S hw R hc i l s σ H E I T st U;subst S hw R;obtain⟨hz,d,⟨u,v,g⟩,h1,t⟩:=st;obtain⟨xs,ys,J,m,he⟩:=U;obtain⟨ad,rv,p,_⟩:=I.list J;obtain⟨C,r,p2,_⟩:=I.list m;have l1:=rv.length;have l2:=r.length;show wpAny_pyNext_zip_end (I.ok.hd hc) D hz d g h1 t p.isList p2.isList (he.imp (fun e=>xV (by simp;lk)) fun e=>xV (by simp;lk)) fun h' G=>⟨rfl,I.turnedL (t':=s.toks) (fp:=[z,TI,TO,n,q]) (fun c o hc e=>?_) T⟩;simp only[yB,yW,YU,not_or] at hc;show G c o hc.1 hc.2.2.1 hc.2.2.2.1 hc.2.2.2.2 e
 self:=fun _ _ _ _ _ st h=>kL st.1 h
theorem qcY:bootBuiltins "zip"=some (.type "zip"):=by room
def qfV(K:yg)(d:TA):TI:=fun σ H R=>d σ H fun vs c=>∃ a b xs ys,vs=[.ref a,.ref b]/\SqL K c a xs/\SqL K c b ys/\R (Itz K a b) c
theorem vZip{K:yg}{c:TA}(h:c σ H fun vs d=>∃ a b xs ys,vs=[.ref a,.ref b]/\SqL K d a xs/\SqL K d b ys/\R (Itz K a b) d):qfV K c σ H R:=h
theorem pi_zip{X:Cx}{K:yg}{a b:Expr}{x:TA}{x1}{O p:Pos}(A:X.K=K)(C:Gl X "zip")(E:X.mg "zip"=none)(B:PA X [a,b] x)(G:starEach [a,b] X.env=[(false,eval a X.env),(false,eval b X.env)]:=by rfl)(g:starEach [b] X.env=[(false,eval b X.env)]:=by rfl):PI X (.Tuple es x1 O) (.Call (.Name "zip" p) [a,b] [] pos) (qfV K x):=by
 subst A;intro i s σ H R I h;show Call_ (qaf I C E qcY (YH (thn (B pos i s σ H _ I h) fun us f ⟨vs,y,d,M,L⟩=>?_) (by rw[G,g]) (by rw[g];rfl)));obtain⟨a,b,xs,ys,e,F,t,q⟩:=L;subst e
 cases M with
 | cons r rr =>
  cases rr with
  | cons r2 rr =>
   cases rr;cases r;cases r2;obtain⟨J,P,pl,_⟩:=d.list F;obtain⟨w,N,j,_⟩:=d.list t;have u:a<f.heap.objs.size:=by obtain⟨_,e,_⟩:=pl.isList;show yL e
   have v:b<f.heap.objs.size:=by obtain⟨_,e,_⟩:=j.isList;show yL e
   show call_zip_2 pl.isList j.isList fun h' hz l m n o hsz D=>kL hz ?_;show⟨_,[f.heap.objs.size+4,f.heap.objs.size+2,f.heap.objs.size+3,f.heap.objs.size,f.heap.objs.size+1],_,_,y,rfl,d.kept (t':=f.toks) D,turn_zip a b _ _ _ _ _ (PySem.W.ktu_apart _ _ _ u v),⟨hz,l,⟨_,_,m⟩,n,o⟩,fun c hc=>?_,q⟩;simp only[yB,yW,YU] at hc;rcases hc with rfl | rfl | rfl | rfl | rfl
   .show d.fpOk (YQ _ _) (d.hok.fresh (YQ _ _))
   .show d.fpOk (YQ _ _) (d.hok.fresh (YQ _ _))
   .show d.fpOk (YQ _ _) (d.hok.fresh (YQ _ _))
   .show d.fpOk (yh _) (d.hok.fresh (yh _))
   .show d.fpOk (Xg _) (d.hok.fresh (Xg _))
def qfW(K:yg)(te:TE)(d:TO):TE:=fun σ H Q=>te σ H fun x c=>d σ c fun o b=>o=some (-1)/\∃ a xs,x=.ref a/\SqL K b a xs/\∀ p,b p=none->Q (.ref p) (upd b p (.lst xs.reverse))
theorem qfX{K:yg}{c:TO}{Q:VK}(h:te σ H fun x d=>c σ d fun o b=>o=some (-1)/\∃ a xs,x=.ref a/\SqL K b a xs/\∀ p,b p=none->Q (.ref p) (upd b p (.lst xs.reverse))):qfW K te c σ H Q:=h
theorem qcZ:∀{xs:List V} {us:List Value},Vals xs us->Vals xs.reverse us.reverse
 | _,_,.nil=>.nil
 | _,_,.cons r t=>by
  rw[List.reverse_cons,List.reverse_cons];show(qcZ t).append (.cons r .nil)
section
variable{X:Cx}{K:yg}{e st:Expr}{te:TE}{ts:TO}{p2 pos:Pos}
theorem qej(u:X.K=K)(y:PE X e te)(B:PO X (some st) ts):PE X (.Subscript e (.Slice none none (some st) p2) pos) (qfW K te ts):=by
 subst u;intro c s σ H Q I h;show Subscript_ (thn (y c s σ H _ I h) fun v J ⟨x,l,n,G,F⟩=>?_);show wpAny_Slice ?_;rw[kD];show yv ?_;show yv ?_;show thn (B c J σ l _ n F) fun j d ⟨o,m,p,pt,t,a,xs,ex,C,q⟩=>?_;subst t ex;cases G;have f:Inv X c σ m { d with heap:=d.heap.push { cls:=.type "slice",data:=.fields #[.none,.none,j] } }:=p.kept (t':=d.toks) fun b E q=>yw _ q;obtain⟨D,r,i,hz⟩:=f.list C;have g:=r.length;show wpAny (model X.prog X.w) X.A (subscriptTail e (.Slice none none (some st) p2) (.ref a) (.ref d.heap.objs.size)) (EP X c σ Q) X.xe { d with heap:=d.heap.push { cls:=.type "slice",data:=.fields #[.none,.none,j] } };show tail_any (ops:=[.ref a,.ref d.heap.objs.size]) i.isList.typeIs ki.lookup (wpAny_getItem_list_slice i.isList (kf ..) .none .none pt (by decide) ?_ (by rw[yx]<;>lk)) (by with_unfolding_all rfl);rw[PySem.W.krv_pick];show⟨.ref _,_,f.laid (t':=d.toks) (o:=.lst xs.reverse) (fun b E q=>yw _ q) (yh _) ?_,rfl,q _ (f.hok.fresh (yh _))⟩;show⟨by rw[Yz];show hz,_,0,qcZ r,yR _ rfl⟩
end
section
variable{X:Cx}{a:Expr}{ta:TA}{p p2 pos pos2:Pos}
end
end L2
namespace L2
structure Sb(V:Nat->Prop):Prop where
 z:V 0
 a:∀ x y,V x->V y->V (x ^^^ y)
def jn(V:Nat->Prop)(x:Nat):Nat->Prop:=fun y=>V y\/V (y ^^^ x)
def Spn:LN->Nat->Prop
 | []=>fun y=>y=0
 | a::L=>jn (Spn L) a
open Classical in
def Bnd(b n v:Nat):Prop:=∀ i,v.testBit i=true->b<=i/\i<b+n
open Classical in
noncomputable def swp:Nat->Nat->LN->Nat
 | 0,_,_=>0
 | n+1,b,L=>match L.filter (fun v=>v.testBit b) with
  | []=>swp n (b+1) L
  | p::t=>1+swp n (b+1) (L.filter (fun v=>!v.testBit b)++t.map fun v=>v ^^^ p)
open Classical in
noncomputable def rk(L:LN):Nat:=swp 30 0 L
open Classical in
noncomputable def les:Nat×Nat->List (Nat×Nat)->Nat×Nat
 | s,[]=>s
 | s,o::os=>if s.1 ^^^ o.1<s.1 then les (s.1 ^^^ o.1,s.2 ^^^ o.2) os else les s os
structure Ech(os:List (Nat×Nat)):Prop where
 nz:∀ o∈os,o.1≠0
 pw:os.Pairwise fun a b=>b.1.testBit a.1.log2=false
noncomputable def csm:LN->Nat->Nat->Nat
 | [],_,_=>0
 | a::L,k,c=>(if c.testBit k then a else 0) ^^^ csm L (k+1) c
noncomputable def stp(st:List (Nat×Nat))(n v:Nat):List (Nat×Nat):=if (les (v,1 <<< n) st).1=0 then st else st++[les (v,1 <<< n) st]
structure Stp(L:LN)(n:Nat)(st:List (Nat×Nat)):Prop where
 ech:Ech st
 sum:∀ o∈st,csm L 0 o.2=o.1
 low:∀ o∈st,o.2<2 ^ n
 lt:∀ o∈st,o.1<2 ^ 30
 spn:∀ v,Spn (st.map (·.1)) v↔Spn (L.take n) v
 free:st.map (fun o=>o.2.log2)=(List.range n).filter fun i=>decide (rk (L.take i)<rk (L.take (i+1)))
 len:st.length<=n
end L2
namespace L2
open PySem PySem.Spec PyProof.Rows
variable{i j:Nat}
section
variable{X:Cx}
end
def Fl:V->Prop
 | .non=>True
 | .bl _=>True
 | .int i=>-999999999999<=i/\i<=999999999999
 | _=>False
noncomputable def fD:V->PyData
 | .non=>.none
 | .bl b=>.bool b
 | .int i=>.int i
 | .str x=>.str x
 | _=>.none
def FlS(xs:List V):Prop:=xs.length<=1000/\∀ x∈xs,Fl x
def ShwT(H:Hp)(v:V)(t:Str):Prop:=match v with
 | .non=>t="None"
 | .bl b=>t=if b then Str.ofString "True" else Str.ofString "False"
 | .int i=>i.natAbs.log2<1920/\t=toString i
 | .str x=>(reprText x).length<=sizeLine/\t=reprText x
 | .ref p=>(∃ xs,H p=some (.lst xs)/\FlS xs/\t=(PyData.list (xs.map fD)).shown)\/∃ xs,H p=some (.tup xs)/\FlS xs/\t=(PyData.tuple (xs.map fD)).shown
 | _=>False
section
variable{X:Cx}{K:yg}
end
theorem gk_two{b n:Nat}{K:yg}(o:i<b:=by decide)(p:j<b:=by decide):qdw b (qfj K n (qew (qbt i) (qew (qbt j) qfJ))):=by
 intro x t H Q ⟨a,xs,e,h,g,v,r,c,m,l,d,q⟩;obtain⟨f,q⟩:=q;show⟨a,xs,e,h,g,v,r,c,m,l,d,f,q,?_,fun k s=>?_⟩
 .rw [XW,XW]
 .rw [xF (by lk),xF (by lk)]
section
variable{K:yg}{a:Addr}{xs:List V}{g:TG}{tc:TT}{te:TE}{σ':St}{H1:Hp}{Q:V->Hp->Prop}
end
section
variable{K:yg}{a b:Addr}{xs ys:List V}{g:TG}{tc:TT}{te:TE}{σ':St}{H1:Hp}{Q:V->Hp->Prop}
theorem comp_zip(F:ys.length<=xs.length)(d:Nat->List V->Hp->Prop)(s:d 0 [] H1)(hl:∀ i c H,i<=ys.length->d i c H->SqL K H a xs/\SqL K H b ys)
  (B:∀ i x y t c H,xs[i]?=some x->ys[i]?=some y->H t=none->d i c H->g (.ref t) σ' (upd H t (.tup [x,y])) fun h o=>tc h o fun b n=>if b=true then te h n fun v r=>c.length<sizeLine/\d (i+1) (c++[v]) r else d (i+1) c n)
  (w:∀ c H,d ys.length c H->c.length<=sizeLine/\∀ p,H p=none->Q (.ref p) (upd H p (.lst c))):qdx (Itz K a b) g tc te σ' H1 Q:=by
 show⟨fun i m c H=>m=ys.length-i/\i<=ys.length/\d i c H,⟨ys.length,by simp,YF _,s⟩,?_⟩;rintro i m c H ⟨rfl,A,p⟩;obtain⟨q,l⟩:=hl i c H A p;by_cases f:i<ys.length
 .have j:i<xs.length:=by lk
  show .inr ⟨⟨xs,ys,xs[i],ys[i],q,l,by simp[j],by simp[f]⟩,d (i+1),fun ys' H' D=>⟨ys.length-(i+1),by lk,rfl,f,D⟩,fun x H' y=>?_⟩;obtain⟨t,v,u,rfl,C,rfl,y,E⟩:=y;show B i v u t c _ (y xs q) (E ys l) C p
 .have e:i=ys.length:=by lk
  subst e;show .inl ⟨⟨xs,ys,q,l,.inr (yh _)⟩,w c H p⟩
end
section
variable{X:Cx}{K:yg}
end
section
variable{X:Cx}{K:yg}{e st:Expr}{te:TE}{ts:TO}{p2 pos:Pos}
end
mutual
inductive Dat(H:Hp):V->PyData->Prop
 | non:Dat H .non .none
 | bl (b:Bool):Dat H (.bl b) (.bool b)
 | int (i:Int):Dat H (.int i) (.int i)
 | str (x:Str):Dat H (.str x) (.str x)
 | lst {a:Addr} {xs:List V} {ds:List PyData}:H a=some (.lst xs)->DatS H xs ds->Dat H (.ref a) (.list ds)
 | tup {a:Addr} {xs:List V} {ds:List PyData}:H a=some (.tup xs)->DatS H xs ds->Dat H (.ref a) (.tuple ds)
 | dnil {a:Addr}:H a=some (.dK [])->Dat H (.ref a) (.dict [])
inductive DatS(H:Hp):List V->List PyData->Prop
 | nil:DatS H [] []
 | cons {v:V} {vs:List V} {d:PyData} {ds:List PyData}:Dat H v d->DatS H vs ds->DatS H (v::vs) (d::ds)
end
structure Shw(d:PyData)(n m:Nat):Prop where
 s:d.showable=true
 l:d.leavesShort 13=true
 b:d.bulk<=n
 p:d.depth<=m
structure ShwS(ds:List PyData)(n m:Nat):Prop where
 s:PyData.showableAll ds=true
 l:PyData.leavesShortAll 13 ds=true
 b:PyData.bulkAll ds<=n
 p:PyData.depthAll ds<=m
section
variable{X:Cx}{K:yg}{pins:List (Addr×Obj)}{σ:List (Option V)}{H:Hp}{s:Shared}
end
section
variable{X:Cx}{tg elt iter:Expr}{ifs:List Expr}{scope sc1:Scope}{pos:Pos}{N N1:LS}{nl:Nat}{ixs:LN}{wi:TI}{g:TG}{tc:TT}{te:TE}{C1:Addr}{s1:Shared}{H1:Hp}{ex1:LQ}
end
section
variable{X:Cx}{K:yg}
theorem qb7{e ty:TE}{b:St}{H:Hp}{Q:VK}(h:e b H fun x c=>∃ a,x=.ref a/\IsD c a/\ty b c fun y d=>∃ o,DGet d a y o/\Q (o.getD .non) d):qeb e ty b H Q:=h
end
noncomputable abbrev Cx.soft(X:Cx):Cx:={ X with calm:=false }
structure RoomW(k:Nat)(A:Around):Prop where
 dp:A.depth+3*k+5<recursionLimit
 un:A.units+16*k+200<cLine
 gd:A.guards=some []
theorem RoomW.deeper{k:Nat}{A:Around}(r:RoomW (k+1) A)(env:Env):RoomW k (A.deeper env):=
 ⟨by have:=r.dp;show A.depth+1+3*k+5<_;lk,by have:=r.un;show A.units+3+16*k+200<_;lk,r.gd⟩
theorem Room.soft{j k:Nat}{A:Around}{h:Option Value}(r:Room k A)(l:j<=k):RoomW j (A.mark h):=⟨by have:=r.dp;show A.depth+3*j+5<_;lk,by have:=r.un;show A.units+16*j+200<_;lk,r.gd⟩
structure FnOkW(P:Program)(w:World)(K:yg)(mg:Str->Option Value)(base:Heap)(k:Nat)(f:Addr)(fd:FuncData)(ps:LS)(sp:Sp):Prop where
 len:∀ vs H Q E,sp vs H Q E->vs.length=ps.length
 run:∀(A:Around) (outer:List Env) (s:Shared) (H:Hp) (args:Args) (us:List Value) (vs:List V) (Q:VK) (E:XK),RoomW k A->Env0 P w K mg base A outer s H->BindsTo s fd args (ps.zip us)->Vals vs us->sp vs H Q E ->
  codeAny (model P w) A (.call (.ref f) args) (CR CX0 outer P w H s Q E) s
structure DefOkW(P:Program)(w:World)(K:yg)(mg:Str->Option Value)(base:Heap)(k:Nat)(x:Str)(ps:LS)(sp:Sp):Prop where
 ex:∃ f fd,FnOkW P w K mg base k f fd ps sp/\mg x=some (.ref f)/\PySem.W.keepIn K (.ref f)=true/\Binds K fd ps []
section
variable{X:Cx}{k:Nat}{f C:Addr}{fd:FuncData}{ps:LS}{sp:Sp}{x m:Str}{p pos apos:Pos}{e o:Expr}{es:List Expr}{ta:TE}{t:TA}
end
section
variable{P:Program}{w:World}{K:yg}{mg:Str->Option Value}{base:Heap}
end
theorem Inv.laidM{X:Cx}{a:List (Addr×Obj)}{g:St}{H H':Hp}{s:Shared}{h':Heap}{t':Nat}(I:Inv X a g H s)(k:∀ b u,s.heap.get? b=some u->h'.get? b=some u)
  (d:∀ b,b<s.heap.objs.size->H' b=H b) (new:∀ b u,s.heap.objs.size<=b->H' b=some u->ObjOk X.prog X.w H' h' b u):Inv X a g H' { s with heap:=h',toks:=t' }:=by
 have lt:∀ b u,H b=some u->b<s.heap.objs.size:=fun b u e=>XI fun z=>by rw[I.hok.fresh z] at e;cases e
 have up:∀ b u,H b=some u->H' b=some u:=fun b u e=>(d b (lt b u e)).trans e;show I.step (g':=s.gens) (d':=s.drawn) (ch:=[]) (fun b f=>by simp at f) (fun b o _ _ _ e _=>k b o e) (fun b o _ _ _ e _=>⟨o.slots,k b o e⟩) (fun b o _ e n=>(d b (yL e)).trans n)
  (fun b o _ e=>⟨o,k b o e⟩) (fun b xs e=>up b _ e) (fun b _ _ e=>up b _ e) (fun b ps e=>⟨#[],by rw[up b _ e];simp⟩) (fun m ⟨o,h,ep,i,r⟩=>⟨o,h,ep,k _ o i,r⟩) (fun b u e=>?_) I.bare
 by_cases f:s.heap.objs.size<=b
 .show new b u f e
 .rw [d b (XI f)] at e;show(I.hok b u e).stay (fun c v _ q=>k c v q) (fun c q=>up c _ q) fun c xs q=>up c _ q
section
variable{prog:Program}{w:World}{A:Around}{E:Value->Shared->Prop}{s:Shared}
theorem alive_{a:Addr}{Q:Option Obj->Shared->Prop}(h:Q (s.heap.get? a) s):wpAny (model prog w) A (loadIfAlive a) Q E s:=fun b p _=>by
 show Sem.wp _ _ (.loadIfAlive a .pure) _ _ _ _;rw[Sem.wp_loadIfAlive];simpa using h
abbrev qeM(h:Heap)(z TI TO:Addr)(b:Value)(a:Bool):Prop:=h.get? z=some { cls:=.type "zip",dict:=none,data:=.fields #[b,.bool a,.bool false,.ref TI,.ref TO],slots:=#[] }
theorem qfa{z TI TO T:Addr}{a:Bool}{f:Obj}{Q:Bool->Shared->Prop}(hz:qeM s.heap z TI TO (rawInt T) a)(d:s.heap.get? T=some f)
  (b:∀ h',qeM h' z TI TO (rawInt T) true->Heap.SameBut z s.heap h'->Q false { s with heap:=h' }):wpAny (model prog w) A (Builtin.SmallTypes.ownedTupleIsFree (.ref z)) Q E s:=by
 unfold Builtin.SmallTypes.ownedTupleIsFree;show yt (xi hz rfl (x:=rawInt T) rfl ?_);show wpAny _ _ (loadIfAlive T>>=_) _ _ _;show yt (alive_ ?_);rw[d];show wpAny _ _ (field (.ref z) 1>>=_) _ _ _;show yt (xi hz rfl (x:=.bool a) rfl ?_)
 cases a with
 | true=>show yv (b _ hz ⟨rfl,fun _ _=>rfl⟩)
 | false =>
  show wpAny _ _ (setField (.ref z) 1 (.bool true)>>=_) _ _ _;show yt (wpAny_setField_rec hz (by simp) fun h1 c e=>yv (b h1 c e))
theorem znx{z TI TO d f a b T:Addr}{F:Bool}{M:Obj}{r t:Nat}{xs ys:Array Value}{x y:Value}{Q:Value->Shared->Prop}(D:ZipApart z TI TO d f a b)
  (hz:qeM s.heap z TI TO (rawInt T) F) (I:s.heap.get? T=some M) (n:IsPair s.heap TI (.ref d) (.ref f))
  (h1:s.heap.IsListIter d a r) (G:s.heap.IsListIter f b t) (p:s.heap.IsList a xs) (q:s.heap.IsList b ys) (J:xs[r]?=some x) (K:ys[t]?=some y)
  (H:∀ h',qeM h' z TI TO (rawInt T) true->h'.IsListIter d a (r+1)->h'.IsListIter f b (t+1)->IsPair h' s.heap.objs.size x y->h'.objs.size=s.heap.objs.size+1 ->
   (∀ c o,c≠z->c≠d->c≠f->s.heap.get? c=some o->h'.get? c=some o)->Q (.ref s.heap.objs.size) { s with heap:=h' }) :
  wpAny (model prog w) A (Builtin.«zip.__next__» ⟨[.ref z],[]⟩) (fun l P=>∃ v,l=.done (.ret v)/\Q v P) E s:=by
 show wpAny _ _ (field (.ref z) 2>>=_) _ _ _;show yt <| xi hz rfl (x:=.bool false) rfl ?_;show wpAny _ _ (field (.ref z) 3>>=_) _ _ _;show yt <| xi hz rfl (x:=.ref TI) rfl ?_;show yt <| wpAny_seqItems n rfl ?_;show wpAny _ _ (Builtin.SmallTypes.ownedTupleIsFree _>>=_) _ _ _;show yt <| qfa hz I fun S R g=>?_;simp only[YY,Xh];show yt ?_;rw[<- Xy];simp only[kR,kX];show yt (yt (Yk ?_));show wpAny _ _ (Builtin.SmallTypes.nextOf (.ref d)>>=_) _ _ _;show yt <| XE (h1.extBut g.extBut D.i1z) (p.extBut g.extBut D.l1z) J fun U N h=>yv (yv ?_);show yt (yt (Yk ?_));show wpAny _ _ (Builtin.SmallTypes.nextOf (.ref f)>>=_) _ _ _;show yt <| XE ((G.extBut g.extBut D.i2z).extBut h.extBut D.i12.symm) ((q.extBut g.extBut D.l2z).extBut h.extBut D.l2i1) K fun m O i=>yv (yv (yv ?_));show yt (wpAny_newTuple (yv ⟨_,rfl,?_⟩) (by show 2<=sizeLine;decide));have j:m.objs.size=s.heap.objs.size:=by rw[i.1,h.1,g.1]
 have L:∀ c o,c≠z->c≠d->c≠f->s.heap.get? c=some o->m.get? c=some o:=fun c o u B C e=>i.extBut _ _ C (h.extBut _ _ B (g.extBut _ _ u e));rw[show(Value.ref m.objs.size)=.ref s.heap.objs.size by rw[j]];show H _ (yw _ (i.extBut _ _ D.i2z.symm (h.extBut _ _ D.i1z.symm R))) ((N.extBut i.extBut D.i12).at fun o e=>yw _ e) (O.at fun o e=>yw _ e) ?_ (by rw[xy,j]) fun c o u B C e=>yw _ (L c o u B C e);rw[<- j];show yR _ rfl
theorem zne{z TI TO h i a b T:Addr}{F:Bool}{L:Obj}{r t:Nat}{xs ys:Array Value}{Q:Fin->Shared->Prop}(C:A.handled=none)(D:ZipApart z TI TO h i a b)
  (hz:qeM s.heap z TI TO (rawInt T) F) (I:s.heap.get? T=some L) (l:IsPair s.heap TI (.ref h) (.ref i))
  (h1:s.heap.IsListIter h a r) (H:s.heap.IsListIter i b t) (g:s.heap.IsList a xs) (n:s.heap.IsList b ys) (f:xs[r]?=none\/ys[t]?=none)
  (B:∀ h' e,(∀ c o,c≠z->c≠h->c≠i->s.heap.get? c=some o->h'.get? c=some o)->(∃ o,h'.get? e=some o/\o.cls=.type "StopIteration")->E (.ref e) { s with heap:=h' }) :
  wpAny (model prog w) A (Builtin.«zip.__next__» ⟨[.ref z],[]⟩) Q E s:=by
 show wpAny _ _ (field (.ref z) 2>>=_) _ _ _;show yt <| xi hz rfl (x:=.bool false) rfl ?_;show wpAny _ _ (field (.ref z) 3>>=_) _ _ _;show yt <| xi hz rfl (x:=.ref TI) rfl ?_;show yt <| wpAny_seqItems l rfl ?_;show wpAny _ _ (Builtin.SmallTypes.ownedTupleIsFree _>>=_) _ _ _;show yt <| qfa hz I fun N P d=>?_;simp only[YY,Xh];show yt ?_;rw[<- Xy];simp only[kR,kX];show yt (yt (Yk ?_));show wpAny _ _ (Builtin.SmallTypes.nextOf (.ref h)>>=_) _ _ _
 cases p:xs[r]? with
 | none=>show yt <| wpAny_nextOf_list_end C (h1.extBut d.extBut D.i1z) (g.extBut d.extBut D.l1z) p fun y e j m=>B y e (fun c o u v _ q=>j _ _ v (d.extBut _ _ u q)) m
 | some x =>
  have J:ys[t]?=none:=f.elim (fun z=>by rw[p] at z;cases z) id;show yt <| XE (h1.extBut d.extBut D.i1z) (g.extBut d.extBut D.l1z) p fun y O j=>yv (yv ?_);show yt (yt (Yk ?_));show wpAny _ _ (Builtin.SmallTypes.nextOf (.ref i)>>=_) _ _ _;show yt <| wpAny_nextOf_list_end C ((H.extBut d.extBut D.i2z).extBut j.extBut D.i12.symm) ((n.extBut d.extBut D.l2z).extBut j.extBut D.l2i1) J fun G e M m=>B G e (fun c o u v K q=>M _ _ K (j.extBut _ _ v (d.extBut _ _ u q))) m
def ZAt(z TI TO N:Nat)(h:Heap):Prop:=IsZip h z TI TO .none\/∃ T a o,N<=T/\qeM h z TI TO (rawInt (T:Nat)) a/\h.get? T=some o
theorem ZAt.typ{z TI TO N:Nat}(h:ZAt z TI TO N s.heap):s.TypeIs (.ref z) "zip":=by
 rcases h with e | ⟨_,_,_,_,e,_⟩<;>show⟨_,e,rfl⟩
theorem znx_any{z TI TO h i a b N:Addr}{G H:Nat}{xs ys:Array Value}{x y:Value}{Q:Option Value->Shared->Prop}(D:ZipApart z TI TO h i a b)(O:N<=s.heap.objs.size)
  (hz:ZAt z TI TO N s.heap) (l:IsPair s.heap TI (.ref h) (.ref i)) (d:∃ u v,IsPair s.heap TO u v)
  (h1:s.heap.IsListIter h a G) (I:s.heap.IsListIter i b H) (m:s.heap.IsList a xs) (n:s.heap.IsList b ys) (K:xs[G]?=some x) (L:ys[H]?=some y) (f:z<N/\h<N/\i<N)
  (J:∀ h',ZAt z TI TO N h'->(∃ u v,IsPair h' TO u v)->h'.IsListIter h a (G+1)->h'.IsListIter i b (H+1)->IsPair h' s.heap.objs.size x y->h'.objs.size=s.heap.objs.size+1 ->
   (∀ c o,c≠z->c≠TO->c≠h->c≠i->s.heap.get? c=some o->h'.get? c=some o)->Q (some (.ref s.heap.objs.size)) { s with heap:=h' }) :
  wpAny (model prog w) A (pyNext (.ref z)) Q E s:=by
 obtain⟨u,v,d⟩:=d;have typ:=hz.typ;rcases hz with hz | ⟨T,b1,o,hT,hz,ho⟩
 .show wpAny_pyNext_zip_item D hz l d h1 I m n K L fun g r M t B p C j=>J g (.inr ⟨s.heap.objs.size,false,_,O,r,p⟩) ⟨_,_,M⟩ t B p C j
 .unfold pyNext;show yt (XS (xM (name:=Str.ofString "__next__") typ XZ (xN XZ typ F.entry_zip_next (znx D hz ho l h1 I m n K L fun g r t B p C j=>yv ?_) (F.args_zip_next_1 _))));show J g (.inr ⟨T,true,o,hT,r,j _ _ (Yn (yj f.1 hT)) (Yn (yj f.2.1 hT)) (Yn (yj f.2.2 hT)) ho⟩) ⟨_,_,j _ _ D.TOz D.TOi1 D.TOi2 d⟩ t B p C fun c q P _ R S e=>j c q P R S e
theorem zne_any{z TI TO l m a b N:Addr}{t x:Nat}{xs ys:Array Value}{Q:Option Value->Shared->Prop}(r:A.handled=none)(D:ZipApart z TI TO l m a b)
  (hz:ZAt z TI TO N s.heap) (h:IsPair s.heap TI (.ref l) (.ref m)) (f:∃ u v,IsPair s.heap TO u v)
  (h1:s.heap.IsListIter l a t) (n:s.heap.IsListIter m b x) (i:s.heap.IsList a xs) (j:s.heap.IsList b ys) (d:xs[t]?=none\/ys[x]?=none)
  (p:∀ h',(∀ c o,c≠z->c≠TO->c≠l->c≠m->s.heap.get? c=some o->h'.get? c=some o)->Q none { s with heap:=h' }):wpAny (model prog w) A (pyNext (.ref z)) Q E s:=by
 obtain⟨u,v,f⟩:=f;have typ:=hz.typ;rcases hz with hz | ⟨T,b1,o,hT,hz,ho⟩
 .show wpAny_pyNext_zip_end r D hz h f h1 n i j d p
 .unfold pyNext;show yt (XS (xM (name:=Str.ofString "__next__") typ XZ (xN XZ typ F.entry_zip_next (zne r D hz ho h h1 n i j d fun g e k y=>?_) (F.args_zip_next_1 _))));obtain⟨q,B,hc⟩:=y;show yt (wpAny_isInstance (T:="StopIteration") (b:=true) ⟨q,B,hc⟩ isSubtype_stop ?_);show yv (p _ fun c o C _ G H e=>k c o C G H e)
end
structure LZ(z TI TO i1 i2 a b S N:Nat)(xs ys:Array Value)(h0:Heap)(i:Nat)(acc:Array Value)(c:Nat)(h:Heap):Prop where
 zp:ZAt z TI TO N h
 ti:IsPair h TI (.ref i1) (.ref i2)
 tO:∃ u v,IsPair h TO u v
 j1:h.IsListIter i1 a i
 j2:h.IsListIter i2 b i
 la:h.IsList a xs
 lb:h.IsList b ys
 ls:h.get? S=some { cls:=.type "list",dict:=none,data:=.seq acc c,slots:=#[] }
 sz:N<=h.objs.size
 len:acc.size=i
 its:∀(j:Nat) v,acc[j]?=some v->∃ t x y,v=.ref t/\N<=t/\IsPair h t x y/\xs[j]?=some x/\ys[j]?=some y
 nd:∀(j k:Nat) v,acc[j]?=some v->acc[k]?=some v->j=k
 kp:∀ q o,q<N->q≠z->q≠TO->q≠i1->q≠i2->q≠S->h0.get? q=some o->h.get? q=some o
structure LE(z TO i1 i2 S N:Nat)(xs ys:Array Value)(h0:Heap)(n:Nat)(acc:Array Value)(c:Nat)(h:Heap):Prop where
 ls:h.get? S=some { cls:=.type "list",dict:=none,data:=.seq acc c,slots:=#[] }
 len:acc.size=n
 its:∀(j:Nat) v,acc[j]?=some v->∃ t x y,v=.ref t/\N<=t/\IsPair h t x y/\xs[j]?=some x/\ys[j]?=some y
 nd:∀(j k:Nat) v,acc[j]?=some v->acc[k]?=some v->j=k
 kp:∀ q o,q<N->q≠z->q≠TO->q≠i1->q≠i2->q≠S->h0.get? q=some o->h.get? q=some o
structure LA(z TI TO i1 i2 a b S N:Nat):Prop where
 D:ZipApart z TI TO i1 i2 a b
 lt:z<S/\TI<S/\TO<S/\i1<S/\i2<S/\a<S/\b<S
 S:S<N
theorem LZ.at{z TI TO g l a b S N:Nat}{xs ys:Array Value}{w h h':Heap}{i c r:Nat}{acc d:Array Value}(L:LA z TI TO g l a b S N)(x:LZ z TI TO g l a b S N xs ys w i acc c h)
  (k:Heap.SameBut S h h') (R:h'.get? S=some { cls:=.type "list",dict:=none,data:=.seq d r,slots:=#[] }) (len:d.size=i) (m:∀(j:Nat) v,d[j]?=some v->∃ t x y,v=.ref t/\N<=t/\IsPair h t x y/\xs[j]?=some x/\ys[j]?=some y) (nd:∀(j k:Nat) v,d[j]?=some v->d[k]?=some v->j=k):LZ z TI TO g l a b S N xs ys w i d r h':=by
 obtain⟨l1,l2,J,K,M,O,P⟩:=L.lt;have A:=L.S;have f:∀{q o},q≠S->h.get? q=some o->h'.get? q=some o:=fun n e=>k.extBut _ _ n e;show⟨?_,f (yE l2) x.ti,?_,x.j1.at fun o e=>f (yE K) e,x.j2.at fun o e=>f (yE M) e,x.la.extBut k.extBut (yE O),x.lb.extBut k.extBut (yE P),R,by rw[k.1];show x.sz,len,fun j v e=>?_,nd,fun q o B C D E F p e=>f p (x.kp q o B C D E F p e)⟩
 .rcases x.zp with e | ⟨T,b1,o,hT,e,eo⟩
  .show .inl (f (yE l1) e)
  .show .inr ⟨T,b1,o,hT,f (yE l1) e,f (Yn (yj A hT)) eo⟩
 .obtain⟨u,v,e⟩:=x.tO;show⟨u,v,f (yE J) e⟩
 .obtain⟨t,u,v,G,s,H,I⟩:=m j v e;show⟨t,u,v,G,s,f (Yn (yj A s)) H,I⟩
section
variable{prog:Program}{w:World}{A:Around}{R:Result->Shared->Prop}{z TI TO i1 i2 a b S N:Nat}{xs ys:Array Value}{h0:Heap}
theorem zloop(hh:A.handled=none)(L:LA z TI TO i1 i2 a b S N)(hn:min xs.size ys.size<=2 ^ 24)(res:Value):∀(k i:Nat) (s:Shared) (acc:Array Value) (c:Nat),min xs.size ys.size-i=k->i<=min xs.size ys.size->LZ z TI TO i1 i2 a b S N xs ys h0 i acc c s.heap ->
  (∀ h' M O,LE z TO i1 i2 S N xs ys h0 (min xs.size ys.size) M O h'->R (.ok (.ret res)) { s with heap:=h' })->codeAny (model prog w) A (.builtin "list.extend.loop" ⟨[.ref S,.ref z,res],[]⟩) R s:=by
 have C:=L.S;obtain⟨l1,l2,U,E,G,l6,l7⟩:=L.lt;have p:∀{t q:Nat},N<=t->q<S->t≠q:=fun h1 h2=>by lk
 intro k
 induction k with
 | zero =>
  intro i s acc c hk hi x hR;show codeAny_builtin F.entry_extend_loop ?_;rw[Around.under_plainId Xp _];show wpAny _ A.in1 (pyNext _>>=_) _ _ s
  have he:xs[i]?=none\/ys[i]?=none:=by
   rcases Nat.le_total xs.size ys.size with q | q
   .show .inl (xV (by lk))
   .show .inr (xV (by lk))
  show yt (zne_any hh L.D x.zp x.ti x.tO x.j1 x.j2 x.la x.lb he fun h' l=>yv (hR h' acc c ⟨?_,by rw[x.len];lk,fun j v e=>?_,x.nd,fun q o H y I J K X e=>l q o y I J K (x.kp q o H y I J K X e)⟩))
  .show l S _ (Yn l1) (Yn U) (Yn E) (Yn G) x.ls
  .obtain⟨t,u,v,m,g,e3,e4⟩:=x.its j v e;show⟨t,u,v,m,g,l t _ (p g l1) (p g U) (p g E) (p g G) e3,e4⟩
 | succ k ih =>
  intro i s acc c hk hi x hR;show codeAny_builtin F.entry_extend_loop ?_;rw[Around.under_plainId Xp _];show wpAny _ A.in1 (pyNext _>>=_) _ _ s;obtain⟨u,hu⟩:∃ u,xs[i]?=some u:=⟨_,Y4 (by lk)⟩;obtain⟨v,hv⟩:∃ v,ys[i]?=some v:=⟨_,Y4 (by lk)⟩;show yt (znx_any L.D x.sz x.zp x.ti x.tO x.j1 x.j2 x.la x.lb hu hv ⟨Xj l1 C,Xj E C,Xj G C⟩ fun h1 z1 ab m g eP Z l=>?_);have P:=l S _ (Yn l1) (Yn U) (Yn E) (Yn G) x.ls;show wpAny _ A.in1 (updateSeq S (·.push (.ref s.heap.objs.size))>>=_) _ _ _;have f:=x.len;have hN:=x.sz
  have W:∀ j:Nat,acc[j]?≠some (.ref s.heap.objs.size):=fun j e=>by
   obtain⟨t,Y,w',q1,B,q3,_⟩:=x.its j _ e;cases q1;show absurd (yL q3) (Yt _)
  have aa:∀(j k:Nat) r,(acc.push (.ref s.heap.objs.size))[j]?=some r->(acc.push (.ref s.heap.objs.size))[k]?=some r->j=k:=fun j k r m g=>by
   rw[Array.getElem?_push] at m g;split at m<;>split at g
   .rename_i H y;rw[H,y]
   .cases m;show absurd g (W k)
   .cases g;show absurd m (W j)
   .show x.nd j k r m g
  obtain⟨O,ac⟩:∃ O,(h1.update S (Obj.mapSeq (·.push (.ref s.heap.objs.size)))).get? S=some { cls:=.type "list",dict:=none,data:=.seq (acc.push (.ref s.heap.objs.size)) O,slots:=#[] }:=⟨_,Y6 (Obj.mapSeq (·.push (.ref s.heap.objs.size))) P rfl⟩;show yt (X0 P rfl (yv ⟨plainId_quiet Xp _,ih (i+1) _ (acc.push (.ref s.heap.objs.size)) O (by lk) (by lk) ?_ hR⟩) ?_ ?_)
  .have sb:Heap.SameBut S h1 (h1.update S (Obj.mapSeq (·.push (.ref s.heap.objs.size)))):=YG ..;have h:∀{q o},q≠S->h1.get? q=some o->(h1.update S (Obj.mapSeq (·.push (.ref s.heap.objs.size)))).get? q=some o:=fun n e=>sb.extBut _ _ n e;show⟨?_,h (yE l2) (l _ _ L.D.TIz L.D.TITO L.D.TIi1 L.D.TIi2 x.ti),?_,m.at fun o e=>h (yE E) e,g.at fun o e=>h (yE G) e,?_,?_,ac,by rw[sb.1,Z];lk,by rw[kU,f],fun j r e=>?_,aa,fun q o H y I J K X e=>h X (l q o y I J K (x.kp q o H y I J K X e))⟩
   .rcases z1 with e | ⟨T,b1,o,hT,e,eo⟩
    .show .inl (h (yE l1) e)
    .show .inr ⟨T,b1,o,hT,h (yE l1) e,h (Yn (yj C hT)) eo⟩
   .obtain⟨Y,r,e⟩:=ab;show⟨Y,r,h (yE U) e⟩
   .obtain⟨o,e,d⟩:=x.la;show⟨o,h (yE l6) (l _ _ L.D.l1z L.D.l1TO L.D.l1i1 L.D.l1i2 e),d⟩
   .obtain⟨o,e,d⟩:=x.lb;show⟨o,h (yE l7) (l _ _ L.D.l2z L.D.l2TO L.D.l2i1 L.D.l2i2 e),d⟩
   .rw [Array.getElem?_push] at e;split at e
    .rename_i ej
     cases e;rw[ej,f];show⟨_,u,v,rfl,hN,h (Yn (yj C hN)) eP,hu,hv⟩
    .obtain⟨t,Y,w',q1,B,q3,q4⟩:=x.its j r e;show⟨t,Y,w',q1,B,h (Yn (yj C B)) (l t _ (p B l1) (p B U) (p B E) (p B G) q3),q4⟩
  .rw [f,Yi];lk
  .show(acc.push _).size<=sizeLine+1;rw[kU,f,Yi];lk
theorem zip_len0:typeLookup (.type "zip") "__len__"=pure none:=by rw[typeLookup_type,builtinLookup_eq_fast];kernel_rfl
theorem zip_hint0:typeLookup (.type "zip") "__length_hint__"=pure none:=by rw[typeLookup_type,builtinLookup_eq_fast];kernel_rfl
theorem zext{s:Shared}{p:Nat}(u:A.handled=none)(L:LA z TI TO i1 i2 a b S N)(y:min xs.size ys.size<=2 ^ 24)(res:Value)(hz:IsZip s.heap z TI TO .none)(x:LZ z TI TO i1 i2 a b S N xs ys h0 0 #[] p s.heap)
  (t:∀ h' c d,LE z TO i1 i2 S N xs ys h0 (min xs.size ys.size) c d h'->R (.ok (.ret res)) { s with heap:=h' }) :
  wpAny (model prog w) A.in1 (Builtin.List.listExtendWith (.ref S) (.ref z) res) (fun h g=>match h with | .done f=>R (.ok f) g | .again d=>d.quiet=true/\codeAny (model prog w) A d R g) (fun e g=>R (.error e) g) s:=by
 obtain⟨l1,_⟩:=L.lt;have typ:s.TypeIs (.ref z) "zip":=⟨_,hz,rfl⟩;unfold Builtin.List.listExtendWith;show yt <| wpAny_typeOf typ ?_;have B:Builtin.List.listSameRef (.ref S) (.ref z)=false:=by simp[Builtin.List.listSameRef,Yn l1]
 have o:(Value.type "zip"==.type "list")=false/\(Value.type "zip"==.type "tuple")=false:=by decide
 simp only[B,o.1,o.2,XR,YY,Xh];show yt <| kL hz <| yt <| Yk ?_;unfold Builtin.List.listLengthHint;show yt <| wpAny_specialOf typ zip_len0 ?_;show wpAny _ _ (specialOf (Value.ref z) (Str.ofString "__length_hint__")>>=_) _ _ _;show yt <| wpAny_specialOf typ zip_hint0 <| yv ?_;show wpAny _ _ (rule "list.extend.makes-room">>=fun _=>Builtin.List.listTouch (.ref S)>>=fun _=>again (.builtin "list.extend.loop" ⟨[.ref S,.ref z,res],[]⟩)) _ _ _;show yt <| wpAny_rule <| yt ?_;show wpAny _ _ (updateSeq S (·.push .none)>>=fun _=>updateSeq S (·.pop)) _ _ _;show yt <| X0 x.ls rfl ?_;have i:=Y6 (Obj.mapSeq (·.push Value.none)) x.ls rfl;show X0 (hz:=by seq_fits) i rfl ?_;have r:=Y6 (Obj.mapSeq (·.pop)) i rfl
 have C:Heap.SameBut S s.heap ((s.heap.update S (Obj.mapSeq (·.push Value.none))).update S (Obj.mapSeq (·.pop))):=by
  have l:Heap.SameBut S s.heap (s.heap.update S (Obj.mapSeq (·.push Value.none))):=YG ..;have m:Heap.SameBut S (s.heap.update S (Obj.mapSeq (·.push Value.none))) ((s.heap.update S (Obj.mapSeq (·.push Value.none))).update S (Obj.mapSeq (·.pop))):=YG ..;show⟨m.1.trans l.1,fun q n=>(m.2 q n).trans (l.2 q n)⟩
 show yv ⟨plainId_quiet Xp _,zloop u L y res _ 0 _ #[] _ rfl (YF _) (x.at L C r rfl (fun j v e=>by simp at e) fun j k v e=>by simp at e) t⟩
theorem zinit{s:Shared}{l:Nat}(o:A.handled=none)(L:LA z TI TO i1 i2 a b S N)(p:min xs.size ys.size<=2 ^ 24)(hz:IsZip s.heap z TI TO .none)(x:LZ z TI TO i1 i2 a b S N xs ys h0 0 #[] l s.heap)
  (n:∀ h' c d,LE z TO i1 i2 S N xs ys h0 (min xs.size ys.size) c d h'->R (.ok (.ret .none)) { s with heap:=h' }) :
  wpAny (model prog w) A.in1 (Builtin.«list.__init__» ⟨[.ref S,.ref z],[]⟩) (fun h g=>match h with | .done f=>R (.ok f) g | .again d=>d.quiet=true/\codeAny (model prog w) A d R g) (fun e g=>R (.error e) g) s:=by
 obtain⟨l1,_⟩:=L.lt;show wpAny _ _ (do let old <- Builtin.List.listItems (.ref S);Builtin.List.listUpdate (.ref S) (fun _=>#[]);letGo old.toList.reverse;Builtin.List.listExtendWith (.ref S) (.ref z) .none) _ _ s;show yt ?_;unfold Builtin.List.listItems;show yt <| wpAny_seqItems x.ls rfl <| yv ?_;show wpAny _ _ (updateSeq S (fun _=>#[])>>=fun _=>letGo _>>=fun _=>Builtin.List.listExtendWith (.ref S) (.ref z) .none) _ _ s;show yt <| X0 x.ls rfl ?_;have m:=Y6 (Obj.mapSeq (fun _=>(#[]:Array Value))) x.ls rfl;have i:Heap.SameBut S s.heap (s.heap.update S (Obj.mapSeq (fun _=>(#[]:Array Value)))):=YG ..;show yt <| wpAny_letGo ?_;show zext o L p .none (i.extBut _ _ (yE l1) hz) (x.at L i m rfl (fun j v e=>by simp at e) fun j k v e=>by simp at e) n
end
section
variable{prog:Program}{w:World}{A:Around}{E:Value->Shared->Prop}{s:Shared}
theorem call_list_zip{z TI TO h i a b:Nat}{xs ys:Array Value}{Q:Value->Shared->Prop}(H:A.handled=none)(D:ZipApart z TI TO h i a b)(I:min xs.size ys.size<=2 ^ 24)(hz:IsZip s.heap z TI TO .none)(l:IsPair s.heap TI (.ref h) (.ref i))(f:∃ u v,IsPair s.heap TO u v)
  (h1:s.heap.IsListIter h a 0) (y:s.heap.IsListIter i b 0) (m:s.heap.IsList a xs) (n:s.heap.IsList b ys)
  (G:∀ h' c t,LE z TO h i s.heap.objs.size (s.heap.objs.size+1) xs ys s.heap (min xs.size ys.size) c t h'->Q (.ref s.heap.objs.size) { s with heap:=h' }):wpAny (model prog w) A (call (.type "list") [.ref z]) Q E s:=by
 show callType_codes (Q₁:=fun r g=>r=.ref s.heap.objs.size/\g={ s with heap:=s.heap.push { cls:=.type "list",data:=.seq #[] } }) F.called_list (F.typeCall_list_1 _) F.entry_list_init (code_list_new _ ⟨rfl,rfl⟩) fun r g p=>?_;obtain⟨rfl,rfl⟩:=p;have B:(s.heap.push { cls:=.type "list",data:=.seq #[] }).get? s.heap.objs.size=some { cls:=.type "list",data:=.seq #[] }:=yR _ rfl;have up:∀{q o},s.heap.get? q=some o->(s.heap.push { cls:=.type "list",data:=.seq #[] }).get? q=some o:=fun e=>yw _ e;have lt:∀{q o},s.heap.get? q=some o->q<s.heap.objs.size:=fun e=>yL e;obtain⟨u,v,f⟩:=f
 have L:LA z TI TO h i a b s.heap.objs.size (s.heap.objs.size+1):=by
  show⟨D,⟨lt hz,lt l,lt f,?_,?_,?_,?_⟩,xL _⟩
  .obtain⟨_,e,_⟩:=h1;show lt e
  .obtain⟨_,e,_⟩:=y;show lt e
  .obtain⟨_,e,_⟩:=m;show lt e
  .obtain⟨_,e,_⟩:=n;show lt e
 have x:LZ z TI TO h i a b s.heap.objs.size (s.heap.objs.size+1) xs ys s.heap 0 #[] 0 (s.heap.push { cls:=.type "list",data:=.seq #[] }):=by
  show⟨.inl (up hz),up l,⟨u,v,up f⟩,h1.at fun o e=>up e,y.at fun o e=>up e,?_,?_,B,by rw[xy];show yh _,rfl,fun j v e=>by simp at e,fun j k v e=>by simp at e,fun q o _ _ _ _ _ _ e=>up e⟩
  .obtain⟨o,e,d⟩:=m;show⟨o,up e,d⟩
  .obtain⟨o,e,d⟩:=n;show⟨o,up e,d⟩
 show⟨⟨_,B,rfl⟩,F.args_list_init_2 _ _,zinit (A:=A.in1) H L I (up hz) x fun h' c t C=>⟨rfl,G h' c t C⟩⟩
end
structure Zl(H H':Hp)(l:Addr)(ts:LQ)(xs ys:List V):Prop where
 sm:L2.Same H H'
 fl:H l=none
 ls:H' l=some (.lst (ts.map V.ref))
 len:ts.length=min xs.length ys.length
 tp:∀(j:Nat) t,ts[j]?=some t->H t=none/\∃ x y,xs[j]?=some x/\ys[j]?=some y/\H' t=some (.tup [x,y])
theorem qfb(H:Hp):∀(a:LQ) (xs ys:List V),a.Nodup->a.length<=xs.length->a.length<=ys.length->∃ G:Hp,(∀(j:Nat) t x y,a[j]?=some t->xs[j]?=some x->ys[j]?=some y->G t=some (.tup [x,y]))/\∀ q,q∉a->G q=H q
 | [],_,_,_,_,_=>⟨H,fun j t x y e=>by simp at e,fun _ _=>rfl⟩
 | t::a,[],_,_,h,_=>by simp at h
 | t::a,_::_,[],_,_,h=>by simp at h
 | t::a,x::xs,y::ys,nd,h1,h2=>by
  obtain⟨m,n⟩:=yp.mp nd;obtain⟨G,i,l⟩:=qfb H a xs ys n (by simpa using h1) (by simpa using h2);show⟨upd G t (.tup [x,y]),fun j t' o p c d f=>?_,fun q g=>?_⟩
  .cases j with
   | zero=>simp at c d f;subst c d f;show qb
   | succ j =>
    have b:a[j]?=some t':=by simpa using c
    rw[qe fun z=>m (by rw[<- z];show ye b)];show i j t' o p b (by simpa using d) (by simpa using f)
  .rw [qe fun z=>g (by rw[z];show yG)];show l q fun z=>g (yI _ z)
noncomputable def refN:Value->Nat
 | .ref a=>a
 | _=>0
def tLZ(K:yg)(d:TA):TE:=fun f H Q=>d f H fun vs c=>∃ a b xs ys,vs=[.ref a,.ref b]/\SqL K c a xs/\SqL K c b ys/\xs.length<=1000/\∀ l e H',Zl c H' l e xs ys->Q (.ref l) H'
theorem vLZ{K:yg}{d:TA}{e:St}{H:Hp}{Q:VK}(h:d e H fun vs c=>∃ a b xs ys,vs=[.ref a,.ref b]/\SqL K c a xs/\SqL K c b ys/\xs.length<=1000/\∀ l f H',Zl c H' l f xs ys->Q (.ref l) H'):tLZ K d e H Q:=h
theorem qcs{X:Cx}{K:yg}{a b:Expr}{ta:TA}{p p2 ao f:Pos}(hK:X.K=K)(hc:X.calm=true)(hg:Gl X "list")(ag:Gl X "zip")(F:X.mg "list"=none)(ak:X.mg "zip"=none)(ha:PA X [a,b] ta)(hs:starEach [a,b] X.env=[(false,eval a X.env),(false,eval b X.env)]:=by rfl)(P:starEach [b] X.env=[(false,eval b X.env)]:=by rfl)
  (he:starEach [.Call (.Name "zip" p2) [a,b] [] f] X.env=[(false,eval (.Call (.Name "zip" p2) [a,b] [] f) X.env)]:=by rfl):PE X (.Call (.Name "list" p) [.Call (.Name "zip" p2) [a,b] [] f] [] ao) (tLZ K ta):=by
 subst hK;intro Z s σ H Q I h;show Call_ (qaf I hg F xw (YH (T:="list") ?_ he rfl));rw[he];show wpAny _ _ (spliced ((false,eval (.Call (.Name "zip" p2) [a,b] [] f) X.env)::[])) _ _ s;show X8 ?_;show Call_ (qaf I ag ak qcY (YH (thn (ha f Z s σ H _ I h) fun us w ⟨vs,H1,A,r1,q1⟩=>?_) (by rw[hs,P]) (by rw[P];rfl)));obtain⟨a,b,xs,ys,e,hq,al,hx,q⟩:=q1;subst e
 cases r1 with
 | cons r rr =>
  cases rr with
  | cons r2 rr =>
   cases rr;cases r;cases r2;obtain⟨C,rv,pl,_⟩:=A.list hq;obtain⟨l,aa,D,_⟩:=A.list al;have am:a<w.heap.objs.size:=by obtain⟨_,e,_⟩:=pl.isList;show yL e
   have an:b<w.heap.objs.size:=by obtain⟨_,e,_⟩:=D.isList;show yL e
   have l1:=rv.length;have l2:=aa.length;show call_zip_2 pl.isList D.isList fun h1 hz ae af ah ai hsz hk=>kh ?_;have la:h1.IsList a C.toArray:=by obtain⟨o,e,d⟩:=pl.isList;show⟨o,hk _ _ e,d⟩
   have B:h1.IsList b l.toArray:=by obtain⟨o,e,d⟩:=D.isList;show⟨o,hk _ _ e,d⟩
   show call_list_zip (A.ok.hd hc) (PySem.W.ktu_apart _ _ _ am an) (by simp only[yx];lk) hz ae ⟨_,_,af⟩ ah ai la B fun h2 acc c L=>?_;have L:LE (w.heap.objs.size+4) (w.heap.objs.size+3) w.heap.objs.size (w.heap.objs.size+1) h1.objs.size (h1.objs.size+1) C.toArray l.toArray h1 (min C.toArray.size l.toArray.size) acc c h2:=L;have O:acc.size=min xs.length ys.length:=by rw[L.len,l1,l2,yx,yx]
   obtain⟨g,R⟩:∃ g,g=acc.toList.map refN:=⟨_,rfl⟩;have n:g.length=min xs.length ys.length:=by rw[R,ya,Y1,O]
   have J:∀(j:Nat) t,g[j]?=some t->acc[j]?=some (.ref t)/\h1.objs.size+1<=t/\∃ x y,xs[j]?=some x/\ys[j]?=some y/\∃ u v,RelV x u/\RelV y v/\IsPair h2 t u v:=fun j t e=>by
    rw[R,yd,x8] at e;obtain⟨v,ev,et⟩:=yo.mp e;obtain⟨t',u1,u2,q1,q2,q3,q4,q5⟩:=L.its j v ev;subst q1;have ad:t'=t:=et;subst ad;have hj:j<acc.size:=(Array.getElem?_eq_some_iff.mp ev).1;obtain⟨x,S⟩:∃ x,xs[j]?=some x:=⟨_,yb (by lk)⟩;obtain⟨y,U⟩:∃ y,ys[j]?=some y:=⟨_,yb (by lk)⟩;obtain⟨a1,ab,ap⟩:=rv.get S;obtain⟨a2,ac,aq⟩:=aa.get U;have b1:a1=u1:=by rw[List.getElem?_toArray,ab] at q4;cases q4;rfl
    have b2:a2=u2:=by rw[List.getElem?_toArray,ac] at q5;cases q5;rfl
    subst b1 b2;show⟨ev,q2,x,y,S,U,a1,a2,ap,aq,q3⟩
   have nd:g.Nodup:=by
    show YB.mpr fun i j hi hj aj e=>?_;have M:=(J i g[i] (yb hi)).1;have N:=(J j g[j] (yb hj)).1;rw[e] at M;show absurd (L.nd i j _ M N) (yE aj)
   have mem:∀ t∈g,h1.objs.size+1<=t:=fun t ht=>by
    obtain⟨j,e⟩:=Xa.mp ht;show(J j t e).2.1
   obtain⟨G,g1,g2⟩:=qfb H1 g xs ys nd (by lk) (by lk)
   have Y:∀ q,q<w.heap.objs.size->upd G h1.objs.size (.lst (g.map V.ref)) q=H1 q:=fun q hq=>by
    rw[qe (yE (by lk))];show g2 q fun z=>by have:=mem q z;lk
   have tl:∀ t∈g,t≠h1.objs.size:=fun t ht=>by have:=mem t ht;show Yn this
   show⟨.ref _,_,A.laidM (t':=w.toks) (H':=upd G h1.objs.size (.lst (g.map V.ref))) (fun b u e=>?_) Y fun b u hb e=>?_,rfl,q _ g _ ⟨fun b o e=>?_,A.hok.fresh (by show(w.heap.objs.size:Nat)<=h1.objs.size;lk),qb,n,fun j t e=>?_⟩⟩
   .have B:∀ m:Nat,w.heap.objs.size<=m->b<m:=fun m F=>yj (yL e) F;show L.kp b u (B _ (by lk)) (yE (B _ (by lk))) (yE (B _ (by lk))) (yE (B _ (by lk))) (yE (B _ (by lk))) (yE (B _ (by lk))) (hk b u e)
   .by_cases hl:b=h1.objs.size
    .subst hl;rw[qb] at e;cases e;show⟨by rw[ya,n,Yi];lk,acc.toList,c,zO (by rw[ya,n];show O.symm) fun j y u M N=>?_,by rw[Array.toArray_toList];show L.ls⟩;rw[yd] at M;obtain⟨t,et,E⟩:=yo.mp M;subst E;rw[x8,(J j t et).1] at N;cases N;rfl
    .rw [qe hl] at e;by_cases F:b∈g
     .obtain⟨j,ej⟩:=Xa.mp F;obtain⟨_,_,x,y,ex,E,u1,u2,r1,r2,ep⟩:=J j b ej;rw[g1 j b x y ej ex E] at e;cases e;show⟨by show 2<=sizeLine;decide,[u1,u2],.cons r1 (.cons r2 .nil),⟨_,ep,rfl,_,rfl⟩⟩
     .rw [g2 b F,A.hok.fresh hb] at e;cases e
   .rw [Y b (XI fun z=>by rw[A.hok.fresh z] at e;cases e)];show e
   .obtain⟨_,N,x,y,ex,E,_⟩:=J j t e;show⟨A.hok.fresh (by lk),x,y,ex,E,?_⟩;rw[qe (tl t (ye e))];show g1 j t x y e ex E
section
variable{X:Cx}
end
end L2
namespace L2
open PySem PySem.Spec PySem.W PyProof.Rows
variable{n:Nat}{p:Array Nat}
def KOk{c:Type}(n:Nat)(P:c->Prop):KasT c->Prop
 | .ret a=>P a
 | .ask i j k=>i<n/\j<n/\∀ b,KOk n P (k b)
theorem KOk.bind{c d:Type}{P:c->Prop}{R:d->Prop}{f:c->KasT d}:∀{t:KasT c},KOk n P t->(∀ a,P a->KOk n R (f a))->KOk n R (t.bind f)
 | .ret a,h,g=>g a h
 | .ask i j k,h,g=>⟨h.1,h.2.1,fun b=>KOk.bind (h.2.2 b) g⟩
def PmA(n:Nat)(p:Array Nat):Prop:=p.toList.Perm (List.range n)
theorem PmA.of{q:Array Nat}(h:PmA n p)(e:q.Perm p):PmA n q:=(Array.perm_iff_toList_perm.mp e).trans h
theorem PmA.at_(h:PmA n p)(c:0<n)(i:Nat):p.getD i 0<n:=by
 by_cases a:i<p.size
 .have b:p.getD i 0∈p.toList:=by
   have:p.getD i 0=p[i]:=by simp[Array.getD,a]
   rw[this];simp
  show xx.mp (h.mem_iff.mp b)
 .have:p.getD i 0=0:=by simp[Array.getD,a]
  lk
section
variable{n:Nat}(h0:0<n)
include h0
theorem qct(h:PmA n p):∀ f k,KOk n (fun _=>True) (kas_asc p f k)
 | 0,k=>trivial
 | f+1,k=>by
  show⟨h.at_ h0 _,h.at_ h0 _,fun b=>?_⟩
  (try dsimp only)
  split
  .trivial
  .show qct h f (k+1)
theorem qaE:∀ f {p:Array Nat} (_:PmA n p) k q,KOk n (fun r=>PmA n r.1) (kas_desc f p k q)
 | 0,p,h,k,q=>h
 | f+1,p,h,k,q=>by
  show⟨h.at_ h0 _,h.at_ h0 _,fun b=>?_⟩
  (try dsimp only)
  split
  .split
   .show qaE f (h.of (km _ _ _ _)) _ _
   .show qaE f h _ _
  .show⟨h.at_ h0 _,h.at_ h0 _,fun b=>?_⟩
   (try dsimp only)
   split
   .show h
   .show qaE f h _ _
theorem qc0(h:PmA n p)(k m:Nat):KOk n (fun r=>PmA n r.2) (kas_tail3 k m p):=(qct h0 (h.of (km _ _ _ _)) _ _).bind fun _ _=>h.of (km _ _ _ _)
theorem qc1(h:PmA n p)(k m:Nat):KOk n (fun r=>PmA n r.2) (kas_descPart k m p):=(qaE h0 _ h _ _).bind fun r a=>by
 split
 .show qc0 h0 (a.of (km _ _ _ _)) _ _
 .show qc0 h0 a _ _
theorem kok_count(h:PmA n p)(m:Nat):KOk n (fun r=>PmA n r.2) (kas_count m p):=(qct h0 h _ _).bind fun k _=>by
 split
 .show h
 .split
  .show⟨h.at_ h0 _,h.at_ h0 _,fun b=>?_⟩
   (try dsimp only)
   split
   .show h
   .show qc1 h0 (h.of (km _ _ _ _)) _ _
  .show qc1 h0 h _ _
theorem qa1(h:PmA n p)(k:Nat):∀ f l r,KOk n (fun _=>True) (kas_place p k f l r)
 | 0,l,r=>trivial
 | f+1,l,r=>by
  unfold kas_place;split
  .trivial
  .show⟨h.at_ h0 _,h.at_ h0 _,fun b=>?_⟩
   (try dsimp only)
   split
   .show qa1 h k f _ _
   .show qa1 h k f _ _
theorem qdD:∀ f {p:Array Nat} (_:PmA n p) k,KOk n (PmA n) (kas_bin f p k)
 | 0,p,h,k=>h
 | f+1,p,h,k=>(qa1 h0 h k _ _ _).bind fun l _=>qdD f (h.of (bubble_perm _ _ _)) _
theorem kok_sort:KOk n (PmA n) (kas_sort n):=(kok_count h0 (p:=(List.range n).toArray) (List.Perm.refl _) n).bind fun r a=>by
 split
 .show qdD h0 _ a _
 .show a
end
def Tw(h:Heap)(v:Value):Prop:=∃(t:Addr) (o:Obj) (x y:Int) (a ty:Tok) (k:Nat),v=.ref t/\h.get? t=some o/\o.cls=.type "tuple"/\o.data=.seq #[.int x a,.int y ty] k
section
variable{prog:Program}{w:World}{A:Around}{E:Value->Shared->Prop}{s:Shared}
theorem qcu{h:Heap}:∀{vs:List Value},(∀ v∈vs,Tw h v)->∃ fs,KatTups h vs fs/\fs.length=vs.length/\∀ f∈fs,∃ x t,f=.int x t
 | [],_=>⟨[],.nil,rfl,fun _ z=>by cases z⟩
 | v::vs,hv=>by
  obtain⟨fs,h1,b,e⟩:=qcu fun v i=>hv v (yI _ i);obtain⟨t,o,x,y,a,ty,k,rfl,g,c,d⟩:=hv v yG;show⟨.int x a::fs,.cons g c d rfl h1,by rw[yD,yD,b],fun f hf=>?_⟩;rcases yB.mp hf with rfl | hf
  .show⟨x,a,rfl⟩
  .show e f hf
end
theorem qb8:∀{a:LQ} {us:List Value},Vals (a.map V.ref) us->us=a.map Value.ref
 | [],_,.nil=>rfl
 | t::a,_,.cons r h=>by
  have e:_=Value.ref t:=r;rw[e,qb8 h];rfl
theorem qa2:∀(a:LQ),Vals (a.map V.ref) (a.map Value.ref)
 | []=>.nil
 | t::a=>.cons rfl (qa2 a)
noncomputable def qd3:Value->Addr
 | .ref a=>a
 | _=>0
theorem perm_refs{b:LQ}{out:List Value}(h:out.Perm (b.map Value.ref)):∃ us:LQ,us.Perm b/\out=us.map Value.ref:=by
 show⟨out.map qd3,?_,?_⟩
 .have:=h.map qd3;rw[X6] at this;have e:(qd3 ∘ Value.ref)=id:=by funext a;rfl
  rwa[e,List.map_id] at this
 .rw [X6]
  have:out.map id=out.map (Value.ref ∘ qd3):=List.map_congr_left fun v hv=>by
   obtain⟨t,_,rfl⟩:=YJ.mp (h.mem_iff.mp hv);rfl
  rwa[List.map_id] at this
section
variable{X:Cx}{K:yg}
end
end L2
namespace L2
open PySem PySem.Spec PyProof.Rows PySem.W
variable{H:Hp}{P:Program}{a c f:Addr}{body:Expr}{e:Nat}{h:Heap}{params:Arguments}{pos:Pos}{q:Str}{scope:Scope}{w:World}{xs:Array Value}
noncomputable def LsO(a:Addr)(xs:Array Value)(e:Nat):HO:=.ext fun h=>h.get? a=some (seqObj "list" xs e)
theorem LsO.ok(q:h.get? a=some (seqObj "list" xs e)):ObjOk P w H h a (LsO a xs e):=
 ⟨q,⟨_,q⟩,fun _ _ h1 k=>k _ h1⟩
theorem LsO.at(ok:HOk P w H h)(q:H a=some (LsO a xs e)):h.get? a=some (seqObj "list" xs e):=(ok a _ q).1
section
variable{M:Model}{A:Around}{E:Value->Shared->Prop}{s:Shared}{a kl:Addr}{ws:List Value}{zk:LX}{kx:Array Value}{e e1:Nat}{P:PySem.Fin->Shared->Prop}
end
def KSo(zk:LX)(xs ys:List V):Prop:=∃ ps:List (Int×V),ps.Perm (zk.zip xs)/\ys=ps.map Prod.snd/\ps.Pairwise fun p q=>p.1<=q.1
theorem qa3{f g:Type}{R:f->g->Prop}{b e:List g}(p:b.Perm e):∀{a:List f},Paired R a b->∃ c,c.Perm a/\Paired R c e:=by
 induction p with
 | nil=>show fun{a} h=>⟨a,.refl _,h⟩
 | cons x _ ih =>
  intro a h
  cases h with
  | cons r t=>obtain⟨c,j,t'⟩:=ih t;show⟨_,j.cons _,.cons r t'⟩
 | swap x y l =>
  intro a h
  cases h with
  | cons r t =>
   cases t with
   | cons r2 d=>show⟨_,.swap _ _ _,.cons r2 (.cons r d)⟩
 | trans _ _ i1 i2 =>
  intro a h;obtain⟨q,m,o⟩:=i1 h;obtain⟨i,n,d⟩:=i2 o;show⟨i,n.trans m,d⟩
def qfY(p:Int×V)(q:Int×Value):Prop:=p.1=q.1/\RelV p.2 q.2
theorem qc2:∀{zk:LX} {xs:List V} {a:List Value},Vals xs a->Paired qfY (zk.zip xs) (zk.zip a)
 | [],_,_,_=>.nil
 | _::_,_,_,.nil=>.nil
 | _::_,_,_,.cons r t=>.cons ⟨rfl,r⟩ (qc2 t)
theorem qby:∀{ps:List (Int×V)} {qs:List (Int×Value)},Paired qfY ps qs->Vals (ps.map Prod.snd) (qs.map Prod.snd)/\ps.map Prod.fst=qs.map Prod.fst
 | _,_,.nil=>⟨.nil,rfl⟩
 | _,_,.cons r t=>⟨.cons r.2 (qby t).1,by rw[Yu,Yu,(qby t).2,r.1]⟩
theorem qek{zk:LX}{xs:List V}{a out:List Value}(r:Vals xs a)(h:KskOut false zk a out):∃ ys,Vals ys out/\KSo zk xs ys:=by
 obtain⟨ps,b,rfl,c⟩:=h;obtain⟨qs,d,e⟩:=qa3 b.symm (qc2 (zk:=zk) r);obtain⟨f,g⟩:=qby e;show⟨_,f,qs,d,rfl,?_⟩;have h1:(ps.map Prod.fst).Pairwise (·<=·):=Y0.mpr (c.imp fun h=>by simpa using h);rw[<- g] at h1;show Y0.mp h1
section
variable{X:Cx}{pins:List (Addr×Obj)}{σ:St}{H:Hp}{s:Shared}{E:Value->Shared->Prop}
theorem Same.put{a:Hp}{x:Addr}{o:HO}(h:L2.Same a H)(n:a x=none):L2.Same a (upd H x o):=fun c u e=>by
 rw[qe (fun z=>by rw[z,n] at e;cases e)];show h c u e
end
noncomputable def CdO(c:Addr)(q:Str):HO:=.ext fun h=>h.CodeRec (.ref c) q
noncomputable def FnO(f:Addr)(o:Obj):HO:=.ext fun h=>h.get? f=some o
theorem CdO.ok(x:h.CodeRec (.ref c) q):ObjOk P w H h c (CdO c q):=by
 show⟨x,?_,fun h1 f r k=>?_⟩
 .obtain⟨d,o,b,t,e,a,_⟩:=x;cases e;show⟨o,a⟩
 .obtain⟨d,o,b,t,e,a,r⟩:=r;cases e;show⟨c,o,b,t,rfl,k o a,r⟩
theorem FnO.ok{o:Obj}(x:h.get? f=some o):ObjOk P w H h f (FnO f o):=⟨x,⟨_,x⟩,fun _ _ r k=>k _ r⟩
def TbO(H:Hp)(P:Addr)(pos:Pos)(q:Str):Prop:=∃ ps:Array Value,H P=some (.tbl ps)/\TriplesOk ps.toList/\(codeAmong pos ps.toList=none\/∃ a,codeAmong pos ps.toList=some (.ref a)/\H a=some (CdO a q))
theorem TbO.same{H':Hp}{P:Addr}(h:TbO H P pos q)(s:L2.Same H H'):TbO H' P pos q:=by
 obtain⟨ps,h1,d,e⟩:=h;show⟨ps,s _ _ h1,d,e.imp id fun⟨c,a,b⟩=>⟨c,a,s _ _ b⟩⟩
def zP(P:Addr)(H H':Hp):Prop:=∀ b o,b≠P->H b=some o->H' b=some o
section
variable{X:Cx}{pins:List (Addr×Obj)}{σ:St}{H:Hp}{s:Shared}{E:Value->Shared->Prop}
theorem lam_make{P:Addr}{g:List (Str×Addr)}{Q:VK}(I:Inv X pins σ H s)(l:X.env.code=.ref c)(C:CodeHd X.base c P)(m:X.base.BuiltinsAt X.mg P)(T:TbO H P pos (X.env.qual++"<lambda>"))(D:closureFor scope X.env=pure g)(F:defaultsOf params X.env=([],[]))
  (q:∀ f a pm h H',zP P H H'->TbO H' P pos (X.env.qual++"<lambda>")->H f=none->H' f=some (FnO f (kla_obj "<lambda>" (X.env.qual++"<lambda>") params body scope g pm a h))->H' a=some (CdO a (X.env.qual++"<lambda>"))->Q (.ref f) H') :
  wpAny (model X.prog X.w) X.A (eval (.Lambda params body scope pos) X.env) (EP X pins σ Q) E s:=by
 obtain⟨ps,i,J,y⟩:=T;show kla_eval F ?_;have W:=I.mod.glob.keeps I.bk;have x:s.heap.get? P=some (tabObj ps):=I.hok _ _ i
 have hB:s.heap.BuiltinsAt X.mg P:=by
  obtain⟨bm,o,b1,b2,b3,b4,b5,b6⟩:=m;show⟨bm,o,b1,b2,b3,b4,I.bk _ _ b5,b6⟩
 have lt:∀ b u,H b=some u->b<s.heap.objs.size:=fun b u e=>XI fun z=>by rw[I.hok.fresh z] at e;cases e
 rcases y with y | ⟨a,y,hc'⟩
 .have Y:mainGlobals≠P:=fun z=>by
   obtain⟨o,es,ep,e,hd,_⟩:=W;rw[z,x] at e;cases e;cases hd
  show kla_makeFunction (mg:=X.mg) D I.ok.glob W l (C.keeps I.bk) x J y Y hB fun a h h' tk hx j p G Z=>?_;have n1:a≠P:=fun z=>by have:=lt _ _ i;rw[z] at j;show absurd this (Nat.not_lt.mpr j)
  have n2:h'.objs.size≠P:=fun z=>by rw[<- z] at i;show absurd (Xj (lt _ _ i) (Yr j p)) (Yt _)
  have n3:a≠h'.objs.size:=yE p;have L:∀ b,b<s.heap.objs.size->b≠a/\b≠h'.objs.size:=fun b m=>⟨yE (yj m j),yE (Xj (yj m j) p)⟩;have eo:∀ b,b<s.heap.objs.size->b≠P->∀ o1 o2 o3,upd (upd (upd H P o1) a o2) h'.objs.size o3 b=H b:=fun b m U o1 o2 o3=>by rw[qe (L b m).2,qe (L b m).1,qe U]
  have M:∀ b o,b≠P->s.heap.get? b=some o->(h'.push (kla_obj "<lambda>" (X.env.qual++"<lambda>") params body scope g ((X.mg "__name__").getD .none) a h)).get? b=some o:=fun b o n e=>yw _ (hx b o n e);have R:upd (upd (upd H P (.tbl (ps++#[rawInt pos.line,rawInt pos.col,.ref a]))) a (CdO a (X.env.qual++"<lambda>"))) h'.objs.size (FnO h'.objs.size (kla_obj "<lambda>" (X.env.qual++"<lambda>") params body scope g ((X.mg "__name__").getD .none) a h)) P=some (.tbl (ps++#[rawInt pos.line,rawInt pos.col,.ref a])):=by rw[qe (yZ n2),qe (yZ n1),qb]
  have S:upd (upd (upd H P (.tbl (ps++#[rawInt pos.line,rawInt pos.col,.ref a]))) a (CdO a (X.env.qual++"<lambda>"))) h'.objs.size (FnO h'.objs.size (kla_obj "<lambda>" (X.env.qual++"<lambda>") params body scope g ((X.mg "__name__").getD .none) a h)) a=some (CdO a (X.env.qual++"<lambda>")):=by rw[qe n3,qb]
  have B:zP P H (upd (upd (upd H P (.tbl (ps++#[rawInt pos.line,rawInt pos.col,.ref a]))) a (CdO a (X.env.qual++"<lambda>"))) h'.objs.size (FnO h'.objs.size (kla_obj "<lambda>" (X.env.qual++"<lambda>") params body scope g ((X.mg "__name__").getD .none) a h))):=fun b o n e=>by rw[eo b (lt b o e) n];show e
  have K:=yw (kla_obj "<lambda>" (X.env.qual++"<lambda>") params body scope g ((X.mg "__name__").getD .none) a h) Z;show⟨.ref h'.objs.size,_,I.un (t':=tk) ⟨fun b o e n m _=>M b o (fun z=>by rw[z,i] at n;cases n) e,fun b o e n m _=>⟨o.slots,M b o (fun z=>by rw[z,i] at n;cases n) e⟩,fun b o e n _=>(eo b (yL e) (fun z=>by rw[z,i] at n;cases n) _ _ _).trans n,fun b o e _=>?_,fun b xs e=>B b _ (fun z=>by rw[z,i] at e;cases e) e,fun b o u e=>B b _ (fun z=>by rw[z,i] at e;cases e) e,fun b qs e=>?_⟩ (fun b u e=>?_),rfl,q _ a _ h _ B ⟨_,R,?_,.inr ⟨a,?_,S⟩⟩ (I.hok.fresh (yY (Yr j p))) qb S⟩
  .by_cases z:b=P
   .subst z;show⟨_,K⟩
   .show⟨o,M b o z e⟩
  .by_cases z:b=P
   .subst z;rw[i] at e;cases e;show⟨_,R⟩
   .show⟨#[],by rw[B b _ z e];simp⟩
  .by_cases z:b=h'.objs.size
   .subst z;rw[qb] at e;cases e;show FnO.ok (yR _ rfl)
   .by_cases z2:b=a
    .subst z2;rw[S] at e;cases e;show CdO.ok ?_;obtain⟨c2,o,ws,t,e2,ho,r⟩:=G;cases e2;show⟨b,o,ws,t,rfl,yw _ ho,r⟩
    .by_cases z3:b=P
     .subst z3;rw[R] at e;cases e;show K
     .rw [qe z,qe z2,qe z3] at e;show(I.hok b u e).stay (fun d v hd q=>M d v (fun z=>?_) q) (fun d hd=>B d _ (fun z=>by rw[z,i] at hd;cases hd) hd) fun d xs hd=>B d _ (fun z=>by rw[z,i] at hd;cases hd) hd;rcases hd with hd | hd
      .show z3 (hd.symm.trans z)
      .rw [z,i] at hd;cases hd
  .have O:(ps++#[rawInt pos.line,rawInt pos.col,Value.ref a]).toList=ps.toList++[rawInt pos.line,rawInt pos.col,.ref a]:=by simp
   rw[O];show TriplesOk_snoc _ _ _ _ J
  .have O:(ps++#[rawInt pos.line,rawInt pos.col,Value.ref a]).toList=ps.toList++[rawInt pos.line,rawInt pos.col,.ref a]:=by simp
   rw[O];show codeAmong_snoc _ J y
 .show kla_makeFunctionHit (mg:=X.mg) D I.ok.glob W l (C.keeps I.bk) x J y hB fun h h' tk hk kq=>?_;have hn:H h'.objs.size=none:=I.hok.fresh kq;have N:=Same.put (o:=FnO h'.objs.size (kla_obj "<lambda>" (X.env.qual++"<lambda>") params body scope g ((X.mg "__name__").getD .none) a h)) (Same.refl H) hn;show⟨.ref h'.objs.size,_,I.laid (t':=tk) (fun b o e=>yw _ (hk b o e)) kq (FnO.ok (yR _ rfl)),rfl,q _ a _ h _ (fun b o _ e=>N b o e) ⟨ps,N _ _ i,J,.inr ⟨a,y,N _ _ hc'⟩⟩ hn qb (N _ _ hc')⟩
noncomputable def qd4(X:Cx)(A:Around)(N:LS)(b:Str)(scope:Scope)(f c:Addr)(a:List (Str×Addr))(s:Shared)(H:Hp):Cx where
 prog:=X.prog
 w:=X.w
 K:=X.K
 mg:=X.mg
 base:=X.base
 A:=A.deeper (envX b scope s.heap.objs.size f (.ref c) a)
 N:=N
 s₀:=s
 H₀:=H
 env:=envX b scope s.heap.objs.size f (.ref c) a
 outer:=X.stack
 stack:=envX b scope s.heap.objs.size f (.ref c) a::X.stack
 ex:=[]
 calm:=true
 fn:=fun _=>false
 pn:=[]
 xe:=fun _ _=>False
structure LamSc(scope:Scope)(p w:Str):Prop where
 kind:scope.kind=.function
 co:scope.isCoroutine=false
 gen:scope.isGenerator=false
 par:scope.names.lookup p=some .local
 fre:scope.names.lookup w=some .free
 noc:∀ x∈scope.names,x.2≠.cell
 one:∀ x,scope.names.lookup x=some .cell\/scope.names.lookup x=some .free->x=w
theorem lam_call{A:Around}{n g:Addr}{a p d:Str}{pm G:Value}{iw:Nat}{v T:V}{u:Value}{t:TE}{Q:VK}(I:Inv X pins σ H s)(hA:A.frames=some X.stack)(hh:A.handled=none)(C:A.depth<recursionLimit)
  (hf:H f=some (FnO f (kla_obj "<lambda>" a params body scope [(d,g)] pm n G))) (hc:H n=some (CdO n a)) (B:bindArgs (kla_fn "<lambda>" a params body scope [(d,g)] pm (.ref n) G) ⟨[u],[]⟩=pure [(p,u)]) (S:LamSc scope p d) (ab:p≠d)
  (K:X.env.cells.lookup d=some g) (L:X.env.kindOf d=some .cell) (hi:X.N[iw]?=some d) (Z:σ[iw]?=some (some T)) (rv:RelV v u)
  (hb:PE (qd4 X A [p,d] a scope f n [(d,g)] s H) body t) (ht:t [some v,some T] H Q):wpAny (model X.prog X.w) A (call (.ref f) [u]) (EP X pins σ Q) E s:=by
 have q:=I.env0;show XG (kla_callFunE (body:=body) C (I.hok _ _ hf).1 rfl S.co S.gen rfl (I.hok _ _ hc).1 ?_);rw[B];show yv (wpAny_newFunctionEnv S.noc (fun y Y=>?_) (fun l W M=>⟨(I.nolimit).fresh _ M,?_⟩) S.kind)
 .have e:y=(p,u):=by simpa using Y
  rw[e];show S.par
 show codeAny _ _ (.expr body (envX a scope s.heap.objs.size f (.ref n) [(d,g)])) _ _;have U:∀ b o,s.heap.get? b=some o->l.get? b=some o:=fun b o e=>M.extBut b o (yE (yL e)) (yw _ e);obtain⟨m,_,hl⟩:=I.loc;obtain⟨R,aa,lk⟩:=hl iw d T hi Z (.inr (.inl L))
 have F:s.heap.IsCell g (some R):=by
  rcases lk with⟨k,_⟩ | ⟨_,c,e,z⟩
  .rw [L] at k;cases k
  .rw [K] at e;cases e;show z
 have j:l.IsCell g (some R):=let ⟨o,ho,hd⟩:=F;⟨o,U _ _ ho,hd⟩
 have P:∀ x c,([(d,g)]:List (Str×Addr)).lookup x=some c->x=d/\c=g:=fun x c e=>by
  rw[xu] at e;by_cases z:x=d
  .subst z;rw[xv] at e;show⟨rfl,(yn e).symm⟩
  .rw [YE.mpr z] at e;cases e
 have D:∀ b:Addr,b∉(qd4 X A [p,d] a scope f n [(d,g)] s H).ex:=fun b z=>absurd (show b∈([]:LQ) from z) (by simp)
 have J:Inv (qd4 X A [p,d] a scope f n [(d,g)] s H) [] [some v,some T] H { s with heap:=l,toks:=s.toks + [(p,u)].length }:=by
  show⟨⟨q.mod,S.kind,rfl,rfl,yh _,fun y z c h1 r=>(P y c h1).1.trans (P z c r).1.symm,fun y Y=>?_,(fun y c h=>by cases h),fun _=>hh,Around.frames_deeper hA,.inr ⟨rfl,rfl⟩,fun b z=>absurd z (D b),q.bs,q.bsz,fun b _ _=>D b,fun b z=>absurd z (D b),q.funs,q.frf⟩,
   rfl,q.bare,Un.kept U,⟨_,W,fun i y v' h1 r h3=>?_⟩,fun y c h=>⟨some R,(P y c h).2 ▸ j⟩,q.hok.fresh (yh _),fun y c h=>by rw[(P y c h).2];show I.freeC d g K,fun p hp=>absurd (show p∈([]:List (Addr×Obj)) from hp) (by simp),q.hok.kept U,rfl⟩
  .have e:=S.one y Y;show⟨g,by rw[e];show List.lookup_cons_self⟩
  .match i,h1,r with
   | 0,h1,r =>
    cases h1;cases r;show⟨u,rv,.inl ⟨S.par,by simp⟩⟩
   | 1,h1,r =>
    cases h1;cases r;show⟨R,aa,.inr ⟨.inr S.fre,g,List.lookup_cons_self,j⟩⟩
   | i+2,h1,_=>cases h1
 show kla_codeExpr (YK (hb [] _ _ H Q J ht) (fun u' s' ⟨v',H',O,r',q'⟩=>?_) fun _ _ z=>z.elim);show I.after ⟨v',H',O.os,O.bare,O.base,O.hok,r',q'⟩
end
end L2
namespace L2
open PySem PySem.Spec PyProof.Rows
variable{c p:Addr}{ps:Array Value}{x:Str}
theorem law_callT{P:Program}{w:World}{K:yg}{mg mb:Str->Option Value}{CX:CXT}{k:Nat}{U a:Addr}{fd:FuncData}{sp:Sp}{f:Shared}{vs:List Value}{ns:LX}
  (KX:K.In f.heap) (N:f.heap.Ns mainGlobals mg) (g:f.heap.Ns builtinsNs mb) (X:∀ x:Str,x≠"__name__"->mb x=bootBuiltins x) (M:f.heap.NoLimit) (hg:f.gens=#[])
  (D:f.heap.get? a=some { cls:=.type "list",data:=.seq vs.toArray }) (hi:IntsAre vs ns) (hl:ns.length<=sizeLine) (hr:Room k callerA) (J:f.heap.TableAt c p ps) (Z:K.lookup p=none)
  (F:∀ l:Heap,K.In l->l.Ns mainGlobals mg->FnOk P w K mg l CX k U fd [x] sp) (C:∀(s:Shared) (u:Value),BindsTo s fd ⟨[u],[]⟩ [(x,u)])
  (aa:∀ H:Hp,H p=some (.tbl ps)->SqL K H a (ns.map V.int)->sp [.ref a] H (fun v _=>v=.bl true) fun _ _ _=>False)
  (W:∀ H e j,CX [] H f (fun _ _ _=>False) e j->False) :
  codeAny (model P w) callerA (.call (.ref U) ⟨[.ref a],[]⟩) (fun r j=>r=.ok (.ret (.bool true))/\OldK f.heap j.heap/\j.os=f.os/\AllBare j.gens) f:=by
 have rv:=qaU hi;have S:=hi.length;have A:∀ H:Hp,H p=some (.tbl ps)->(∀ b,b=p\/H b=none\/∃ o xs,H b=some (.frz o (.lst xs)))->SqL K H a (ns.map V.int)->HOk P w H f.heap->(∀ b,H b≠none->b=a\/b=p)->(H a≠none->K.lookup a=none) ->
   codeAny (model P w) callerA (.call (.ref U) ⟨[.ref a],[]⟩) (fun r j=>r=.ok (.ret (.bool true))/\OldK f.heap j.heap/\j.os=f.os/\AllBare j.gens) f:=by
  intro H hp hO hS O hA hK;have base_of:∀{b:Addr} {o:Obj},f.heap.get? b=some o->H b=none->(qcH f.heap H).get? b=some o:=fun e n=>qcI e n
  have ab:∀{b:Addr} {o:Obj} {G:Array DictEntry} {ep:Nat},f.heap.get? b=some o->o.data=.dict G ep->H b=none:=fun{b o G ep} e d=>by
   cases q:H b with
   | none=>rfl
   | some u =>
    rcases hA b (by rw[q];simp) with e' | e'
    .subst e';rw[D] at e;cases e;have d':Data.seq vs.toArray _=Data.dict G ep:=d;cases d'
    .subst e';rw[J.2] at e;cases e;cases d
  have t:∀{b:Addr} {m:Str->Option Value},f.heap.Ns b m->(qcH f.heap H).Ns b m:=fun{b m} ⟨o,G,ep,e,d,r⟩=>⟨o,G,ep,base_of e (ab e d),d,r⟩
  have I:K.In (qcH f.heap H):=fun b o e=>base_of (KX b o e) (by
   cases q:H b with
   | none=>rfl
   | some u =>
    rcases hA b (by rw[q];simp) with e' | e'
    .subst e';rw[hK (by rw[q];simp)] at e;cases e
    .subst e';rw[Z] at e;cases e)
  have hM:Mod K mg (qcH f.heap H):=⟨I,t N,⟨mb,t g,X⟩,let ⟨mc,h1,h2⟩:=M;⟨mc,t h1,h2⟩⟩;have e0:Env0 P w K mg (qcH f.heap H) callerA [] f H:=⟨rfl,hM,fun b o e=>qdj e,xG (qbJ _ _),trivial,fun b g=>absurd (show b∈([]:LQ) from g) (by simp),O,.of_eq hg⟩;show X5 ((F _ I (t N)).run callerA [] f H ⟨[.ref a],[]⟩ [.ref a] [.ref a] _ _ hr e0 (C f (.ref a)) (.cons rfl .nil) (aa H hp hS)) fun r j h=>?_
  cases r with
  | error e=>show(W H e j h).elim
  | ok fl =>
   cases fl with
   | next=>show False.elim h
   | brk=>show False.elim h
   | cont=>show False.elim h
   | ret u =>
    obtain⟨v,H',os,E,un,B,r',q⟩:=h;have q':v=.bl true:=q;subst q';obtain rfl:u=Value.bool true:=r';show⟨rfl,⟨fun b o e=>?_,fun b o e=>un.there b o e (by simp)⟩,os,E⟩;rcases hO b with z | q | ⟨ob,xs,z⟩
    .subst z;obtain⟨more,z2⟩:=un.tbls b ps hp;have T:j.heap.get? b=some { cls:=.none,data:=.fields (ps++more) }:=B b _ z2;rw[J.2] at e;cases e;show .inr (.inl ⟨J.isCodeTable,rfl,ps,more,rfl,T⟩)
    .show .inl (un.keep b o e q (by intro z;show absurd (show b∈([]:LQ) from z) (by simp)) (by simp))
    .have z2:=un.frzs b ob _ z;obtain⟨e1,_⟩:=O b _ z;obtain⟨T,_⟩:=B b _ z2;rw[e] at e1;cases e1;show .inl T
 have L:a≠p:=fun z=>by rw[z,J.2] at D;cases D
 have R:∀{H:Hp},ObjOk P w H f.heap p (.tbl ps):=J.2
 cases Y:K.lookup a with
 | some o =>
  have e:=KX a o Y;rw[D] at e;cases e;show A (fun b=>if b=p then some (.tbl ps) else none) (yF rfl) (fun b=>?_) (.inr ⟨_,vs.toArray,_,Y,rfl,rfl,rfl,by rw[yx,S];show hl,by simpa using rv⟩) (fun b u z=>?_) (fun b z=>?_) fun z=>absurd (yA L) z
  .by_cases g:b=p
   .show .inl g
   .show .inr (.inl (yA g))
  .by_cases g:b=p
   .have y:=(yF g).symm.trans z;cases y;subst g;show R
   .have y:=(yA g).symm.trans z;cases y
  .by_cases g:b=p
   .show .inr g
   .show absurd (yA g) z
 | none =>
  show A (fun b=>if b=p then some (.tbl ps) else if b=a then some (.frz { cls:=.type "list",data:=.seq vs.toArray } (.lst (ns.map V.int))) else none) (yF rfl) (fun b=>?_) (.inl (.inr ⟨{ cls:=.type "list",data:=.seq vs.toArray },(yA L).trans (yF rfl)⟩)) (fun b u z=>?_) (fun b z=>?_) fun _=>Y
  .by_cases g:b=p
   .show .inl g
   .by_cases i:b=a
    .show .inr (.inr ⟨_,_,(yA g).trans (yF i)⟩)
    .show .inr (.inl ((yA g).trans (yA i)))
  .by_cases g:b=p
   .have y:=(yF g).symm.trans z;cases y;subst g;show R
   .by_cases i:b=a
    .have y:=((yA g).trans (yF i)).symm.trans z;cases y;subst i;show⟨D,by rw[ya];show hl,vs,_,rv,D⟩
    .have y:=((yA g).trans (yA i)).symm.trans z;cases y
  .by_cases g:b=p
   .show .inr g
   .by_cases i:b=a
    .show .inl i
    .show absurd ((yA g).trans (yA i)) z
theorem walk_ofT{l:PySem.W.OpenLaw}{n k:Nat}{q:Program}{loose:LS}{XP:(Str->Option Value)->Heap->Prop}{YP:World->Heap->Prop}{d:DefRec}{K:Params->yg}{CX:World->CXT}{sp:World->Sp}
  (hn:l.most=some n) (E:n<=sizeLine) (C:d.params.defaults=[]) (hr:Room k callerA)
  (X:∀(w:World) (h:Heap),YP w h->(K w.params).In h/\h.TableAt c p ps) (I:∀ w:World,(K w.params).lookup p=none)
  (F:∀(w:World) (mg:Str->Option Value) (y:Addr) (h:Heap),(K w.params).In h->h.Ns mainGlobals mg->mg d.name=some (.ref y) ->
   ∃ A:FuncData,(∀(s:Shared) (u:Value),BindsTo s A ⟨[u],[]⟩ [(x,u)]) /\
    ∀ i:Heap,(K w.params).In i->i.Ns mainGlobals mg->FnOk l.prog w (K w.params) mg i (CX w) k y A [x] (sp w))
  (J:∀(w:World) (H:Hp) (a:Addr) (ns:LX),ns.length<=n->H p=some (.tbl ps)->SqL (K w.params) H a (ns.map V.int)->sp w [.ref a] H (fun v _=>v=.bl true) fun _ _ _=>False)
  (B:∀(w:World) (H:Hp) (s:Shared) (e:Value) (L:Shared),CX w [] H s (fun _ _ _=>False) e L->False) :
  PySem.W.WalkO q loose XP YP l.row.toRowW d [] (fun f vs=>PySem.call f vs):=by
 show Att.attach_call hn C fun w N t mg mb y o pm cd O a vs ns G Y ho hd aa D r m j hg=>?_;obtain⟨M,U⟩:=X w _ Y;obtain⟨A,Z,P⟩:=F w mg y _ M G.T.g D;show law_callT M G.T.g G.T.b G.T.builtins G.T.nolimit hg r m (yi j E) hr U (I w) P Z (fun H R S=>J w H a ns j R S) fun H e L=>B w H t e L
end L2
namespace L2
open PySem PySem.Spec PyProof.Rows PySem.W
variable{c tb:Addr}{h:Heap}
inductive SrK(K:yg)(P:Addr)(lp:Pos)(qual:Str)(iw:Nat)(t:TE)(σ:St)(x:V)(H:Hp)(Q:VK):Prop
 | mk (l:Addr) (xs:List V) (zk:LX) (wv:V) (_:x=.ref l) (_:SqL K H l xs) (_:zk.length=xs.length) (_:xs.length<64) (_:TbO H P lp qual) (_:σ[iw]?=some (some wv))
  (_:∀(i:Nat) (v:V) (k:Int) (H':Hp),xs[i]?=some v->zk[i]?=some k->zP P H H'->t [some v,some wv] H' fun r H2=>r=.int k/\L2.Same H' H2)
  (_:∀(D:Addr) (ys:List V) (H':Hp),zP P H H'->TbO H' P lp qual->H D=none->H' D=some (.lst ys)->KSo zk xs ys->Q (.ref D) H')
section
variable{X:Cx}{K:yg}{e body:Expr}{te t:TE}{p lp kp pos:Pos}{params:Arguments}{scope:Scope}{c P cw:Addr}{pn wn:Str}{iw:Nat}{k:Nat}
end
theorem lam_sc{scope:Scope}{p w:Str}(h1:scope.kind=.function)(b:scope.isCoroutine=false)(c:scope.isGenerator=false)(d:scope.names.lookup p=some .local)(e:scope.names.lookup w=some .free)(a:∀ x∈scope.names,x.2≠.cell)(f:∀ x∈scope.names,x.2=.free->x.1=w):LamSc scope p w:=
 ⟨h1,b,c,d,e,a,fun x h=>by
  rcases h with h | h
  .show absurd rfl (a _ (Y2 h))
  .show f _ (Y2 h) rfl⟩
theorem hu_lam{k:Nat}{A:Around}(r:Room k A):A.units+100<cLine:=by have:=r.un;lk
section
variable{P:Program}{w:World}{K:yg}{mg:Str->Option Value}{base:Heap}
theorem Fun.okC{x b:Str}{st:Stmt}{f:Addr}{g:FuncData}{N ps:LS}{k:Nat}{sp:Sp}(F:Fun K x b st f g)(j:g.code=.ref c)(S:FnScope N ps (qg st))(len:∀ vs H Q E,sp vs H Q E->vs.length=ps.length)
  (d:∀(A:Around) (a:List Env) (s:Shared) (H:Hp) (vs:List V) (Q:VK) (E:XK),Room k (A.deeper (envOfC b (qg st) s.heap.objs.size f (.ref c)))->sp vs H Q E ->
   ∃ t,PSs (qeB CX0 P w K mg base N b (qg st) f (.ref c) A a s H E).nox (zf st) t/\t { nx:=fun _ H'=>Q .non H',rt:=Q } (start N vs) H):FnOk P w K mg base CX0 (k+1) f g ps sp:=by
 obtain⟨u,od,kV,m,v,r,e,ct,p,rfl,o,i⟩:=F.ex;obtain rfl:e=.ref c:=j;show qeY o i S len fun A a s H vs Q E n l=>let ⟨t,h,q⟩:=d A a s H vs Q E n l;⟨t,h.nox,q⟩
end
noncomputable def qfC(K:yg)(c tb:Addr):Bool:=match K.lookup c with
 | some ⟨.type t,_,.fields vs,_⟩=>t=="code"&&(match vs.getD 11 .none,vs.getD 18 .none,vs.getD 7 .none,vs.getD 9 .none,vs.getD 10 .none with
  | .ref q,.str _ _,.int _ _,.bool _,.int _ _=>q==tb&&decide (11<vs.size)&&c != tb
  | _,_,_,_,_=>false)
 | _=>false
theorem chd_of{K:yg}(X:K.In h)(e:qfC K c tb=true):CodeHd h c tb:=by
 unfold qfC at e;split at e
 .rename_i t d vs sl ho
  rw[Ym] at e;obtain⟨g,a⟩:=e;split at a
  .rename_i q f tf fl tg b x tx h11 h18 h7 h9 h10
   rw[Ym,Ym] at a;obtain⟨⟨j,l⟩,m⟩:=a;have eq:q=tb:=Yo.mp j;have i:t="code":=Yo.mp g;subst eq i;have hl:=yk l;show⟨_,vs,f,tf,fl,tg,b,x,tx,X _ _ ho,rfl,rfl,?_,h11,h18,h7,h9,h10,by simpa using m⟩;rw[<- h11,Xf,Y4 hl];rfl
  .cases a
 .cases e
noncomputable def bmB(K:yg)(a tb:Addr):Bool:=match K.lookup a with
 | some ⟨.type t,some d,.plain,_⟩=>t=="module"&&d==builtinsNs&&a != builtinsNs&&a != mainGlobals&&a != tb
 | _=>false
theorem bm_of{K:yg}{a:Addr}{mg:Str->Option Value}(X:K.In h)(m:mg "__builtins__"=some (.ref a))(e:bmB K a tb=true):h.BuiltinsAt mg tb:=by
 unfold bmB at e;split at e
 .rename_i t d sl ho
  simp only[Ym,Yo,bne_iff_ne] at e;obtain⟨⟨⟨⟨b,c⟩,f⟩,g⟩,i⟩:=e;subst b c;show⟨a,_,m,f,g,i,X _ _ ho,rfl,rfl,rfl⟩
 .cases e
end L2
namespace L2
open PySem PySem.Spec PySem.W PyProof.Rows
variable{c:Nat->Nat->Bool}{h:Heap}{i j n nrem:Nat}{q:Array Nat}{vs:List Value}{zk:LX}{α:Type}
def KOc{α:Type}(c:Nat->Nat->Bool)(P:α->Prop):KasT α->Prop
 | .ret a=>P a
 | .ask i j k=>KOc c P (k (c i j))
theorem KOc.bind{b:Type}{P:α->Prop}{R:b->Prop}{f:α->KasT b}:∀{t:KasT α},KOc c P t->(∀ a,P a->KOc c R (f a))->KOc c R (t.bind f)
 | .ret a,h,g=>g a h
 | .ask i j k,h,g=>KOc.bind (t:=k (c i j)) h g
theorem KOc.wp{R P:α->Prop}{b:Nat->Nat->(Bool->Shared->Prop)->Shared->Prop}{Q:α->Shared->Prop}{s:Shared}(hc:∀ i j C,i<n->j<n->C (c i j) s->b i j C s)(d:∀ a,R a->P a->Q a s):∀{t:KasT α},KOk n R t->KOc c P t->t.kasWp b Q s
 | .ret a,h,g=>d a h g
 | .ask i j k,h,g=>hc i j _ h.1 h.2.1 (KOc.wp hc d (t:=k (c i j)) (h.2.2 _) g)
section
variable(z:Nat->Int)
noncomputable def Zp(p:Array Nat)(i:Nat):Int:=z (p.getD i 0)
def Srt(p:Array Nat)(k:Nat):Prop:=∀ i j,i<=j->j<k->Zp z p i<=Zp z p j
def Dsc(p:Array Nat)(k:Nat):Prop:=∀ i j,i<=j->j<k->Zp z p j<=Zp z p i
noncomputable abbrev qcv(i j:Nat):Bool:=decide (z i<z j)
variable{z}{p:Array Nat}
theorem qdE(h:p[i]?=q[j]?):Zp z p i=Zp z q j:=by
 unfold Zp;rw[Xf,Xf,h]
theorem qdF(a:j<=p.size)(k:Nat):Zp z (kas_rev p i j) k=if i<=k/\k<j then Zp z p (i+j-1-k) else Zp z p k:=by
 have e:=getElem?_mirror_all (xs:=p) (i:=i) a k;by_cases h:i<=k/\k<j
 .rw [yF h] at e ⊢;show qdE e
 .rw [yA h] at e ⊢;show qdE e
theorem qel{a d:Nat}(f:a<p.size)(c:d<=a)(k:Nat):Zp z (bubble p a d) k=if k=a-d then Zp z p a else if a-d<k/\k<=a then Zp z p (k-1) else Zp z p k:=by
 have e:=getElem?_bubble f d c k;by_cases h1:k=a-d
 .rw [yF h1] at e ⊢;show qdE e
 .rw [yA h1] at e ⊢;by_cases b:a-d<k/\k<=a
  .rw [yF b] at e ⊢;show qdE e
  .rw [yA b] at e ⊢;show qdE e
theorem srt_next{k:Nat}(h:Srt z p k)(d:1<=k)(e:Zp z p (k-1)<=Zp z p k):Srt z p (k+1):=fun i j a c=>by
 by_cases h1:j=k
 .subst h1;by_cases b:i=j
  .rw [b];show xS _
  .show Int.le_trans (h i (j-1) (by lk) (by lk)) e
 .show h i j a (by lk)
theorem qaF{k:Nat}(h:Dsc z p k)(d:1<=k)(e:Zp z p k<=Zp z p (k-1)):Dsc z p (k+1):=fun i j a c=>by
 by_cases h1:j=k
 .subst h1;by_cases b:i=j
  .rw [b];show xS _
  .show Int.le_trans e (h i (j-1) (by lk) (by lk))
 .show h i j a (by lk)
theorem qdG:∀ f {k:Nat},1<=k->Srt z p k->KOc (qcv z) (fun m=>k<=m/\m<=k+f/\Srt z p m/\(m=k+f\/Zp z p m<Zp z p (m-1))) (kas_asc p f k)
 | 0,k,hk,h=>⟨yh _,yh _,h,.inl rfl⟩
 | f+1,k,hk,h=>by
  show KOc (qcv z) _ (if decide (Zp z p k<Zp z p (k-1))=true then .ret k else kas_asc p f (k+1));split
  .rename_i e;show⟨yh _,by lk,h,.inr (yk e)⟩
  .rename_i e
   have e:=xW (by simpa using e:decide (Zp z p k<Zp z p (k-1))=false);have d:=qdG f (k:=k+1) (by lk) (srt_next h hk (by lk));have eq:k+1+f=k+(f+1):=by lk
   rw[eq] at d
   have b:∀{t:KasT Nat},KOc (qcv z) (fun m=>k+1<=m/\m<=k+(f+1)/\Srt z p m/\(m=k+(f+1)\/Zp z p m<Zp z p (m-1))) t->KOc (qcv z) (fun m=>k<=m/\m<=k+(f+1)/\Srt z p m/\(m=k+(f+1)\/Zp z p m<Zp z p (m-1))) t:=by
    intro t c
    induction t with
    | ret a=>show⟨by have:=c.1;lk,c.2⟩
    | ask i j k' ih'=>show ih' _ c
   show b d
structure DS(z:Nat->Int)(p:Array Nat)(n q:Nat):Prop where
 d:Dsc z p n
 lq:q+1<=n
 e:∀ i,n-1-q<=i->i<n->Zp z p i=Zp z p (n-1)
theorem qbz(a:j<=p.size)(h:∀ k,i<=k->k<j->Zp z p k=Zp z p (j-1))(k:Nat):Zp z (kas_rev p i j) k=Zp z p k:=by
 rw[qdF a];split
 .rename_i c
  rw[h k c.1 c.2,h _ (by lk) (by lk)]
 .rfl
theorem Dsc.same(h:Dsc z p n)(e:∀ k,Zp z q k=Zp z p k):Dsc z q n:=fun i j a b=>by rw[e,e];show h i j a b
theorem qbA:∀ f {p:Array Nat} {n q:Nat},n+f<=p.size->DS z p n q->KOc (qcv z) (fun r=>DS z r.1 r.2.1 r.2.2/\r.2.1<=n+f/\r.1.size=p.size) (kas_desc f p n q)
 | 0,p,n,q,hs,h=>⟨h,yh _,rfl⟩
 | f+1,p,n,q,hs,h=>by
  have s:=h.lq;show KOc (qcv z) _ (if decide (Zp z p n<Zp z p (n-1))=true then(if q>0 then kas_desc f (kas_rev p (n-(q+1)) n) (n+1) 0 else kas_desc f p (n+1) 0)
   else .ask (p.getD (n-1) 0) (p.getD n 0) fun d=>if d=true then .ret (p,n,q) else kas_desc f p (n+1) (q+1))
  have eq:n+1+f=n+(f+1):=by lk
  split
  .rename_i e
   have e:=yk e;have g:Dsc z p (n+1):=qaF h.d (by lk) (by lk);split
   .have o:=qbz (z:=z) (p:=p) (i:=n-(q+1)) (j:=n) (by lk) fun k h1 b=>h.e k (by lk) b;have a:=qbA f (p:=kas_rev p (n-(q+1)) n) (n:=n+1) (q:=0) (by rw[kas_rev_size];lk) ⟨g.same o,by lk,fun i h1 b=>by rw[show i=n by lk];rfl⟩;rw[eq,kas_rev_size] at a;show a
   .have a:=qbA f (p:=p) (n:=n+1) (q:=0) (by lk) ⟨g,by lk,fun i h1 b=>by rw[show i=n by lk];rfl⟩;rw[eq] at a;show a
  .rename_i e
   have e:=xW (by simpa using e:decide (Zp z p n<Zp z p (n-1))=false);show KOc (qcv z) _ (if decide (Zp z p (n-1)<Zp z p n)=true then .ret (p,n,q) else kas_desc f p (n+1) (q+1));split
   .show⟨h,by show n<=n+(f+1);lk,rfl⟩
   .rename_i l
    have l:=xW (by simpa using l:decide (Zp z p (n-1)<Zp z p n)=false)
    have a:=qbA f (p:=p) (n:=n+1) (q:=q+1) (by lk) ⟨qaF h.d (by lk) (by lk),by lk,fun i h1 b=>by
     show Zp z p i=Zp z p (n+1-1);have m:n+1-1=n:=rfl;rw[m];by_cases c:i=n
     .rw [c]
     .rw [h.e i (by lk) (by lk)];lk⟩
    rw[eq] at a;show a
abbrev CtP(z:Nat->Int)(p:Array Nat)(nrem:Nat)(r:Nat×Array Nat):Prop:=Srt z r.2 r.1/\r.1<=nrem/\r.2.size=p.size
theorem qdH(h1:1<=n)(e:n<=nrem)(f:nrem<=p.size)(h:Dsc z p n):KOc (qcv z) (CtP z p nrem) (kas_tail3 n nrem p):=by
 have c:Srt z (kas_rev p 0 n) n:=fun i j b d=>by
  rw[qdF (by lk),qdF (by lk),yF (by lk),yF (by lk)];show h _ _ (by lk) (by lk)
 show(qdG (nrem-n) h1 c).bind fun m a=>⟨a.2.2.1,by have:=a.2.1;lk,kas_rev_size _ _⟩
theorem qdI(f:n+1<=nrem)(m:nrem<=p.size)(h:Dsc z p (n+1)):KOc (qcv z) (CtP z p nrem) (kas_descPart n nrem p):=by
 show(qbA (nrem-(n+1)) (p:=p) (n:=n+1) (q:=0) (by lk) ⟨h,by lk,fun i h1 a=>by rw[show i=n by lk];rfl⟩).bind fun r b=>?_;obtain⟨d,l,e⟩:=b;have g:=d.lq;split
 .have c:=qbz (z:=z) (p:=r.1) (i:=r.2.1-(r.2.2+1)) (j:=r.2.1) (by lk) fun k h1 a=>d.e k (by lk) a;have:=qdH (z:=z) (p:=kas_rev r.1 (r.2.1-(r.2.2+1)) r.2.1) (n:=r.2.1) (nrem:=nrem) (by lk) (by lk) (by rw[kas_rev_size];lk) (d.d.same c);unfold CtP at this ⊢;rw[kas_rev_size,e] at this;show this
 .have:=qdH (z:=z) (p:=r.1) (n:=r.2.1) (nrem:=nrem) (by lk) (by lk) (by lk) d.d;unfold CtP at this ⊢;rw[e] at this;show this
theorem kc_count(h1:1<=nrem)(r:nrem<=p.size):KOc (qcv z) (CtP z p nrem) (kas_count nrem p):=by
 show(qdG (nrem-1) (k:=1) (p:=p) (z:=z) (yh _) (fun i j a f=>by rw[show i=j by lk];show xS _)).bind fun n q=>?_;obtain⟨t,u,b,h⟩:=q;by_cases c:n=nrem
 .rw [yF (by simpa using c)];show⟨b,by lk,rfl⟩
 .rw [yA (by simpa using c)];have lt:Zp z p n<Zp z p (n-1):=h.resolve_left (by lk);by_cases g:n>1
  .rw [yF g];show KOc (qcv z) _ (if decide (Zp z p 0<Zp z p (n-1))=true then .ret (n,p) else kas_descPart n nrem (kas_rev p 0 n));split
   .show⟨b,by show n<=nrem;lk,rfl⟩
   .rename_i e
    have e:=xW (by simpa using e:decide (Zp z p 0<Zp z p (n-1))=false)
    have d:∀ k,0<=k->k<n->Zp z p k=Zp z p (n-1):=fun k _ o=>by
     have v:=b 0 k (by lk) o;have w:=b k (n-1) (by lk) (by lk);lk
    have s:=qbz (z:=z) (p:=p) (i:=0) (j:=n) (by lk) d;have l:Dsc z p (n+1):=qaF (fun i j a f=>by rw[d i (by lk) (by lk),d j (by lk) f];show xS _) (by lk) (by lk);have:=qdI (z:=z) (p:=kas_rev p 0 n) (n:=n) (nrem:=nrem) (by lk) (by rw[kas_rev_size];lk) (l.same s);unfold CtP at this ⊢;rw[kas_rev_size] at this;show this
  .rw [yA g];have m:n=1:=by lk
   subst m;show qdI (by lk) r (qaF (fun i j a f=>by rw[show i=j by lk];show xS _) (by lk) (by lk))
theorem qbB{k:Nat}(c:Srt z p k):∀ f {l r:Nat},r-l<=f->l<=r->r<=k->(∀ i,i<l->Zp z p i<=Zp z p k)->(∀ i,r<=i->i<k->Zp z p k<=Zp z p i)->KOc (qcv z) (fun m=>m<=k/\(∀ i,i<m->Zp z p i<=Zp z p k)/\∀ i,m<=i->i<k->Zp z p k<=Zp z p i) (kas_place p k f l r)
 | 0,l,r,hf,hl,hr,h1,h2=>⟨by lk,h1,fun i b a=>h2 i (by lk) a⟩
 | f+1,l,r,hf,hl,hr,h1,h2=>by
  unfold kas_place;split
  .show⟨by lk,h1,fun i b a=>h2 i (by lk) a⟩
  .show KOc (qcv z) _ (if decide (Zp z p k<Zp z p ((l+r) / 2))=true then kas_place p k f l ((l+r) / 2) else kas_place p k f ((l+r) / 2+1) r);split
   .rename_i e
    have e:=yk e;show qbB c f (by lk) (by lk) (by lk) h1 fun i b a=>by have:=c ((l+r) / 2) i b a;lk
   .rename_i e
    have e:=xW (by simpa using e:decide (Zp z p k<Zp z p ((l+r) / 2))=false);show qbB c f (by lk) (by lk) hr (fun i b=>by have:=c i ((l+r) / 2) (by lk) (by lk);lk) h2
theorem qem:∀ f {p:Array Nat} {k:Nat},k+f<=p.size->Srt z p k->KOc (qcv z) (fun q=>Srt z q (k+f)) (kas_bin f p k)
 | 0,p,k,hs,h=>h
 | f+1,p,k,hs,h=>(qbB h k (l:=0) (r:=k) (by lk) (by lk) (yh _) (fun i m=>absurd m (Nat.not_lt_zero i)) (fun i h1 g=>absurd g (by lk))).bind fun l hl=>by
  obtain⟨l1,l2,n⟩:=hl
  have d:=qem f (p:=bubble p k (k-l)) (k:=k+1) (by rw[bubble_size];lk) fun i j b t=>by
   have e:k-(k-l)=l:=by lk
   rw[qel (by lk) (by lk),qel (by lk) (by lk),e];by_cases c:i=l
   .rw [yF c];by_cases a:j=l
    .rw [yF a];show xS _
    .rw [yA a,yF (by lk)];show n _ (by lk) (by lk)
   .rw [yA c];by_cases a:j=l
    .rw [yF a,yA (by lk)];show l2 _ (by lk)
    .rw [yA a];by_cases s:l<i
     .rw [yF (by lk),yF (by lk)];show h _ _ (by lk) (by lk)
     .rw [yA (by lk)];by_cases o:l<j
      .rw [yF (by lk)];show h _ _ (by lk) (by lk)
      .rw [yA (by lk)];show h _ _ b (by lk)
  have eq:k+1+f=k+(f+1):=by lk
  rw[eq] at d;show d
theorem kc_sort(d:0<n):KOc (qcv z) (fun q=>Srt z q n) (kas_sort n):=by
 show(kc_count (z:=z) (p:=(List.range n).toArray) (nrem:=n) d (by simp)).bind fun r g=>?_;obtain⟨a,h,b⟩:=g;have b:r.2.size=n:=by rw[b];simp
 split
 .have f:Srt z r.2 (max r.1 1):=by
   by_cases c:r.1=0
   .rw [c];show fun i j e l=>by rw[show i=j by lk];show xS _
   .rw [Nat.max_eq_left (by lk)];show a
  have:=qem (n-max r.1 1) (p:=r.2) (k:=max r.1 1) (by lk) f
  rwa[show max r.1 1+(n-max r.1 1)=n by lk] at this
 .have:r.1=n:=by lk
  show Srt z r.2 n;rw[<- this];show a
end
section
variable{prog:Program}{w:World}{A:Around}{E:Value->Shared->Prop}{s:Shared}
def TwZ(h:Heap)(v:Value)(q:Int):Prop:=∃(t:Addr) (o:Obj) (x y:Int) (a ty:Tok) (k:Nat),v=.ref t/\h.get? t=some o/\o.cls=.type "tuple"/\o.data=.seq #[.int x a,.int y ty] k/\q=64*x+y/\0<=y/\y<64
theorem tz_lt{u v:Value}{q l:Int}{Q:Bool->Shared->Prop}(m:TwZ s.heap u q)(hv:TwZ s.heap v l)(h:Q (decide (q<l)) s):wpAny (model prog w) A (keyLt' (tuples' true) u v) Q E s:=by
 obtain⟨t,o,x,y,n,ty,k,rfl,g,c,d,rfl,B,C⟩:=m;obtain⟨t',r,a,b,i,j,k',rfl,g',p,d',rfl,D,F⟩:=hv;show kat_lt g d g' d' ?_;show kat_cons (kF (kat_go (fun e=>kat_yes ?_) fun e=>kat_no ?_))
 .have e:x=a:=by simpa using e
  show kat_cons (kF (kat_go (fun f=>kat_yes (kat_nil ?_)) fun f=>kat_no ?_))
  .have f:y=b:=by simpa using f
   have:decide (64*x+y<64*a+b)=decide ((#[Value.int x n,Value.int y ty]:Array Value).size<(#[Value.int a i,Value.int b j]:Array Value).size):=YD.mpr ⟨fun z=>by lk,fun z=>absurd z (Yt 2)⟩;rw[<- this];show h
  .show kat_one _ _ (lt_int (show W.BoolBack Q (.bool _) s from ?_));have:decide (64*x+y<64*a+b)=decide (y<b):=YD.mpr (by lk);rw[this] at h;show h
 .have e:x≠a:=by simpa using e
  show oneLt_int ?_;have:decide (64*x+y<64*a+b)=decide (x<a):=YD.mpr (by lk);rw[this] at h;show h
def KeysZ(h:Heap)(ks:List Value)(zk:LX):Prop:=zk.length=ks.length/\∀(i:Nat) v q,ks[i]?=some v->zk[i]?=some q->TwZ h v q
theorem KeysZ.keep{h':Heap}{ks:List Value}(a:KeysZ h ks zk)(k:∀ b o,(∀ x n,o≠seqObj "list" x n)->h.get? b=some o->h'.get? b=some o):KeysZ h' ks zk:=⟨a.1,fun i v q h1 f=>by
 obtain⟨t,o,x,y,j,ty,m,e,g,c,d,r⟩:=a.2 i v q h1 f;show⟨t,o,x,y,j,ty,m,e,k _ _ (fun z n q=>by rw[q] at c;injection c with c;show absurd c (by decide)) g,c,d,r⟩⟩
theorem KeysZ.all{ks:List Value}(a:KeysZ h ks zk):∀ v∈ks,Tw h v:=fun v hv=>by
 obtain⟨i,b⟩:=yf hv;have hz:i<zk.length:=by rw[a.1];show(yc.mp b).1
 obtain⟨t,o,x,y,f,ty,m,e,g,c,d,_⟩:=a.2 i v zk[i] b (yb hz);show⟨t,o,x,y,f,ty,m,e,g,c,d⟩
theorem qdJ(hl:zk.length=vs.length)(h:vs.length<2):KskOut false zk vs vs:=by
 show⟨zk.zip vs,List.Perm.refl _,by rw[XJ (by lk)],YB.mpr fun i j c b a=>?_⟩;rw[kW] at b;lk
theorem ksk_pick{p:Array Nat}(hl:zk.length=vs.length)(a:PmA vs.length p)(l:Srt (fun i=>zk.getD i 0) p vs.length):KskOut false zk vs (p.toList.map fun i=>vs.getD i Value.none):=by
 show⟨p.toList.map fun i=>(zk.getD i 0,vs.getD i Value.none),?_,by rw[X6];rfl,Y0.mpr (YB.mpr fun i j c f d=>?_)⟩
 .have e:(List.range vs.length).map (fun i=>(zk.getD i 0,vs.getD i Value.none))=zk.zip vs:=by
   apply List.ext_getElem
   .simp [hl]
   .intro i h1 m;have b:i<vs.length:=by simpa using h1
    simp[b,hl]
  rw[<- e];show a.map _
 .have g:p.toList.length=vs.length:=by rw[a.length_eq,kn]
  have at_:∀ i (h:i<p.toList.length),Zp (fun i=>zk.getD i 0) p i=zk.getD p.toList[i] 0:=fun i h=>by
   unfold Zp
   have:p.getD i 0=p.toList[i]:=by
    have h':i<p.size:=by simpa using h
    simp[Array.getD,h']
   rw[this]
  have:=l i j (by lk) (by lk);rw[at_ i c,at_ j f] at this;simpa using this
theorem qb9{ks:List Value}(f:KeysZ s.heap ks zk)(hl:ks.length=vs.length)(d:2<=vs.length)(e:vs.length<64) :
  wpAny (model prog w) A ((sortRuns').run (SortSt.mk' (tuples' true) (ks.toArray.zip vs.toArray) #[] 7 none)) (fun r b=>b=s/\failedOf r.2=none/\∃ out:List Value,(arrOf r.2).map (·.2)=List.toArray out/\KskOut false zk vs out/\out.length=vs.length) E s:=by
 show kat_run (ks:=ks) (Q:=fun a b=>b=s/\failedOf a=none/\∃ out:List Value,(arrOf a).map (·.2)=List.toArray out/\KskOut false zk vs out/\out.length=vs.length)
  (G:=fun p b=>b=s/\PmA vs.length p/\Srt (fun i=>zk.getD i 0) p vs.length) hl d e (fun u a b t l m c=>⟨c.1,m,_,kat_snds hl l,ksk_pick (f.1.trans hl) c.2.1 c.2.2,?_⟩) ((kc_sort (z:=fun i=>zk.getD i 0) (by lk)).wp (fun i j C h q o=>?_) (fun p h1 n=>⟨rfl,h1,n⟩) (kok_sort (by lk)))
 .rw [ya,c.2.1.length_eq,kn]
 .have g:∀ i,i<vs.length->TwZ s.heap (ks.getD i Value.none) (zk.getD i 0):=fun i h=>by
   have h1:i<ks.length:=by lk
   have d:i<zk.length:=by rw[f.1];show h1
   have:=f.2 i ks[i] zk[i] (yb h1) (yb d);simpa [h1,d] using this
  show tz_lt (g i h) (g j q) o
theorem sortz_tups{a:Addr}{P:PySem.Fin->Shared->Prop}(g:s.heap.get? a=some (seqObj "list" vs.toArray n))(hv:KeysZ s.heap vs zk)(q:vs.length<64)
  (h:∀ out:Array Value,KskOut false zk vs out.toList->P (.done (.ret .none)) { s with heap:=sortedHeap s.heap a vs out }) :
  wpAny (model prog w) A (Builtin.«list.sort» ⟨[.ref a],[]⟩) P E s:=by
 rw[list_sort_plain];have y:a<s.heap.objs.size:=yL g;show yt (listItems_at g rfl ?_);show yt (xZ g rfl ?_);obtain⟨p,i⟩:∃ p,(s.heap.update a (Obj.mapSeq fun _=>#[])).get? a=some (seqObj "list" #[] p):=⟨_,Xx g (fun _=>#[])⟩;show yt (ku i rfl ?_);show yt (wpAny_newTuple ?_);show yt (kE ?_);show Yk ?_
 have c:(((s.heap.update a (Obj.mapSeq fun _=>#[])).push (seqObj "tuple" vs.toArray 0)).push (seqObj "list" #[] 0)).get? a=some (seqObj "list" #[] p):=by
  rw[xH _ _ _ (by rw[size_push',Xk];show yE (Xd y)),xH _ _ _ (by rw[Xk];show yE y)];show i
 have G:=YG s.heap a (Obj.mapSeq fun _=>(#[]:Array Value));have l:KeysZ (((s.heap.update a (Obj.mapSeq fun _=>#[])).push (seqObj "tuple" vs.toArray 0)).push (seqObj "list" #[] 0)) vs zk:=hv.keep fun b o F e=>yw _ (yw _ ((G.2 b (fun z=>by rw[z,g] at e;show F _ _ (yn e).symm)).trans e));show wpAny (model prog w) A _ P E { s with heap:=((s.heap.update a (Obj.mapSeq fun _=>#[])).push (seqObj "tuple" vs.toArray 0)).push (seqObj "list" #[] 0) };dsimp only;have hsz:vs.toArray.size=vs.length:=by simp
 have d:=h;by_cases m:vs.toArray.size<2
 .rw [yF m,yF m];show yt (yv ?_);rw[StateT.run_pure];show yt (yv ?_);dsimp only;show yt (ku c rfl ?_);show yt (xZ c rfl ?_ (hsz2:=by rw[Array.size_map];show(pairsOf vs).size<=_;rw[pairsOf_size,Yi];lk));simp only[ky,YY,Xh];show yv (d _ ?_);show KskOut false zk vs ((pairsOf vs).map (·.2)).toList
  have:((pairsOf vs).map (·.2)).toList=vs:=by
   rw[Array.toList_map];show(vs.toArray.zip vs.toArray).toList.map Prod.snd=vs;simp[XJ]
  rw[this];show qdJ hv.1 (by lk)
 .rw [yA m,yA m];have B:2<=vs.length:=by lk
  obtain⟨fs,C,I,D⟩:=qcu l.all;show yt (kat_kind (T:=.type "int") C (by lk) (fun f r=>?_) (by room) ?_)
  .obtain⟨x,t,rfl⟩:=D f r;show Looks.of_pure rfl
  show yt (YK (qb9 (ks:=vs) (vs:=vs) l rfl B q) ?_ fun _ _ e=>e);rintro⟨⟨⟩,H⟩ J ⟨rfl,r,out,j,u,v⟩;dsimp only;show yt (ku c rfl ?_);rw[j];show yt (xZ c rfl ?_ (hsz2:=by rw[yx,v,Yi];lk));rw[r];simp only[ky,YY,Xh];show yv (d _ u)
theorem sortedz_tups{l:Addr}{Q:Value->Shared->Prop}(hl:s.heap.IsList l vs.toArray)(hv:KeysZ s.heap vs zk)(d:vs.length<64)
  (h:∀ out:Array Value,KskOut false zk vs out.toList->Q (.ref (s.heap.objs.size+1)) { s with heap:=sortedAll s.heap vs out }) :
  wpAny (model prog w) A (call (.builtin "sorted") [.ref l]) Q E s:=by
 show Calls.call_function_entry kind_sorted plain_sorted entry_sorted (args_sorted1 _) ?_;unfold Builtin.«sorted»;show yt (m:=checkCount "sorted" 1 1 _) (yv ?_);show yt (collect_list hl ?_);show yt (kE ?_)
 have hsz:((s.heap.push (seqObj "list" #[] 0)).update s.heap.objs.size (Obj.mapSeq (·++vs.toArray))).objs.size=s.heap.objs.size+1:=by
  rw[Xk,size_push']
 have c:(((s.heap.push (seqObj "list" #[] 0)).update s.heap.objs.size (Obj.mapSeq (·++vs.toArray))).push (seqObj "list" vs.toArray 0)).get? (s.heap.objs.size+1)=some (seqObj "list" vs.toArray 0):=by
  rw[<- hsz];show yR _ rfl
 have f:KeysZ (((s.heap.push (seqObj "list" #[] 0)).update s.heap.objs.size (Obj.mapSeq (·++vs.toArray))).push (seqObj "list" vs.toArray 0)) vs zk:=hv.keep fun b o _ e=>by
  have a:b<s.heap.objs.size:=yL e;rw[xH _ _ _ (by rw[hsz];show yE (Xd a)),Xo _ _ _ _ (yE a),xH _ _ _ (yE a)];show e
 show wpAny _ _ _ _ _ { s with heap:=((s.heap.push (seqObj "list" #[] 0)).update s.heap.objs.size (Obj.mapSeq (·++vs.toArray))).push (seqObj "list" vs.toArray 0) };rw[hsz];show yt (Yk (xN slot_list_sort ⟨_,c,rfl⟩ entry_list_sort (sortz_tups c f d fun out g=>⟨_,rfl,?_⟩) (args_list_sort _)));show yv ⟨_,rfl,h out g⟩
end
end L2
namespace L2
open PySem PySem.Spec PyProof.Rows PySem.W
variable{H:Hp}{xs:List V}{zk:LX}
section
variable{M:Model}{A:Around}{E:Value->Shared->Prop}{s:Shared}{a kl:Addr}{ws:List Value}{zk:LX}{kx:Array Value}{e e1:Nat}{P:PySem.Fin->Shared->Prop}
theorem qc3{f:SortSt}{out:List Value}(p:s.heap.get? kl=some (seqObj "list" kx e))(u:s.heap.get? a=some (seqObj "list" #[] e1))(i:kl≠a)
  (w:kx.size<64) (b:(arrOf f).map (·.2)=List.toArray out) (t:out.length<64) (j:KskOut false zk ws out) (g:failedOf f=none)
  (h:∀ l h' out c r,Heap.SameBut kl s.heap l->l.get? kl=some (seqObj "list" #[] r)->Heap.SameBut a l h'->h'.get? a=some (seqObj "list" out c)->KskOut false zk ws out.toList->P (.done (.ret .none)) { s with heap:=h' }) :
  wpAny M A (ksk_tail a false e1 (.ref kl) f) P E s:=by
 have q:=YG s.heap kl (Obj.mapSeq fun _=>(#[]:Array Value));have o:=Xx p fun _=>(#[]:Array Value);have d:(s.heap.update kl (Obj.mapSeq fun _=>(#[]:Array Value))).get? a=some (seqObj "list" #[] e1):=(q.2 a i.symm).trans u;have v:=YG (s.heap.update kl (Obj.mapSeq fun _=>(#[]:Array Value))) a (Obj.mapSeq fun _=>(arrOf f).map (·.2));have n:=Xx d fun _=>(arrOf f).map (·.2);have m:((arrOf f).map (·.2)).size=out.length:=by rw[b,yx]
 unfold ksk_tail
 try dsimp only
 show yt (xZ p rfl ?_ (by rw[Yi];lk) (YF _));show yt (wpAny_letGo ?_);show yt (ku d rfl ?_);show yt (xZ d rfl ?_ (YF _) (yi (xG m) (by rw[Yi];lk)));rw[g];simp only[ky,YY,Xh];show yv (h _ _ _ _ _ q o v n (by rw[b,X4];show j))
theorem skz_end{prog:Program}{w:World}(r:s.heap.get? kl=some (seqObj "list" kx e))(q:s.heap.get? a=some (seqObj "list" #[] e1))(i:kl≠a)
  (n:KeysZ s.heap kx.toList zk) (g:zk.length=ws.length) (hw:ws.length<64)
  (h:∀ o h' out c u,Heap.SameBut kl s.heap o->o.get? kl=some (seqObj "list" #[] u)->Heap.SameBut a o h'->h'.get? a=some (seqObj "list" out c)->KskOut false zk ws out.toList->P (.done (.ret .none)) { s with heap:=h' }) :
  wpAny (model prog w) A (ksk_end a false ws.toArray e1 (.ref kl) kx) P E s:=by
 have d:kx.toList.length=ws.length:=by rw[<- n.1];show g
 have F:kx.size=ws.length:=by rw[<- Y1];show d
 unfold ksk_end
 try dsimp only
 rw[yA Yq];by_cases b:ws.toArray.size<2
 .rw [yF b,yF b];show yt (yv ?_);rw[StateT.run_pure];show yt (yv ?_);try dsimp only;rw[yx] at b;show qc3 (out:=ws) r q i (by lk) ?_ hw (qdJ g b) rfl h;show(kx.zip ws.toArray).map (·.2)=ws.toArray;apply Array.toList_inj.mp;rw[Array.toList_map,Array.toList_zip,X4];show XJ (by rw[d];show yh _)
 .rw [yA b,yA b];rw[yx] at b;obtain⟨fs,y,D,B⟩:=qcu n.all;have l:kx=kx.toList.toArray:=by simp
  rw[l];show yt (kat_kind (T:=.type "int") y (by lk) (fun f m=>?_) (by room) ?_)
  .obtain⟨x,t,rfl⟩:=B f m;show Looks.of_pure rfl
  show yt (YK (qb9 n d (by lk) hw) ?_ fun _ _ e=>e);rintro⟨⟨⟩,C⟩ G ⟨rfl,m,out,j,p,v⟩
  try dsimp only
  show qc3 r q i (by lk) j (by lk) p m h
end
def KeysH(H:Hp)(ks:List Value)(zk:LX):Prop:=zk.length=ks.length/\∀(i:Nat) v q,ks[i]?=some v->zk[i]?=some q->∃(t:Addr) (x y:Int),v=.ref t/\H t=some (.tup [.int x,.int y])/\q=64*x+y/\0<=y/\y<64
theorem KeysH.same{H':Hp}{ks:List Value}(h:KeysH H ks zk)(s:∀(t:Addr) (xs:List V),H t=some (.tup xs)->H' t=some (.tup xs)):KeysH H' ks zk:=⟨h.1,fun i v q h1 a=>by
 obtain⟨t,x,y,e,g,r⟩:=h.2 i v q h1 a;show⟨t,x,y,e,s _ _ g,r⟩⟩
theorem KeysH.snoc{ks:List Value}{t:Addr}{x y q:Int}(h:KeysH H ks zk)(g:H t=some (.tup [.int x,.int y]))(r:q=64*x+y/\0<=y/\y<64):KeysH H (ks++[.ref t]) (zk++[q]):=⟨by rw[yu,yu,h.1];rfl,fun i v e h1 a=>by
 by_cases c:i<ks.length
 .rw [yU c] at h1;rw[yU (by rw[h.1];show c)] at a;show h.2 i v e h1 a
 .have d:=(yc.mp h1).1;rw[yu,xA] at d;have b:i=ks.length:=by lk
  subst b;rw[yy (yh _),Xl] at h1;rw[<- h.1,yy (yh _),Xl] at a;cases h1;cases a;show⟨t,x,y,rfl,g,r⟩⟩
theorem KeysH.z{X:Cx}{a:List (Addr×Obj)}{l:St}{s:Shared}{ks:List Value}(I:Inv X a l H s)(h:KeysH H ks zk):KeysZ s.heap ks zk:=⟨h.1,fun i v q h1 b=>by
 obtain⟨t,x,y,rfl,e,r⟩:=h.2 i v q h1 b;obtain⟨_,f,rt,o,g,c,n,d⟩:=I.hok _ _ e
 cases rt with
 | cons r1 rt =>
  cases rt with
  | cons r2 rt =>
   cases rt;obtain⟨j,rfl⟩:=r1;obtain⟨ty,rfl⟩:=r2;show⟨t,o,x,y,j,ty,n,rfl,g,c,d,r⟩⟩
section
variable{X:Cx}{pins:List (Addr×Obj)}{σ:St}{H:Hp}{s:Shared}{E:Value->Shared->Prop}
theorem skz_rest{P:PySem.Fin->Shared->Prop}{A:Around}{f:Value}{G:Hp}{a d:Addr}{C:List Value}{e1:Nat}(I:Inv X pins σ H s)(s0:L2.Same G H)(af:G a=none)(W:G d=none)(D:d≠a)
  (ha:H a=some (LsO a #[] e1)) (ad:H d=some (LsO d #[] 0)) (rv:Vals xs C) (R:zk.length=C.length) (hw:C.length<64)
  (turn:∀(i:Nat) (v:V) (u:Value) (k:Int) (H':Hp) (l:Shared),xs[i]?=some v->zk[i]?=some k->RelV v u->L2.Same G H'->Inv X pins σ H' l->wpAny (model X.prog X.w) A (call f [u]) (EP X pins σ fun r H2=>(∃(t:Addr) (x y:Int),r=.ref t/\H2 t=some (.tup [.int x,.int y])/\k=64*x+y/\0<=y/\y<64)/\L2.Same H' H2) (fun _ _=>False) l)
  (h:∀ ys H' l,L2.Same G H'->Inv X pins σ H' l->H' a=some (.lst ys)->KSo zk xs ys->P (.done (.ret .none)) l) :
  wpAny (model X.prog X.w) A (ksk_rest a f false C.toArray e1 (.ref d)) P E s:=by
 unfold ksk_rest;show yt (wpAny_rule ?_);first
  | rw[List.forIn_toArray]
  | (rw[<- Xy];simp only[X4])
  | rw[<- Xy]
 show yt (ksk_fold (fun i l=>∃ H' p e,Inv X pins σ H' l/\L2.Same G H'/\H' a=some (LsO a #[] e1)/\H' d=some (LsO d p e)/\KeysH H' p.toList (zk.take i)) C 0 s
  ⟨H,#[],0,I,s0,ha,ad,⟨by simp,fun i v q h1=>by simp at h1⟩⟩ ?step ?done)
 case step =>
  rintro j x l hx ⟨H',p,e,J,sH,B,m,K⟩;simp only[xI] at K ⊢;have hj:j<C.length:=(yc.mp hx).1;obtain⟨k,S⟩:∃ k,zk[j]?=some k:=⟨_,yb (by lk)⟩
  have aj:p.size<=C.length:=by
   have h1:=K.1;rw[yO] at h1;have h2:p.toList.length=p.size:=Y1;lk
  obtain⟨v,hv⟩:∃ v,xs[j]?=some v:=⟨_,yb (by rw[rv.length];show hj)⟩;obtain⟨x',T,ag⟩:=Vals.get rv hv;rw[hx] at T;cases T;show yt (XS (YK (turn j v x k H' l hv S ag sH J) (fun u Y he=>?_) fun _ _ hF=>hF.elim));obtain⟨r,H2,Z,ru,⟨F,x2,y2,rfl,g2,r2⟩,L⟩:=he;obtain rfl:u=.ref F:=ru
  try dsimp only
  have U:=LsO.at Z.hok (L _ _ m);have s1:=YG Y.heap d (Obj.mapSeq (·.push (.ref F)));have O:=Xx U (·.push (.ref F));have ab:zk.take (j+1)=zk.take j++[k]:=by rw[yM,S];simp
  have aa:(p.push (Value.ref F)).toList=p.toList++[Value.ref F]:=by simp
  show yt (xZ U rfl ?_ (by rw[Yi];lk) (yi (xG (kU ..)) (by rw[Yi];lk)))
  show yv ⟨rfl,_,p.push (.ref F),_,Z.write (t':=Y.toks) (e:=d) (x:=d) (o:=LsO d (p.push (.ref F)) _) (by rw[L _ _ m];trivial) (.inl rfl) (fun b u n q=>(s1.2 b n).trans q) ⟨_,O⟩ (LsO.ok O),(sH.trans L).put W,by rw[qe (yZ D)];show L _ _ B,qb,by
   rw[aa,ab];show((K.same fun t xs g=>L _ _ g).snoc g2 r2).same fun t xs g=>by rw[qe (fun z=>by rw[z,L _ _ m] at g;cases g)];show g⟩
 case done =>
  rintro l ⟨H',p,e,J,sH,B,m,K⟩
  have ae:KeysH H' p.toList zk:=by
   have ac:zk.take (0+C.length)=zk:=YC (by lk);rw[ac] at K;show K
  have U:=LsO.at J.hok m;have na:=LsO.at J.hok B
  try dsimp only
  show yt (listItems_at U rfl ?_);show skz_end U na D (ae.z J) R hw fun hm h' out c c' ah N ai M ko=>?_;obtain⟨ys,ry,ks⟩:=qek rv ko;have I1:Inv X pins σ (upd H' d (LsO d #[] c')) { l with heap:=hm }:=J.write (t':=l.toks) (e:=d) (x:=d) (by rw[m];trivial) (.inl rfl) (fun b u n q=>(ah.2 b n).trans q) ⟨_,N⟩ (LsO.ok N)
  have hl:ys.length<=sizeLine:=by
   obtain⟨ps,p1,rfl,_⟩:=ks;rw[ya,p1.length_eq,kW,R,Yi];lk
  have Z:Inv X pins σ (upd (upd H' d (LsO d #[] c')) a (.lst ys)) { l with heap:=h' }:=Inv.write (s:={ l with heap:=hm }) (t':=l.toks) (h':=h') (e:=a) (x:=a) I1 (by rw[qe (yZ D),B];trivial) (.inl rfl) (fun b u n q=>(ai.2 b n).trans q) ⟨_,M⟩ ⟨hl,out.toList,c,ry,by rw[M]⟩;show h ys _ _ ((sH.put W).put af) Z qb ks
theorem skz_sorted{f:Addr}{l:Addr}{Q:VK}(I:Inv X pins σ H s)(hl:SqL X.K H l xs)(P:zk.length=xs.length)(hw:xs.length<64)
  (turn:∀(i:Nat) (v:V) (u:Value) (k:Int) (H':Hp) (W:Shared),xs[i]?=some v->zk[i]?=some k->RelV v u->L2.Same H H'->Inv X pins σ H' W->wpAny (model X.prog X.w) X.A.in1.in1 (call (.ref f) [u]) (EP X pins σ fun r Z=>(∃(t:Addr) (x y:Int),r=.ref t/\Z t=some (.tup [.int x,.int y])/\k=64*x+y/\0<=y/\y<64)/\L2.Same H' Z) (fun _ _=>False) W)
  (q:∀ D ys H',L2.Same H H'->H D=none->H' D=some (.lst ys)->KSo zk xs ys->Q (.ref D) H') :
  wpAny (model X.prog X.w) X.A (call (.builtin "sorted") [.ref l] [(Str.ofString "key",.ref f)]) (EP X pins σ Q) E s:=by
 obtain⟨a,U,pl,aa⟩:=I.list hl;have T:a.length<64:=by rw[<- U.length];show hw
 have S:=pl.isList;show call_function_entry_kw kind_sorted plain_sorted entry_sorted (ksk_s1 _ _) ?_;unfold Builtin.«sorted»;show yt (m:=checkCount "sorted" 1 1 _) (yv ?_);show yt (collect_list S ?_ (by rw[Yi];lk));show yt (kE ?_ (by rw[Yi];lk))
 have N:((s.heap.push (seqObj "list" #[] 0)).update s.heap.objs.size (Obj.mapSeq (·++a.toArray))).objs.size=s.heap.objs.size+1:=by
  rw[Xk,size_push']
 show wpAny _ _ _ _ _ { s with heap:=((s.heap.push (seqObj "list" #[] 0)).update s.heap.objs.size (Obj.mapSeq (·++a.toArray))).push (seqObj "list" a.toArray 0) };rw[N];generalize h:((s.heap.push (seqObj "list" #[] 0)).update s.heap.objs.size (Obj.mapSeq (·++a.toArray))).push (seqObj "list" a.toArray 0)=h1
 have c:h1.get? (s.heap.objs.size+1)=some (seqObj "list" a.toArray 0):=by
  rw[<- h,<- N];show yR _ rfl
 have keep:∀ b o,s.heap.get? b=some o->h1.get? b=some o:=fun b o q=>by
  have e:b<s.heap.objs.size:=yL q;rw[<- h,xH _ _ _ (by rw[N];show yE (Xd e)),Xo _ _ _ _ (yE e),xH _ _ _ (yE e)];show q
 have G:h1.objs.size=s.heap.objs.size+2:=by rw[<- h,size_push',N]
 generalize O:s.heap.objs.size+1=D at c G;have g:H D=none:=I.hok.fresh (by lk);show yt (Yk (wpAny_call_entry_kw slot_list_sort ⟨_,c,rfl⟩ entry_list_sort ?body (ksk_l1 _ _)))
 case body =>
  show wpAny (model X.prog X.w) X.A.in1.in1 (Builtin.«list.sort» ⟨[.ref D],_⟩) _ _ _;rw[ksk_t1];have s1:=YG h1 D (Obj.mapSeq fun _=>(#[]:Array Value));obtain⟨L,n⟩:∃ L,(h1.update D (Obj.mapSeq fun _=>(#[]:Array Value))).get? D=some (seqObj "list" #[] L):=⟨_,Xx c fun _=>(#[]:Array Value)⟩;unfold ksk_tree;show yt (listItems_at c rfl ?_);show yt (xZ c rfl ?_ (by rw[yx,Yi];lk) (YF _));have J:(h1.update D (Obj.mapSeq fun _=>(#[]:Array Value))).objs.size=h1.objs.size:=Xk ..;generalize h1.update D (Obj.mapSeq fun _=>(#[]:Array Value))=d at s1 n J;show yt (ku n rfl ?_);show yt (wpAny_newTuple ?_ (by show a.length<=_;rw[Yi];lk));show yt (kE ?_ (YF _));show Yk ?_;have R:(d.push (seqObj "tuple" a.toArray 0)).objs.size=s.heap.objs.size+3:=by rw[size_push',J,G]
  show wpAny _ _ (ksk_rest D (.ref f) false a.toArray _ (.ref (d.push (seqObj "tuple" a.toArray 0)).objs.size)) _ _ { s with heap:=(d.push (seqObj "tuple" a.toArray 0)).push (seqObj "list" #[] 0) }
  have kp:∀ b o,s.heap.get? b=some o->((d.push (seqObj "tuple" a.toArray 0)).push (seqObj "list" #[] 0)).get? b=some o:=fun b o q =>
   yw _ (yw _ ((s1.2 b (yE (Xj (yL q) (O ▸ xL _)))).trans (keep b o q)))
  have B:=yw (seqObj "list" #[] 0) (yw (seqObj "tuple" a.toArray 0) n);have j:((d.push (seqObj "tuple" a.toArray 0)).push (seqObj "list" #[] 0)).get? (d.push (seqObj "tuple" a.toArray 0)).objs.size=some (seqObj "list" #[] 0):=yR _ rfl;rw[R] at j ⊢;generalize (d.push (seqObj "tuple" a.toArray 0)).push (seqObj "list" #[] 0)=h4 at kp B j;have F:H (s.heap.objs.size+3)=none:=I.hok.fresh (YQ _ _);have C:s.heap.objs.size+3≠D:=fun z=>by rw[<- O] at z;lk
  have Y:L2.Same H (upd (upd H D (LsO D #[] L)) (s.heap.objs.size+3) (LsO (s.heap.objs.size+3) #[] 0)):=((Same.refl H).put g).put F
  have I4:Inv X pins σ (upd (upd H D (LsO D #[] L)) (s.heap.objs.size+3) (LsO (s.heap.objs.size+3) #[] 0)) { s with heap:=h4 }:=I.laidM (t':=s.toks) kp (fun b M=>by rw[qe (yE (yj M (YQ _ _))),qe (yE (O ▸ Xd M))]) fun b u M p=>by
   by_cases z:b=s.heap.objs.size+3
   .subst z;rw[qb] at p;cases p;show LsO.ok j
   .rw [qe z] at p;by_cases z:b=D
    .subst z;rw[qb] at p;cases p;show LsO.ok B
    .rw [qe z,I.hok.fresh M] at p;cases p
  show skz_rest I4 Y g F C (by rw[qe (yZ C)];show qb) qb U (by rw[P];show U.length) T turn fun ys H' W sH I' ha ks=>⟨_,rfl,?_⟩;show yv ⟨_,rfl,.ref D,H',I',rfl,q D ys H' sH g ha ks⟩
end
inductive SrZ(K:yg)(P:Addr)(lp:Pos)(qual:Str)(iw:Nat)(t:TE)(σ:St)(x:V)(H:Hp)(Q:VK):Prop
 | mk (l:Addr) (xs:List V) (zk:LX) (wv:V) (_:x=.ref l) (_:SqL K H l xs) (_:zk.length=xs.length) (_:xs.length<64) (_:TbO H P lp qual) (_:σ[iw]?=some (some wv))
  (_:∀(i:Nat) (v:V) (k:Int) (H':Hp),xs[i]?=some v->zk[i]?=some k->zP P H H'->t [some v,some wv] H' fun r H2=>(∃(t:Addr) (x y:Int),r=.ref t/\H2 t=some (.tup [.int x,.int y])/\k=64*x+y/\0<=y/\y<64)/\L2.Same H' H2)
  (_:∀(D:Addr) (ys:List V) (H':Hp),zP P H H'->TbO H' P lp qual->H D=none->H' D=some (.lst ys)->KSo zk xs ys->Q (.ref D) H')
def qen(K:yg)(P:Addr)(d:Pos)(a:Str)(iw:Nat)(e t:TE):TE:=fun b H Q=>e b H fun x c=>SrZ K P d a iw t b x c Q
section
variable{X:Cx}{K:yg}{e body:Expr}{te t:TE}{p lp kp pos:Pos}{params:Arguments}{scope:Scope}{c P cw:Addr}{pn wn:Str}{iw:Nat}{k:Nat}
theorem pe_sortZ(hK:X.K=K)(hm:X.mg "sorted"=none)(r:X.env.code=.ref c)(C:CodeHd X.base c P)(hB:X.base.BuiltinsAt X.mg P)(hr:Room (k+3) X.A)(he:PE X e te)
  (Z:closureFor scope X.env=pure [(wn,cw)]) (F:defaultsOf params X.env=([],[])) (S:LamSc scope pn wn) (ae:pn≠wn) (aa:X.env.cells.lookup wn=some cw) (ac:X.env.kindOf wn=some .cell) (hi:X.N[iw]?=some wn)
  (m:∀(J:Str) (B:Value) (d:Addr) (a u:Value),bindArgs (kla_fn "<lambda>" J params body scope [(wn,cw)] B (.ref d) a) ⟨[u],[]⟩=pure [(pn,u)])
  (hb:∀(A:Around) (f d:Addr) (s:Shared) (H:Hp),Room (k+1) A->PE (qd4 X A [pn,wn] (X.env.qual++"<lambda>") scope f d [(wn,cw)] s H) body t)
  (hg:Gl X "sorted":=by rfl) (h1:starEach [e] X.env=(false,eval e X.env)::starEach [] X.env:=by rfl) (h2:(backTo pos (starEach [e] X.env)).any (·.1)=false:=by rfl) :
  PE X (.Call (.Name "sorted" p) [e] [⟨some "key",.Lambda params body scope lp,kp⟩] pos) (qen K P lp (X.env.qual++"<lambda>") iw te t):=by
 subst hK;intro G s σ H Q I h;show xT (qaf (u:=.builtin "sorted") I hg hm rfl ?_ (by decide) (by decide));show callWith_kw ?_ (by rw[h1];rfl) h2 rfl rfl;show thn (qa he qd h1 pos G s σ H (fun vs L=>match vs with | [x]=>SrZ X.K P lp (X.env.qual++"<lambda>") iw t σ x L Q | _=>False) I h) fun us s1 ⟨vs,L,I1,r1,y⟩=>?_
 match vs,r1,y with
 | [],_,y=>show y.elim
 | _::_::_,_,y=>show y.elim
 | [x],r1,y =>
  obtain⟨l,xs,zk,wv,rfl,hl,ab,hw,T,af,kt,q⟩:=y;obtain⟨u,rfl,ru⟩:=qaQ r1;obtain rfl:u=.ref l:=ru;show wpAny _ _ (evalAll [(do let v <- eval (.Lambda params body scope lp) X.env;standAt pos;pure v)]) _ _ s1;show wpAny_evalAll_cons (yt (thn (lam_make (Q:=fun v g=>∃ f d B a,v=.ref f/\zP P L g/\TbO g P lp (X.env.qual++"<lambda>")/\g f=some (FnO f (kla_obj "<lambda>" (X.env.qual++"<lambda>") params body scope [(wn,cw)] B d a))/\g d=some (CdO d (X.env.qual++"<lambda>"))) I1 r C hB T Z F fun f d B a g j M _ U R=>⟨f,d,B,a,rfl,j,M,U,R⟩) fun v s2 ⟨v',g,I2,r2,f,d,B,a,e2,j,M,U,R⟩=>yt (kC (yv ?_))));subst e2;obtain rfl:v=.ref f:=r2;show wpAny_evalAll_nil ?_;show wpAny _ _ (call (.builtin "sorted") [.ref l] [(Str.ofString "key",.ref f)]) _ _ s2
  have ad:SqL X.K g l xs:=by
   obtain⟨ps,W,_⟩:=T;rcases hl with hl | hl
   .show .inl ?_;rcases hl with hl | ⟨o,hl⟩
    .show .inl (j _ _ (fun z=>by rw[z,W] at hl;cases hl) hl)
    .show .inr ⟨o,j _ _ (fun z=>by rw[z,W] at hl;cases hl) hl⟩
   .show .inr hl
  show skz_sorted I2 ad ab hw (fun i v u k H' s' hv hk rv E I'=>?_) fun D ys H' E O eD ks=>q D ys H' (fun b o n e=>E b o (j b o n e)) (M.same E) ?_ eD ks
  .have w:=hr.in1.in1;show lam_call I' I'.ok.frames w.hd w.depth (E _ _ U) (E _ _ R) (m _ _ _ _ _) S ae aa ac hi af rv (hb _ _ _ _ _ w) (kt i v k H' hv hk fun b o n e=>E b o (j b o n e))
  .cases e:L D with
   | none=>rfl
   | some o =>
    obtain⟨ps,W,_⟩:=id T;by_cases z:D=P
    .obtain⟨ag,Y,_⟩:=M;rw[z,Y] at O;cases O
    .rw [j D o z e] at O;cases O
end
section
variable{X:Cx}{K:yg}
def rSortZ:List V->Hp->VK->Prop:=fun xs H Q=>∃(p:Addr) (a:LQ) (zk:LX),xs=[.ref p]/\H p=some (.lst (a.map V.ref))/\a.length<64/\KeysH H (a.map Value.ref) zk/\∀(l:Addr) (us:LQ),H l=none->KSo zk (a.map V.ref) (us.map V.ref)->Q (.ref l) (upd H l (.lst (us.map V.ref)))
theorem qca:∀{us:LQ} {ys:List V},Vals ys (us.map Value.ref)->ys=us.map V.ref
 | [],_,.nil=>rfl
 | u::us,y::ys,.cons r h=>by
  rw[qca h]
  cases y with
  | ref a =>
   have e:Value.ref u=Value.ref a:=r
   injection e with e
   rw[e];rfl
  | int n=>obtain⟨t,e⟩:=r;cases e
  | str n=>obtain⟨t,e⟩:=r;cases e
  | non=>cases (show Value.ref u=Value.none from r)
  | bl b=>cases (show Value.ref u=Value.bool b from r)
  | ty b=>cases (show Value.ref u=Value.type b from r)
  | byt b=>first | (obtain⟨t,e⟩:=r;cases e) | cases r | show r.elim
  | flt b=>first | (obtain⟨t,e⟩:=r;cases e) | cases r | show r.elim
theorem k_sortZ:zG X (.builtin "sorted") rSortZ:=by
 intro l s E H xs us Q I r h;obtain⟨p,c,zk,rfl,v,f,j,q⟩:=h;obtain⟨u,rfl,B⟩:=qaQ r;cases B;obtain⟨x,C,pl,hz⟩:=I.list (SqL.of v);have m:=qb8 C;subst m;show sortedz_tups (vs:=c.map Value.ref) pl.isList (j.z I) (by rw[ya];show f) fun out a=>?_;obtain⟨ys,D,ks⟩:=qek (qa2 c) a
 have g:out.toList.Perm (c.map Value.ref):=by
  obtain⟨ps,y,A,_⟩:=a;have:=y.map Prod.snd;rw[<- A,XJ (by rw[j.1];show yh _)] at this;show this
 obtain⟨us,g,i⟩:=perm_refs g
 have d:ys=us.map V.ref:=by
  have:Vals ys (us.map Value.ref):=by rw[<- i];show D
  show qca this
 subst d;obtain⟨e,n⟩:=PyProof.Rows.sortedAll_at s.heap (c.map Value.ref) out;have t:H (s.heap.objs.size+1)=none:=I.hok.fresh (Xg _)
 have new:ObjOk X.prog X.w (upd H (s.heap.objs.size+1) (.lst (us.map V.ref))) (PyProof.Rows.sortedAll s.heap (c.map Value.ref) out) (s.heap.objs.size+1) (.lst (us.map V.ref)):=by
  show⟨?_,out.toList,e,by rw[i];show qa2 us,?_⟩
  .rw [ya,g.length_eq];show yY (qi (by lk))
  .rw [n]
 show⟨.ref (s.heap.objs.size+1),_,I.laid (t':=s.toks) (fun b o e=>PyProof.Rows.sortedAll_old e) (Xg _) new,rfl,q _ us t ks⟩
end
end L2
namespace K33
open PySem L2 PyProof.Rows
variable{A:Str->Str->Prop}{E:XK}{G H H' H0 H1 H2 J J':Hp}{K:W.Frag}{Pd:Str->Prop}{R U dn l' l1 l2 m1 r rs rv rw rz ss wt:LS}{S S':FS}{a b c m q s u v y:Str}{ab:Str×Str}{as ts us:LQ}{cf cw dx fo l n p t tb x:Addr}{d lo ol:V}{fd:FuncData}{fps kps qs tps ups:LP}{g:Str->Option Str}{i j:Nat}{kvs:List (Key×V)}{mg:Str->Option Value}{ns:LN}{o:HO}{ps:Array Value}{xs ys:List V}{α β:Type}{σ:L2.St}
theorem Sr(H:Hp):L2.Same H H:=L2.Same.refl H
theorem jW{k:Nat}{A:Around}(a:Room k A):A.units+100<cLine:=by have:=a.un;lk
theorem hmR{k:Nat}{A:Around}(a:Room k A)(h:j<=k:=by decide):Room j A:=a.mono h
local macro_rules | `(tactic| walk_at "w")=>`(tactic| first
 | with_reducible refine vSeq ?_ | with_reducible refine vAsg ?_ | with_reducible refine vAsgS ?_ | with_reducible refine vIfS ?_ | with_reducible refine vRet ?_ | with_reducible refine vNext ?_ | with_reducible refine vC ?_
 | ((with_reducible refine' vVar ?hv ?_);(case hv=>rfl)) | with_reducible refine vOp ?_ | with_reducible refine vChain ?_ | with_reducible refine vNil ?_ | with_reducible refine vCons ?_ | with_reducible refine vCB ?_ | with_reducible refine vCall ?_
 | with_reducible refine vLst ?_ | with_reducible refine vTup ?_ | with_reducible refine vTest ?_ | with_reducible refine vB ?_ | with_reducible refine vNot ?_ | with_reducible refine vAnd ?_ | with_reducible refine vOr ?_
 | with_reducible refine vAndV ?_ | with_reducible refine vOrV ?_ | with_reducible refine vNotV ?_ | with_reducible refine vYes ?_ | with_reducible refine vLeI ?_ | with_reducible refine vLeS ?_ | with_reducible refine vIsB ?_ | with_reducible refine vAddI ?_ | with_reducible refine vSl ?_ | with_reducible refine vNoPart ?_ | with_reducible refine vPart ?_ | with_reducible refine vExI ?_ | with_reducible refine vBM ?_ | with_reducible refine vBM0 ?_ | with_reducible refine vComp ?_ | with_reducible refine vFor ?_ | with_reducible refine vRng1 ?_ | with_reducible refine vAny ?_ | with_reducible refine vGN ?_ | with_reducible refine vI0 ?_ | with_reducible refine vEqI ?_ | with_reducible refine vEqB ?_ | with_reducible refine vEx ?_ | with_reducible refine vDrop ?_ | with_reducible refine vRetN ?_ | with_reducible refine vFldU ?_ | with_reducible refine vSFldU ?_ | with_reducible refine vXMake ?_ | with_reducible refine vMake ?_ | with_reducible refine vMeth ?_ | with_reducible refine vVinit ?_ | with_reducible refine vCallS ?_ | with_reducible refine vRaise ?_ | with_reducible refine vMethS ?_ | with_reducible refine vMakeS ?_ | with_reducible refine vUn ?_ | with_reducible refine vIf ?_ | with_reducible refine vRev ?_ | with_reducible refine vEnum ?_ | with_reducible refine vDGet2 ?_ | with_reducible refine vStep ?_)
local macro_rules | `(tactic| walk_at "v")=>`(tactic| repeat walk_at "w")
local macro_rules | `(tactic| ext)=>`(tactic| walk_at "v")
local macro_rules | `(tactic| apply $e)=>`(tactic| (ext;refine $e))
noncomputable def fAtt:LS:=["board","partners","rows","parents","bases","rings","waiting","longer"]
structure Txt(K:W.Frag)(mg:Str->Option Value)(cc:Nat->Addr)(cw:Addr):Prop where
 b_len:mg "len"=none
 b_int:mg "int"=none
 b_enumerate:mg "enumerate"=none
 b_all:mg "all"=none
 b_max:mg "max"=none
 b_min:mg "min"=none
 b_isinstance:mg "isinstance"=none
 b_bool:mg "bool"=none
 b_str:mg "str"=none
 b_range:mg "range"=none
 b_list:mg "list"=none
 b_tuple:mg "tuple"=none
 g_LONGEST_NAME:∃ tk,mg "LONGEST_NAME"=some (.int 6 tk)
 g_MOST_PLACES:∃ tk,mg "MOST_PLACES"=some (.int 14 tk)
 g_MOST_TIES:∃ tk,mg "MOST_TIES"=some (.int 30 tk)
 wcl:Cls K cw
 wn:NoAttr K cw "numbers"
 wo:NoAttr K cw "order"
 wr:NoAttr K cw "near"
 m_Web:mg "Web"=some (.ref cw)
 m_Forest:mg "Forest"=some (.ref (cc 9))
 fcl:Cls K (cc 9)
 fa:∀ a∈fAtt,NoAttr K (cc 9) a
 b_zip:mg "zip"=none
 b_sorted:mg "sorted"=none
theorem uQ:FnScope ["thing"] ["thing"] (qg zI):=fS
theorem uR:FnScope ["bits","number"] ["bits","number"] (qg qao):=fS
theorem uL:FnScope ["numbers","thing"] ["numbers","thing"] (qg zQ):=fS
theorem KJ:FnScope ["numbers","thing","both"] ["numbers","thing"] (qg js):=fS
theorem qH(a:L2.Same H H1)(hl:H1 l=none):L2.Same H (upd H1 l o):=fun c u e=>by
 have q:=a c u e;rw[qe (qz q hl)];show q
theorem qaA(a:L2.Same H H1)(hl:H l=none):L2.Same H (upd H1 l o):=fun c u e=>by
 rw[qe (qz e hl)];show a c u e
noncomputable def sg(c:Nat):Bool:=if (!decide (([c]:LN)<("a":Str).cps.toList))=true then !decide (("z":Str).cps.toList < [c]) else false
noncomputable def zv(x:Str):Bool:=if 1<=x.length/\x.length<=6 then x.cps.toList.all sg else false
theorem nameS_at{x:Str}(h:zv x=true):1<=x.length/\x.length<=6/\x.cps.toList.all sg=true:=by
 unfold zv at h;split at h
 .rename_i z;show⟨z.1,z.2,h⟩
 .cases h
structure All2{α β:Type}(R:α->β->Prop)(l:List α)(m:List β):Prop where
 len:l.length=m.length
 at_:∀(k:Nat) a b,l[k]?=some a->m[k]?=some b->R a b
theorem All2.nil{R:α->β->Prop}:All2 R [] []:=⟨rfl,fun k a b h=>by simp at h⟩
theorem All2.mono{R S:α->β->Prop}{l:List α}{m:List β}(h:All2 R l m)(f:∀ a b,R a b->S a b):All2 S l m:=⟨h.len,fun k a b x y=>f a b (h.at_ k a b x y)⟩
theorem All2.snoc{R:α->β->Prop}{l:List α}{m:List β}{x:α}{y:β}(h:All2 R l m)(r:R x y):All2 R (l++[x]) (m++[y]):=by
 show⟨by rw[yu,yu,h.len];rfl,fun k a b c d=>?_⟩;by_cases e:k<l.length
 .rw [yU e] at c;rw[yU (by rw[<- h.len];show e)] at d;show h.at_ k a b c d
 .rw [yy (by lk)] at c;rw[yy (by rw[<- h.len];lk)] at d
  have f:k-l.length=0:=by
   have:=(yc.mp c).1;simp at this;lk
  rw[<- h.len] at d;rw[f] at c d;cases c;cases d;show r
theorem All2.mem{R:α->β->Prop}{l:List α}{m:List β}(h:All2 R l m){x:α}(c:x∈l):∃ y∈m,R x y:=by
 obtain⟨k,b,e⟩:=xr c;have a:k<m.length:=by rw[<- h.len];show b
 show⟨m[k],YR a,h.at_ k x m[k] (by rw[yb b,e]) (yb a)⟩
def PL(H:Hp)(l:Addr)(ts:LQ)(tps:LP):Prop:=H l=some (.lst (ts.map V.ref))/\All2 (fun t ab=>H t=some (.tup [.str ab.1,.str ab.2])) ts tps
theorem PL.same(h:PL H l ts tps)(s:L2.Same H H'):PL H' l ts tps:=⟨s _ _ h.1,h.2.mono fun _ _ z=>s _ _ z⟩
section
variable{P:Program}{w:World}{K:W.Frag}{mg:Str->Option Value}{base:Heap}{cc:Nat->Addr}{cw:Addr}{f:Addr}{fd:FuncData}
inductive spName(vs:List V)(H:Hp)(Q:VK)(E:XK):Prop|mk (x:Str) (_:vs=[.str x]) (_:zv x=true) (_:∀ H',L2.Same H H'->Q (.bl true) H')
theorem ok_name(F:Fun K "is_name" "is_name" zI f fd)(T:Txt K mg cc cw):FnOk P w K mg base CX0 1 f fd ["thing"] spName:=by
 show F.ok uQ fun _ _ _ _ H vs Q E t h=>?_
 .obtain⟨x,rfl,n,q⟩:=h;obtain⟨u,r,s⟩:=nameS_at n;show⟨_,(qc (qJ (PW.pt (qbL (jc (qV (qq (qbm (K:=K) rfl) rfl T.b_isinstance xo (qa (pv 0) (qa (ze (v:=.ty "str") rfl T.b_str boot_str rfl) qd))))) (qbe (jc (pt_chain qfn qfn qh (qq (jR (K:=K) rfl) rfl T.b_len YL (qa (pv 0) qd)) (qbv rfl T.g_LONGEST_NAME)))))) (qf (qk jo)) qo)
 (qf (qk (qq (qeE (K:=K) rfl rfl) rfl T.b_all boot_all (qa (jj (sc:=qg zI) (XN:=["thing"]) ["sign"] 1 [] rfl rfl rfl (by room) rfl (by room)
  (qK (K:=K) rfl (pv 0)) (fun _ _ _ _=>(qm (i:=0) (show(["sign"]:LS).Nodup by room) rfl (yP rfl))) qU
  (fun _ _ _ _=>jG)
  (fun _ _ _ _=>(pe_chain qfn qfn qcL (pv 0) qcL))) qd))))),?_⟩
  apply qdf (.inl (.str x)) rfl (qax K "str" (by simp) "str" (by simp)) ?_;apply yr ?_;apply vLenS (yi r (by decide)) ?_;apply qL (fun h1=>?_) fun h1=>absurd (yS (by lk)) h1;apply qL (fun g=>by simp only[Bool.not_eq_true',XA] at g;lk) fun g=>?_;apply comp_str (fun i ys H'=>H'=H/\ys=((x.cps.toList.take i).map sg).map V.bl) ⟨rfl,by simp⟩ (fun i c ys H' hc e=>?_) fun ys H' e=>?_
  .obtain⟨rfl,rfl⟩:=e;apply zr ?_;ext
   have hl:(List.map V.bl (List.map sg (List.take i x.cps.toList))).length<sizeLine:=by
    rw[ya,ya,yO];show qi (yi (kG _ _) (by simpa [Str.length] using(show x.length<=1000 by lk)))
   have a:∀ b,b=sg c->(List.map V.bl (List.map sg (List.take i x.cps.toList)))++[V.bl b]=List.map V.bl (List.map sg (List.take (i+1) x.cps.toList)):=by
    intro b m;have j:x.cps.toList[i]?=some c:=by simpa using hc
    rw[m,yM,j];simp
   show qL (fun d=>?_) fun d=>⟨hl,rfl,a _ (by unfold sg;rw[yA d])⟩;apply⟨hl,rfl,a _ (by unfold sg;rw[yF d])⟩
  .obtain⟨rfl,rfl⟩:=e;have p:x.cps.toList.take x.cps.size=x.cps.toList:=by rw[<- Y1,yQ]
   rw[p];show⟨?_,fun l hl=>?_⟩
   .rw [ya,ya];show yY (qi (by simpa [Str.length] using(show x.length<=1000 by lk)))
   .ext;show⟨l,x.cps.toList.map sg,rfl,SqL.of qb,?_⟩;have z:=q _ (qH (Sr H') (o:=.lst ((x.cps.toList.map sg).map V.bl)) hl);rw[k8];rw[<- s] at z;show z
inductive spBit(vs:List V)(H:Hp)(Q:VK)(E:XK):Prop|mk (b n:Int) (_:vs=[.int b,.int n]) (_:0<=n) (_:Q (.bl (decide (Builtin.bitAnd (b / 2 ^ n.toNat) 1=1))) H)
theorem ok_bit(F:Fun K "has_bit" "has_bit" qao f fd):FnOk P w K mg base CX0 1 f fd ["bits","number"] spBit:=by
 show F.ok uR fun _ _ _ _ H vs Q E c h=>?_
 .obtain⟨b,n,rfl,a,q⟩:=h;have d:=jW c;show⟨_,(qf (qk (jt (zZ (K:=K) rfl d) (qI op_and (qI op_shr (pv 0) (pv 1)) qh) qh (qx _)))),?_⟩;apply vI a ?_;apply .inl (.inl (.inl ⟨rfl,rfl,?_⟩));show q
noncomputable def qba:LS->Nat->List (Key×V)
 | [],_=>[]
 | s::r,i=>(.inr s,.int i)::qba r (i+1)
theorem qcb(y:Str):∀(ss:LS) (i:Nat),qba (ss++[y]) i=qba ss i++[(.inr y,.int (i+ss.length:Nat))]
 | [],i=>rfl
 | s::r,i=>by
  show(_::qba (r++[y]) (i+1))=_::(qba r (i+1)++_);rw[qcb y r (i+1)];have:i+1+r.length=i+(s::r).length:=by simp;lk
  rw[this]
theorem zw:∀(ss:LS) (i:Nat),(qba ss i).length=ss.length
 | [],_=>rfl
 | _::r,i=>congrArg (· + 1) (zw r (i+1))
theorem qa4:∀{ss:LS} {i:Nat},y∉ss->j4 (qba ss i) (.inr y:Key)=none
 | [],_,_=>rfl
 | s::r,i,h=>by
  have h1:¬ s=y:=fun e=>h (by rw[e];show yG);show j4 ((.inr s,V.int i)::qba r (i+1)) _=none;rw[qZ (p:=((.inr s:Key),V.int i)) (fun e=>h1 (xE e))];show qa4 fun m=>h (yI _ m)
theorem jZ:∀{ss:LS} {i:Nat},y∈ss->∃ j,j<ss.length/\ss[j]?=some y/\j4 (qba ss i) (.inr y:Key)=some (.int (i+j:Nat))
 | [],_,h=>by cases h
 | s::r,i,h=>by
  by_cases e:s=y
  .subst e;show⟨0,by simp,rfl,jh (p:=((.inr s:Key),V.int i)) rfl⟩
  .rcases yB.mp h with z | z
   .show absurd z.symm e
   .obtain⟨j,h1,b,c⟩:=jZ (i:=i+1) z;show⟨j+1,by simp;lk,by simpa using b,?_⟩;show j4 ((.inr s,V.int i)::qba r (i+1)) _=_;rw[qZ (p:=((.inr s:Key),V.int i)) (fun a=>e (xE a)),c];have:i+1+j=i+(j+1):=by lk
    rw[this]
theorem qa5(y:Str)(ss:LS)(i:Nat):(j4 (qba ss i) (.inr y:Key)).isSome=decide (y∈ss):=by
 by_cases h:y∈ss
 .obtain⟨j,_,_,e⟩:=jZ (i:=i) h;rw[e,yS h];rfl
 .rw [qa4 h,yl h];rfl
inductive spPlace(vs:List V)(H:Hp)(Q:VK)(E:XK):Prop|mk (d:Addr) (ss:LS) (x:Str) (_:vs=[.ref d,.str x]) (_:H d=some (.dK (qba ss 0))) (_:zv x=true) (_:x∈ss) (_:∀ H',L2.Same H H'->Q (.bl true) H')
theorem ok_place(F:Fun K "is_place" "is_place" zQ f fd)(c:DefOk P w K mg base CX0 1 "is_name" ["thing"] spName):FnOk P w K mg base CX0 2 f fd ["numbers","thing"] spPlace:=by
 show F.ok uL fun _ _ _ _ H vs Q E a h=>?_
 .obtain⟨d,ss,x,rfl,e,g,j,q⟩:=h;have i:=jW a;show⟨_,(qf (qk (qbf (qr c (hmR a) qC (qa (pv 1) qd)) (qaO (jt (j5 (K:=K) rfl i) (pv 1) (pv 0) (by with_unfolding_all rfl)))))),?_⟩;apply⟨x,rfl,g,fun H1 b=>?_⟩;apply zr ?_;apply .inr (.inl ⟨d,_,rfl,DGet.k (k:=Sum.inr x) (b d _ e),?_⟩);rw[qa5,yS j];show q H1 b
inductive spTwo(vs:List V)(H:Hp)(Q:VK)(E:XK):Prop|mk (d t:Addr) (ss:LS) (a b:Str) (_:vs=[.ref d,.ref t]) (_:H d=some (.dK (qba ss 0))) (_:H t=some (.tup [.str a,.str b])) (_:zv a=true) (_:zv b=true) (_:a∈ss) (_:b∈ss) (_:a≠b) (_:∀ H',L2.Same H H'->Q (.bl true) H')
theorem ok_two(F:Fun K "are_two_places" "are_two_places" js f fd)(T:Txt K mg cc cw)(o:DefOk P w K mg base CX0 2 "is_place" ["numbers","thing"] spPlace):FnOk P w K mg base CX0 3 f fd ["numbers","thing"] spTwo:=by
 show F.ok KJ fun _ _ _ _ H vs Q E m h=>?_
 .obtain⟨d,t,ss,a,b,rfl,p,c,u,x,r,s,l,q⟩:=h;have g:=jW m;show⟨_,(qc (qJ (PW.pt (qbL (jc (qV (qq (qbm (K:=K) rfl) rfl T.b_isinstance xo (qa (pv 1) (qa (ze (v:=.ty "tuple") rfl T.b_tuple boot_tuple rfl) qd))))) (qbe (qj (qam (K:=K) rfl g) (qq (jR (K:=K) rfl) rfl T.b_len YL (qa (pv 1) qd)) qh (qx _))))) (qf (qk jo)) qo)
 (qc (qt (i:=2) KJ.nd rfl (yP rfl) (qbf (qr o (hmR m) qC (qa (pv 0) (qa (qu (qv (K:=K) rfl g) (pv 1) qh (fun _ _=>rfl)) qd))) (qaO (qr o (hmR m) qC (qa (pv 0) (qa (qu (qv (K:=K) rfl g) (pv 1) qh (fun _ _=>rfl)) qd))))))
 (qf (qk (qbf (pv 2) (qaO (jt (qam (K:=K) rfl g) (qu (qv (K:=K) rfl g) (pv 1) qh (fun _ _=>rfl)) (qu (qv (K:=K) rfl g) (pv 1) qh (fun _ _=>rfl)) (qx _)))))))),?_⟩
  apply qdf (.inl (.tup c)) rfl (qax K "tuple" (by simp) "tuple" (by simp)) ?_;apply yr ?_;apply vLenT c ?_;apply .inl ⟨rfl,rfl,?_⟩;apply yr ?_;apply .inl (qaY c rfl ?_);apply⟨d,ss,a,rfl,p,u,r,fun H1 j=>?_⟩;apply zr ?_;apply .inl (qaY (j _ _ c) rfl ?_);apply⟨d,ss,b,rfl,j _ _ p,x,s,fun H2 n=>?_⟩;apply zr ?_;apply .inl (qaY (n _ _ (j _ _ c)) rfl ?_);apply .inl (qaY (n _ _ (j _ _ c)) rfl ?_);show .inl ⟨rfl,rfl,?_⟩;have z:=q H2 (j.trans n);have e:(if true=true then !eqV (V.str a) (V.str b) else eqV (V.str a) (V.str b))=true:=by simp[eqV,l]
  rw[e];show z
theorem KF:FnScope ["names","numbers","name"] ["names"] (qg j9):=fS
theorem qcw(m j:Nat):decide (Builtin.bitAnd ((m:Int) / 2 ^ (j:Int).toNat) 1=1)=m.testBit j:=by
 rw[PyProof.Rows.bitAnd_m1,Nat.testBit_eq_decide_div_mod_eq];rw[YI];have e:(m:Int) / 2 ^ j=((m / 2 ^ j:Nat):Int):=by rw[Int.natCast_ediv,Int.natCast_pow];rfl
 rw[e]
 congr 1
 apply propext;lk
theorem qeo(m j:Nat):Builtin.bitOr (m:Int) (1*2 ^ (j:Int).toNat)=((m ||| 2 ^ j:Nat):Int):=by
 have e:(1*2 ^ (j:Int).toNat:Int)=((2 ^ j:Nat):Int):=by rw[YI,Int.one_mul,Int.natCast_pow];rfl
 rw[e];generalize 2 ^ j=k;have c:Builtin.bitNot (m:Int)=-(m:Int)-1:=rfl;have d:Builtin.bitNot (k:Int)=-(k:Int)-1:=rfl;unfold Builtin.bitOr Builtin.bitAnd;rw[c,d,yl (by lk),yl (by lk)];dsimp only;unfold Builtin.bitNot;have a:(-(-(m:Int)-1)-1).toNat=m:=by lk
 have b:(-(-(k:Int)-1)-1).toNat=k:=by lk
 rw[a,b];lk
def But(x:Addr)(H H':Hp):Prop:=∀ b o,b≠x->H b=some o->H' b=some o
theorem But.refl(x:Addr)(H:Hp):But x H H:=fun _ _ _ e=>e
theorem But.same(a:But x H H1)(b:L2.Same H1 H2):But x H H2:=fun c o n e=>b c o (a c o n e)
theorem But.put(a:But x H H1):But x H (upd H1 x o):=fun c u n e=>by rw[qe n];show a c u n e
theorem But.new(a:But x H H1)(hl:H1 l=none):But x H (upd H1 l o):=a.same (qH (Sr H1) hl)
theorem qdK{a q:Addr}{Q:VK}(h:H a=some (.lst xs))(b:H q=some (.tup [.ty "list",.ty "tuple"]))(k:Q (.bl true) H):qef K [.ref a,.ref q] H Q:=
 ⟨_,q,_,_,[.type "list",.type "tuple"],true,rfl,.inl (.lst h),b,rfl,rfl,k⟩
inductive spNums(vs:List V)(H:Hp)(Q:VK)(E:XK):Prop|mk (a:Addr) (ss:LS) (_:vs=[.ref a]) (_:H a=some (.lst (ss.map V.str))) (_:ss.length<=14) (_:ss.Nodup) (_:(∀ s∈ss,zv s=true)) (_:∀ d H',L2.Same H H'->H d=none->H' d=some (.dK (qba ss 0))->Q (.ref d) H')
theorem ok_nums(F:Fun K "numbers_of" "numbers_of" j9 f fd)(T:Txt K mg cc cw)(L:DefOk P w K mg base CX0 1 "is_name" ["thing"] spName) :
  FnOk P w K mg base CX0 4 f fd ["names"] spNums:=by
 show F.ok KF fun _ _ _ _ H vs Q E D h=>?_
 .obtain⟨a,ss,rfl,l,M,p,r,q⟩:=h;have G:=jW D;show⟨_,(qc (qJ (jc (qV (qq (qdB (K:=K) rfl) rfl T.b_isinstance xo (qa (pv 0) (qa (jQ (qa (ze (v:=.ty "list") rfl T.b_list xw rfl) (qa (ze (v:=.ty "tuple") rfl T.b_tuple boot_tuple rfl) qd))) qd))))) (qf jw) qo)
 (qc (qJ (qj qdb (qq (jR (K:=K) rfl) rfl T.b_len YL (qa (pv 0) qd)) (qbv rfl T.g_MOST_PLACES) (qx _)) (qf jw) qo)
 (qc (qt (i:=1) KF.nd rfl (yP rfl) zq)
 (qc (q9 yT rfl (qK (K:=K) rfl (pv 0)) (qm (i:=2) KF.nd rfl (yP rfl))
 (qc (qJ (jc (qV (qr L (hmR D) qC (qa (pv 2) qd)))) (qf jw) qo)
 (qc (qJ (qj (j5 (K:=K) rfl G) (pv 2) (pv 1) (by with_unfolding_all rfl)) (qf jw) qo)
 (qf (jY (qq (jR (K:=K) rfl) rfl T.b_len YL (qa (pv 1) qd)) (j6 (pv 1) (pv 2) (j8 G)))))))
 (qf (qk (pv 1))))))),?_⟩
  apply⟨by show 2<=sizeLine;decide,fun g N=>?_⟩;have m:=qH (Sr H) (o:=.tup [.ty "list",.ty "tuple"]) N;apply qdK (m _ _ l) qb ?_;apply yr ?_;apply zD (m _ _ l) ?_;rw[ya];apply qL (fun h=>by have:=yk h;lk) fun _=>?_;ext;intro d B;have J:=qH m (o:=.dK []) B;have c:H d=none:=m.free B;apply .inl ⟨⟨_,SqL.of (J _ _ l)⟩,qP (K:=K) (fun i σ H'=>∃ u,σ=[some (.ref a),some (.ref d),u]/\L2.Same H H'/\H' d=some (.dK (qba (ss.take i) 0))) ⟨none,rfl,J,qb⟩ (fun i σ H' _ e=>by obtain⟨_,_,z,_⟩:=e;show SqL.of (z _ _ l)) (fun i y σ H' I e=>?_) fun σ H' e=>?_⟩
  .obtain⟨u,rfl,t,b⟩:=e;rw[yd] at I;obtain⟨x,s,rfl⟩:=yo.mp I;have O:i<ss.length:=(yc.mp s).1;have j:ss.take (i+1)=ss.take i++[x]:=by rw[yM,s];rfl
   have C:x∉ss.take i:=fun z=>by
    have A:(ss.take (i+1)).Nodup:=p.sublist (XB _ _);rw[j] at A;show(Yd.mp A).2.2 _ z x (by simp) rfl
   apply⟨x,rfl,r x (ye s),fun H1 n=>?_⟩;have R:=t.trans n;apply yr ?_;apply .inr (.inl ⟨d,_,rfl,DGet.k (k:=Sum.inr x) (n _ _ b),?_⟩);rw[qa5,yl C];apply yr ?_;apply .inr ⟨_,n _ _ b,?_⟩;apply .inr ⟨d,_,rfl,DPut.k (k:=Sum.inr x) (n _ _ b) (qi (by rw[zw,yO];lk)),?_⟩;show⟨_,rfl,qaA R c,?_⟩;rw[qb,qaD _ (qa4 C),j,qcb,zw];simp only[xI]
  .obtain⟨u,rfl,t,b⟩:=e;ext;rw[ya,yQ] at b;show q d H' t c b
theorem uM:FnScope ["self","names","ties"] ["self","names","ties"] (qg zR):=fS
theorem Ku:FnScope ["numbers","ties","near","tie","one","other"] ["numbers","ties"] (qg qap):=fS
def qa6(ss:LS)(ns:LN)(c:LP):Prop:=ns.length=ss.length/\(∀ a,ns.getD a 0<2 ^ ss.length)/\∀ a b s t,ss[a]?=some s->ss[b]?=some t->(ns.getD a 0).testBit b=decide ((s,t)∈c\/(t,s)∈c)
theorem qy(h:ss.Nodup){a b:Nat}(i:ss[a]?=some s)(j:ss[b]?=some s):a=b:=by
 have e:=YB.mp h;obtain⟨f,c⟩:=yc.mp i;obtain⟨g,d⟩:=yc.mp j;rcases kz a b with q | q | q
 .show absurd (c.trans d.symm) (e a b f g q)
 .show q
 .show absurd (d.trans c.symm) (e b a g f q)
theorem bits_zero:qa6 ss (List.replicate ss.length 0) []:=by
 have z:∀ a,(List.replicate ss.length 0).getD a 0=0:=fun a=>by
  simp only[List.getD,Xz];split<;>rfl
 show⟨by simp,fun a=>by rw[z a];show Nat.two_pow_pos _,fun a b s t c d=>?_⟩;rw[z a];simp
theorem qaq{v:Nat}(h:i<ns.length):(ns.set i v).getD j 0=if i=j then v else ns.getD j 0:=by
 simp only[List.getD,List.getElem?_set];by_cases e:i=j
 .subst e;simp[h]
 .simp [e]
theorem bits_step{f:LP}(D:qa6 ss ns f)(o:ss.Nodup){t:Str}(d:ss[i]?=some s)(l:ss[j]?=some t)(n:s≠t) :
  qa6 ss ((ns.set i (ns.getD i 0 ||| 2 ^ j)).set j (ns.getD j 0 ||| 2 ^ i)) (f++[(s,t)]):=by
 obtain⟨hl,m,h⟩:=D;have B:i<ns.length:=by rw[hl];show(yc.mp d).1
 have C:j<ns.length:=by rw[hl];show(yc.mp l).1
 have F:i≠j:=fun e=>by rw[e,l] at d;cases d;show n rfl
 have y:i<ss.length:=(yc.mp d).1;have A:j<ss.length:=(yc.mp l).1;show⟨by simp[hl],fun a=>?_,fun a b u v g c=>?_⟩
 .rw [qaq (by simpa using C),qaq B];split
  .show Nat.or_lt_two_pow (m _) (Nat.pow_lt_pow_right (by decide) y)
  .split
   .show Nat.or_lt_two_pow (m _) (Nat.pow_lt_pow_right (by decide) A)
   .show m _
 rw[qaq (by simpa using C),qaq B];have p:=h a b u v g c;have E:∀ P Q:Prop,(P↔Q)->∀ [Decidable P] [Decidable Q],decide P=decide Q:=fun P Q e=>by intro _ _;show YD.mpr e
 by_cases w:j=a
 .subst w;rw[l] at g;cases g;rw[yF rfl,Nat.testBit_or,p,Nat.testBit_two_pow];by_cases r:i=b
  .subst r;rw[d] at c;cases c;simp
  .have vs:v≠s:=fun e=>by subst e;show r (qy o d c)
   simp only[r,k9,XR];apply YD.mpr;simp only[yC,yz,x0];constructor
   .rintro (z | z)
    .show .inl (.inl z)
    .show .inr (.inl z)
   .rintro ((z | ⟨z,_⟩) | (z | ⟨z,_⟩))
    .show .inl z
    .show absurd z.symm n
    .show .inr z
    .show absurd z vs
 .rw [yA w];by_cases q:i=a
  .subst q;rw[d] at g;cases g;rw[yF rfl,Nat.testBit_or,p,Nat.testBit_two_pow];by_cases x:j=b
   .subst x;rw[l] at c;cases c;simp
   .have H:v≠t:=fun e=>by subst e;show x (qy o l c)
    simp only[x,k9,XR];apply YD.mpr;simp only[yC,yz,x0];constructor
    .rintro (z | z)
     .show .inl (.inl z)
     .show .inr (.inl z)
    .rintro ((z | ⟨_,z⟩) | (z | ⟨_,z⟩))
     .show .inl z
     .show absurd z H
     .show .inr z
     .show absurd z n
  .rw [yA q,p];have us:u≠s:=fun e=>by subst e;show q (qy o d g)
   have G:u≠t:=fun e=>by subst e;show w (qy o l g)
   apply YD.mpr;simp only[yC,yz,x0];constructor
   .rintro (z | z)
    .show .inl (.inl z)
    .show .inr (.inl z)
   .rintro ((z | ⟨z,_⟩) | (z | ⟨_,z⟩))
    .show .inl z
    .show absurd z us
    .show .inr z
    .show absurd z G
noncomputable def qc4(ns:LN):List V:=ns.map fun(n:Nat)=>.int (n:Int)
theorem qaG(h:i<ns.length):(qc4 ns)[i]?=some (.int (ns.getD i 0:Nat)):=by
 unfold qc4;rw[yd,yb h];simp[List.getD,h]
theorem qc5(ns:LN)(i m:Nat):(qc4 ns).set i (.int m)=qc4 (ns.set i m):=by
 unfold qc4;rw[List.map_set]
theorem natV_zero(k:Nat):(List.replicate k [V.int 0]).flatten=qc4 (List.replicate k 0):=by
 induction k with
 | zero=>rfl
 | succ k ih=>rw[xq,Xb,ih];rfl
theorem qcx{n:Nat}(h:j<n):ixN n (j:Int)=some j:=by
 unfold ixN;rw[yF (by lk),yF (by lk)];rfl
def UN(x y:Str×Str):Prop:=x≠y/\x≠(y.2,y.1)
structure TGo(ss:LS)(tps:LP):Prop where
 few:tps.length<=30
 inn:∀ ab∈tps,ab.1∈ss/\ab.2∈ss/\ab.1≠ab.2
 un:tps.Pairwise UN
structure WOk(ss:LS)(ns:LN):Prop where
 len:ns.length=ss.length
 few:ss.length<=14
 nd:ss.Nodup
 lt:∀ a,ns.getD a 0<2 ^ ss.length
 nm:∀ s∈ss,zv s=true
inductive WebAt(cw:Addr)(H:Hp)(x:Addr)(ss:LS)(ns:LN):Prop|mk (dx d ol n:_) (_:H x=some (.ins cw dx (qD "near" (.ref n) (qD "order" (.ref ol) (qD "numbers" (.ref d) []))))) (_:H d=some (.dK (qba ss 0))) (_:H ol=some (.lst (ss.map V.str))) (_:H n=some (.lst (qc4 ns))) (_:WOk ss ns)
theorem WebAt.same(h:WebAt cw H x ss ns)(s:L2.Same H H'):WebAt cw H' x ss ns:=by
 obtain⟨dx,d,ol,n,h1,a,b,c,e⟩:=h;show⟨dx,d,ol,n,s _ _ h1,s _ _ a,s _ _ b,s _ _ c,e⟩
inductive WebN(H0:Hp)(cw:Addr)(H:Hp)(x:Addr)(ss:LS)(ns:LN):Prop|mk (dx d ol n:_) (_:H x=some (.ins cw dx (qD "near" (.ref n) (qD "order" (.ref ol) (qD "numbers" (.ref d) []))))) (_:H d=some (.dK (qba ss 0))) (_:H ol=some (.lst (ss.map V.str))) (_:H n=some (.lst (qc4 ns))) (_:WOk ss ns) (_:H0 d=none) (_:H0 ol=none) (_:H0 n=none)
theorem WebN.web(h:WebN H0 cw H x ss ns):WebAt cw H x ss ns:=by
 obtain⟨dx,d,ol,n,h1,a,b,c,e,_⟩:=h;show⟨dx,d,ol,n,h1,a,b,c,e⟩
inductive WebP(A:Addr->Prop)(cw:Addr)(H:Hp)(x:Addr)(ss:LS)(ns:LN):Prop|mk (dx d ol n:_) (_:H x=some (.ins cw dx (qD "near" (.ref n) (qD "order" (.ref ol) (qD "numbers" (.ref d) []))))) (_:H d=some (.dK (qba ss 0))) (_:H ol=some (.lst (ss.map V.str))) (_:H n=some (.lst (qc4 ns))) (_:WOk ss ns) (_:¬ A x) (_:¬ A d) (_:¬ A ol) (_:¬ A n)
theorem WebP.web{A:Addr->Prop}(h:WebP A cw H x ss ns):WebAt cw H x ss ns:=by
 obtain⟨dx,d,ol,n,h1,a,b,c,e,_⟩:=h;show⟨dx,d,ol,n,h1,a,b,c,e⟩
theorem WebP.keep{A:Addr->Prop}(h:WebP A cw H x ss ns)(k:∀ b o,¬ A b->H b=some o->H' b=some o):WebP A cw H' x ss ns:=by
 obtain⟨dx,d,ol,n,h1,g,i,j,l,a,c,e,f⟩:=h;show⟨dx,d,ol,n,k _ _ a h1,k _ _ c g,k _ _ e i,k _ _ f j,l,a,c,e,f⟩
theorem WebN.apart{A:Addr->Prop}(h:WebN H0 cw H x ss ns)(m:¬ A x)(b:∀ a,A a->H0 a≠none):WebP A cw H x ss ns:=by
 obtain⟨dx,d,ol,n,h1,g,i,j,l,c,e,f⟩:=h;show⟨dx,d,ol,n,h1,g,i,j,l,m,fun z=>b _ z c,fun z=>b _ z e,fun z=>b _ z f⟩
theorem qcc:∀(ss:LS) (i:Nat),(qba ss i).map (fun a=>kV a.1)=ss.map V.str
 | [],_=>rfl
 | s::r,i=>congrArg (V.str s::·) (qcc r (i+1))
inductive spNear(vs:List V)(H:Hp)(Q:VK)(E:XK):Prop|mk (d l:Addr) (ss:LS) (ts:LQ) (tps:LP) (_:vs=[.ref d,.ref l]) (_:H d=some (.dK (qba ss 0))) (_:ss.length<=14) (_:ss.Nodup) (_:(∀ s∈ss,zv s=true)) (_:PL H l ts tps) (_:TGo ss tps) (_:∀ n ns H',L2.Same H H'->H n=none->H' n=some (.lst (qc4 ns))->qa6 ss ns tps->Q (.ref n) H')
theorem ok_near(F:Fun K "near_of" "near_of" qap f fd)(T:Txt K mg cc cw)(Ks:DefOk P w K mg base CX0 3 "are_two_places" ["numbers","thing"] spTwo)(KD:DefOk P w K mg base CX0 1 "has_bit" ["bits","number"] spBit) :
  FnOk P w K mg base CX0 4 f fd ["numbers","ties"] spNear:=by
 show F.ok Ku fun _ _ _ _ H vs Q E hr h=>?_
 .obtain⟨d,l,ss,ts,tps,rfl,W,ai,ae,G,⟨hl,D⟩,Y,q⟩:=h;have j:=jW hr;have L:=D.len;have few:=Y.few;show⟨_,(qc (qJ (jc (qV (qq (qdB (K:=K) rfl) rfl T.b_isinstance xo (qa (pv 1) (qa (jQ (qa (ze (v:=.ty "list") rfl T.b_list xw rfl) (qa (ze (v:=.ty "tuple") rfl T.b_tuple boot_tuple rfl) qd))) qd))))) (qf jw) qo)
 (qc (qJ (qj qdb (qq (jR (K:=K) rfl) rfl T.b_len YL (qa (pv 1) qd)) (qbv rfl T.g_MOST_TIES) (qx _)) (qf jw) qo)
 (qc (qt (i:=2) Ku.nd rfl (yP rfl) (qI qea (qY (qa qh qd)) (qq (jR (K:=K) rfl) rfl T.b_len YL (qa (pv 0) qd))))
 (qc (q9 yT rfl (qK (K:=K) rfl (pv 1)) (qm (i:=3) Ku.nd rfl (yP rfl))
 (qc (qJ (jc (qV (qr Ks (hmR hr) qC (qa (pv 0) (qa (pv 3) qd))))) (qf jw) qo)
 (qc (qt (i:=4) Ku.nd rfl (yP rfl) (qu (qv (K:=K) rfl j) (pv 0) (qu (qv (K:=K) rfl j) (pv 3) qh (fun _ _=>rfl)) (fun _ _=>rfl)))
 (qc (qt (i:=5) Ku.nd rfl (yP rfl) (qu (qv (K:=K) rfl j) (pv 0) (qu (qv (K:=K) rfl j) (pv 3) qh (fun _ _=>rfl)) (fun _ _=>rfl)))
 (qc (qJ (qV (qr KD (hmR hr) qC (qa (qu (qv (K:=K) rfl j) (pv 2) (pv 4) (fun _ _=>rfl)) (qa (pv 5) qd)))) (qf jw) qo)
 (qc (jY (qI qeW (qu (qv (K:=K) rfl j) (pv 2) (pv 4) (fun _ _=>rfl)) (qI qd8 qh (pv 5))) (j6 (pv 2) (pv 4) (j8 j)))
 (qf (jY (qI qeW (qu (qv (K:=K) rfl j) (pv 2) (pv 5) (fun _ _=>rfl)) (qI qd8 qh (pv 4))) (j6 (pv 2) (pv 5) (j8 j))))))))))
 (qf (qk (pv 2))))))),?_⟩
  apply⟨by show 2<=sizeLine;decide,fun g Z=>?_⟩;have s0:=qH (Sr H) (o:=.tup [.ty "list",.ty "tuple"]) Z;apply qdK (s0 _ _ hl) qb ?_;apply yr ?_;apply zD (s0 _ _ hl) ?_;rw[ya];apply qL (fun h=>by have:=yk h;lk) fun _=>?_;apply⟨by show 1<=sizeLine;decide,fun z ag=>?_⟩;have s1:=qH s0 (o:=.lst [.int 0]) ag;apply .inr ⟨_,s1 _ _ W,?_⟩;ext;rw[zw];show⟨z,_,_,rfl,rfl,qb,by lk,by lk,by show 1*_<=sizeLine;rw[YI];show yY (qi (by lk)),fun n hn=>?_⟩;rw[YI,natV_zero];have s2:=qH s1 (o:=.lst (qc4 (List.replicate ss.length 0))) hn;have n0:H n=none:=s1.free hn;apply .inl ⟨⟨_,SqL.of (s2 _ _ hl)⟩,qP (K:=K) (fun i σ H'=>∃ v3 v4 v5 ns,σ=[some (.ref d),some (.ref l),some (.ref n),v3,v4,v5]/\L2.Same H H'/\H' n=some (.lst (qc4 ns))/\qa6 ss ns (tps.take i))
   ⟨none,none,none,_,rfl,s2,qb,bits_zero⟩ (fun i σ H' _ I=>by obtain⟨_,_,_,_,_,z,_⟩:=I;show SqL.of (z _ _ hl)) (fun i y σ H' hy I=>?_) fun σ H' I=>?_⟩
  .obtain⟨v3,v4,v5,ns,rfl,N,A,a⟩:=I;rw[yd] at hy;obtain⟨t,ht,rfl⟩:=yo.mp hy;have aa:i<ts.length:=(yc.mp ht).1;obtain⟨⟨p,r⟩,u⟩:∃ ab,tps[i]?=some ab:=⟨_,yb (by rw[<- L];show aa)⟩;have U:=D.at_ i t _ ht u;obtain⟨m1,X,c⟩:=Y.inn _ (ye u);dsimp only at U m1 X c;have J:tps.take (i+1)=tps.take i++[(p,r)]:=by rw[yM,u];rfl
   have af:¬ ((p,r)∈tps.take i\/(r,p)∈tps.take i):=fun z=>by
    have h3:(tps.take (i+1)).Pairwise UN:=Y.un.sublist (XB _ _);rw[J] at h3;have h4:=(XT.mp h3).2.2;rcases z with z | z
    .show(h4 _ z (p,r) (by simp)).1 rfl
    .show(h4 _ z (p,r) (by simp)).2 rfl
   obtain⟨C,ac,b,R⟩:=jZ (i:=0) m1;obtain⟨B,ad,s,S⟩:=jZ (i:=0) X;rw[xI] at R S;have ah:C≠B:=fun e=>by rw[e,s] at b;cases b;show c rfl
   have m:C<ns.length:=by rw[a.1];show ac
   have M:B<ns.length:=by rw[a.1];show ad
   apply⟨d,t,ss,p,r,rfl,N _ _ W,N _ _ U,G _ m1,G _ X,m1,X,c,fun H1 t1=>?_⟩;have O:=N.trans t1;have x:=t1 _ _ A;apply yr ?_;apply .inl (qaY (O _ _ U) rfl ?_);show .inr ⟨d,.int C,rfl,?_,?_⟩
   .have:=DGet.k (k:=Sum.inr p) (O _ _ W);rw[R] at this;show this
   apply .inl (qaY (O _ _ U) rfl ?_);show .inr ⟨d,.int B,rfl,?_,?_⟩
   .have:=DGet.k (k:=Sum.inr r) (O _ _ W);rw[S] at this;show this
   apply .inl (zH x (qw (qaG m)) ?_);apply⟨_,_,rfl,by lk,?_⟩;rw[qcw,a.2.2 C B p r b s,yl af];apply yr ?_;apply .inl (zH x (qw (qaG m)) ?_);apply vI ⟨by lk,by lk,by decide⟩ ?_;ext;rw[qeo];show .inl (qd1 x (qcx (by unfold qc4;rw[ya];show m)) ?_);rw[qc5];ext;have e2:(ns.set C (ns.getD C 0 ||| 2 ^ B)).getD B 0=ns.getD B 0:=by rw[qaq m,yA ah]
   show .inl (zH qb (qw (qaG (by simpa using M))) ?_);apply vI ⟨by lk,by lk,by decide⟩ ?_;ext;rw[qeo,e2];show .inl (qd1 qb (qcx (by unfold qc4;rw[ya];simpa using M)) ?_);rw[qc5];show⟨_,_,_,_,rfl,qaA (qaA O n0) n0,qb,?_⟩;rw[J];show bits_step a ae b s c
  .obtain⟨v3,v4,v5,ns,rfl,N,A,a⟩:=I;ext;rw[ya,L,yQ] at a;show q n _ H' N n0 A a
inductive spWeb(cw:Addr)(vs:List V)(H:Hp)(Q:VK)(E:XK):Prop|mk (x dx a l:Addr) (ss:LS) (ts:LQ) (tps:LP) (_:vs=[.ref x,.ref a,.ref l]) (_:H x=some (.ins cw dx [])) (_:H a=some (.lst (ss.map V.str))) (_:ss.length<=14) (_:ss.Nodup) (_:(∀ s∈ss,zv s=true)) (_:PL H l ts tps) (_:TGo ss tps) (_:∀ ns H',But x H H'->WebN H cw H' x ss ns->qa6 ss ns tps->Q .non H')
theorem PL.but{C:Addr}{fs:List (Str×V)}(h:PL H l ts tps)(a:H x=some (.ins C dx fs))(b:But x H H'):PL H' l ts tps:=
 ⟨b _ _ (jv h.1 a (by intro z;cases z)) h.1,h.2.mono fun t ab e=>b _ _ (jv e a (by intro z;cases z)) e⟩
theorem ok_web(F:Fun K "__init__" "Web.__init__" zR f fd)(T:Txt K mg cc cw)(uH:DefOk P w K mg base CX0 4 "numbers_of" ["names"] spNums)(uW:DefOk P w K mg base CX0 4 "near_of" ["numbers","ties"] spNear) :
  FnOk P w K mg base CX0 5 f fd ["self","names","ties"] (spWeb cw):=by
 show F.ok uM fun _ _ _ _ H vs Q E N h=>?_
 .obtain⟨x,dx,a,l,ss,ts,tps,rfl,W,ha,j,nd,p,M,hg,q⟩:=h;have hu:=jW N;show⟨_,(qc (jP (K:=K) rfl (pv 0) (qr uH (hmR N) qC (qa (pv 1) qd)) rfl)
 (qc (jP (K:=K) rfl (pv 0) (jK (qac (K:=K) rfl rfl) rfl T.b_list xw (qa (qA (K:=K) rfl (pv 0) rfl) qd)) rfl)
 (qf (jP (K:=K) rfl (pv 0) (qr uW (hmR N) qC (qa (qA (K:=K) rfl (pv 0) rfl) (qa (pv 2) qd))) rfl)))),?_⟩
  apply⟨a,ss,rfl,ha,j,nd,p,fun d H1 X L S=>?_⟩;have Y:=(But.refl x H).same X;have A:=X _ _ W;have r:d≠x:=jv S A (by intro z;cases z);apply .inl ⟨x,cw,dx,[],rfl,A,T.wcl,T.wn,by decide,?_⟩;have J:=Y.put (o:=.ins cw dx (qD "numbers" (.ref d) []));have g:upd H1 x (.ins cw dx (qD "numbers" (.ref d) [])) d=some (.dK (qba ss 0)):=by rw[qe r];show S
  have c:upd H1 x (.ins cw dx (qD "numbers" (.ref d) [])) x=_:=qb;generalize upd H1 x (.ins cw dx (qD "numbers" (.ref d) []))=H2 at J g c;apply .inl ⟨x,cw,dx,_,.ref d,rfl,c,T.wcl,T.wn,by rw[qB,yF rfl],?_⟩;apply .inr (.inl ⟨d,_,rfl,g,fun ol s=>?_⟩);rw[qcc];have G:ol≠x:=fun e=>by subst e;rw[c] at s;cases s
  have Z:=J.new (o:=.lst (ss.map V.str)) s
  have y:H ol=none:=by
   cases R:H ol with
   | none=>rfl
   | some o'=>rw[J ol o' G R] at s;cases s
  have O:d≠ol:=qz g s;apply .inl ⟨x,cw,dx,_,rfl,(by rw[qe G.symm];show c),T.wcl,T.wo,Yr (ju _ _ _) (by decide),?_⟩;have D:=Z.put (o:=.ins cw dx (qD "order" (.ref ol) (qD "numbers" (.ref d) [])));have m:upd (upd H2 ol (.lst (ss.map V.str))) x (.ins cw dx (qD "order" (.ref ol) (qD "numbers" (.ref d) []))) d=some (.dK (qba ss 0)):=by rw[qe r,qe O];show g
  have v:upd (upd H2 ol (.lst (ss.map V.str))) x (.ins cw dx (qD "order" (.ref ol) (qD "numbers" (.ref d) []))) ol=some (.lst (ss.map V.str)):=by rw[qe G];show qb
  have i:upd (upd H2 ol (.lst (ss.map V.str))) x (.ins cw dx (qD "order" (.ref ol) (qD "numbers" (.ref d) []))) x=_:=qb;generalize upd (upd H2 ol (.lst (ss.map V.str))) x (.ins cw dx (qD "order" (.ref ol) (qD "numbers" (.ref d) [])))=H3 at D m v i;apply .inl ⟨x,cw,dx,_,.ref d,rfl,i,T.wcl,T.wn,by rw[qB,yA (by room),qB,yF rfl],?_⟩;apply⟨d,l,ss,ts,tps,rfl,m,j,nd,p,M.but W D,hg,fun n ns H4 I t U b=>?_⟩;have B:=I _ _ i;have C:n≠x:=jv U B (by intro z;cases z);apply .inl ⟨x,cw,dx,_,rfl,B,T.wcl,T.wr,Yr (ju _ _ _) (Yr (xt (ju _ _ _)) (by decide)),?_⟩
  have u:H n=none:=by
   cases R:H n with
   | none=>rfl
   | some o'=>rw[D n o' C R] at t;cases t
  show q ns _ (D.same I).put ⟨dx,d,ol,n,qb,by rw[qe r];show I _ _ m,by rw[qe G];show I _ _ v,by rw[qe C];show U,⟨b.1,j,nd,b.2.1,p⟩,L,y,u⟩ b
theorem uC:FnScope ["self"] ["self"] (qg za):=fS
theorem ue:FnScope ["self","thing"] ["self","thing"] (qg jz):=fS
theorem uf:FnScope ["self","place"] ["self","place"] (qg jA):=fS
theorem uD:FnScope ["self","place"] ["self","place"] (qg zb):=fS
theorem K9:FnScope ["self","place"] ["self","place"] (qg jl):=fS
theorem uc:FnScope ["self","one","other","bits"] ["self","one","other"] (qg zS):=fS
theorem uk:FnScope ["self","bits"] ["self","bits"] (qg jr):=fS
theorem jX{n:V}:(qD "near" n (qD "order" ol (qD "numbers" d []))).lookup ("numbers":Str)=some d:=by
 rw[qB,yA (by room),qB,yA (by room),qB,yF rfl]
theorem qbC{n:V}:(qD "near" n (qD "order" ol (qD "numbers" d []))).lookup ("order":Str)=some ol:=by
 rw[qB,yA (by room),qB,yF rfl]
theorem lk_near{n:V}:(qD "near" n (qD "order" ol (qD "numbers" d []))).lookup ("near":Str)=some n:=by
 rw[qB,yF rfl]
theorem zE{f:Str}{n:V}(h:(f=="near"||f=="order"||f=="numbers")=false):(qD "near" n (qD "order" ol (qD "numbers" d []))).lookup f=none:=by
 simp only[Bool.or_eq_false_iff,YE] at h;rw[qB,yA h.1.1,qB,yA h.1.2,qB,yA h.2];rfl
noncomputable def inB:LS->Nat->Nat->LS
 | [],_,_=>[]
 | s::r,i,b=>if b.testBit i=true then s::inB r (i+1) b else inB r (i+1) b
theorem qaH(y:Str)(b:Nat):∀(l:LS) (k:Nat),inB (l++[y]) k b=inB l k b++(if b.testBit (k+l.length)=true then [y] else [])
 | [],k=>by simp[inB]
 | s::r,k=>by
  have a:=qaH y b r (k+1);have e:k+1+r.length=k+(s::r).length:=by simp;lk
  rw[e] at a;simp only[kI,inB,a];split<;>simp
theorem qa7(b:Nat):∀(l:LS) (k:Nat),(inB l k b).length<=l.length
 | [],_=>yh _
 | s::r,k=>by
  have a:=qa7 b r (k+1);simp only[inB];split
  .simp;lk
  .simp;lk
inductive spHas(cw:Addr)(vs:List V)(H:Hp)(Q:VK)(E:XK):Prop|mk (x:Addr) (ss:LS) (ns:LN) (y:Str) (_:vs=[.ref x,.str y]) (_:WebAt cw H x ss ns) (_:y∈ss) (_:∀ H',L2.Same H H'->Q (.bl true) H')
inductive spNum(cw:Addr)(vs:List V)(H:Hp)(Q:VK)(E:XK):Prop|mk (x:Addr) (ss:LS) (ns:LN) (y:Str) (j:Nat) (_:vs=[.ref x,.str y]) (_:WebAt cw H x ss ns) (_:ss[j]?=some y) (_:∀ H',L2.Same H H'->Q (.int (j:Nat)) H')
inductive spBB(cw:Addr)(vs:List V)(H:Hp)(Q:VK)(E:XK):Prop|mk (x:Addr) (ss:LS) (ns:LN) (y:Str) (j:Nat) (_:vs=[.ref x,.str y]) (_:WebAt cw H x ss ns) (_:ss[j]?=some y) (_:∀ H',L2.Same H H'->Q (.int (ns.getD j 0:Nat)) H')
inductive spNIn(cw:Addr)(vs:List V)(H:Hp)(Q:VK)(E:XK):Prop|mk (x:Addr) (ss:LS) (ns:LN) (b:Nat) (_:vs=[.ref x,.int b]) (_:WebAt cw H x ss ns) (_:∀ l,H l=none->Q (.ref l) (upd H l (.lst ((inB ss 0 b).map V.str))))
inductive spBs(cw:Addr)(vs:List V)(H:Hp)(Q:VK)(E:XK):Prop|mk (x:Addr) (ss:LS) (ns:LN) (y:Str) (j:Nat) (_:vs=[.ref x,.str y]) (_:WebAt cw H x ss ns) (_:ss[j]?=some y) (_:∀ H',L2.Same H H'->∀ l,H' l=none->Q (.ref l) (upd H' l (.lst ((inB ss 0 (ns.getD j 0)).map V.str))))
inductive spTied(cw:Addr)(vs:List V)(H:Hp)(Q:VK)(E:XK):Prop|mk (x:Addr) (ss:LS) (ns:LN) (y z:Str) (j i:Nat) (_:vs=[.ref x,.str y,.str z]) (_:WebAt cw H x ss ns) (_:ss[j]?=some y) (_:ss[i]?=some z) (_:∀ H',L2.Same H H'->Q (.bl ((ns.getD j 0).testBit i)) H')
inductive spPls(cw:Addr)(vs:List V)(H:Hp)(Q:VK)(E:XK):Prop|mk (x:Addr) (ss:LS) (ns:LN) (_:vs=[.ref x]) (_:WebAt cw H x ss ns) (_:∀ l,H l=none->Q (.ref l) (upd H l (.lst (ss.map V.str))))
theorem ok_has(F:Fun K "has_place" "Web.has_place" jz f fd)(T:Txt K mg cc cw)(b:DefOk P w K mg base CX0 2 "is_place" ["numbers","thing"] spPlace):FnOk P w K mg base CX0 3 f fd ["self","thing"] (spHas cw):=by
 show F.ok ue fun _ _ _ _ H vs Q E e h=>?_
 .obtain⟨x,ss,ns,y,rfl,⟨dx,d,ol,n,g,c,j,i,hw⟩,a,q⟩:=h;show⟨_,(qf (qk (qr b (hmR e) qC (qa (qA (K:=K) rfl (pv 0) rfl) (qa (pv 1) qd))))),?_⟩;apply .inl ⟨x,cw,dx,_,.ref d,rfl,g,T.wcl,T.wn,jX,?_⟩;apply⟨d,ss,y,rfl,c,hw.nm _ a,a,q⟩
theorem ok_num(F:Fun K "number_of" "Web.number_of" jA f fd)(T:Txt K mg cc cw)(o:MethOk P w K mg base CX0 3 cw "has_place" ["self","thing"] (spHas cw)):FnOk P w K mg base CX0 4 f fd ["self","place"] (spNum cw):=by
 show F.ok uf fun _ _ _ _ H vs Q E e h=>?_
 .obtain⟨x,ss,ns,y,j,rfl,c,b,q⟩:=h;obtain⟨dx,d,ol,n,g,r,v,u,hw⟩:=id c;have l:=ye b;have s:=jW e;show⟨_,(qc (qJ (jc (qV (qF o (hmR e) (pv 0) (qa (pv 1) qd)))) (qf jw) qo)
 (qf (qk (qu (qv (K:=K) rfl s) (qA (K:=K) rfl (pv 0) rfl) (pv 1) (fun _ _=>rfl))))),?_⟩
  apply⟨x,dx,_,rfl,g,zE (by room),?_⟩;apply⟨x,ss,ns,y,rfl,c,l,fun H1 a=>?_⟩;apply yr ?_;obtain⟨i,t,p,m⟩:=jZ (i:=0) l;rw[xI,qy hw.nd p b] at m;apply .inl ⟨x,cw,dx,_,.ref d,rfl,a _ _ g,T.wcl,T.wn,jX,?_⟩;apply .inr ⟨d,.int j,rfl,?_,q H1 a⟩;have:=DGet.k (k:=Sum.inr y) (a _ _ r);rw[m] at this;show this
theorem ok_bb(F:Fun K "bits_beside" "Web.bits_beside" jl f fd)(T:Txt K mg cc cw)(i:MethOk P w K mg base CX0 4 cw "number_of" ["self","place"] (spNum cw)):FnOk P w K mg base CX0 5 f fd ["self","place"] (spBB cw):=by
 show F.ok K9 fun _ _ _ _ H vs Q E c h=>?_
 .obtain⟨x,ss,ns,y,j,rfl,b,a,q⟩:=h;obtain⟨dx,d,ol,n,e,o,p,l,hw⟩:=id b;have m:=jW c;show⟨_,(qf (qk (qu (qv (K:=K) rfl m) (qA (K:=K) rfl (pv 0) rfl) (qF i (hmR c) (pv 0) (qa (pv 1) qd)) (fun _ _=>rfl)))),?_⟩;apply .inl ⟨x,cw,dx,_,.ref n,rfl,e,T.wcl,T.wr,lk_near,?_⟩;apply⟨x,dx,_,rfl,e,zE (by room),?_⟩;apply⟨x,ss,ns,y,j,rfl,b,a,fun H1 g=>?_⟩;show .inl (zH (g _ _ l) (qw (qaG (by rw[hw.len];show(yc.mp a).1))) (q H1 g))
theorem ok_nin(F:Fun K "names_in" "Web.names_in" jr f fd)(T:Txt K mg cc cw)(B:DefOk P w K mg base CX0 1 "has_bit" ["bits","number"] spBit):FnOk P w K mg base CX0 2 f fd ["self","bits"] (spNIn cw):=by
 show F.ok uk fun _ _ _ _ H vs Q E u h=>?_
 .obtain⟨x,ss,ns,b,rfl,⟨dx,d,ol,n,v,G,t,M,hw⟩,q⟩:=h;have J:=jW u;show⟨_,(qf (qk (jj (sc:=qg jr) (XN:=["self","bits"]) ["name","bits","self"] 1 [1,0] rfl rfl rfl (by room) rfl (by room)
  (qK (K:=K) rfl (qA (K:=K) rfl (pv 0) rfl)) (fun _ _ _ _=>(qm (i:=0) (show(["name","bits","self"]:LS).Nodup by room) rfl (yP rfl))) qU
  (fun _ _ _ _=>(jk (qV (qr B (hmR u) qC (qa (pv 1) (qa (qu (qv (K:=K) rfl J) (qA (K:=K) rfl (pv 2) rfl) (pv 0) (fun _ _=>rfl)) qd))))))
  (fun _ _ _ _=>(pv 0))))),?_⟩
  apply .inl ⟨x,cw,dx,_,.ref ol,rfl,v,T.wcl,T.wo,qbC,?_⟩;show .inl ⟨⟨_,SqL.of t⟩,qE (K:=K) (fun i ys H'=>H'=H/\ys=(inB (ss.take i) 0 b).map V.str) ⟨rfl,by simp[inB]⟩ (fun i ys H' _ e=>by rw[e.1];show SqL.of t) (fun i y ys H' r e=>?_) fun ys H' e=>?_⟩
  .obtain⟨rfl,rfl⟩:=e;have I:i<ss.length:=by simpa using(yc.mp r).1
   have c:ss[i]?=some ss[i]:=yb I;generalize ss[i]=s at c;have C:y=.str s:=by rw[yd,c] at r;cases r;rfl
   subst C;obtain⟨j,L,D,A⟩:=jZ (i:=0) (ye c);rw[xI] at A;have p:j=i:=qy hw.nd D c;subst p;have g:ss.take (j+1)=ss.take j++[s]:=by rw[yM,c];rfl
   have a:(ss.take j).length=j:=by rw[yO];lk
   apply .inl ⟨x,cw,dx,_,.ref d,rfl,v,T.wcl,T.wn,jX,?_⟩;apply .inr ⟨d,.int j,rfl,?_,?_⟩
   .have:=DGet.k (k:=Sum.inr s) G;rw[A] at this;show this
   apply⟨_,_,rfl,by lk,?_⟩;rw[qcw];ext
   have few:((inB (ss.take j) 0 b).map V.str).length<sizeLine:=by
    rw[ya];show qi (yi (qa7 _ _ _) (by rw[a];have:=hw.few;lk))
   show qL (fun o=>?_) fun o=>?_
   .ext;show⟨few,rfl,?_⟩;rw[g,qaH,a,xI,yF o];simp
   .show⟨rfl,?_⟩;rw[g,qaH,a,xI,yA o];simp
  .obtain⟨rfl,rfl⟩:=e;have m:ss.take (ss.map V.str).length=ss:=by rw[ya,yQ]
   rw[m];show⟨?_,fun l hl=>q l hl⟩;rw[ya];show yY (qi (yi (qa7 _ _ _) (by have:=hw.few;lk)))
theorem ok_bs(F:Fun K "beside" "Web.beside" zb f fd)(T:Txt K mg cc cw)(g:MethOk P w K mg base CX0 5 cw "bits_beside" ["self","place"] (spBB cw))(l:MethOk P w K mg base CX0 2 cw "names_in" ["self","bits"] (spNIn cw)):FnOk P w K mg base CX0 6 f fd ["self","place"] (spBs cw):=by
 show F.ok uD fun _ _ _ _ H vs Q E b h=>?_
 .obtain⟨x,ss,ns,y,j,rfl,a,i,q⟩:=h;obtain⟨dx,d,ol,n,c,_⟩:=id a;show⟨_,(qf (qk (qF l (hmR b) (pv 0) (qa (qF g (hmR b) (pv 0) (qa (pv 1) qd)) qd)))),?_⟩;apply⟨x,dx,_,rfl,c,zE (by room),?_⟩;apply⟨x,dx,_,rfl,c,zE (by room),?_⟩;apply⟨x,ss,ns,y,j,rfl,a,i,fun H1 e=>?_⟩;apply⟨x,ss,ns,_,rfl,a.same e,q H1 e⟩
theorem ok_tied(F:Fun K "tied" "Web.tied" zS f fd)(T:Txt K mg cc cw)(m:MethOk P w K mg base CX0 5 cw "bits_beside" ["self","place"] (spBB cw))(l:MethOk P w K mg base CX0 4 cw "number_of" ["self","place"] (spNum cw))
  (g:DefOk P w K mg base CX0 1 "has_bit" ["bits","number"] spBit):FnOk P w K mg base CX0 6 f fd ["self","one","other"] (spTied cw):=by
 show F.ok uc fun _ _ _ _ H vs Q E b h=>?_
 .obtain⟨x,ss,ns,y,z,j,i,rfl,a,p,o,q⟩:=h;obtain⟨dx,d,ol,n,e,_⟩:=id a;show⟨_,(qc (qt (i:=3) uc.nd rfl (yP rfl) (qF m (hmR b) (pv 0) (qa (pv 1) qd)))
 (qf (qk (qr g (hmR b) qC (qa (pv 3) (qa (qF l (hmR b) (pv 0) (qa (pv 2) qd)) qd)))))),?_⟩
  apply⟨x,dx,_,rfl,e,zE (by room),?_⟩;apply⟨x,ss,ns,y,j,rfl,a,p,fun H1 c=>?_⟩;apply⟨x,dx,_,rfl,c _ _ e,zE (by room),?_⟩;apply⟨x,ss,ns,z,i,rfl,a.same c,o,fun H2 r=>?_⟩;apply⟨_,_,rfl,by lk,?_⟩;rw[qcw];show q H2 (c.trans r)
theorem ok_pls(F:Fun K "places" "Web.places" za f fd)(T:Txt K mg cc cw):FnOk P w K mg base CX0 1 f fd ["self"] (spPls cw):=by
 show F.ok uC fun _ _ _ _ H vs Q E g h=>?_
 .obtain⟨x,ss,ns,rfl,⟨dx,d,ol,n,b,c,a,e,hw⟩,q⟩:=h;show⟨_,(qf (qk (jK (qac (K:=K) rfl rfl) rfl T.b_list xw (qa (qA (K:=K) rfl (pv 0) rfl) qd)))),?_⟩;apply .inl ⟨x,cw,dx,_,.ref ol,rfl,b,T.wcl,T.wo,qbC,?_⟩;apply .inl ⟨ol,_,rfl,.inl (SqL.of a),q⟩
theorem qep(b:ss.Nodup)(h:ss[i]?=some s):ss.idxOf s=i:=by
 have a:s∈ss:=ye h;have hl:ss.idxOf s<ss.length:=Yj a;show qy b (by rw[yb hl,Yx]) h
theorem zT(f:ss.Nodup)(b:Nat):inB ss 0 b=ss.filter fun s=>b.testBit (ss.idxOf s):=by
 have e:∀ k,k<=ss.length->inB (ss.take k) 0 b=(ss.take k).filter fun s=>b.testBit (ss.idxOf s):=fun k=>by
  induction k with
  | zero=>intro _;simp[inB]
  | succ k ih =>
   intro h;have a:ss[k]?=some ss[k]:=yb (by lk);generalize ss[k]=g at a;have d:ss.take (k+1)=ss.take k++[g]:=by rw[yM,a];rfl
   have c:(ss.take k).length=k:=by rw[yO];lk
   rw[d,qaH,Yg,ih (by lk),c,xI]
   congr 1
   rw[yX,Yv,qep f a]
 have:=e ss.length (yh _)
 rwa[yQ] at this
theorem KB:FnScope ["self","ties","one","other"] ["self"] (qg zU):=fS
theorem qdL(a:ss.Nodup){b:Nat}(h:s∈inB ss 0 b):s∈ss/\b.testBit (ss.idxOf s)=true:=by
 rw[zT a] at h;show yq.mp h
noncomputable def qeG(ss:LS)(ns:LN)(i:Nat):LP:=((inB ss 0 (ns.getD i 0)).filter fun o=>decide (i<ss.idxOf o)).map fun o=>(ss.getD i "",o)
noncomputable def qT(ss:LS)(ns:LN)(i:Nat):LP:=(List.range i).flatMap (qeG ss ns)
def PrAt(H H':Hp)(l:Addr)(t:Addr)(ab:Str×Str):Prop:=H t=none/\t≠l/\H' t=some (.tup [.str ab.1,.str ab.2])
theorem PrAt.same(h:PrAt H H1 l t ab)(s:L2.Same H1 H2):PrAt H H2 l t ab:=⟨h.1,h.2.1,s _ _ h.2.2⟩
inductive spTs(cw:Addr)(vs:List V)(H:Hp)(Q:VK)(E:XK):Prop|mk (x:Addr) (ss:LS) (ns:LN) (_:vs=[.ref x]) (_:WebAt cw H x ss ns) (_:∀(l:Addr) (ts:LQ) (H':Hp),L2.Same H H'->H l=none->H' l=some (.lst (ts.map V.ref))->ts.length<=196->All2 (PrAt H H' l) ts (qT ss ns ss.length)->Q (.ref l) H')
theorem ok_ts(F:Fun K "ties" "Web.ties" zU f fd)(T:Txt K mg cc cw)(KN:MethOk P w K mg base CX0 6 cw "beside" ["self","place"] (spBs cw)):FnOk P w K mg base CX0 7 f fd ["self"] (spTs cw):=by
 show F.ok KB fun _ _ _ _ H vs Q E hr h=>?_
 .obtain⟨x,ss,ns,rfl,hW,q⟩:=h;have hu:=jW hr;obtain⟨dx,d,ol,n,hx,hd,ho,hn,hw⟩:=id hW;have few:=hw.few
  have Y:∀(H1:Hp) (y:Str) (i:Nat),L2.Same H H1->ss[i]?=some y->DGet H1 d (.str y) (some (.int (i:Nat))):=fun H1 y i O D=>by
   obtain⟨j,hj,gj,vj⟩:=jZ (i:=0) (ye D);rw[xI] at vj;have af:j=i:=qy hw.nd gj D;subst af;have:=DGet.k (k:=Sum.inr y) (O _ _ hd);rw[vj] at this;show this
  show⟨_,(qc (qt (i:=1) KB.nd rfl (yP rfl) (qY qd))
 (qc (q9 yT rfl (qK (K:=K) rfl (qA (K:=K) rfl (pv 0) rfl)) (qm (i:=2) KB.nd rfl (yP rfl))
 (qf (q9 yT rfl (qK (K:=K) rfl (qF KN (hmR hr) (pv 0) (qa (pv 2) qd))) (qm (i:=3) KB.nd rfl (yP rfl))
 (qf (qJ (qj qdl (qu (qv (K:=K) rfl hu) (qA (K:=K) rfl (pv 0) rfl) (pv 2) (fun _ _=>rfl)) (qu (qv (K:=K) rfl hu) (qA (K:=K) rfl (pv 0) rfl) (pv 3) (fun _ _=>rfl)) (qx _)) (qf (qO (qa9 (K:=K) rfl yN Yb Yc qR (pv 1) (qa (jQ (qa (pv 2) (qa (pv 3) qd))) qd)))) qo)))))
 (qf (qk (pv 1))))),?_⟩
  apply⟨by decide,fun l hl=>?_⟩;have s0:=qH (Sr H) (o:=.lst []) hl;apply .inl ⟨x,cw,dx,_,.ref ol,rfl,s0 _ _ hx,T.wcl,T.wo,qbC,?_⟩;show .inl ⟨⟨_,SqL.of (s0 _ _ ho)⟩,qP (K:=K) (fun i σ H'=>∃(ts:LQ) (x2 S:Option V),σ=[some (.ref x),some (.ref l),x2,S]/\L2.Same H H'/\H' l=some (.lst (ts.map V.ref))/\ts.length<=i*14/\All2 (PrAt H H' l) ts (qT ss ns i))
   ⟨[],none,none,rfl,s0,qb,by simp,All2.nil⟩ (fun i σ H' _ B=>by obtain⟨_,_,_,_,z,_⟩:=B;show SqL.of (z _ _ ho)) (fun i y σ H1 hy B=>?_) fun σ H1 B=>?_⟩
  .obtain⟨ts,x2,S,rfl,O,G,s,c⟩:=B;have hi:i<ss.length:=by simpa using(yc.mp hy).1
   have D:ss[i]?=some ss[i]:=yb hi;generalize ss[i]=p at D;have ey:y=.str p:=by rw[yd,D] at hy;cases hy;rfl
   subst ey;have al:=hw.nm p (ye D);apply⟨x,dx,_,rfl,O _ _ hx,zE (by room),?_⟩;apply⟨x,ss,ns,p,i,rfl,hW.same O,D,fun H2 s2 b W=>?_⟩;have s3:=O.trans s2;have s4:=qH s3 (o:=.lst ((inB ss 0 (ns.getD i 0)).map V.str)) W;have R:=qH s2 (o:=.lst ((inB ss 0 (ns.getD i 0)).map V.str)) W;have eb:upd H2 b (.lst ((inB ss 0 (ns.getD i 0)).map V.str)) b=some (.lst ((inB ss 0 (ns.getD i 0)).map V.str)):=qb;have ah:b≠l:=fun e=>by rw[e,s2 _ _ G] at W;cases W
   have aj:H b=none:=s3.free W;show .inl ⟨⟨_,SqL.of qb⟩,?_⟩;generalize upd H2 b (.lst ((inB ss 0 (ns.getD i 0)).map V.str))=H3 at s4 R eb ⊢;have J:∀ o,o∈inB ss 0 (ns.getD i 0)->o∈ss:=fun o h=>(qdL hw.nd h).1;have ad:=qa7 (ns.getD i 0) ss 0;have r:qeG ss ns i=((inB ss 0 (ns.getD i 0)).filter fun o=>decide (i<ss.idxOf o)).map fun o=>(ss.getD i "",o):=rfl;have aa:ss.getD i ""=p:=by simp[List.getD,D]
   rw[aa] at r;generalize ak:inB ss 0 (ns.getD i 0)=bs at eb J ad r ⊢;show qP (K:=K) (fun k σ H'=>∃(us:LQ) (S:Option V),σ=[some (.ref x),some (.ref l),some (.str p),S]/\L2.Same H H'/\H' b=some (.lst (bs.map V.str))/\H' l=some (.lst (us.map V.ref))/\us.length<=i*14+k/\All2 (PrAt H H' l) us (qT ss ns i++((bs.take k).filter fun o=>decide (i<ss.idxOf o)).map fun o=>(p,o)))
    ⟨ts,_,rfl,s4,eb,R _ _ G,s,by simpa using c.mono fun _ _ h=>h.same R⟩ (fun k σ H' _ B=>by obtain⟨_,_,_,_,z,_⟩:=B;show SqL.of z) (fun k u σ Z M B=>?_) fun σ Z B=>?_
   .obtain⟨us,S,rfl,I,C,g,v,a⟩:=B;have hk:k<bs.length:=by simpa using(yc.mp M).1
    have gk:bs[k]?=some bs[k]:=yb hk;generalize bs[k]=m at gk;have eu:u=.str m:=by rw[yd,gk] at M;cases M;rfl
    subst eu;have ag:=J m (ye gk);have ae:=Yj ag;have ac:ss[ss.idxOf m]?=some m:=by rw[yb ae,Yx]
    have X:bs.take (k+1)=bs.take k++[m]:=by rw[yM,gk];rfl
    apply .inl ⟨x,cw,dx,_,.ref d,rfl,I _ _ hx,T.wcl,T.wn,jX,?_⟩;apply .inr ⟨d,.int i,rfl,Y Z p i I D,?_⟩;apply .inl ⟨x,cw,dx,_,.ref d,rfl,I _ _ hx,T.wcl,T.wn,jX,?_⟩;apply .inr ⟨d,.int (ss.idxOf m:Nat),rfl,Y Z m _ I ac,?_⟩;apply qL (fun L=>?_) fun L=>?_
    .have A:i<ss.idxOf m:=by have:=yk L;lk
     apply⟨.inl ⟨rfl,_,SqL.of g⟩,?_⟩;apply⟨by show 2<=sizeLine;decide,fun t ht=>?_⟩;have N:l≠t:=qz g ht;have ai:b≠t:=qz C ht;have s6:=qH (Sr Z) (o:=.tup [.str p,.str m]) ht;apply⟨l,_,_,rfl,rfl,by rw[qe N];show g,by rw[ya];show qi (by have:i*14<=14*14:=Nat.mul_le_mul_right 14 (by lk);lk),?_⟩;show⟨us++[t],_,rfl,qaA (I.trans s6) hl,by rw[qe ah,qe ai];show C,by rw[qb,yH];rfl,by rw[yu];show us.length+1<=_;lk,?_⟩;rw[X,Yg,yH,<- Yh];have U:([m].filter fun o=>decide (i<ss.idxOf o)).map (fun o=>(p,o))=[(p,m)]:=by simp[A]
     rw[U];show All2.snoc (a.mono fun t' ab h=>⟨h.1,h.2.1,?_⟩) ⟨I.free ht,N.symm,?_⟩
     .rw [qe h.2.1];show s6 _ _ h.2.2
     .rw [qe N.symm,qb]
    .have A:¬ i<ss.idxOf m:=fun h=>L (yS (by lk));show⟨us,_,rfl,I,C,g,by lk,?_⟩;have U:([m].filter fun o=>decide (i<ss.idxOf o)).map (fun o=>(p,o))=[]:=by simp[A]
     rw[X,Yg,yH,U,Ye];show a
   .obtain⟨us,S,rfl,I,C,g,v,a⟩:=B;rw[ya,yQ] at a;rw[ya] at v;show⟨us,_,_,rfl,I,g,by lk,?_⟩;unfold qT at a ⊢;rw[List.range_succ,Xq];have U:[i].flatMap (qeG ss ns)=(bs.filter fun o=>decide (i<ss.idxOf o)).map fun o=>(p,o):=by rw[<- r];simp
    rw[U];show a
  .obtain⟨ts,x2,S,rfl,O,G,s,c⟩:=B;rw[ya] at s c;apply q l ts H1 O hl G (by have:ss.length*14<=14*14:=Nat.mul_le_mul_right 14 few;lk) c
theorem uX:FnScope ["_law_script","_law_k"] ["_law_script","_law_k"] (qg qaI):=fS
theorem u9:FnScope ["_law_cell_here"] ["_law_cell_here"] (qg qbD):=fS
theorem KW:FnScope ["_law_box_here","_law_many","_law_number"] ["_law_box_here","_law_many"] (qg qaJ):=fS
def Box(H:Hp)(p:Addr):Prop:=∃ a b c:Int,H p=some (.lst [.int a,.int b,.int c])
def BB(p:Addr)(H H':Hp):Prop:=(∀ b o,b≠p->H b=some o->H' b=some o)/\Box H' p
theorem BB.refl(h:Box H p):BB p H H:=⟨fun _ _ _ e=>e,h⟩
theorem BB.trans(a:BB p H H1)(b:BB p H1 H2):BB p H H2:=⟨fun c o n e=>b.1 c o n (a.1 c o n e),b.2⟩
theorem BB.new(a:BB p H H1)(hl:H1 l=none):BB p H (upd H1 l o):=by
 obtain⟨x,y,z,b⟩:=a.2;show⟨fun c u n e=>?_,x,y,z,?_⟩
 .have q:=a.1 c u n e;rw[qe (qz q hl)];show q
 .rw [qe (qz b hl)];show b
inductive spTake(vs:List V)(H:Hp)(Q:VK)(E:XK):Prop|mk (p:Addr) (m:Int) (_:vs=[.ref p,.int m]) (_:Box H p) (_:0<m) (_:m<1073741824) (_:∀(r:Int) (H':Hp),0<=r->r<m->BB p H H'->Q (.int r) H')
theorem ok_take(F:Fun K "_law_take" "_law_take" qaJ f fd):FnOk P w K mg base CX0 1 f fd ["_law_box_here","_law_many"] spTake:=by
 show F.ok KW fun _ _ _ _ H vs Q E l h=>?_
 .obtain⟨p,m,rfl,⟨a,b,c,g⟩,j,h1,k⟩:=h;have d:=jW l;show⟨_,(qc (qJ (qj qdb (qu (qv (K:=K) rfl d) (pv 0) qh (fun _ _=>rfl)) qh (qx _)) (qc (qt (i:=2) KW.nd rfl (yP rfl) (qI zC (qu (qv (K:=K) rfl d) (pv 0) qh (fun _ _=>rfl)) (pv 1)))
 (qc (jY (qI qdk (qu (qv (K:=K) rfl d) (pv 0) qh (fun _ _=>rfl)) (pv 1)) (j6 (pv 0) qh (j8 d)))
 (qf (qk (pv 2))))) qo)
 (qc (jY (qI (zh (K:=K) rfl) (qu (qv (K:=K) rfl d) (pv 0) qh (fun _ _=>rfl)) qh) (j6 (pv 0) qh (j8 d)))
 (qc (qt (i:=2) KW.nd rfl (yP rfl) (qI zC (qI (zh (K:=K) rfl) (qI (zh (K:=K) rfl) (qI qbc (qu (qv (K:=K) rfl d) (pv 0) qh (fun _ _=>rfl)) qh) (qI qbc qh (qu (qv (K:=K) rfl d) (pv 0) qh (fun _ _=>rfl)))) qh) qh))
 (qc (qt (i:=2) KW.nd rfl (yP rfl) (qI zC (qI (zh (K:=K) rfl) (qI (zh (K:=K) rfl) (qI qbc (pv 2) (pv 2)) (qI qbc qh (qu (qv (K:=K) rfl d) (pv 0) qh (fun _ _=>rfl)))) qh) qh))
 (qf (qk (qI zC (qI zC (qI qbc (pv 2) (qI (zh (K:=K) rfl) (pv 2) qh)) qh) (pv 1)))))))),?_⟩
  apply .inl (zH g rfl ?_);apply qL (fun hc=>?_) (fun hc=>?_)
  .ext;show .inl (zH g rfl ?_);apply vI j ?_;apply .inl (zH g rfl ?_);apply vI ⟨j,h1⟩ ?_;apply .inl (qd1 g rfl ?_);apply k _ _ (YO _ (by lk)) (YM _ j) ⟨fun x o n e=>by rw[qe n];show e,_,_,_,qb⟩
  .ext;show .inl (zH g rfl ?_);apply .inl (qd1 g rfl ?_);apply .inl (zH qb rfl ?_);apply qbd (.inr (by decide)) ?_;apply .inl (zH qb rfl ?_);apply qbd (.inl (by decide)) ?_;apply vI (by decide) ?_;ext;have q:=YO (b*48271+7919*(c+1)+101) (show(2147483647:Int)≠0 by decide);have r:=YM (b*48271+7919*(c+1)+101) (show(0:Int)<2147483647 by decide);show qbd (.inl ⟨by lk,by lk⟩) ?_;apply .inl (zH qb rfl ?_);apply qbd (.inl (by decide)) ?_;apply vI (by decide) ?_;ext;generalize ((b*48271+7919*(c+1)+101) % 2147483647*((b*48271+7919*(c+1)+101) % 2147483647)+104729*(c+1)+7)=z;have s:=YO z (show(2147483629:Int)≠0 by decide);have t:=YM z (show(0:Int)<2147483629 by decide);show qbd (.inl ⟨by lk,by lk⟩) ?_;apply vI (by decide) ?_;apply vI j ?_;show k _ _ (YO _ (by lk)) (YM _ j) ⟨fun x o n e=>by rw[qe n];show e,_,_,_,qb⟩
inductive spCell(K:W.Frag)(vs:List V)(H:Hp)(Q:VK)(E:XK):Prop|mk (a:Addr) (ns:LX) (k:Int) (_:vs=[.ref a,.int k]) (_:SqL K H a (ns.map V.int)) (_:0<=k) (_:k<1000) (_:∀ i:Int,Q (.int i) H)
theorem ok_cell(F:Fun K "_law_cell" "_law_cell" qaI f fd)(T:Txt K mg cc cw):FnOk P w K mg base CX0 1 f fd ["_law_script","_law_k"] (spCell K):=by
 show F.ok uX fun _ _ _ _ H vs Q E l h=>?_
 .obtain⟨a,ns,k,rfl,e,j,h1,q⟩:=h;have m:=jW l;show⟨_,(qc (qJ (qj qdl (pv 1) (qq (jR (K:=K) rfl) rfl T.b_len YL (qa (pv 0) qd)) (qx _)) (qf (qk (qu (qv (K:=K) rfl m) (pv 0) (pv 1) (fun _ _=>rfl)))) qo)
 (qf (qk (qI (zh (K:=K) rfl) (qI qbc qh (pv 1)) qh)))),?_⟩
  apply qec e ?_;apply qL (fun hc=>?_) (fun hc=>?_)
  .ext;have c:k<(ns.map V.int).length:=yk hc;obtain⟨v,g,b⟩:=qdz j c;rw[yd] at b
   cases d:ns[k.toNat]? with
   | none=>rw[d] at b;cases b
   | some i =>
    rw[d] at b;cases b;show .inl (vIxLs e g (q i))
  .ext;show qbd (.inl (by decide)) ?_;apply q _
inductive spBox(vs:List V)(H:Hp)(Q:VK)(E:XK):Prop|mk (i:Int) (_:vs=[.int i]) (_:∀(p:Addr) (a b c:Int),H p=none->Q (.ref p) (upd H p (.lst [.int a,.int b,.int c])))
theorem ok_box(F:Fun K "_law_box" "_law_box" qbD f fd):FnOk P w K mg base CX0 1 f fd ["_law_cell_here"] spBox:=by
 show F.ok u9 fun _ _ _ _ H vs Q E b h=>?_
 .obtain⟨i,rfl,q⟩:=h;have c:=jW b;show⟨_,(qc (qJ (qj op_ge (pv 0) (qI op_pow qh qh) (qx _)) (qf (qk (qY (qa (pv 0) (qa (qI zC (pv 0) qh) (qa qh qd)))))) qo)
 (qf (qk (qY (qa qh (qa (qI zC (pv 0) qh) (qa qh qd))))))),?_⟩
  apply vI ⟨by decide,by decide,by decide⟩ ?_;apply qL (fun hc=>?_) (fun hc=>?_)
  .ext;show vI (by decide) ?_;apply⟨by show 3<=sizeLine;decide,fun p a=>q p _ _ _ a⟩
  .ext;show vI (by decide) ?_;apply⟨by show 3<=sizeLine;decide,fun p a=>q p _ _ _ a⟩
theorem BB.apart(a:BB p H H1)(hl:H1 l=none):l≠p:=fun e=>by subst e;obtain⟨_,_,_,z⟩:=a.2;rw[z] at hl;cases hl
theorem BB.free(a:BB p H H1)(hl:H1 l=none):H l=none:=by
 cases q:H l with
 | none=>rfl
 | some o=>rw[a.1 l o (a.apart hl) q] at hl;cases hl
theorem BB.put(a:BB p H H1)(hl:H l=none)(d:l≠p):BB p H (upd H1 l o):=by
 obtain⟨x,y,z,b⟩:=a.2;show⟨fun c u n e=>by rw[qe (qz e hl)];show a.1 c u n e,x,y,z,by rw[qe d.symm];show b⟩
theorem BB.same(a:BB p H H1)(s:L2.Same H1 H2):BB p H H2:=by
 obtain⟨x,y,z,b⟩:=a.2;show⟨fun c u n e=>s c u (a.1 c u n e),x,y,z,s _ _ b⟩
theorem Box.apart(h:Box H p)(hl:H l=none):l≠p:=(BB.refl h).apart hl
noncomputable def NewH(H H':Hp):Hp:=fun a=>match H a with | none=>H' a | some _=>none
theorem zi:∀{l m:LS},l.Nodup->(∀ x∈l,x∈m)->l.length<=m.length
 | [],_,_,_=>YF _
 | x::r,m,hn,h=>by
  obtain⟨h1,c⟩:=yp.mp hn;have a:=h x yG;have d:=zi (l:=r) (m:=m.erase x) c fun y b=>(XU (fun e=>h1 (by rw[<- e];show b))).mpr (h y (yI _ b));rw[Y8 a] at d;have:0<m.length:=YS a;simp only[yD];lk
theorem qdM(c:Str)(ss:LS):inV (.str c) (ss.map V.str)=decide (c∈ss):=by
 unfold inV;rw[List.any_map,xn,Y7,Ys];constructor
 .rintro ⟨y,a,e⟩;have:y=c:=eq_of_beq e;rw[<- this];show a
 .intro h;show⟨c,h,xv c⟩
inductive spFresh(vs:List V)(H:Hp)(Q:VK)(E:XK):Prop|mk (l:Addr) (ss:LS) (_:vs=[.ref l]) (_:H l=some (.lst (ss.map V.str))) (_:ss.length<=14) (_:∀(x:Str) (H':Hp),L2.Same H H'->zv x=true->x∉ss->Q (.str x) H')
noncomputable def signs:LS:=("abcdefghijklmno":Str).cps.toList.map fun c=>⟨#[c]⟩
theorem Kg:FnScope ["_law_box_here","_law_many","_law_letters","_law_way","_law_shift","_law_step","_law_stem","_law_ahead","_law_names_here","_law_k","_law_name"] ["_law_box_here","_law_many"] (qg zl):=fS
theorem slice_ix(k n:Nat):Builtin.Str.strSliceIndices none (some (k:Int)) 1 n=List.range (min k n):=by
 unfold Builtin.Str.strSliceIndices sliceRange;simp only[show(1:Int)>0 by decide,XM];rw[yA (show ¬ ((k:Int)<0) by lk)];have a:max 0 (min (k:Int) n)=((min k n:Nat):Int):=by lk
 rw[a];have b:(fun(j:Nat)=>((0:Int)+1*(j:Int)).toNat)=id:=by funext j;show _=j;lk
 rw[b,List.map_id]
 congr 1
 split
 .rw [Int.ediv_one];lk
 .omega
theorem qdN(a:Array Nat):∀ m,m<=a.size->(List.range m).filterMap (a[·]?)=a.toList.take m
 | 0,_=>rfl
 | m+1,h=>by
  rw[List.range_succ,List.filterMap_append,qdN a m (by lk),yM]
  congr 1
  have e:a[m]?=some a[m]:=Y4 (by lk);have b:a.toList[m]?=some a[m]:=by rw[x8];show e
  rw[b,Xn,e];rfl
theorem zV(z:Str)(k:Nat):(Txt.slice z none (some (k:Int))).cps.toList=z.cps.toList.take k:=by
 unfold Txt.slice;rw[slice_ix];have hz:z.length=z.cps.toList.length:=by simp[Str.length]
 split
 .rename_i h
  rw[kn] at h;have:min k z.length=z.length:=by simpa using h
  rw[YC (by lk)]
 .show(List.filterMap _ _).toArray.toList=_;rw[qdN z.cps (min k z.length) (kG _ _)];show z.cps.toList.take (min k z.length)=_;by_cases a:k<=z.length
  .rw [kT a]
  .rw [kK (by lk),YC (by lk),YC (by lk)]
theorem qar(a b:Str):(a++b).cps.toList=a.cps.toList++b.cps.toList:=by
 show(a.cps++b.cps).toList=_;show Array.toList_append
theorem qc6:∀{xs:LS},(∀ x∈xs,x.cps.toList.all sg=true)->(Str.join "" xs).cps.toList.all sg=true
 | [],_=>rfl
 | [x],h=>h x (by simp)
 | x::y::r,h=>by
  have e:Str.join "" (x::y::r)=x++""++Str.join "" (y::r):=rfl;rw[e,qar,qar,X1,X1,h x (by simp),qc6 fun z hz=>h z (yI _ hz)]
  room
theorem qeH{c:Nat}(h:97<=c)(b:c<=122):sg c=true:=by
 have a:∀ i,i<26->sg (97+i)=true:=by room
 have:=a (c-97) (by lk)
 rwa[show 97+(c-97)=c by lk] at this
theorem join_len{xs:LS}(h:∀ x∈xs,x.length=1):(Txt.join "" xs).length=xs.length:=by
 have e:Txt.join "" xs=Str.join "" xs:=Yo.mp (join_plain_closes "" xs);rw[e]
 cases xs with
 | nil=>rfl
 | cons a l =>
  rw[len_join_cons]
  have b:∀ l:LS,(∀ x∈l,x.length=1)->(l.map (·.length)).sum=l.length:=by
   intro l
   induction l with
   | nil=>intro _;rfl
   | cons a l ih =>
    intro h;rw[Yu,List.sum_cons,h a yG,ih fun x c=>h x (yI _ c),yD];lk
  have z:("":Str).length=0:=by room
  rw[b _ h,z];lk
theorem sum_ones{xs:LS}(h:∀ x∈xs,x.length=1):(xs.map (·.length)).sum=xs.length:=by
 induction xs with
 | nil=>rfl
 | cons a l ih =>
  rw[Yu,List.sum_cons,h a yG,ih fun x b=>h x (yI _ b),yD];lk
def Signs(p:Addr)(H:Hp)(i:Nat)(ys:List V)(H':Hp):Prop:=BB p H H'/\∃ xs:LS,ys=xs.map V.str/\xs.length=i/\∀ x∈xs,x.length=1/\x.cps.toList.all sg=true
theorem Signs.start(h:Box H p):Signs p H 0 [] H:=⟨BB.refl h,[],rfl,rfl,fun _ h=>by cases h⟩
theorem Signs.more{c:Nat}(h:Signs p H i ys H1)(b:BB p H1 H2)(hc:sg c=true):Signs p H (i+1) (ys++[.str ⟨#[c]⟩]) H2:=by
 obtain⟨a,xs,rfl,hl,h1⟩:=h;show⟨a.trans b,xs++[⟨#[c]⟩],by rw[yH];rfl,by rw[yu,hl];rfl,fun x d=>?_⟩;rcases yC.mp d with z | z
 .show h1 x z
 .rw [yz.mp z];show⟨rfl,by simp[hc]⟩
theorem Signs.len(h:Signs p H i ys H1):ys.length=i:=by
 obtain⟨_,xs,rfl,hl,_⟩:=h;rw[ya,hl]
noncomputable def L26:Str:="abcdefghijklmnopqrstuvwxyz"
theorem qeq{i:Int}(b:0<=i)(h1:i<26):atI L26.cps.toList i=some (97+i.toNat):=by
 obtain⟨n,rfl⟩:=xk b;have a:∀ n,n<26->L26.cps.toList[n]?=some (97+n):=by room
 rw[YI];show qw (a n (by lk))
theorem qc7{x:Str}{l:LN}(e:x.cps.toList=l)(h1:1<=l.length)(a:l.length<=6)(h:l.all sg=true):zv x=true:=by
 have hl:x.length=l.length:=by rw[<- e];simp[Str.length]
 unfold zv;rw[yF ⟨by lk,by lk⟩,e];show h
theorem qcd(h:∀(i j:Nat) (s:Str),ss[i]?=some s->ss[j]?=some s->i=j):ss.Nodup:=by
 show YB.mpr fun i j a c b e=>?_;have:=h i j ss[j] (by rw[yb a,e]) (yb c);lk
theorem qc8{step sh a b:Int}(c:step∈[(1:Int),3,5,7,9,11,15,25])(g:0<=a)(h:0<=b)(d:a<26)(f:b<26)(e:(sh+step*a) % 26=(sh+step*b) % 26):a=b:=by
 simp only[yB,yW,YU] at c;rcases c with rfl | rfl | rfl | rfl | rfl | rfl | rfl | rfl<;>lk
def NL(p:Addr)(H':Hp)(l:Addr)(ss:LS):Prop:=H' l=some (.lst (ss.map V.str))/\l≠p
structure NOk(ss:LS):Prop where
 few:ss.length<=14
 nd:ss.Nodup
 nm:∀ s∈ss,zv s=true
inductive spNames(vs:List V)(H:Hp)(Q:VK)(E:XK):Prop|mk (p:Addr) (m:Int) (_:vs=[.ref p,.int m]) (_:Box H p) (_:0<=m) (_:m<=14) (_:∀(l:Addr) (ss:LS) (H':Hp),BB p H H'->H l=none->NL p H' l ss->NOk ss->(ss.length:Int)<=m->Q (.ref l) H')
theorem ok_names(F:Fun K "_law_names" "_law_names" zl f fd)(T:Txt K mg cc cw)(Y:DefOk P w K mg base CX0 1 "_law_take" ["_law_box_here","_law_many"] spTake):FnOk P w K mg base CX0 2 f fd ["_law_box_here","_law_many"] spNames:=by
 show F.ok Kg fun _ _ _ s H vs Q E R h=>?_
 .obtain⟨p,m,rfl,hB,m0,am,q⟩:=h;have hu:=jW R;show⟨_,(qc (qt (i:=2) Kg.nd rfl (XD rfl) qcL)
 (qc (qt (i:=3) Kg.nd rfl (yP rfl) (qr Y (hmR R) qC (qa (pv 0) (qa qh qd))))
 (qc (qt (i:=4) Kg.nd rfl (XD rfl) (qr Y (hmR R) qC (qa (pv 0) (qa qh qd))))
 (qc (qt (i:=5) Kg.nd rfl (XD rfl) (qu (qv (K:=K) rfl hu) (qY (qa qh (qa qh (qa qh (qa qh (qa qh (qa qh (qa qh (qa qh qd))))))))) (qr Y (hmR R) qC (qa (pv 0) (qa qh qd))) (fun _ _=>rfl)))
 (qc (qt (i:=6) Kg.nd rfl (XD rfl) (qa9 (K:=K) rfl PySem.F.plainAttrs_str PySem.F.slot_str_join PySem.F.type_str_join (k_join (K:=K) rfl) qcL (qa (jj (sc:=qg zl) (XN:=["_law_box_here","_law_many","_law_letters","_law_way","_law_shift","_law_step","_law_stem","_law_ahead","_law_names_here","_law_k","_law_name"]) ["_law_k","_law_letters","_law_box_here"] 1 [2,0] rfl rfl rfl (by room) rfl (by room)
  (jx rfl T.b_range (qa qh qd)) (fun _ _ _ _=>(qm (i:=0) (show(["_law_k","_law_letters","_law_box_here"]:LS).Nodup by room) rfl (yP rfl))) qU
  (fun _ _ _ _=>jG)
  (fun _ _ _ _=>(qu (qv (K:=K) rfl hu) (pv 1) (qr Y (hmR R) qC (qa (pv 2) (qa qh qd))) (fun _ _=>rfl)))) qd)))
 (qc (qJ (qj (zZ (K:=K) rfl hu) (pv 3) qh (qx _)) (qf (qk (jj (sc:=qg zl) (XN:=["_law_box_here","_law_many","_law_letters","_law_way","_law_shift","_law_step","_law_stem","_law_ahead","_law_names_here","_law_k","_law_name"]) ["_law_k","_law_letters","_law_stem","_law_shift","_law_step"] 1 [2,6,4,5] rfl rfl rfl (by room) rfl (by room)
  (jx rfl T.b_range (qa (pv 1) qd)) (fun _ _ _ _=>(qm (i:=0) (show(["_law_k","_law_letters","_law_stem","_law_shift","_law_step"]:LS).Nodup by room) rfl (yP rfl))) qU
  (fun _ _ _ _=>jG)
  (fun _ _ _ _=>(qI (zh (K:=K) rfl) (qu (qv (K:=K) rfl hu) (pv 1) (qI zC (qI (zh (K:=K) rfl) (pv 3) (qI qbc (pv 4) (qI qdk (pv 0) qh))) qh) (fun _ _=>rfl)) (jg (qcW (K:=K) rfl) (pv 2) jy (ji (qI zC (pv 0) qh)))))))) qo)
 (qc (qt (i:=7) Kg.nd rfl (yP rfl) (qr Y (hmR R) qC (qa (pv 0) (qa qh qd))))
 (qc (qt (i:=8) Kg.nd rfl (yP rfl) (qY qd))
 (qc (q9 yT rfl (jx rfl T.b_range (qa (pv 1) qd)) (qm (i:=9) Kg.nd rfl (yP rfl))
 (qc (qt (i:=10) Kg.nd rfl (yP rfl) (qI (zh (K:=K) rfl) (jg (qcW (K:=K) rfl) (pv 6) jy (ji (pv 7))) (qu (qv (K:=K) rfl hu) (pv 2) (qI zC (qI (zh (K:=K) rfl) (pv 4) (qI qbc (pv 5) (pv 9))) qh) (fun _ _=>rfl))))
 (qf (qO (qa9 (K:=K) rfl yN Yb Yc qR (pv 8) (qa (qI (zh (K:=K) rfl) (pv 10) (jg (qcW (K:=K) rfl) (pv 6) jy (ji (qI qbc (qr Y (hmR R) qC (qa (pv 0) (qa (qI qcN qh (pv 7)) qd))) (qI qcN (pv 3) qh))))) qd))))))
 (qf (qk (pv 8)))))))))))),?_⟩
  apply⟨p,3,rfl,hB,by decide,by decide,fun G H1 w0 w1 b1=>?_⟩;apply⟨p,26,rfl,b1.2,by decide,by decide,fun a H2 an ao b2=>?_⟩;replace b2:=b1.trans b2;apply⟨by show 8<=sizeLine;decide,fun l8 h8=>?_⟩;generalize U:[V.int 1,V.int 3,V.int 5,V.int 7,V.int 9,V.int 11,V.int 15,V.int 25]=xs;have b3:=b2.new (o:=.lst xs) h8;have n8:=b2.apart h8;have e8:upd H2 l8 (.lst xs) l8=some (.lst xs):=qb;generalize upd H2 l8 (.lst xs)=H3 at b3 e8 ⊢;apply⟨p,8,rfl,b3.2,by decide,by decide,fun r H4 r0 r1 C=>?_⟩;replace e8:=C.1 _ _ n8 e8;replace C:=b3.trans C;have al:xs.length=8:=by rw[<- U];rfl
  obtain⟨v,ix,hv⟩:=qdz (xs:=xs) r0 (by lk)
  obtain⟨step,rfl,ac,ap,aq⟩:∃ i:Int,v=.int i/\i∈[(1:Int),3,5,7,9,11,15,25]/\0<=i/\i<=25:=by
   have hm:=ye hv;rw[<- U] at hm;simp only[yB,yW,YU] at hm;rcases hm with rfl | rfl | rfl | rfl | rfl | rfl | rfl | rfl<;>show⟨_,rfl,by decide,by decide,by decide⟩
  show .inl (zH e8 ix ?_);clear hv ix U e8;apply⟨rfl,?_⟩;apply⟨5,rfl,by decide,by decide,qbk (lo:=0) (n:=5) (Signs p H4) (Signs.start C.2) (fun i ys H' L y=>?_) fun ys H5 y=>?_⟩
  .ext;show zr ?_;apply⟨p,26,rfl,y.1.2,by decide,by decide,fun r aj r0 r1 hb=>?_⟩;show .inl (qfR (by room) (qeq r0 r1) ?_);show⟨by rw[y.len];show qi (by lk),y.more hb (qeH (by lk) (by lk))⟩
  .show⟨by rw[y.len];decide,fun l5 h5=>?_⟩;obtain⟨af,J,rfl,hn,h1⟩:=y;replace C:=(C.trans af).new (o:=.lst (J.map V.str)) h5;apply⟨_,l5,J,rfl,rfl,SqL.of qb,by rw[sum_ones fun x hx=>(h1 x hx).1,show("":Str).length=0 by room];lk,?_⟩;have u:(Txt.join "" J).length=5:=by rw[join_len fun x hx=>(h1 x hx).1];lk
   have D:(Txt.join "" J).cps.toList.all sg=true:=by
    have e:Txt.join "" J=Str.join "" J:=Yo.mp (join_plain_closes "" J);rw[e];show qc6 fun x hx=>(h1 x hx).2
   generalize Txt.join "" J=b at u D ⊢;have Z:b.cps.toList.length=5:=by rw[<- u];simp[Str.length]
   have W:∀ k,(b.cps.toList.take k).all sg=true:=fun k=>YA.mpr fun c hc=>YA.mp D c (List.mem_of_mem_take hc)
   have S:∀ k:Nat,(Txt.slice b none (some (k:Int))).length=min k 5:=fun k=>by
    have:(Txt.slice b none (some (k:Int))).length=(Txt.slice b none (some (k:Int))).cps.toList.length:=by simp[Str.length]
    rw[this,zV,yO,Z]
   generalize upd H5 l5 (.lst (J.map V.str))=H6 at C ⊢;have A:∀{i:Int} {H:Hp} {Q:VK},0<=i->i<26->Q (.str ⟨#[97+i.toNat]⟩) H->qe8 K (.str L26) (.int i) H Q:=fun h0 h1 k=>.inl (qfR (by room) (qeq h0 h1) k);apply .inl (.inl (.inl ⟨rfl,rfl,?_⟩));apply qL (fun hw=>?_) fun hw=>?_
   .ext;show⟨m,rfl,by lk,by lk,qbk (lo:=0) (fun i ys H'=>H'=H6/\∃ ss:LS,ys=ss.map V.str/\ss.length=i/\∀(j:Nat) s,ss[j]?=some s->s.cps.toList=(97+((a+step*((j:Int) / 6)) % 26).toNat)::b.cps.toList.take (j % 6)) ⟨rfl,[],rfl,rfl,by simp⟩ (fun i ys H' L y=>?_) fun ys H' y=>?_⟩
    .obtain⟨rfl,ss,rfl,d,g⟩:=y;apply zr ?_;apply vI ⟨by decide,by decide⟩ ?_;apply qbd (.inl ⟨by lk,by lk⟩) ?_;apply vI (by decide) ?_;apply A (YO _ (by decide)) (YM _ (by decide)) ?_;apply vI (by decide) ?_;apply qfB (yi (xG u) (by decide)) ?_;rw[X7,show((i:Int) % 6)=((i % 6:Nat):Int) by lk];show qeD (by rw[S];show 1+_<=_;show yY (qi (by lk))) ?_;show⟨by rw[ya,d];show qi (by lk),rfl,ss++[_],by rw[yH];rfl,by rw[yu,d];rfl,fun j s t=>?_⟩;by_cases O:j<ss.length
     .rw [yU O] at t;show g j s t
     .rw [yy (by lk)] at t;have h0:j-ss.length=0:=by have:=(yc.mp t).1;simp at this;lk
      rw[h0] at t;cases t;have N:j=i:=by lk
      subst N;rw[qar,zV];rfl
    .obtain⟨rfl,ss,rfl,d,g⟩:=y;show⟨by rw[ya,d];show yY (qi (by lk)),fun l hl=>?_⟩;show q l ss _ (C.new hl) (C.free hl) ⟨qb,C.apart hl⟩ ⟨by lk,qcd fun i j s L t=>?_,fun s y=>?_⟩ (by lk)
     .have ei:=g i s L;have ej:=g j s t;have li:=(yc.mp L).1;have lj:=(yc.mp t).1;rw[ei,List.cons.injEq] at ej;obtain⟨e1,e2⟩:=ej;have e3:=congrArg List.length e2;rw[yO,yO,Z] at e3
      have e4:(i:Int) / 6=(j:Int) / 6:=qc8 (sh:=a) ac (by lk) (by lk) (by lk) (by lk) (by
       have p1:=YO (a+step*((i:Int) / 6)) (show(26:Int)≠0 by decide);have p2:=YO (a+step*((j:Int) / 6)) (show(26:Int)≠0 by decide);lk)
      lk
     .obtain⟨j,t,e⟩:=xr y;show qc7 (g j s (by rw[yb t,e])) (by simp) (by simp[Z];lk) ?_;rw[Xr,W,qeH (by lk) (by have:=YM (a+step*((j:Int) / 6)) (show(0:Int)<26 by decide);lk)];rfl
   .ext;show⟨p,4,rfl,C.2,by decide,by decide,fun ae H7 a0 a1 b7=>?_⟩;obtain⟨B,rfl⟩:=xk a0;replace b7:=C.trans b7;apply⟨by decide,fun l hl=>?_⟩;have b8:=b7.new (o:=.lst []) hl;have nl:=b7.apart hl;have aa:=b7.free hl;apply⟨m,rfl,by lk,by lk,jJ (fun i σ H'=>BB p H H'/\∃(ss:LS) (x9 X:Option V),σ=[some (.ref p),some (.int m),some (.str L26),some (.int G),some (.int a),some (.int step),some (.str b),some (.int (B:Int)),some (.ref l),x9,X]/\H' l=some (.lst (ss.map V.str))/\ss.length=i/\∀(j:Nat) s,ss[j]?=some s->zv s=true/\s.cps.toList[B]?=some (97+((a+step*(j:Int)) % 26).toNat))
     ⟨b8,[],none,none,rfl,qb,rfl,by simp⟩ (fun i σ H8 L hp=>?_) fun σ H8 hp=>?_⟩
    .obtain⟨b9,ss,x9,X,rfl,g,d,hk⟩:=hp;apply qfB (yi (xG u) (by decide)) ?_;apply qbd (.inl ⟨by lk,by lk⟩) ?_;apply vI (by decide) ?_;ext;rw[X7];show A (YO _ (by decide)) (YM _ (by decide)) ?_;show qeD (by rw[S];show _+1<=_;show yY (qi (by lk))) ?_;have M:(Txt.slice b none (some (B:Int))++(⟨#[97+((a+step*(i:Int)) % 26).toNat]⟩:Str)).cps.toList=b.cps.toList.take B++[97+((a+step*(i:Int)) % 26).toNat]:=by rw[qar,zV]
     have ag:(Txt.slice b none (some (B:Int))++(⟨#[97+((a+step*(i:Int)) % 26).toNat]⟩:Str)).length<=6:=by
      have:(Txt.slice b none (some (B:Int))++(⟨#[97+((a+step*(i:Int)) % 26).toNat]⟩:Str)).length=(Txt.slice b none (some (B:Int))++(⟨#[97+((a+step*(i:Int)) % 26).toNat]⟩:Str)).cps.toList.length:=by simp[Str.length]
      rw[this,M];simp[Z];lk
     generalize Txt.slice b none (some (B:Int))++(⟨#[97+((a+step*(i:Int)) % 26).toNat]⟩:Str)=nm at M ag ⊢;apply⟨.inl ⟨rfl,_,SqL.of g⟩,?_⟩;apply⟨p,_,rfl,b9.2,by lk,by lk,fun r H9 r0 r1 I=>?_⟩;replace g:=I.1 _ _ nl g;replace I:=b9.trans I;apply qbd (.inl ⟨by lk,by lk⟩) ?_;apply qfB (yi (xG u) (by decide)) ?_
     have ad:G=1\/G=2:=by
      have:¬ G=0:=fun e=>hw (by subst e;rfl);lk
     obtain⟨k,ak,ek⟩:∃ k:Nat,k<=5-B/\r*(G-1)=(k:Int):=by
      rcases ad with rfl | rfl
      .show⟨0,by lk,by lk⟩
      .show⟨r.toNat,by lk,by lk⟩
     rw[ek];show qeD (by rw[S];show yY (qi (by lk))) ?_;show⟨l,_,_,rfl,rfl,g,by rw[ya,d];show qi (by lk),?_⟩;show⟨I.put aa nl,ss++[_],_,_,rfl,by rw[qb,yH];rfl,by rw[yu,d];rfl,fun j s t=>?_⟩;by_cases O:j<ss.length
     .rw [yU O] at t;show hk j s t
     .rw [yy (by lk)] at t;have h0:j-ss.length=0:=by have:=(yc.mp t).1;simp at this;lk
      rw[h0] at t;cases t;have N:j=i:=by lk
      subst N;have eF:(nm++Txt.slice b none (some (k:Int))).cps.toList=b.cps.toList.take B++[97+((a+step*(j:Int)) % 26).toNat]++b.cps.toList.take k:=by rw[qar,M,zV]
      have ai:=YM (a+step*(j:Int)) (show(0:Int)<26 by decide);show⟨qc7 eF (by simp;lk) (by simp[Z];lk) ?_,?_⟩
      .rw [X1,X1,W,W,Xr,qeH (by lk) (by lk)];rfl
      .rw [eF,Yh,yy (by rw[yO];lk)];have:B-(b.cps.toList.take B).length=0:=by rw[yO,Z];lk
       rw[this];rfl
    .obtain⟨b9,ss,x9,X,rfl,g,d,hk⟩:=hp;apply q l ss _ b9 aa ⟨g,nl⟩ ⟨by lk,qcd fun i j s L t=>?_,fun s y=>?_⟩ (by lk)
     .have ei:=(hk i s L).2;have ej:=(hk j s t).2;have li:=(yc.mp L).1;have lj:=(yc.mp t).1;rw[ei,kA] at ej
      have e4:(i:Int)=(j:Int):=qc8 (sh:=a) ac (by lk) (by lk) (by lk) (by lk) (by
       have p1:=YO (a+step*(i:Int)) (show(26:Int)≠0 by decide);have p2:=YO (a+step*(j:Int)) (show(26:Int)≠0 by decide);lk)
      lk
     .obtain⟨j,t,e⟩:=xr y;show(hk j s (by rw[yb t,e])).1
theorem KE:FnScope ["_law_box_here","_law_names_here","_law_found","_law_base","_law_k","_law_j"] ["_law_box_here","_law_names_here"] (qg qaK):=fS
theorem KM:FnScope ["_law_box_here","_law_most","_law_many","_law_names_here"] ["_law_box_here","_law_most"] (qg qas):=fS
theorem KG:FnScope ["_law_box_here","_law_ties_here","_law_left","_law_found"] ["_law_box_here","_law_ties_here"] (qg jL):=fS
theorem NL.bb(h:NL p H l ss)(b:BB p H H'):NL p H' l ss:=⟨b.1 _ _ h.2 h.1,h.2⟩
theorem NL.same(h:NL p H l ss)(s:L2.Same H H'):NL p H' l ss:=⟨s _ _ h.1,h.2⟩
def PrT(p:Addr)(H:Hp)(t:Addr)(ab:Str×Str):Prop:=t≠p/\H t=some (.tup [.str ab.1,.str ab.2])
def TL(p:Addr)(H:Hp)(l:Addr)(ts:LQ)(tps:LP):Prop:=H l=some (.lst (ts.map V.ref))/\l≠p/\All2 (PrT p H) ts tps
theorem TL.bb(h:TL p H l ts tps)(b:BB p H H'):TL p H' l ts tps:=⟨b.1 _ _ h.2.1 h.1,h.2.1,h.2.2.mono fun t ab z=>⟨z.1,b.1 _ _ z.1 z.2⟩⟩
theorem TL.same(h:TL p H l ts tps)(s:L2.Same H H'):TL p H' l ts tps:=⟨s _ _ h.1,h.2.1,h.2.2.mono fun t ab z=>⟨z.1,s _ _ z.2⟩⟩
theorem PrT.put(h:PrT p H t ab)(hl:H l=some (.lst xs)):PrT p (upd H l (.lst ys)) t ab:=⟨h.1,by rw[qe (jv h.2 hl (by intro z;cases z))];show h.2⟩
theorem TL.more(h:TL p H l ts tps)(a:PrT p H t ab):TL p (upd H l (.lst (ts.map V.ref++[.ref t]))) l (ts++[t]) (tps++[ab]):=
 ⟨by rw[qb,yH];rfl,h.2.1,(h.2.2.mono fun _ _ z=>z.put h.1).snoc (a.put h.1)⟩
theorem TL.other{l':Addr}(h:TL p H l ts tps)(ne:l≠l')(hl:H l'=some (.lst xs)):TL p (upd H l' (.lst ys)) l ts tps:=⟨by rw[qe ne];show h.1,h.2.1,h.2.2.mono fun _ _ z=>z.put hl⟩
theorem qce(f:α->β):∀(l:List α) (k:Nat),(l.map f).eraseIdx k=(l.eraseIdx k).map f
 | [],_=>rfl
 | _::_,0=>rfl
 | a::r,k+1=>congrArg (f a::·) (qce f r k)
theorem All2.erase{R:α->β->Prop}{l:List α}{m:List β}(h:All2 R l m)(k:Nat):All2 R (l.eraseIdx k) (m.eraseIdx k):=by
 show⟨by rw[List.length_eraseIdx,List.length_eraseIdx,h.len],fun j a b d c=>?_⟩;rw[List.getElem?_eraseIdx] at d c;split at d
 .rename_i hlt
  rw[yF hlt] at c;show h.at_ j a b d c
 .rename_i hlt
  rw[yA hlt] at c;show h.at_ (j+1) a b d c
theorem qbp:∀(l:List α) (k:Nat) (h:k<l.length),(l[k]::l.eraseIdx k).Perm l
 | [],_,h=>absurd h (Nat.not_lt_zero _)
 | a::r,0,_=>.refl _
 | a::r,k+1,h=>(List.Perm.swap a _ _).trans (.cons a (qbp r k (Nat.lt_of_succ_lt_succ h)))
theorem TL.less(h:TL p H l ts tps)(k:Nat):TL p (upd H l (.lst ((ts.map V.ref).eraseIdx k))) l (ts.eraseIdx k) (tps.eraseIdx k):=
 ⟨by rw[qb,qce],h.2.1,(h.2.2.erase k).mono fun _ _ z=>z.put h.1⟩
structure TOk(ss:LS)(tps:LP):Prop where
 few:tps.length<=30
 ok:∀ ab∈tps,∃ j k:Nat,j<k/\ss[j]?=some ab.1/\ss[k]?=some ab.2
 nd:tps.Nodup
inductive spTies(vs:List V)(H:Hp)(Q:VK)(E:XK):Prop|mk (p n:Addr) (ss:LS) (_:vs=[.ref p,.ref n]) (_:Box H p) (_:NL p H n ss) (_:NOk ss) (_:∀(l:Addr) (ts:LQ) (tps:LP) (H':Hp),BB p H H'->H l=none->TL p H' l ts tps->TOk ss tps->Q (.ref l) H')
inductive spDrawn(vs:List V)(H:Hp)(Q:VK)(E:XK):Prop|mk (p:Addr) (m:Int) (_:vs=[.ref p,.int m]) (_:0<=m) (_:m<=14) (_:Box H p) (_:∀(t n l:Addr) (ss:LS) (ts:LQ) (tps:LP) (H':Hp),BB p H H'->H' t=some (.tup [.ref n,.ref l])->H n=none->NL p H' n ss->NOk ss->H l=none->TL p H' l ts tps->TOk ss tps->Q (.ref t) H')
def Shuf(tps ups:LP):Prop:=∃ c,ups.Perm c/\All2 (fun a b=>b=a\/b=(a.2,a.1)) tps c
inductive spShuf(vs:List V)(H:Hp)(Q:VK)(E:XK):Prop|mk (p l:Addr) (ts:LQ) (tps:LP) (_:vs=[.ref p,.ref l]) (_:Box H p) (_:TL p H l ts tps) (_:tps.length<=30) (_:∀(l':Addr) (us:LQ) (ups:LP) (H':Hp),BB p H H'->H l'=none->TL p H' l' us ups->Shuf tps ups->Q (.ref l') H')
theorem ne_nil{z:Addr}{Q:VK}(hl:H l=some (.lst xs))(hz:H z=some (.lst []))(q:Q (.bl (!xs.isEmpty)) H):qd2 K true (.ref l) (.ref z) H Q:=by
 cases xs with
 | nil=>show .inr (.inl ⟨l,z,true,1,rfl,rfl,by decide,EqT.lst (n:=0) (e:=fun _=>true) (SqL.of hl) (SqL.of hz) rfl fun j x y h=>by(simp at h),q⟩)
 | cons x r=>show .inr (.inl ⟨l,z,false,1,rfl,rfl,by decide,EqT.lstL (SqL.of hl) (SqL.of hz) (by simp),q⟩)
theorem ok_ties(F:Fun K "_law_ties" "_law_ties" qaK f fd)(T:Txt K mg cc cw)(Ka:DefOk P w K mg base CX0 1 "_law_take" ["_law_box_here","_law_many"] spTake):FnOk P w K mg base CX0 2 f fd ["_law_box_here","_law_names_here"] spTies:=by
 show F.ok KE fun _ _ _ _ H vs Q E hr h=>?_
 .obtain⟨p,n,ss,rfl,hB,L,X,q⟩:=h;have few:=X.few;have M:=jW hr;show⟨_,(qc (qt (i:=2) KE.nd rfl (yP rfl) (qY qd))
 (qc (qt (i:=3) KE.nd rfl (yP rfl) (qu (qv (K:=K) rfl M) (qY (qa qh (qa qh (qa qh (qa qh qd))))) (qr Ka (hmR hr) qC (qa (pv 0) (qa qh qd))) (fun _ _=>rfl)))
 (qc (q9 yT rfl (jx rfl T.b_range (qa (qq (jR (K:=K) rfl) rfl T.b_len YL (qa (pv 1) qd)) qd)) (qm (i:=4) KE.nd rfl (yP rfl))
 (qf (q9 yT rfl (jx rfl T.b_range (qa (pv 4) qd)) (qm (i:=5) KE.nd rfl (yP rfl))
 (qf (qJ (PW.pt (qay (qj (zZ (K:=K) rfl M) (qr Ka (hmR hr) qC (qa (pv 0) (qa (pv 3) qd))) qh (qx _)) (zF (qj qdl (qq (jR (K:=K) rfl) rfl T.b_len YL (qa (pv 2) qd)) qh (qx _))))) (qf (qO (qa9 (K:=K) rfl yN Yb Yc qR (pv 2) (qa (jQ (qa (qu (qv (K:=K) rfl M) (pv 1) (pv 5) (fun _ _=>rfl)) (qa (qu (qv (K:=K) rfl M) (pv 1) (pv 4) (fun _ _=>rfl)) qd))) qd)))) qo)))))
 (qf (qk (pv 2)))))),?_⟩
  apply⟨by decide,fun l hl=>?_⟩;have O:=(BB.refl hB).new (o:=.lst []) hl;have nl:=hB.apart hl;have B:TL p (upd H l (.lst [])) l [] []:=⟨qb,nl,All2.nil⟩;generalize upd H l (.lst [])=H1 at O B ⊢;apply⟨by show 4<=sizeLine;decide,fun l4 s=>?_⟩;generalize A:[V.int 2,V.int 2,V.int 3,V.int 5]=xs;have R:=O.new (o:=.lst xs) s;have n4:=O.apart s;have G:upd H1 l4 (.lst xs) l4=some (.lst xs):=qb;replace B:=B.same (qH (Sr H1) (o:=.lst xs) s);generalize upd H1 l4 (.lst xs)=H2 at R G B ⊢;apply⟨p,4,rfl,R.2,by decide,by decide,fun r H3 r0 r1 D=>?_⟩;replace G:=D.1 _ _ n4 G;replace B:=B.bb D;replace D:=R.trans D;have ae:xs.length=4:=by rw[<- A];rfl
  obtain⟨v,N,hv⟩:=qdz (xs:=xs) r0 (by lk)
  obtain⟨bs,rfl,ac,af⟩:∃ i:Int,v=.int i/\0<i/\i<=25:=by
   have hm:=ye hv;rw[<- A] at hm;simp only[yB,yW,YU] at hm;rcases hm with rfl | rfl | rfl | rfl<;>show⟨_,rfl,by decide,by decide⟩
  show .inl (zH G N ?_);clear hv N A G;ext;have W:H3 n=some (.lst (ss.map V.str)):=D.1 _ _ L.2 L.1;show zD W ?_;rw[ya];show⟨_,rfl,by lk,by lk,jJ (fun i σ H'=>BB p H H'/\∃(ts:LQ) (tps:LP) (x4 C:Option V),σ=[some (.ref p),some (.ref n),some (.ref l),some (.int bs),x4,C]/\TL p H' l ts tps/\tps.length<=30/\tps.Nodup/\∀ ab∈tps,∃ j k,j<k/\ss[j]?=some ab.1/\ss[k]?=some ab.2/\k<i)
   ⟨D,[],[],none,none,rfl,B,by simp,by simp,by simp⟩ (fun i σ H4 hi u=>?_) fun σ H4 u=>?_⟩
  .obtain⟨S,ts,tps,x4,C,rfl,t4,b,nd,ok⟩:=u;have Y:i<ss.length:=by lk
   apply⟨_,rfl,by lk,by lk,jJ (fun j σ H'=>BB p H H'/\∃(ts:LQ) (tps:LP) (C:Option V),σ=[some (.ref p),some (.ref n),some (.ref l),some (.int bs),some (.int (0+(i:Int))),C]/\TL p H' l ts tps/\tps.length<=30/\tps.Nodup/\∀ ab∈tps,∃ a k,a<k/\ss[a]?=some ab.1/\ss[k]?=some ab.2/\(k<i\/(k=i/\a<j)))
    ⟨S,ts,tps,_,rfl,t4,b,nd,fun ab h=>by obtain⟨a,k,h1,c,g,s⟩:=ok ab h;show⟨a,k,h1,c,g,.inl s⟩⟩ (fun j σ H5 hj u=>?_) fun σ H5 u=>?_⟩
   .obtain⟨J,ts,tps,C,rfl,d,b,nd,ok⟩:=u;have Z:j<ss.length:=by lk
    have aa:j<i:=by lk
    have keep:∀ ab∈tps,∃ a k,a<k/\ss[a]?=some ab.1/\ss[k]?=some ab.2/\(k<i\/(k=i/\a<j+1)):=fun ab h=>by
     obtain⟨a,k,h1,c,g,s⟩:=ok ab h;show⟨a,k,h1,c,g,by lk⟩
    apply⟨p,_,rfl,J.2,ac,by lk,fun r H6 r0 r1 m=>?_⟩;replace d:=d.bb m;replace m:=J.trans m;apply .inl (.inl (.inl ⟨rfl,rfl,?_⟩));apply qL (fun _=>?_) fun _=>?_
    .ext;show zD d.1 ?_;apply qL (fun U=>?_) fun _=>?_
     .have ad:ts.length<30:=by
       have:=yk U;rw[ya] at this;lk
      have I:H6 n=some (.lst (ss.map V.str)):=m.1 _ _ L.2 L.1
      have at_:∀(k:Nat),k<ss.length->∃ x,atI (ss.map V.str) (0+(k:Int))=some (.str x)/\ss[k]?=some x:=fun k hk=>by
       rw[X7];show⟨ss[k],qw (by rw[yd,yb hk];rfl),yb hk⟩
      obtain⟨x,N,gx⟩:=at_ j Z;obtain⟨y,iy,gy⟩:=at_ i Y;apply⟨.inl ⟨rfl,_,SqL.of d.1⟩,?_⟩;apply .inl (zH I N ?_);apply .inl (zH I iy ?_);apply⟨by show 2<=sizeLine;decide,fun t ht=>?_⟩;have nt:=m.apart ht;have b7:=m.new (o:=.tup [.str x,.str y]) ht;have t7:=d.same (qH (Sr H6) (o:=.tup [.str x,.str y]) ht);show⟨l,_,_,rfl,rfl,t7.1,by rw[ya];show qi (by lk),?_⟩;show⟨b7.put hl nl,_,tps++[(x,y)],_,rfl,t7.more (ab:=(x,y)) ⟨nt,qb⟩,by rw[yu,<- d.2.2.len];show ts.length+1<=30;lk,?_,fun ab h=>?_⟩
      .show Yd.mpr ⟨nd,by simp,fun ab h cd c e=>?_⟩;rw[yz.mp c] at e;subst e;obtain⟨a,k,h1,c,g,s⟩:=ok _ h;have e1:a=j:=qy X.nd c gx;have e2:k=i:=qy X.nd g gy;lk
      .rcases yC.mp h with h | h
       .show keep ab h
       .rw [yz.mp h];show⟨j,i,aa,gx,gy,.inr ⟨rfl,by lk⟩⟩
     .show⟨m,ts,tps,_,rfl,d,b,nd,keep⟩
    .ext;show yr ?_;show⟨m,ts,tps,_,rfl,d,b,nd,keep⟩
   .obtain⟨J,ts,tps,C,rfl,d,b,nd,ok⟩:=u;show⟨J,ts,tps,_,_,rfl,d,b,nd,fun ab h=>by obtain⟨a,k,h1,c,g,s⟩:=ok ab h;show⟨a,k,h1,c,g,by lk⟩⟩
  .obtain⟨S,ts,tps,x4,C,rfl,t4,b,nd,ok⟩:=u;apply q l ts tps _ S hl t4 ⟨b,fun ab h=>by obtain⟨a,k,h1,c,g,_⟩:=ok ab h;show⟨a,k,h1,c,g⟩,nd⟩
theorem ok_drawn(F:Fun K "_law_drawn" "_law_drawn" qas f fd)(u:DefOk P w K mg base CX0 1 "_law_take" ["_law_box_here","_law_many"] spTake)(Y:DefOk P w K mg base CX0 2 "_law_names" ["_law_box_here","_law_many"] spNames)(J:DefOk P w K mg base CX0 2 "_law_ties" ["_law_box_here","_law_names_here"] spTies) :
  FnOk P w K mg base CX0 3 f fd ["_law_box_here","_law_most"] spDrawn:=by
 show F.ok KM fun _ _ _ _ H vs Q E e h=>?_
 .obtain⟨p,mm,rfl,U,W,M,q⟩:=h;have O:=jW e;show⟨_,(qc (qt (i:=2) KM.nd rfl (yP rfl) (qr u (hmR e) qC (qa (pv 0) (qa qh qd))))
 (qc (qJ (qj (zZ (K:=K) rfl O) (qr u (hmR e) qC (qa (pv 0) (qa qh qd))) qh (qx _)) (qf (qt (i:=2) KM.nd rfl (yP rfl) (qr u (hmR e) qC (qa (pv 0) (qa (qI (zh (K:=K) rfl) (pv 1) qh) qd))))) qo)
 (qc (qt (i:=3) KM.nd rfl (yP rfl) (qr Y (hmR e) qC (qa (pv 0) (qa (pv 2) qd))))
 (qf (qk (jQ (qa (pv 3) (qa (qr J (hmR e) qC (qa (pv 0) (qa (pv 3) qd))) qd)))))))),?_⟩
  apply⟨p,8,rfl,M,by decide,by decide,fun m H1 m0 m1 A=>?_⟩;apply⟨p,8,rfl,A.2,by decide,by decide,fun r H2 r0 r1 c=>?_⟩;replace c:=A.trans c;apply .inl (.inl (.inl ⟨rfl,rfl,?_⟩));ext
  have j:∀(n:Addr) (ss:LS) (b:Hp),BB p H b->H n=none->NL p b n ss->NOk ss->spTies [.ref p,.ref n] b (fun v s=>NewT [.ref n,v] s Q) E0:=fun n ss b d a C D =>
   ⟨p,n,ss,rfl,d.2,C,D,fun l ts tps s B x tl N=>⟨(by decide:2<=sizeLine),fun t G=>by
    have L:=d.trans B;have I:=qH (Sr s) (o:=.tup [.ref n,.ref l]) G;have X:=tl.2.1;show q t n l ss ts tps _ (L.new G) qb a ((C.bb B).same I) D (d.free x) (tl.same I) N⟩⟩
  show qL (fun _=>?_) fun _=>?_
  .ext;show⟨p,_,rfl,c.2,by lk,by lk,fun R Z S T g=>?_⟩;replace g:=c.trans g;apply⟨p,R,rfl,g.2,by lk,by lk,fun n ss b d a y few _=>?_⟩;apply j n ss b (g.trans d) (g.free a) y few
  .ext;show⟨p,m,rfl,c.2,by lk,by lk,fun n ss b d a y few _=>?_⟩;apply j n ss b (c.trans d) (c.free a) y few
theorem ok_shuf(F:Fun K "_law_shuffled" "_law_shuffled" jL f fd)(T:Txt K mg cc cw)(Ka:DefOk P w K mg base CX0 1 "_law_take" ["_law_box_here","_law_many"] spTake):FnOk P w K mg base CX0 2 f fd ["_law_box_here","_law_ties_here"] spShuf:=by
 show F.ok KG fun _ _ _ _ H vs Q E hr h=>?_
 .obtain⟨p,l,ts,tps,rfl,hB,O,few,q⟩:=h;have hu:=jW hr;have av:ts.length<=30:=by rw[O.2.2.len];show few
  show⟨_,(qc (qaw (sc:=qg jL) (XN:=["_law_box_here","_law_ties_here","_law_left","_law_found"]) ["_law_tie","_law_box_here"] 1 [0] rfl rfl rfl (by room) rfl (by room) (i:=2) KG.nd rfl rfl
  (qK (K:=K) rfl (pv 1)) (fun _ _ _ _=>(qm (i:=0) (show(["_law_tie","_law_box_here"]:LS).Nodup by room) rfl (yP rfl))) qU
  (fun _ _ _ _=>jG)
  (fun _ _ _ _=>(qu (qv (K:=K) rfl hu) (qY (qa (pv 0) (qa (pe_rev (K:=K) rfl (pv 0) (ji (qbu qag qh))) qd))) (qr Ka (hmR hr) qC (qa (pv 1) (qa qh qd))) (fun _ _=>rfl))))
 (qc (qt (i:=3) KG.nd rfl (yP rfl) (qY qd))
 (qc (qaB yT (qj (qam (K:=K) rfl hu) (pv 2) (qY qd) (qx _))
 (qf (qO (qa9 (K:=K) rfl yN Yb Yc qR (pv 3) (qa (qa9 (K:=K) rfl yN PySem.F.slot_list_pop PySem.F.type_list_pop qb3 (pv 2) (qa (qr Ka (hmR hr) qC (qa (pv 0) (qa (qq (jR (K:=K) rfl) rfl T.b_len YL (qa (pv 2) qd)) qd))) qd)) qd)))))
 (qf (qk (pv 3)))))),?_⟩
  apply .inl ⟨⟨_,SqL.of O.1⟩,qE (K:=K) (a:=l) (xs:=ts.map V.ref) (fun i ys H'=>BB p H H'/\∃(us:LQ) (ups:LP),ys=us.map V.ref/\us.length=i/\All2 (PrT p H') us ups/\All2 (fun a b=>b=a\/b=(a.2,a.1)) (tps.take i) ups) ⟨BB.refl hB,[],[],rfl,rfl,All2.nil,by simpa using All2.nil⟩
   (fun i ys H' _ h=>SqL.of (h.1.1 _ _ O.2.1 O.1)) (fun i x ys H1 hx hp=>?_) fun ys H1 hp=>?_⟩
  .obtain⟨M,us,ups,rfl,C,s,hA⟩:=hp;rw[yd] at hx
   cases ht:ts[i]? with
   | none=>rw[ht] at hx;cases hx
   | some t =>
    rw[ht] at hx;cases hx;have an:i<ts.length:=(yc.mp ht).1;have ac:i<tps.length:=by rw[<- O.2.2.len];show an
    have gi:tps[i]?=some tps[i]:=yb ac;generalize tps[i]=ab at gi;obtain⟨nt,n⟩:=(O.bb M).2.2.at_ i t ab ht gi;have ap:tps.take (i+1)=tps.take i++[ab]:=by rw[yM,gi];rfl
    obtain⟨a,b⟩:=ab;dsimp only at n;apply zr ?_;apply vU ?_;apply⟨rfl,t,_,_,rfl,SqT.of n,fun g B=>?_⟩;have I:=M.new (o:=.tup [.str b,.str a]) B;have n2:=M.apart B;have s2:=qH (Sr H1) (o:=.tup [.str b,.str a]) B;have N:upd H1 g (.tup [.str b,.str a]) g=some (.tup [.str b,.str a]):=qb;replace n:=s2 _ _ n;replace s:=s.mono (S:=PrT p (upd H1 g (.tup [.str b,.str a]))) fun t ab z=>⟨z.1,s2 _ _ z.2⟩;generalize upd H1 g (.tup [.str b,.str a])=H2 at I N n s ⊢;clear s2;apply⟨by show 2<=sizeLine;decide,fun L h3=>?_⟩;have U:=I.new (o:=.lst [.ref t,.ref g]) h3;have n3:=I.apart h3;have s3:=qH (Sr H2) (o:=.lst [.ref t,.ref g]) h3;have Z:upd H2 L (.lst [.ref t,.ref g]) L=some (.lst [.ref t,.ref g]):=qb;replace n:=s3 _ _ n;replace N:=s3 _ _ N;replace s:=s.mono (S:=PrT p (upd H2 L (.lst [.ref t,.ref g]))) fun t ab z=>⟨z.1,s3 _ _ z.2⟩;generalize upd H2 L (.lst [.ref t,.ref g])=H3 at U N Z n s ⊢;clear s3;apply⟨p,2,rfl,U.2,by decide,by decide,fun r G r0 r1 A=>?_⟩;replace n:=A.1 _ _ nt n;replace N:=A.1 _ _ n2 N;replace Z:=A.1 _ _ n3 Z;replace s:=s.mono (S:=PrT p G) fun t ab z=>⟨z.1,A.1 _ _ z.1 z.2⟩;replace A:=U.trans A
    have aa:∀ u Y,PrT p G u Y->(Y=(a,b)\/Y=(b,a))->(us.map V.ref).length<sizeLine/\(BB p H G/\∃(vs:LQ) (c:LP),us.map V.ref++[V.ref u]=vs.map V.ref/\vs.length=i+1/\All2 (PrT p G) vs c/\All2 (fun a b=>b=a\/b=(a.2,a.1)) (tps.take (i+1)) c):=fun u Y hu am =>
     ⟨by rw[ya,C];show qi (by lk),A,us++[u],ups++[Y],by rw[yH];rfl,by rw[yu,C];rfl,s.snoc hu,by rw[ap];show hA.snoc am⟩
    have ao:r=0\/r=1:=by lk
    rcases ao with rfl | rfl
    .show .inl (zH (v:=.ref t) Z (qw (j:=0) rfl) (aa t (a,b) ⟨nt,n⟩ (.inl rfl)))
    .show .inl (zH (v:=.ref g) Z (qw (j:=1) rfl) (aa g (b,a) ⟨n2,N⟩ (.inr rfl)))
  .obtain⟨M,us,y,rfl,C,s,hA⟩:=hp;rw[ya] at C hA;have al:tps.take ts.length=tps:=by rw[O.2.2.len,yQ]
   rw[al] at hA;show⟨by rw[ya];show yY (qi (by lk)),fun l1 h1=>?_⟩;have I:=M.new (o:=.lst (us.map V.ref)) h1;have n1:=M.apart h1;have z1:=M.free h1;have ah:=qH (Sr H1) (o:=.lst (us.map V.ref)) h1;have t1:TL p (upd H1 l1 (.lst (us.map V.ref))) l1 us y:=⟨qb,n1,s.mono fun t ab z=>⟨z.1,ah _ _ z.2⟩⟩;generalize upd H1 l1 (.lst (us.map V.ref))=H2 at I t1 ⊢;clear ah;apply⟨by decide,fun l2 B=>?_⟩;have U:=I.new (o:=.lst []) B;have n2:=I.apart B;have z2:=I.free B;have af:l1≠l2:=qz t1.1 B;have t3:=t1.same (qH (Sr H2) (o:=.lst []) B);have g:TL p (upd H2 l2 (.lst [])) l2 [] []:=⟨qb,n2,All2.nil⟩;generalize upd H2 l2 (.lst [])=H3 at U g t3 ⊢;apply⟨fun m σ H'=>∃(us vs:LQ) (ups c:LP),m=us.length/\σ=[some (.ref p),some (.ref l),some (.ref l1),some (.ref l2)]/\BB p H H'/\TL p H' l1 us ups/\TL p H' l2 vs c/\us.length+vs.length<=30/\(c++ups).Perm y,⟨_,us,[],y,[],rfl,rfl,U,t3,g,by simp;lk,by simp⟩,fun m σ G hW=>?_⟩;obtain⟨us,vs,ups,c,rfl,rfl,A,u4,v4,ae,d⟩:=hW;apply⟨by decide,fun z hz=>?_⟩;have sz:=qH (Sr G) (o:=.lst []) hz;have b5:=A.new (o:=.lst []) hz;have R:=u4.same sz;have v5:=v4.same sz;have e5:upd G z (.lst []) z=some (.lst []):=qb;generalize upd G z (.lst [])=H5 at b5 R v5 e5 ⊢;show ne_nil R.1 e5 ?_;ext
   cases us with
   | nil =>
    show yr ?_;ext;have eu:ups=[]:=List.eq_nil_of_length_eq_zero (by rw[<- R.2.2.len];rfl);rw[eu,Ye] at d;show q l2 vs c H5 b5 z2 v5 ⟨y,d,hA⟩
   | cons D ur =>
    show qL (fun _=>?_) (fun h=>absurd rfl h);show⟨fun ak H'=>∃(us vs:LQ) (ups c:LP),us.length=ur.length/\ak=[some (.ref p),some (.ref l),some (.ref l1),some (.ref l2)]/\BB p H H'/\TL p H' l1 us ups/\TL p H' l2 vs c/\us.length+vs.length<=30/\(c++ups).Perm y,fun ak H' ⟨aq,ar,ai,aj,e,qcj⟩=>⟨_,by rw[yD,<- e];show xL _,aq,ar,ai,aj,rfl,qcj⟩,?_⟩;apply⟨.inl ⟨rfl,_,SqL.of v5.1⟩,?_⟩;apply⟨.inl ⟨rfl,_,SqL.of R.1⟩,?_⟩;apply zD R.1 ?_;ext;rw[ya];rw[yD] at ae;show⟨p,_,rfl,b5.2,by(rw[yD];lk),by(rw[yD];lk),fun r H6 r0 r1 X=>?_⟩;have u6:=R.bb X;have v6:=v5.bb X;replace X:=b5.trans X;obtain⟨k,rfl⟩:=xk r0;have W:k<(D::ur).length:=by rw[yD];rw[yD] at r1;lk
    have ad:k<ups.length:=by rw[<- R.2.2.len];show W
    have gk:((D::ur).map V.ref)[k]?=some (.ref ((D::ur)[k])):=by rw[yd,yb W];rfl
    have au:(k:Int)<2 ^ 62:=by rw[yD] at W;lk
    show⟨l1,_,_,k,_,rfl,rfl,u6.1,by lk,by lk,(qcn (qcx (by rw[ya];show W))).1,gk,?_⟩;have pk:=u6.2.2.at_ k ((D::ur)[k]) ups[k] (yb W) (yb ad);have u7:=u6.less k;have v7:=v6.other (ys:=((D::ur).map V.ref).eraseIdx k) af.symm u6.1;have b7:=X.put (o:=.lst (((D::ur).map V.ref).eraseIdx k)) z1 n1;have ag:=pk.put (ys:=((D::ur).map V.ref).eraseIdx k) u6.1;generalize upd H6 l1 (.lst (((D::ur).map V.ref).eraseIdx k))=H7 at u7 v7 b7 ag ⊢;have J:((D::ur).eraseIdx k).length=ur.length:=by rw[List.length_eraseIdx_of_lt W,yD];lk
    show⟨l2,_,_,rfl,rfl,v7.1,by rw[ya];show qi (by lk),?_⟩;show⟨_,_,_,_,J,rfl,b7.put z2 n2,u7.other af v7.1,v7.more ag,?_,?_⟩
    .rw [J,yu,xA];lk
    .rw [Yh];show(List.Perm.append_left c (qbp ups k ad)).trans d
theorem pair_eqD{a b:Addr}{t c t':Str}(h:H b=some (.tup [.str c,.str t']))(g:H a=some (.tup [.str s,.str t])):EqD K H 1 (.ref b) (.ref a) (decide ((c,t')=(s,t))):=by
 by_cases e:b=a
 .subst e;rw[h] at g;cases g;rw[yS rfl];show .self
 .have z:=EqT.tup (K:=K) (H:=H) (n:=0) (e:=fun j=>if j=0 then eqV (.str c) (.str s) else eqV (.str t') (.str t)) (SqT.of h) (SqT.of g) fun j x y d f=>by
   match j,d,f with
   | 0,d,f=>cases d;cases f;show .flat rfl rfl
   | 1,d,f=>cases d;cases f;show .flat rfl rfl
  have i:((List.range (min [V.str c,V.str t'].length [V.str s,V.str t].length)).all (fun j=>if j=0 then eqV (.str c) (.str s) else eqV (.str t') (.str t))&&[V.str c,V.str t'].length==[V.str s,V.str t].length)=decide ((c,t')=(s,t)):=by
   show((c==s)&&((t'==t)&&true)&&true)=_;rw[xn];simp
  rw[i] at z;show .deep z e
theorem TL.pl(h:TL p H l ts tps):PL H l ts tps:=⟨h.1,h.2.2.mono fun _ _ z=>z.2⟩
noncomputable def qdg(H:Hp)(z:V):Option (Str×Str):=match z with
 | .ref t=>(match H t with
  | some (.tup [.str a,.str b])=>some (a,b)
  | _=>none)
 | _=>none
theorem qbE(h:H t=some (.tup [.str a,.str b])):qdg H (.ref t)=some (a,b):=by
 unfold qdg;dsimp only;rw[h]
theorem any_in(h:All2 (fun t ab=>H t=some (.tup [.str ab.1,.str ab.2])) ts tps)(st:Str×Str):((ts.map V.ref).any fun z=>decide (qdg H z=some st))=decide (st∈tps):=by
 rw[xn,Y7,Ys];constructor
 .rintro ⟨z,hz,e⟩;obtain⟨t,f,rfl⟩:=YJ.mp hz;obtain⟨ab,b,r⟩:=h.mem f;have e:=yk e;rw[qbE r] at e;cases e;show b
 .intro d;obtain⟨k,c,e⟩:=xr d;have a:k<ts.length:=by rw[h.len];show c
  have r:=h.at_ k ts[k] tps[k] (yb a) (yb c);show⟨.ref ts[k],YJ.mpr ⟨_,YR a,rfl⟩,yS ?_⟩;rw[qbE r,e]
theorem qeI{a:Addr}{t:Str}{Q:VK}(h:PL H l ts tps)(d:H a=some (.tup [.str s,.str t]))(q:Q (.bl (decide ((s,t)∈tps))) H):qeh K false (.ref a) (.ref l) H Q:=by
 show .inr (.inr ⟨l,ts.map V.ref,fun z=>decide (qdg H z=some (s,t)),1,rfl,SqL.of h.1,by decide,fun z hz=>?_,?_⟩)
 .obtain⟨b,f,rfl⟩:=YJ.mp hz;obtain⟨ab,_,r⟩:=h.2.mem f;have e:=pair_eqD (K:=K) r d
  have c:decide (qdg H (.ref b)=some (s,t))=decide ((ab.1,ab.2)=(s,t)):=by
   rw[qbE r];apply YD.mpr;rw[kA]
  show EqD K H 1 (.ref b) (.ref a) (decide (qdg H (.ref b)=some (s,t)));rw[c];show e
 .rw [any_in h.2];show q
theorem zx{y:V}(a:(ss.map V.str)[i]?=some y):∃ s,ss[i]?=some s/\y=.str s:=by
 rw[yd] at a
 cases h:ss[i]? with
 | none=>rw[h] at a;cases a
 | some s=>rw[h] at a;cases a;show⟨s,rfl,rfl⟩
def Adj(ss:LS)(ns:LN)(tps:LP):Prop:=∀ a b s t,ss[a]?=some s->ss[b]?=some t->((ns.getD a 0).testBit b=true↔((s,t)∈tps\/(t,s)∈tps))
theorem KO:FnScope ["web","thing","paired","tie"] ["web","thing"] (qg zy):=fS
theorem uv:FnScope ["self","thing"] ["self","thing"] (qg jS):=fS
noncomputable def qbF(a:LS):List (Key×V):=a.map fun s=>(.inr s,.bl true)
theorem zJ(y:Str):∀ a:LS,(j4 (qbF a) (.inr y:Key)).isSome=decide (y∈a)
 | []=>rfl
 | s::r=>by
  by_cases e:s=y
  .subst e;show(j4 (((.inr s:Key),V.bl true)::qbF r) _).isSome=_;rw[yS (by simp)];simp[j4]
  .show(j4 (((.inr s:Key),V.bl true)::qbF r) _).isSome=_;rw[qZ (p:=((.inr s:Key),V.bl true)) (fun z=>e (xE z)),zJ y r];apply YD.mpr;simp[yZ e]
theorem qbG{a:LS}(h:y∉a):zo (qbF a) (.inr y:Key) (.bl true)=qbF (a++[y]):=by
 have:j4 (qbF a) (.inr y:Key)=none:=by
  have:=zJ y a;rw[yl h] at this;show Option.isNone_iff_eq_none.mp (by rw[<- Option.not_isSome,this];rfl)
 rw[qaD _ this];unfold qbF;rw[yH];rfl
noncomputable def qp(qs:LP):LS:=qs.flatMap fun q=>[q.1,q.2]
noncomputable def prK(qs:LP):List (Key×V):=qs.flatMap fun q=>[(.inr q.1,.str q.2),(.inr q.2,.str q.1)]
noncomputable def pt:LP->Str->Option Str
 | [],_=>none
 | q::r,s=>if q.1=s then some q.2 else if q.2=s then some q.1 else pt r s
theorem jE(s:Str):∀ qs,j4 (prK qs) (.inr s:Key)=(pt qs s).map V.str
 | []=>rfl
 | q::r=>by
  show j4 (((.inr q.1:Key),V.str q.2)::((.inr q.2:Key),V.str q.1)::prK r) _=(pt (q::r) s).map V.str;unfold pt;by_cases h1:q.1=s
  .rw [jh (p:=((.inr q.1:Key),V.str q.2)) (congrArg Sum.inr h1),yF h1];rfl
  .rw [qZ (p:=((.inr q.1:Key),V.str q.2)) (fun z=>h1 (xE z)),yA h1];by_cases a:q.2=s
   .rw [jh (p:=((.inr q.2:Key),V.str q.1)) (congrArg Sum.inr a),yF a];rfl
   .rw [qZ (p:=((.inr q.2:Key),V.str q.1)) (fun z=>a (xE z)),yA a,jE s r]
theorem pt_none:∀{qs:LP},pt qs s=none↔s∉qp qs
 | []=>by simp[pt,qp]
 | q::r=>by
  have e:qp (q::r)=q.1::q.2::qp r:=rfl;rw[e];unfold pt;by_cases h1:q.1=s
  .rw [yF h1];simp[h1]
  .rw [yA h1];by_cases a:q.2=s
   .rw [yF a];simp[a]
   .rw [yA a,pt_none];simp only[yB,not_or];show⟨fun z=>⟨yZ h1,yZ a,z⟩,fun z=>z.2.2⟩
structure PGo(ss:LS)(tps qs:LP):Prop where
 inn:∀ q∈qs,(q∈tps\/(q.2,q.1)∈tps)/\q.1∈ss/\q.2∈ss/\q.1≠q.2
 nd:(qp qs).Nodup
 few:qs.length<=30
theorem qad(qs:LP):(qp qs).length=2*qs.length:=by
 induction qs with
 | nil=>rfl
 | cons q r ih=>show(q.1::q.2::qp r).length=_;simp only[yD];lk
theorem zc(qs:LP)(q:Str×Str):qp (qs++[q])=qp qs++[q.1,q.2]:=by
 unfold qp;rw[Xq];rfl
theorem PGo.new(g:PGo ss tps qs)(h:qs[i]?=some ab):qs.take (i+1)=qs.take i++[ab]/\(qp (qs.take i++[ab])).Nodup/\ab.1∉qp (qs.take i)/\ab.2∉qp (qs.take i):=by
 have b:qs.take (i+1)=qs.take i++[ab]:=by rw[yM,h];rfl
 have a:(qp (qs.take i++[ab])).Nodup:=by
  rw[<- b];have:qp qs=qp (qs.take (i+1))++qp (qs.drop (i+1)):=by unfold qp;rw[<- Xq,List.take_append_drop]
  have e:=g.nd;rw[this] at e;show(Yd.mp e).1
 have c:=a;rw[zc] at c;have d:=(Yd.mp c).2.2;show⟨b,a,fun z=>d _ z ab.1 (by simp) rfl,fun z=>d _ z ab.2 (by simp) rfl⟩
inductive spHt(cw:Addr)(vs:List V)(H:Hp)(Q:VK)(E:XK):Prop|mk (x t:Addr) (ss:LS) (ns:LN) (tps:LP) (ab:Str×Str) (_:vs=[.ref x,.ref t]) (_:WebAt cw H x ss ns) (_:Adj ss ns tps) (_:H t=some (.tup [.str ab.1,.str ab.2])) (_:(ab∈tps\/(ab.2,ab.1)∈tps)) (_:ab.1∈ss) (_:ab.2∈ss) (_:ab.1≠ab.2) (_:∀ H',L2.Same H H'->Q (.bl true) H')
inductive spAp(cw:Addr)(vs:List V)(H:Hp)(Q:VK)(E:XK):Prop|mk (x l:Addr) (ss:LS) (ns:LN) (us:LQ) (tps qs:LP) (_:vs=[.ref x,.ref l]) (_:WebAt cw H x ss ns) (_:Adj ss ns tps) (_:PL H l us qs) (_:PGo ss tps qs) (_:∀ H',L2.Same H H'->Q (.bl true) H')
theorem ok_ht(F:Fun K "has_tie" "Web.has_tie" jS f fd)(T:Txt K mg cc cw)(A:DefOk P w K mg base CX0 3 "are_two_places" ["numbers","thing"] spTwo)(I:MethOk P w K mg base CX0 6 cw "tied" ["self","one","other"] (spTied cw)):FnOk P w K mg base CX0 7 f fd ["self","thing"] (spHt cw):=by
 show F.ok uv fun _ _ _ _ H vs Q E g h=>?_
 .obtain⟨x,t,ss,ns,tps,ab,rfl,r,B,n,c,m1,l,e,q⟩:=h;have u:=jW g;obtain⟨y,m,ol,J,s,d,D,C,hw⟩:=id r;show⟨_,(qf (qk (qbf (qr A (hmR g) qC (qa (qA (K:=K) rfl (pv 0) rfl) (qa (pv 1) qd))) (qaO (qF I (hmR g) (pv 0) (qa (qu (qv (K:=K) rfl u) (pv 1) qh (fun _ _=>rfl)) (qa (qu (qv (K:=K) rfl u) (pv 1) qh (fun _ _=>rfl)) qd))))))),?_⟩;apply .inl ⟨x,cw,y,_,.ref m,rfl,s,T.wcl,T.wn,jX,?_⟩;apply⟨m,t,ss,ab.1,ab.2,rfl,d,n,hw.nm _ m1,hw.nm _ l,m1,l,e,fun H1 b=>?_⟩;show⟨true,rfl,zr ?_⟩;have a:=b _ _ n;apply⟨x,y,_,rfl,b _ _ s,zE (by room),?_⟩;apply .inl (qaY a (v:=.str ab.1) (qw (j:=0) rfl) ?_);apply .inl (qaY a (v:=.str ab.2) (qw (j:=1) rfl) ?_);ext;obtain⟨j,p⟩:=yf m1;obtain⟨i,o⟩:=yf l;show⟨x,ss,ns,ab.1,ab.2,j,i,rfl,r.same b,p,o,fun H2 G=>?_⟩;rw[(B j i ab.1 ab.2 p o).mpr c];show q H2 (b.trans G)
theorem ok_ap(F:Fun K "are_pairs" "are_pairs" zy f fd)(T:Txt K mg cc cw)(KH:MethOk P w K mg base CX0 7 cw "has_tie" ["self","thing"] (spHt cw)):FnOk P w K mg base CX0 8 f fd ["web","thing"] (spAp cw):=by
 show F.ok KO fun _ _ _ _ H vs Q E W h=>?_
 .obtain⟨x,l,ss,ns,us,tps,qs,rfl,U,hA,⟨hl,r⟩,g,q⟩:=h;have e:=jW W;obtain⟨wx,dd,ol,nn,hb,_⟩:=id U;have few:=g.few;have M:=r.len;show⟨_,(qc (qJ (jc (qV (qq (qbm (K:=K) rfl) rfl T.b_isinstance xo (qa (pv 1) (qa (ze (v:=.ty "list") rfl T.b_list xw rfl) qd))))) (qf (qk jo)) qo)
 (qc (qt (i:=2) KO.nd rfl (yP rfl) zq)
 (qc (q9 yT rfl (qK (K:=K) rfl (pv 1)) (qm (i:=3) KO.nd rfl (yP rfl))
 (qc (qJ (PW.pt (qbL (jc (qV (qF KH (hmR W) (pv 0) (qa (pv 3) qd)))) (qbL (qj (j5 (K:=K) rfl e) (qu (qv (K:=K) rfl e) (pv 3) qh (fun _ _=>rfl)) (pv 2) (by with_unfolding_all rfl)) (qbe (qj (j5 (K:=K) rfl e) (qu (qv (K:=K) rfl e) (pv 3) qh (fun _ _=>rfl)) (pv 2) (by with_unfolding_all rfl)))))) (qf (qk jo)) qo)
 (qc (jY jo (j6 (pv 2) (qu (qv (K:=K) rfl e) (pv 3) qh (fun _ _=>rfl)) (j8 e)))
 (qf (jY jo (j6 (pv 2) (qu (qv (K:=K) rfl e) (pv 3) qh (fun _ _=>rfl)) (j8 e)))))))
 (qf (qk jo))))),?_⟩
  apply qdf (.inl (.lst hl)) rfl (qax K "list" (by simp) "list" (by simp)) ?_;apply yr ?_;ext;intro d C;have N:=qH (Sr H) (o:=.dK []) C;have S:upd H d (.dK []) d=some (.dK (qbF [])):=qb;generalize upd H d (.dK [])=H1 at N S;apply .inl ⟨⟨_,.of (N _ _ hl)⟩,qP (xs:=us.map V.ref) (fun i σ J=>L2.Same H J/\∃ O,σ=[some (.ref x),some (.ref l),some (.ref d),O]/\J d=some (.dK (qbF (qp (qs.take i))))) ⟨N,_,rfl,S⟩ (fun i σ J _ u=>.of (u.1 _ _ hl)) (fun i y σ J X u=>?_) fun σ J u=>?_⟩
  .obtain⟨n,O,rfl,c⟩:=u;rw[yd] at X;obtain⟨b,s,rfl⟩:=yo.mp X;have hi:i<us.length:=(yc.mp s).1;obtain⟨ab,m⟩:∃ ab,qs[i]?=some ab:=⟨_,yb (by rw[<- M];show hi)⟩;have B:=r.at_ i b ab s m;obtain⟨ht,m1,m2,t⟩:=g.inn ab (ye m);obtain⟨L,aa,Y,Z⟩:=g.new m;have ac:(qp (qs.take i)).length<=60:=by rw[qad,yO];lk
   have I:b≠d:=fun z=>by rw[z,C] at B;cases B
   apply⟨x,wx,_,rfl,n _ _ hb,zE (by room),?_⟩;apply⟨x,b,ss,ns,tps,ab,rfl,U.same n,hA,n _ _ B,ht,m1,m2,t,fun G D=>?_⟩;have A:=n.trans D;have a:=A _ _ B;apply yr ?_;apply .inl (qaY a (v:=.str ab.1) (qw (j:=0) rfl) ?_);apply .inr (.inl ⟨d,_,rfl,DGet.k (k:=Sum.inr ab.1) (D _ _ c),?_⟩);rw[yA (by decide),zJ,yl Y];apply yr ?_;apply .inl (qaY a (v:=.str ab.2) (qw (j:=1) rfl) ?_);apply .inr (.inl ⟨d,_,rfl,DGet.k (k:=Sum.inr ab.2) (D _ _ c),?_⟩);rw[yA (by decide),zJ,yl Z];apply yr ?_;apply .inl (qaY a (v:=.str ab.1) (qw (j:=0) rfl) ?_);apply .inr ⟨d,_,rfl,DPut.k (k:=Sum.inr ab.1) (D _ _ c) (by unfold qbF;rw[ya,Yi];lk),?_⟩;rw[qbG Y];have s3:=qaA A (o:=.dK (qbF (qp (qs.take i)++[ab.1]))) C;have R:upd G d (.dK (qbF (qp (qs.take i)++[ab.1]))) d=some (.dK (qbF (qp (qs.take i)++[ab.1]))):=qb;have p:upd G d (.dK (qbF (qp (qs.take i)++[ab.1]))) b=some (.tup [.str ab.1,.str ab.2]):=by rw[qe I];show a
   generalize upd G d (.dK (qbF (qp (qs.take i)++[ab.1])))=J3 at s3 R p;apply .inl (qaY p (v:=.str ab.2) (qw (j:=1) rfl) ?_);apply .inr ⟨d,_,rfl,DPut.k (k:=Sum.inr ab.2) R (by unfold qbF;rw[ya,yu,Yi];simp only[yD,xD];lk),?_⟩;rw[qbG (fun z=>by rcases yC.mp z with z | z;show Z z;show t (yz.mp z).symm)];show⟨qaA s3 C,_,rfl,by rw[qb,L,zc,Yh];rfl⟩
  .obtain⟨n,O,rfl,c⟩:=u;apply q J n
theorem Kz:FnScope ["web","pairs","partners","pair"] ["web","pairs"] (qg jT):=fS
theorem prK_len(qs:LP):(prK qs).length=2*qs.length:=by
 induction qs with
 | nil=>rfl
 | cons q r ih=>show(_::_::prK r).length=_;simp only[yD];rw[ih];lk
theorem prK_snoc(qs:LP)(q:Str×Str):prK (qs++[q])=prK qs++[(.inr q.1,.str q.2),(.inr q.2,.str q.1)]:=by
 unfold prK;rw[Xq];rfl
theorem prK_put{q:Str×Str}(h:(qp (qs++[q])).Nodup):zo (zo (prK qs) (.inr q.1:Key) (.str q.2)) (.inr q.2:Key) (.str q.1)=prK (qs++[q]):=by
 rw[zc] at h;obtain⟨h1,b,c⟩:=Yd.mp h;have e:q.1∉qp qs:=fun z=>c _ z _ (by simp) rfl;have f:q.2∉qp qs:=fun z=>c _ z q.2 (by simp) rfl;have g:q.1≠q.2:=by simp at b;show b
 have i:j4 (prK qs) (.inr q.1:Key)=none:=by rw[jE,pt_none.mpr e];rfl
 rw[qaD _ i]
 have a:j4 (prK qs++[((.inr q.1:Key),V.str q.2)]) (.inr q.2:Key)=none:=by
  have a:j4 (prK qs) (.inr q.2:Key)=none:=by rw[jE,pt_none.mpr f];rfl
  unfold j4 at a ⊢;rw[List.find?_append];have:(prK qs).find? (fun d=>decide (d.1=(.inr q.2:Key)))=none:=by simpa using a
  rw[this];simp[g]
 rw[qaD _ a,prK_snoc];simp
inductive spPn(cw:Addr)(vs:List V)(H:Hp)(Q:VK)(E:XK):Prop|mk (x l:Addr) (ss:LS) (ns:LN) (us:LQ) (tps qs:LP) (_:vs=[.ref x,.ref l]) (_:WebAt cw H x ss ns) (_:Adj ss ns tps) (_:PL H l us qs) (_:PGo ss tps qs) (_:∀(d:Addr) (H':Hp),L2.Same H H'->H d=none->H' d=some (.dK (prK qs))->Q (.ref d) H')
theorem ok_pn(F:Fun K "partners_in" "partners_in" jT f fd)(T:Txt K mg cc cw)(uN:DefOk P w K mg base CX0 8 "are_pairs" ["web","thing"] (spAp cw)):FnOk P w K mg base CX0 9 f fd ["web","pairs"] (spPn cw):=by
 show F.ok Kz fun _ _ _ _ H vs Q E R h=>?_
 .obtain⟨x,l,ss,ns,us,tps,qs,rfl,Y,X,⟨hl,n⟩,g,q⟩:=h;have p:=jW R;have few:=g.few;have u:=n.len;show⟨_,(qc (qJ (jc (qV (qr uN (hmR R) qC (qa (pv 0) (qa (pv 1) qd))))) (qf jw) qo)
 (qc (qt (i:=2) Kz.nd rfl (yP rfl) zq)
 (qc (q9 yT rfl (qK (K:=K) rfl (pv 1)) (qm (i:=3) Kz.nd rfl (yP rfl))
 (qc (jY (qu (qv (K:=K) rfl p) (pv 3) qh (fun _ _=>rfl)) (j6 (pv 2) (qu (qv (K:=K) rfl p) (pv 3) qh (fun _ _=>rfl)) (j8 p)))
 (qf (jY (qu (qv (K:=K) rfl p) (pv 3) qh (fun _ _=>rfl)) (j6 (pv 2) (qu (qv (K:=K) rfl p) (pv 3) qh (fun _ _=>rfl)) (j8 p))))))
 (qf (qk (pv 2)))))),?_⟩
  apply⟨x,l,ss,ns,us,tps,qs,rfl,Y,X,⟨hl,n⟩,g,fun H1 U=>?_⟩;apply yr ?_;ext;intro d O;have c:=U.free O;have I:=qH U (o:=.dK []) O;have N:upd H1 d (.dK []) d=some (.dK (prK [])):=qb;generalize upd H1 d (.dK [])=H2 at I N;apply .inl ⟨⟨_,.of (I _ _ hl)⟩,qP (xs:=us.map V.ref) (fun i σ J=>L2.Same H J/\∃ L,σ=[some (.ref x),some (.ref l),some (.ref d),L]/\J d=some (.dK (prK (qs.take i)))) ⟨I,_,rfl,N⟩ (fun i σ J _ t=>.of (t.1 _ _ hl)) (fun i y σ J S t=>?_) fun σ J t=>?_⟩
  .obtain⟨A,L,rfl,a⟩:=t;rw[yd] at S;obtain⟨b,s,rfl⟩:=yo.mp S;have Z:i<us.length:=(yc.mp s).1;obtain⟨ab,r⟩:∃ ab,qs[i]?=some ab:=⟨_,yb (by rw[<- u];show Z)⟩;have B:=n.at_ i b ab s r;obtain⟨G,D,n1,n2⟩:=g.new r;have C:b≠d:=fun z=>by rw[z,c] at B;cases B
   have m:=A _ _ B;have aa:(prK (qs.take i)).length<=2000:=by rw[prK_len,yO];lk
   apply .inl (qaY m (v:=.str ab.2) (qw (j:=1) rfl) ?_);apply .inl (qaY m (v:=.str ab.1) (qw (j:=0) rfl) ?_);apply .inr ⟨d,_,rfl,DPut.k (k:=Sum.inr ab.1) a (by rw[Yi];lk),?_⟩;have W:=qaA A (o:=.dK (zo (prK (qs.take i)) (Sum.inr ab.1) (.str ab.2))) c;have M:upd J d (.dK (zo (prK (qs.take i)) (Sum.inr ab.1) (.str ab.2))) d=some (.dK (zo (prK (qs.take i)) (Sum.inr ab.1) (.str ab.2))):=qb;have e:upd J d (.dK (zo (prK (qs.take i)) (Sum.inr ab.1) (.str ab.2))) b=some (.tup [.str ab.1,.str ab.2]):=by rw[qe C];show m
   generalize upd J d (.dK (zo (prK (qs.take i)) (Sum.inr ab.1) (.str ab.2)))=J3 at W M e;apply .inl (qaY e (v:=.str ab.1) (qw (j:=0) rfl) ?_);apply .inl (qaY e (v:=.str ab.2) (qw (j:=1) rfl) ?_);apply .inr ⟨d,_,rfl,DPut.k (k:=Sum.inr ab.2) M ?_,?_⟩
   .have:=jD (prK (qs.take i)) (Sum.inr ab.1:Key) (.str ab.2);rw[Yi];lk
   .show⟨qaA W c,_,rfl,by rw[qb,prK_put D,G]⟩
  .obtain⟨A,L,rfl,a⟩:=t;rw[ya,u,yQ] at a;apply q d J A c a
structure Gr(A:Str->Str->Prop)(f:Str->Option Str):Prop where
 as:∀{a b},A a b->A b a
 ir:∀{a b},A a b->a≠b
 fs:∀{a b},f a=some b->f b=some a
 fa:∀{a b},f a=some b->A a b
structure FS where
 rows:Str->Option (LS)
 par:Str->Option Str
 bas:Str->Str
 rgs:List (LS)
def Turns(A:Str->Str->Prop)(f:Str->Option Str)(r:LS):Prop:=∀(j:Nat) a b,r[j]?=some a->r[j+1]?=some b->A a b/\(f a=some b↔j % 2=1)
structure Alt(A:Str->Str->Prop)(f:Str->Option Str)(r:LS)(v:Str):Prop where
 nd:r.Nodup
 odd:r.length % 2=1
 hd:∀ s,r[0]?=some s->f s=none
 tl:∃ r0,r=r0++[v]
 st:Turns A f r
structure FJ(A:Str->Str->Prop)(f:Str->Option Str)(S:FS):Prop where
 alt:∀ v r,S.rows v=some r->Alt A f r v
 bse:∀ v r,S.rows v=some r->∃ rb t,S.rows (S.bas v)=some rb/\r=rb++t/\∀ u∈t,S.bas u=S.bas v
 idm:∀ v r,S.rows v=some r->S.bas (S.bas v)=S.bas v
 dwn:∀ b r q,S.rows b=some r->S.bas b=b->f b=some q->S.rows q=none/\∃ z rz,S.par q=some z/\S.rows z=some rz/\r=rz++[q,b]
 mat:∀ v,S.bas v≠v->(∃ r,S.rows v=some r)/\∃ u,f v=some u/\S.bas u=S.bas v
 odd:∀ x z,S.par x=some z->A z x/\(∃ r,S.rows z=some r)/\∃ y r,f x=some y/\S.rows y=some r
def FC(A:Str->Str->Prop)(R:LS):Prop:=∀ v∈R,∃ g:Str->Option Str,∀ u∈R,u≠v->∃ w∈R,w≠v/\g u=some w/\g w=some u/\A u w
structure Rg(A:Str->Str->Prop)(f:Str->Option Str)(R:LS):Prop where
 nd:R.Nodup
 odd:R.length % 2=1
 big:3<=R.length
 one:∃ m∈R,(∀ u∈R,u≠m->∃ w∈R,f u=some w)/\∀ w∈R,f m≠some w
 fc:FC A R
def Nst(R T:LS):Prop:=((∀ u∈R,u∈T)/\R.length<T.length)\/∀ u∈R,u∉T
structure FI(A:Str->Str->Prop)(f:Str->Option Str)(S:FS):Prop extends FJ A f S where
 rg:∀ R∈S.rgs,Rg A f R/\∃ b,∀ u∈R,S.bas u=b/\S.rows u≠none
 nst:S.rgs.Pairwise Nst
 cov:∀ u v,S.rows u≠none->S.rows v≠none->u≠v->S.bas u=S.bas v->∃ R∈S.rgs,u∈R/\v∈R
section
variable{A:Str->Str->Prop}{f:Str->Option Str}{S:FS}
theorem FI.own(I:FI A f S)(h:S.rows v=none):S.bas v=v:=Y5 fun z=>by
 obtain⟨⟨r,e⟩,_⟩:=I.mat v z;rw[h] at e;cases e
theorem FI.evb(I:FI A f S)(h:S.rows v=some r):∃ a,S.rows (S.bas v)=some a:=(I.bse v r h).elim fun a z=>⟨a,z.elim fun _ y=>y.1⟩
theorem FI.pair(I:FI A f S){w:Str}{s:LS}(hv:S.rows v=some r)(hw:S.rows w=some s)(h:f v=some w):S.bas v=S.bas w:=by
 by_cases z:S.bas v=v
 .have:=(I.dwn v r w hv z h).1;rw[hw] at this;cases this
 .obtain⟨_,u,a,e⟩:=I.mat v z;rw[h] at a;cases a;show e.symm
inductive Ch(f:Str->Option Str)(S:FS):Str->LS->Prop
 | root {b:Str}:f b=none->Ch f S b [b]
 | step {b q z:Str} {l:LS}:f b=some q->S.par q=some z->Ch f S (S.bas z) l->Ch f S b (b::l)
theorem Ch.one{l:LS}(h:Ch f S b l):∀{m},Ch f S b m->m=l:=by
 induction h with
 | root e=>intro m g;cases g with
  | root _=>rfl
  | step e' _ _=>rw[e] at e';cases e'
 | step e p _ ih=>intro m g;cases g with
  | root e'=>rw[e] at e';cases e'
  | step e' p' g'=>rw[e] at e';cases e';rw[p] at p';cases p';rw[ih g']
theorem Ch.ne{l:LS}(h:Ch f S b l):∃ t,l=b::t:=by cases h<;>show⟨_,rfl⟩
theorem FI.chain(I:FI A f S):∀(n:Nat) {b:Str} {r:LS},r.length<=n->S.rows b=some r->S.bas b=b->∃ l,Ch f S b l
 | n,b,r,hn,hb,hbb=>by
  cases e:f b with
  | none=>show⟨_,.root e⟩
  | some q =>
   obtain⟨_,z,rz,p,hz,c⟩:=I.dwn b r q hb hbb e;obtain⟨a,t,h1,d,_⟩:=I.bse z rz hz;have hl:a.length<n:=by rw[c,d] at hn;simp at hn;lk
   match n,hl with
   | n+1,hl =>
    obtain⟨l,g⟩:=I.chain n (b:=S.bas z) (r:=a) (by lk) h1 (I.idm z rz hz);show⟨_,.step e p g⟩
theorem FI.chainOf(I:FI A f S)(h:S.rows v=some r):∃ l,Ch f S (S.bas v) l:=by
 obtain⟨a,e⟩:=I.evb h;show I.chain _ (yh _) e (I.idm v r h)
def Cov(f:Str->Option Str)(S:FS)(l:LS)(u:Str):Prop:=∃ d∈l,S.bas u=d\/f d=some u
theorem Cov.mono{l m:LS}(h:Cov f S l u)(a:∀ d∈l,d∈m):Cov f S m u:=h.elim fun d z=>⟨d,a d z.1,z.2⟩
theorem Ch.up(I:FI A f S){l:LS}(h:Ch f S b l):∀{v:Str} {r:LS},S.rows v=some r->S.bas v=b->∀{l1 l2:LS} {c:Str},l=l1++c::l2->∃ s t,S.rows c=some s/\S.bas c=c/\Ch f S c (c::l2)/\r=s++t/\∀ u∈t,S.bas u=c\/Cov f S l1 u:=by
 induction h with
 | root e =>
  intro v r hv m l1 l2 c j
  cases l1 with
  | cons x y=>show absurd (congrArg List.length j) (by simp)
  | nil =>
   cases j;obtain⟨o,t,h1,n,i⟩:=I.bse v r hv;rw[m] at h1 i;show⟨o,t,h1,by rw[<- m];show I.idm v r hv,.root e,n,fun u hu=>.inl (i u hu)⟩
 | @step b q z l e p g ih =>
  intro v r hv m l1 l2 c j;obtain⟨o,t,h1,n,i⟩:=I.bse v r hv;rw[m] at h1 i;have a:S.bas b=b:=by rw[<- m];show I.idm v r hv
  cases l1 with
  | nil =>
   cases j;show⟨o,t,h1,a,.step e p g,n,fun u hu=>.inl (i u hu)⟩
  | cons x y =>
   cases j;obtain⟨J,K,rz,w,hz,B⟩:=I.dwn b o q h1 a e;rw[p] at w;cases w;obtain⟨s,t',D,E,F,G,H⟩:=ih hz rfl rfl;show⟨s,t'++[q,b]++t,D,E,F,by rw[n,B,G];simp,fun u hu=>?_⟩;rcases yC.mp hu with hu | hu
   .rcases yC.mp hu with hu | hu
    .show(H u hu).imp id fun z=>z.mono fun d C=>yI _ C
    .simp only[yB,yW,YU] at hu;rcases hu with rfl | rfl
     .show .inr ⟨b,yG,.inr e⟩
     .show .inr ⟨_,yG,.inl a⟩
   .show .inr ⟨b,yG,.inl (i u hu)⟩
theorem Ch.bs0(I:FI A f S){l:LS}(hv:S.rows v=some r)(h:Ch f S (S.bas v) l)(hc:c∈l):∃ a,S.rows c=some a/\S.bas c=c:=by
 obtain⟨l1,l2,e⟩:=Yp hc;obtain⟨a,_,h1,b,_⟩:=h.up I hv rfl e;show⟨a,h1,b⟩
theorem Ch.cov(G:Gr A f)(I:FI A f S){l:LS}(hv:S.rows v=some r)(h:Ch f S (S.bas v) l)(hu:u∈r):Cov f S l u:=by
 have hl:l≠[]:=by obtain⟨t,e⟩:=h.ne;rw[e];show kM _ _
 obtain⟨o,t,h1,s,w,x,y⟩:=h.up I hv rfl (xp hl).symm;have b:l.getLast hl∈l:=List.getLast_mem hl;rw[x] at hu;rcases yC.mp hu with hu | hu
 .have D:f (l.getLast hl)=none:=by
   cases w with
   | root e=>show e
   | step _ _ g=>obtain⟨_,e⟩:=g.ne;cases e
  have c:=I.alt _ _ h1;obtain⟨q,i⟩:=c.tl
  have m:q=[]:=by
   cases j:q.length with
   | zero=>show List.eq_nil_of_length_eq_zero j
   | succ n =>
    exfalso;have p:o.length=n+2:=by rw[i];simp[j]
    obtain⟨a,B⟩:∃ a,o[n]?=some a:=⟨_,yb (by lk)⟩;have C:o[n+1]?=some (l.getLast hl):=by rw[i,yy (by lk),j];simp
    have:=G.fs ((c.st n a _ B C).2.mpr (by have:=c.odd;lk));rw[D] at this;cases this
  rw[i,m] at hu;have e:u=l.getLast hl:=by simpa using hu
  show⟨_,b,.inl (by rw[e];show s)⟩
 .rcases y u hu with z | ⟨d,hd,z⟩
  .show⟨_,b,.inl z⟩
  .show⟨d,List.dropLast_subset l hd,z⟩
theorem Cov.apart(G:Gr A f)(I:FI A f S){l m:LS}(hl:∀ d∈l,∃ r,S.rows d=some r/\S.bas d=d)(n:∀ d∈m,∃ r,S.rows d=some r/\S.bas d=d)(t:∀ d∈l,d∉m)(h1:Cov f S l u)(p:Cov f S m u):False:=by
 have i:∀{d e:Str},(∃ r,S.rows d=some r/\S.bas d=d)->(∃ r,S.rows e=some r/\S.bas e=e)->S.bas u=d->f e=some u->False:=fun⟨r,b,q⟩ ⟨s,g,j⟩ h h'=>by
  have o:=(I.dwn _ _ _ g j h').1;have:=I.own o;rw[h] at this;rw[this,o] at b;cases b
 obtain⟨d,b,z⟩:=h1;obtain⟨e,g,y⟩:=p;have c:d≠e:=fun w=>t d b (by rw[w];show g);rcases z with z | z<;>rcases y with y | y
 .show c (z.symm.trans y)
 .show i (hl d b) (n e g) z y
 .show i (n e g) (hl d b) y z
 .have a:=G.fs z;rw[G.fs y] at a;show c (yn a).symm
theorem Turns.app{s:LS}(h:Turns A f r)(g:∀(j:Nat) a b,s[j]?=some a->s[j+1]?=some b->A a b/\(f a=some b↔(r.length+j) % 2=1))(w:∀ a b,r[r.length-1]?=some a->s[0]?=some b->0<r.length->A a b/\(f a=some b↔(r.length-1) % 2=1)):Turns A f (r++s):=fun j a b c d=>by
 by_cases h1:j+1<r.length
 .rw [yU (by lk)] at c;rw[yU h1] at d;show h j a b c d
 .by_cases e:j+1=r.length
  .rw [yU (by lk),show j=r.length-1 by lk] at c;rw[yy (by lk),show j+1-r.length=0 by lk] at d;rw[show j=r.length-1 by lk];show w a b c d (by lk)
  .rw [yy (by lk)] at c;rw[yy (by lk),show j+1-r.length=j-r.length+1 by lk] at d;have:=g _ a b c d
   rwa[show r.length+(j-r.length)=j by lk] at this
theorem Alt.back(G:Gr A f){s t:LS}{w:Str}(hw:Alt A f s w)(hv:Alt A f r v)(i:r=rz++q::c::t)(hz:rz.length % 2=1)(F:A w v)(H:f w≠some v)(B:∀ u∈s,u∉q::c::t):Alt A f (s++(q::c::t).reverse) q:=by
 obtain⟨L,p⟩:=hw.tl;obtain⟨K,l⟩:=hv.tl;have o:0<s.length:=by rw[p];simp
 have I:=hv.odd;have n:r.length=rz.length+(t.length+2):=by rw[i];simp
 have at_:∀{j:Nat} {a:Str},(q::c::t).reverse[j]?=some a->j<t.length+2/\r[r.length-1-j]?=some a:=fun{j a} h=>by
  have hl:=(yc.mp h).1;rw[Yz] at hl;simp only[yD] at hl;rw[List.getElem?_reverse (by simp only[yD];lk)] at h;simp only[yD] at h;show⟨by lk,?_⟩;rw[n]
  conv=>lhs;rw[i]
  rw[yy (by lk),show rz.length+(t.length+2)-1-j-rz.length=t.length+1+1-1-j by lk];show h
 show⟨Yd.mpr ⟨hw.nd,?_,fun x J y g e=>B x J (by rw[e];show kN.mp g)⟩,?_,fun y g=>?_,⟨s++(c::t).reverse,by simp⟩,hw.st.app (fun j a b h1 m=>?_) fun a b h1 m _=>?_⟩
 .show(List.reverse_perm _).nodup_iff.mpr ((Yd.mp (i ▸ hv.nd)).2.1)
 .rw [yu,Yz];simp only[yD];have:=hw.odd;lk
 .rw [yU o] at g;show hw.hd y g
 .obtain⟨l1,C⟩:=at_ h1;obtain⟨l2,d⟩:=at_ m;have:=hv.st (r.length-1-(j+1)) b a d (by rw[show r.length-1-(j+1)+1=r.length-1-j by lk];show C);show⟨G.as this.1,⟨fun z=>?_,fun z=>?_⟩⟩
  .have:=this.2.mp (G.fs z);have:=hw.odd;lk
  .show G.fs (this.2.mpr (by have:=hw.odd;lk))
 .have D:a=w:=by
   rw[p,yu,yy (by simp)] at h1;simpa using h1.symm
  have E:b=v:=by
   obtain⟨_,d⟩:=at_ m;rw[kP,l,yu,yy (by simp)] at d;simpa using d.symm
  subst D;subst E;show⟨F,⟨fun z=>absurd z H,fun z=>by have:=hw.odd;lk⟩⟩
end
section
variable{A:Str->Str->Prop}{f:Str->Option Str}{S S':FS}
theorem Ch.nd(I:FI A f S){l:LS}(h:Ch f S b l):∀{v:Str} {r:LS},S.rows v=some r->S.bas v=b->l.Nodup:=by
 induction h with
 | root e=>intro _ _ _ _;simp
 | @step b q z l e p g ih =>
  intro v r hv d;have a:S.bas b=b:=by rw[<- d];show I.idm v r hv
  obtain⟨n,h1⟩:=I.evb hv;rw[d] at h1;obtain⟨_,o,rz,i,hz,_⟩:=I.dwn b n q h1 a e;rw[p] at i;cases i;show yp.mpr ⟨fun j=>?_,ih hz rfl⟩;obtain⟨x,y,c⟩:=Yp j;obtain⟨_,_,_,_,m,_⟩:=g.up I hz rfl c;have:=m.one (.step e p g);rw[c] at this;have:=congrArg List.length this;simp at this;lk
theorem Ch.suf(I:FI A f S){l:LS}(hv:S.rows v=some r)(h:Ch f S (S.bas v) l)(e:l=l1++c::l2)(b:f c=some q):∃ rz t,r=rz++q::c::t/\rz.length % 2=1/\S.rows q=none/\∀ u∈q::c::t,Cov f S (l1++[c]) u:=by
 obtain⟨p,t,h1,a,_,g,i⟩:=h.up I hv rfl e;obtain⟨m,z,rz,_,n,o⟩:=I.dwn c p q h1 a b;show⟨rz,t,by rw[g,o];simp,(I.alt z rz n).odd,m,fun u hu=>?_⟩;rcases yB.mp hu with rfl | hu
 .show⟨c,by simp,.inr b⟩
 .rcases yB.mp hu with rfl | hu
  .show⟨u,by simp,.inl a⟩
  .rcases i u hu with z | z
   .show⟨c,by simp,.inl z⟩
   .show z.mono fun d j=>yJ _ j
theorem Ch.meet(I:FI A f S){w:Str}{s l:LS}(hv:S.rows v=some r)(hw:S.rows w=some s)(h:Ch f S (S.bas v) l)(h':Ch f S (S.bas w) l'){j:LS}(n:l=l1++m::l2)(i:l'=m1++m::j)(J:∀ d∈l1,d∉l'):j=l2/\∀ d∈m1,d∉l:=by
 obtain⟨_,_,_,_,k,_⟩:=h.up I hv rfl n;obtain⟨_,_,_,_,k',_⟩:=h'.up I hw rfl i;have E:j=l2:=(YN (k.one k')).2;show⟨E,fun d K hl=>?_⟩;obtain⟨a,b,C⟩:=Yp K;obtain⟨x,y,ex⟩:=Yp hl;obtain⟨_,_,_,_,g,_⟩:=h.up I hv rfl ex;obtain⟨_,_,_,_,g',_⟩:=h'.up I hw rfl (l1:=a) (c:=d) (l2:=b++m::j) (by rw[i,C];simp);have u:y=b++m::j:=(YN (g'.one g)).2;have e:=h.nd I hv rfl;have o:d∈l':=by rw[i,C];simp
 have q:d∉l1:=fun z=>J d z o;have p:d∈m::l2:=by rw[n] at hl;show(yC.mp hl).resolve_left q
 rcases yB.mp p with z | z
 .rw [z] at ex;rw[ex,u] at e;have:=(Yd.mp e).2.1;show(yp.mp this).1 (by simp)
 .have t:m∈x:=by
   obtain⟨L,D,F⟩:=Yp z;have B:l=(l1++m::L)++d::D:=by rw[n,F];simp
   obtain⟨_,_,_,_,H,_⟩:=h.up I hv rfl B;have G:D=y:=(YN (g.one H)).2;rw[B,G] at ex;rw[<- List.append_cancel_right ex];simp
  rw[ex,u] at e;show(Yd.mp e).2.2 m t m (by simp) rfl
def NewRow(S:FS)(v w u:Str)(r:LS):Prop:=∃ rv rw rz t,S.rows v=some rv/\S.rows w=some rw/\rv=rz++u::t/\r=rw++(u::t).reverse
def InR(f:Str->Option Str)(m:Str)(a:LS)(u:Str):Prop:=u=m\/∃ c∈a,u=c\/f c=some u
structure Mg(f:Str->Option Str)(S S':FS)(v w m:Str)(l1 m1:LS):Prop where
 par:S'.par=S.par
 old:∀ u r,S.rows u=some r->S'.rows u=some r
 new:∀ u r,S'.rows u=some r->S.rows u=some r\/(∃ c∈l1,f c=some u/\NewRow S v w u r)\/(∃ c∈m1,f c=some u/\NewRow S w v u r)
 all:∀ c∈l1++m1,∀ q,f c=some q->∃ r,S'.rows q=some r
 inn:∀ u,InR f m (l1++m1) (S.bas u)->S'.bas u=m
 out:∀ u,¬ InR f m (l1++m1) (S.bas u)->S'.bas u=S.bas u
 rg:∃ R,S'.rgs=S.rgs++[R]/\R.Nodup/\∀ u,u∈R↔InR f m (l1++m1) (S.bas u)
theorem cut_one{a b c d:LS}{x:Str}(h:(a++x::b).Nodup)(e:a++x::b=c++x::d):a=c/\b=d:=by
 induction a generalizing c with
 | nil =>
  cases c with
  | nil=>show⟨rfl,(YN e).2⟩
  | cons y c =>
   obtain⟨f,g⟩:=YN e;show absurd (show x∈b by rw[g];simp) (yp.mp h).1
 | cons y a ih =>
  cases c with
  | nil =>
   obtain⟨f,g⟩:=YN e;show absurd (show y∈a++x::b by rw[f];simp) (yp.mp h).1
  | cons z c =>
   obtain⟨f,g⟩:=YN e;obtain⟨h1,i⟩:=ih (yp.mp h).2 g;show⟨by rw[f,h1],i⟩
theorem NewRow.ok(G:Gr A f)(I:FI A f S){w:Str}{l:LS}(hv:S.rows v=some rv)(hw:S.rows w=some rw)(h:Ch f S (S.bas v) l)(h':Ch f S (S.bas w) l')(o:l=l1++l2)(J:∀ d∈l1,d∉l')(F:A w v)(H:S.bas w≠S.bas v)(hc:c∈l1)(L:f c=some u)(K:NewRow S v w u r) :
  Alt A f r u/\S.rows u=none/\∃ t,r=rw++t/\∀ x∈t,Cov f S l1 x:=by
 obtain⟨M,N,rz,t,p,q,s,y⟩:=K;rw[hv] at p;cases p;rw[hw] at q;cases q;obtain⟨a,b,n⟩:=Yp hc;obtain⟨O,t',j,B,C,m⟩:=h.suf I hv (l1:=a) (c:=c) (l2:=b++l2) (by rw[o,n];simp) L;have e:=(I.alt v rv hv).nd;obtain⟨D,E⟩:=cut_one (by rw[<- s];show e) (s.symm.trans j);subst D;subst E;have sub:∀ d∈a++[c],d∈l1:=fun d z=>by rw[n];rcases yC.mp z with z | z;show yJ _ z;rw[yz.mp z];simp
 have inl:∀ d∈l1,d∈l:=fun d z=>by rw[o];show yJ _ z
 show⟨?_,C,_,y,fun x g=>(m x (kN.mp g)).mono sub⟩;rw[y];show Alt.back G (I.alt w rw hw) (I.alt v rv hv) j B F (fun z=>H (I.pair hw hv z)) fun x g i=>?_;show Cov.apart G I (fun d z=>h.bs0 I hv (inl d (sub d z))) (fun d z=>h'.bs0 I hw z) (fun d z=>J d (sub d z)) (m x i) (h'.cov G I hw g)
theorem FI.mergeJ(G:Gr A f)(I:FI A f S){w:Str}(hv:S.rows v=some rv)(hw:S.rows w=some rw)(h:Ch f S (S.bas v) (l1++m::l2))(h':Ch f S (S.bas w) (m1++m::l2))(hd:∀ d∈l1,d∉m1++m::l2)(U:∀ d∈m1,d∉l1++m::l2)(ha:A v w)(hb:S.bas v≠S.bas w)(M:Mg f S S' v w m l1 m1):FJ A f S':=by
 have hm:∃ r,S.rows m=some r/\S.bas m=m:=h.bs0 I hv (by simp);obtain⟨P,H,W⟩:=hm
 have B:∀ c∈l1++m1,(∃ r,S.rows c=some r/\S.bas c=c)/\c≠m/\∃ q,f c=some q/\S.rows q=none:=fun c hc=>by
  rcases yC.mp hc with z | z
  .show⟨h.bs0 I hv (yJ _ z),fun e=>hd c z (by rw[e];simp),?_⟩;obtain⟨a,b,E⟩:=Yp z;obtain⟨rc,_,D,o,p,_⟩:=h.up I hv rfl (l1:=a) (c:=c) (l2:=b++m::l2) (by rw[E];simp);generalize l:b++m::l2=x at p
   cases p with
   | root _=>show absurd (congrArg List.length l) (by simp)
   | step e _ _=>show⟨_,e,(I.dwn _ _ _ D o e).1⟩
  .show⟨h'.bs0 I hw (yJ _ z),fun e=>U c z (by rw[e];simp),?_⟩;obtain⟨a,b,E⟩:=Yp z;obtain⟨rc,_,D,o,p,_⟩:=h'.up I hw rfl (l1:=a) (c:=c) (l2:=b++m::l2) (by rw[E];simp);generalize l:b++m::l2=x at p
   cases p with
   | root _=>show absurd (congrArg List.length l) (by simp)
   | step e _ _=>show⟨_,e,(I.dwn _ _ _ D o e).1⟩
 have cov:∀ u,Cov f S (l1++m1) u->S'.bas u=m:=fun u ⟨d,hd,z⟩=>by
  show M.inn u ?_;rcases z with z | z
  .show .inr ⟨d,hd,.inl z⟩
  .have hn:=(B d hd).2.2;obtain⟨q,e,F⟩:=hn;rw[z] at e;cases e;rw[I.own F];show .inr ⟨d,hd,.inr z⟩
 have K:∀ u,Cov f S l1 u->S'.bas u=m:=fun u z=>cov u (z.mono fun d y=>yJ _ y);have L:∀ u,Cov f S m1 u->S'.bas u=m:=fun u z=>cov u (z.mono fun d y=>yK _ y);have bm:∀ u,S.bas u=m->S'.bas u=m:=fun u z=>M.inn u (.inl z);have m0:S'.bas m=m:=bm m W;have Z:=M.old m P H
 have J:∀{x:Str} {rx a b:LS},S.rows x=some rx->Ch f S (S.bas x) (a++m::b)->(∀ d∈a,d∈l1++m1)->∃ t,rx=P++t/\∀ u∈t,S'.bas u=m:=fun{x rx a b} l hc hs=>by
  obtain⟨rc,t,D,_,_,R,g5⟩:=hc.up I l rfl rfl;rw[H] at D;cases D;show⟨t,R,fun u j=>(g5 u j).elim (bm u) fun z=>cov u (z.mono hs)⟩
 have nw:∀ u r,(∃ c∈l1,f c=some u/\NewRow S v w u r)\/(∃ c∈m1,f c=some u/\NewRow S w v u r)->Alt A f r u/\S.rows u=none/\S'.bas u=m/\∃ t,r=P++t/\∀ x∈t,S'.bas x=m:=fun u r z=>by
  rcases z with⟨c,hc,j,C⟩ | ⟨c,hc,j,C⟩
  .obtain⟨D,o,t,p,R⟩:=NewRow.ok G I hv hw h h' rfl hd (G.as ha) (yZ hb) hc j C;obtain⟨t0,p1,p2⟩:=J hw h' fun d y=>yK _ y;show⟨D,o,K u ⟨c,hc,.inr j⟩,t0++t,by rw[p,p1];simp,fun x l=>(yC.mp l).elim (p2 x) fun y=>K x (R x y)⟩
  .obtain⟨D,o,t,p,R⟩:=NewRow.ok G I hw hv h' h rfl U ha hb hc j C;obtain⟨t0,p1,p2⟩:=J hv h fun d y=>yJ _ y;show⟨D,o,L u ⟨c,hc,.inr j⟩,t0++t,by rw[p,p1];simp,fun x l=>(yC.mp l).elim (p2 x) fun y=>L x (R x y)⟩
 have af:∀ u r,S.rows u=some r->InR f m (l1++m1) (S.bas u)->S.bas u=m\/S.bas u∈l1++m1:=fun u r j z=>by
  rcases z with z | ⟨c,hc,z | z⟩
  .show .inl z
  .show .inr (by rw[z];show hc)
  .obtain⟨q,e,F⟩:=(B c hc).2.2;rw[z] at e;cases e;obtain⟨rb,n⟩:=I.evb j;rw[F] at n;cases n
 show⟨fun u r j=>?_,fun u r j=>?_,fun u r j=>?_,fun b r q aa O F=>?_,fun u j=>?_,fun x z l=>?_⟩
 .rcases M.new u r j with z | z
  .show I.alt u r z
  .show(nw u r z).1
 .rcases M.new u r j with z | z
  .by_cases i:InR f m (l1++m1) (S.bas u)
   .rw [M.inn u i];show⟨P,?_⟩
    have:∃ t,r=P++t/\∀ x∈t,S'.bas x=m:=by
     rcases af u r z i with y | y
     .obtain⟨rb,t,N,n,e3⟩:=I.bse u r z;rw[y,H] at N;cases N;show⟨t,n,fun x l=>bm x ((e3 x l).trans y)⟩
     .rcases yC.mp y with y | y
      .obtain⟨a,b,E⟩:=Yp y;obtain⟨_,_,_,_,g,_⟩:=h.up I hv rfl (l1:=a) (c:=S.bas u) (l2:=b++m::l2) (by rw[E];simp);show J z (a:=S.bas u::b) (by simpa using g) fun d hd=>by rw[E];rcases yB.mp hd with rfl | hd<;>simp[*]
      .obtain⟨a,b,E⟩:=Yp y;obtain⟨_,_,_,_,g,_⟩:=h'.up I hw rfl (l1:=a) (c:=S.bas u) (l2:=b++m::l2) (by rw[E];simp);show J z (a:=S.bas u::b) (by simpa using g) fun d hd=>by rw[E];rcases yB.mp hd with rfl | hd<;>simp[*]
    obtain⟨t,N,n⟩:=this;show⟨t,Z,N,n⟩
   .rw [M.out u i];obtain⟨rb,t,N,n,e3⟩:=I.bse u r z;show⟨rb,t,M.old _ _ N,n,fun x l=>by rw[M.out x (by rw[e3 x l];show i)];show e3 x l⟩
  .obtain⟨_,_,e,t,N,n⟩:=nw u r z;rw[e];show⟨P,t,Z,N,n⟩
 .by_cases i:InR f m (l1++m1) (S.bas u)
  .rw [M.inn u i];show m0
  .rw [M.out u i];rcases M.new u r j with z | z
   .have e:=I.idm u r z;rw[M.out _ (by rw[e];show i)];show e
   .obtain⟨_,o,_⟩:=nw u r z;have e:=I.own o;rw[e,M.out u (by rw[e] at i ⊢;show i)];show e
 .have ac:S.bas b=b/\(b=m\/¬ InR f m (l1++m1) (S.bas b)):=by
   by_cases i:InR f m (l1++m1) (S.bas b)
   .have:=M.inn b i;rw[O] at this;rw[this];show⟨W,.inl rfl⟩
   .have:=M.out b i;rw[O] at this;show⟨this.symm,.inr i⟩
  obtain⟨T,ad⟩:=ac
  have C:S.rows b=some r:=by
   rcases M.new b r aa with z | z
   .show z
   .exfalso;obtain⟨_,o,p,_⟩:=nw b r z;rw[O] at p;rw[p,H] at o;cases o
  obtain⟨k1,z,rz,k2,k3,k4⟩:=I.dwn b r q C T F;show⟨?_,z,rz,by rw[M.par];show k2,M.old _ _ k3,k4⟩
  cases e:S'.rows q with
  | none=>rfl
  | some s =>
   exfalso
   have Y:∀ c∈l1++m1,f c=some q->False:=fun c hc ae=>by
    have:=G.fs ae;rw[G.fs F] at this;have n:=yn this;subst n;rcases ad with y | y
    .show(B b hc).2.1 y
    .show y (.inr ⟨b,hc,.inl T⟩)
   rcases M.new q s e with y | ⟨c,hc,y,_⟩ | ⟨c,hc,y,_⟩
   .rw [k1] at y;cases y
   .show Y c (yJ _ hc) y
   .show Y c (yK _ hc) y
 .by_cases i:InR f m (l1++m1) (S.bas u)
  .rw [M.inn u i] at j ⊢;by_cases X:S.bas u=u
   .rw [X] at i;rcases i with z | ⟨c,hc,z | z⟩
    .show absurd z.symm j
    .subst z;obtain⟨⟨r,C,_⟩,_,q,F,_⟩:=B u hc;show⟨⟨r,M.old _ _ C⟩,q,F,cov q ⟨u,hc,.inr F⟩⟩
    .show⟨M.all c hc u z,c,G.fs z,cov c ⟨c,hc,.inl (B c hc).1.choose_spec.2⟩⟩
   .obtain⟨⟨r,C⟩,y,hy,e⟩:=I.mat u X;show⟨⟨r,M.old _ _ C⟩,y,hy,M.inn y (by rw[e];show i)⟩
  .rw [M.out u i] at j ⊢;obtain⟨⟨r,C⟩,y,hy,e⟩:=I.mat u j;show⟨⟨r,M.old _ _ C⟩,y,hy,by rw[M.out y (by rw[e];show i)];show e⟩
 .rw [M.par] at l;obtain⟨k1,⟨r,k2⟩,y,s,k3,k4⟩:=I.odd x z l;show⟨k1,⟨r,M.old _ _ k2⟩,y,s,k3,M.old _ _ k4⟩
theorem FJ.crit(G:Gr A f)(J:FJ A f S)(hv:S.rows v=some r):∃ g:Str->Option Str,∀ u,S.bas u=S.bas v->u≠v->∃ w,S.bas w=S.bas v/\w≠v/\g u=some w/\g w=some u/\A u w:=by
 obtain⟨W,t,s,er,U⟩:=J.bse v r hv;have D:=J.alt v r hv;have ab:=J.alt _ W s;have q:=J.idm v r hv;generalize S.bas v=b at s U ab q;obtain⟨x,P⟩:=ab.tl;obtain⟨p,F⟩:∃ p,p=b::t:=⟨_,rfl⟩;have l:r=x++p:=by rw[er,P,F];simp
 have l0:x.length % 2=0:=by have:=ab.odd;rw[P,yu,xA] at this;lk
 have pl:p.length % 2=1:=by have:=D.odd;rw[l,yu] at this;lk
 have nd:p.Nodup:=by have:=D.nd;rw[l] at this;show(Yd.mp this).2.1
 have C:∀ u∈p,S.bas u=b:=fun u hu=>by
  rw[F] at hu;rcases yB.mp hu with rfl | hu
  .show q
  .show U u hu
 have st:∀ j a c,p[j]?=some a->p[j+1]?=some c->A a c/\(f a=some c↔j % 2=1):=fun j a c h1 K=>by
  have k1:r[x.length+j]?=some a:=by rw[l,yy (YQ _ _),Nat.add_sub_cancel_left];show h1
  have k2:r[x.length+j+1]?=some c:=by rw[l,Nat.add_assoc,yy (YQ _ _),Nat.add_sub_cancel_left];show K
  obtain⟨z1,z2⟩:=D.st _ a c k1 k2;show⟨z1,z2.trans (by lk)⟩
 have H:p[p.length-1]?=some v:=by
  obtain⟨r1,Z⟩:=D.tl;have:r[r.length-1]?=some v:=by rw[Z,yu,xA,Nat.add_sub_cancel,yy (yh _),Xl];rfl
  rw[l,yu,yy (by lk)] at this
  rwa[show x.length+p.length-1-x.length=p.length-1 by lk] at this
 have inj:∀ i j u,p[i]?=some u->p[j]?=some u->i=j:=fun i j u h1 K=>by
  obtain⟨a1,X⟩:=yc.mp h1;obtain⟨a2,Y⟩:=yc.mp K;show(List.getElem_inj nd).mp (X.trans Y.symm)
 have O:∀ j u,p[j]?=some u->p.idxOf u=j:=fun j u h=>by
  have hm:=ye h;show inj _ _ u (by rw[yb (Yj hm),Yx]) h
 obtain⟨g,R⟩:∃ g:Str->Option Str,g=fun u=>if u∈p then(if p.idxOf u % 2=0 then p[p.idxOf u+1]? else p[p.idxOf u-1]?) else f u:=⟨_,rfl⟩
 have n:∀ j u,p[j]?=some u->g u=if j % 2=0 then p[j+1]? else p[j-1]?:=fun j u h=>by
  rw[R];show(if u∈p then _ else _)=_;rw[yF (ye h),O j u h]
 have o:∀ u,u∉p->g u=f u:=fun u h=>by
  rw[R];show(if u∈p then _ else _)=_;rw[yA h]
 show⟨g,fun u hu N=>?_⟩;by_cases m:u∈p
 .obtain⟨j,d⟩:=yf m;have L:=(yc.mp d).1;have T:j≠p.length-1:=fun z=>N (by rw[z,H] at d;show(yn d).symm);by_cases e:j % 2=0
  .have h1:j+1<p.length:=by lk
   show⟨p[j+1],C _ (YR h1),fun z=>?_,by rw[n j u d,yF e];show yb h1,?_,(st j u _ d (yb h1)).1⟩
   .have:=inj (j+1) (p.length-1) v (by rw[<- z];show yb h1) H;lk
   .rw [n (j+1) _ (yb h1),yA (by lk)];show d
  .have h1:j-1<p.length:=by lk
   have E:j-1+1=j:=by lk
   show⟨p[j-1],C _ (YR h1),fun z=>?_,by rw[n j u d,yA e];show yb h1,?_,G.as (st (j-1) _ u (yb h1) (by rw[E];show d)).1⟩
   .have:=inj (j-1) (p.length-1) v (by rw[<- z];show yb h1) H;lk
   .rw [n (j-1) _ (yb h1),yF (by lk),E];show d
 .have M:u≠b:=fun z=>m (by rw[z,F];show yG);obtain⟨⟨ru,y⟩,w,hw,ew⟩:=J.mat u (by rw[hu];show yZ M)
  have B:w∉p:=fun z=>by
   obtain⟨j,d⟩:=yf z;have L:=(yc.mp d).1;have I:=G.fs hw;by_cases j0:j=0
   .have:w=b:=by rw[j0,F] at d;show(yn d).symm
    subst this;rw[(J.dwn w W u s q I).1] at y;cases y
   .by_cases e:j % 2=1
    .have h1:j+1<p.length:=by lk
     have:=(st j w _ d (yb h1)).2.mpr e;rw[I] at this;show m (by rw[yn this];show YR h1)
    .have h1:j-1<p.length:=by lk
     have E:j-1+1=j:=by lk
     have:=G.fs ((st (j-1) _ w (yb h1) (by rw[E];show d)).2.mpr (by lk));rw[I] at this;show m (by rw[yn this];show YR h1)
  show⟨w,ew.trans hu,fun z=>B (by rw[z];show ye H),by rw[o u m];show hw,by rw[o w B];show G.fs hw,G.fa hw⟩
theorem qfc:∀{l m:LS},l.Nodup->(∀ x∈l,x∈m)->l.length<=m.length
 | [],_,_,_=>YF _
 | x::l,m,nd,h=>by
  obtain⟨d,f⟩:=yp.mp nd;have a:=h x yG;have c:=qfc (l:=l) (m:=m.erase x) f fun y b=>(XU (fun e:y=x=>d (by rw[<- e];show b))).mpr (h y (yI _ b));rw[Y8 a] at c;have:=YS a;rw[yD];lk
theorem qfd:∀(n:Nat) {X:LS},X.length<=n->X.Nodup->(∀ x∈X,∃ y∈X,g x=some y/\y≠x/\g y=some x)->X.length % 2=0
 | 0,[],_,_,_=>rfl
 | n+1,[],_,_,_=>rfl
 | n+1,x::X,hl,nd,h=>by
  obtain⟨y,p,e,ne,l⟩:=h x yG;have d:y∈X:=(yB.mp p).resolve_left ne;have a:=yp.mp nd;have j:=Y8 d;have s:=YS d
  have q:=qfd n (X:=X.erase y) (by rw[j];simp only[yD] at hl;lk) (a.2.erase y) fun z hz=>by
   obtain⟨i,f⟩:=(a.2.mem_erase_iff).mp hz;obtain⟨u,o,m,r,b⟩:=h z (yI _ f);show⟨u,?_,m,r,b⟩;have t:u≠x:=fun c=>by rw[c,e] at b;show i (yn b).symm
   have v:u≠y:=fun c=>by rw[c,l] at b;show a.1 (by rw[yn b];show f)
   show(a.2.mem_erase_iff).mpr ⟨v,(yB.mp o).resolve_left t⟩
  rw[j] at q;rw[yD];lk
theorem FI.merge(G:Gr A f)(I:FI A f S){w:Str}(hv:S.rows v=some rv)(hw:S.rows w=some rw)(h:Ch f S (S.bas v) (l1++m::l2))(h':Ch f S (S.bas w) (m1++m::l2))(hd:∀ d∈l1,d∉m1++m::l2)(o:∀ d∈m1,d∉l1++m::l2)(ha:A v w)(W:S.bas v≠S.bas w)(M:Mg f S S' v w m l1 m1):FI A f S':=by
 have J:=I.mergeJ G hv hw h h' hd o ha W M;obtain⟨R,P,L,D⟩:=M.rg;have hm:∃ r,S.rows m=some r/\S.bas m=m:=h.bs0 I hv (by simp);obtain⟨rm,E,Y⟩:=hm;have ad:=M.old m rm E;have m0:S'.bas m=m:=M.inn m (.inl Y)
 have cls:∀ u,u∈R↔S'.bas u=m:=fun u=>(D u).trans ⟨fun z=>M.inn u z,fun z=>Y5 fun c=>by
  have:=M.out u c;show c (.inl (this ▸ z))⟩
 have B:∀ u,u∈R->∃ r,S'.rows u=some r:=fun u i=>by
  cases e:S.rows u with
  | some r=>show⟨r,M.old u r e⟩
  | none =>
   have ob:=I.own e;rcases(D u).mp i with z | ⟨c,hc,z | z⟩
   .rw [ob] at z;rw[z,E] at e;cases e
   .rw [ob] at z;rcases yC.mp hc with y | y
    .obtain⟨rc,k,_⟩:=h.bs0 I hv (yJ _ y);rw[z,k] at e;cases e
    .obtain⟨rc,k,_⟩:=h'.bs0 I hw (yJ _ y);rw[z,k] at e;cases e
   .rw [ob] at z;show M.all c hc u z
 have hmR:m∈R:=(cls m).mpr m0
 have top:∀{x:Str} {a c:LS},Ch f S (S.bas x) (a++m::c)->(∀ d∈a,d∈l1++m1)->x∈R:=fun{x a c} n hs=>(D x).mpr (by
  obtain⟨t,e⟩:=n.ne
  cases a with
  | nil=>show .inl (YN e).1.symm
  | cons d a'=>show .inr ⟨d,hs d yG,.inl (YN e).1.symm⟩)
 have F:v∈R:=top h fun d z=>yJ _ z;have H:w∈R:=top h' fun d z=>yK _ z;have Z:v≠w:=fun z=>W (by rw[z])
 have one:∀ u∈R,u≠m->∃ x∈R,f u=some x:=fun u i p=>by
  obtain⟨_,x,n,ex⟩:=J.mat u (by rw[(cls u).mp i];show yZ p);show⟨x,(cls x).mpr (ex.trans ((cls u).mp i)),n⟩
 have K:∀ x∈R,f m≠some x:=fun x n e=>by
  have:=(J.dwn m rm x ad m0 e).1;obtain⟨r,k⟩:=B x n;rw[this] at k;cases k
 have ac:R.length % 2=1:=by
  have ev:=qfd (g:=f) (R.erase m).length (yh _) (L.erase m) fun x n=>by
   obtain⟨h1,C⟩:=L.mem_erase_iff.mp n;obtain⟨y,hy,e⟩:=one x C h1;have ym:y≠m:=fun z=>K x C (z ▸ G.fs e);show⟨y,L.mem_erase_iff.mpr ⟨ym,hy⟩,e,yZ (G.ir (G.fa e)),G.fs e⟩
  rw[Y8 hmR] at ev;have:=YS hmR;lk
 have ae:2<=R.length:=by
  have:R.Perm (v::R.erase v):=List.perm_cons_erase F;rw[this.length_eq,yD];have:=YS (L.mem_erase_iff.mpr ⟨yZ Z,H⟩);lk
 have hR:Rg A f R:=⟨L,ac,by lk,⟨m,hmR,one,K⟩,fun x n=>by
  obtain⟨r,hr⟩:=B x n;obtain⟨g,hg⟩:=J.crit G hr;have ex:=(cls x).mp n;show⟨g,fun u i p=>?_⟩;obtain⟨y,h1,C,h3,h4,h5⟩:=hg u (by rw[ex];show(cls u).mp i) p;show⟨y,(cls y).mpr (h1.trans ex),C,h3,h4,h5⟩⟩
 show⟨J,fun T O=>?_,?_,fun u x h1 C p X=>?_⟩
 .rw [P] at O;rcases yC.mp O with z | z
  .obtain⟨k1,b,q⟩:=I.rg T z;show⟨k1,?_⟩
   have ro:∀ u∈T,S'.rows u≠none:=fun u i e=>by
    cases k:S.rows u with
    | none=>show(q u i).2 k
    | some r=>rw[M.old u r k] at e;cases e
   by_cases j:InR f m (l1++m1) b
   .show⟨m,fun u i=>⟨M.inn u (by rw[(q u i).1];show j),ro u i⟩⟩
   .show⟨b,fun u i=>⟨by rw[M.out u (by rw[(q u i).1];show j)];show(q u i).1,ro u i⟩⟩
  .rw [yz.mp z];show⟨hR,m,fun u i=>⟨(cls u).mp i,fun e=>by obtain⟨r,k⟩:=B u i;rw[k] at e;cases e⟩⟩
 .rw [P];show XT.mpr ⟨I.nst,xm _ _,fun T O R' U=>?_⟩;rw[yz.mp U];obtain⟨k1,b,q⟩:=I.rg T O;by_cases j:InR f m (l1++m1) b
  .show .inl ⟨fun u i=>(D u).mpr (by rw[(q u i).1];show j),?_⟩
   obtain⟨x,n,aa⟩:∃ x∈R,x∉T:=by
    by_cases c:v∈T
    .show⟨w,H,fun z=>W ?_⟩;rw[(q v c).1,(q w z).1]
    .show⟨v,F,c⟩
   have:=qfc (l:=x::T) (m:=R) (yp.mpr ⟨aa,k1.nd⟩) fun u i=>(yB.mp i).elim (fun e=>e ▸ n) fun z=>(D u).mpr (by rw[(q u z).1];show j);rw[yD] at this;lk
  .show .inr fun u i z=>j (by rw[<- (q u i).1];show(D u).mp z)
 .rw [P];by_cases c:S'.bas u=m
  .show⟨R,yK _ (yz.mpr rfl),(cls u).mpr c,(cls x).mpr (X ▸ c)⟩
  .have N:∀ y,S'.rows y≠none->S'.bas y≠m->S.rows y≠none/\S'.bas y=S.bas y:=fun y hy hc=>by
    have s:¬ InR f m (l1++m1) (S.bas y):=fun z=>hc (M.inn y z);show⟨fun e=>?_,M.out y s⟩
    cases k:S'.rows y with
    | none=>show hy k
    | some r =>
     rcases M.new y r k with z | ⟨d,o,z,_⟩ | ⟨d,o,z,_⟩
     .rw [e] at z;cases z
     .show s (by rw[I.own e];show .inr ⟨d,yJ _ o,.inr z⟩)
     .show s (by rw[I.own e];show .inr ⟨d,yK _ o,.inr z⟩)
   obtain⟨a1,a2⟩:=N u h1 c;obtain⟨b1,b2⟩:=N x C (by rw[<- X];show c);obtain⟨T,t1,t2⟩:=I.cov u x a1 b1 p (by rw[<- a2,<- b2];show X);show⟨T,yJ _ t1,t2⟩
end
structure Aug(A:Str->Str->Prop)(f:Str->Option Str)(r:LS):Prop where
 nd:r.Nodup
 two:2<=r.length
 ev:r.length % 2=0
 st:Turns A f r
 hd:∀ s,r[0]?=some s->f s=none
 tl:∀ s,r[r.length-1]?=some s->f s=none
section
variable{A:Str->Str->Prop}{f:Str->Option Str}{S S':FS}
theorem FI.aug(G:Gr A f)(I:FI A f S){w:Str}{l:LS}(hv:S.rows v=some rv)(hw:S.rows w=some rw)(h:Ch f S (S.bas v) l)(h':Ch f S (S.bas w) l')(hl:l.getLast?≠l'.getLast?)(E:A v w):Aug A f (rv++rw.reverse):=by
 have n:∀ d∈l,d∉l':=fun d F p=>by
  obtain⟨a,b,e⟩:=Yp F;obtain⟨x,y,q⟩:=Yp p;obtain⟨_,_,_,_,k,_⟩:=h.up I hv rfl e;obtain⟨_,_,_,_,k',_⟩:=h'.up I hw rfl q;have:=k.one k';show hl (by rw[e,q,this,List.getLast?_append,List.getLast?_append];rfl)
 have c:=I.alt v rv hv;have g:=I.alt w rw hw;obtain⟨O,r⟩:=c.tl;obtain⟨P,t⟩:=g.tl;have K:0<rv.length:=by rw[r];simp
 have L:0<rw.length:=by rw[t];simp
 have M:=c.odd;have N:=g.odd
 have H:f v≠some w:=fun z=>by
  have e:=I.pair hv hw z;have:=h.one (e ▸ h');rw[this] at hl;show hl rfl
 have at_:∀{j:Nat} {a:Str},rw.reverse[j]?=some a->j<rw.length/\rw[rw.length-1-j]?=some a:=fun{j a} e=>by
  have hl:=(yc.mp e).1;rw[Yz] at hl;rw[List.getElem?_reverse hl] at e;show⟨hl,e⟩
 show⟨Yd.mpr ⟨c.nd,(List.reverse_perm _).nodup_iff.mpr g.nd,fun x J y u e=>?_⟩,by rw[yu,Yz];lk,by rw[yu,Yz];lk,c.st.app (fun j a b h1 o=>?_) fun a b h1 o _=>?_,fun s i=>?_,fun s i=>?_⟩
 .rw [<- e] at u;show Cov.apart G I (fun d z=>h.bs0 I hv z) (fun d z=>h'.bs0 I hw z) n (h.cov G I hv J) (h'.cov G I hw (kN.mp u))
 .obtain⟨l1,B⟩:=at_ h1;obtain⟨l2,m⟩:=at_ o;have:=g.st (rw.length-1-(j+1)) b a m (by rw[show rw.length-1-(j+1)+1=rw.length-1-j by lk];show B);show⟨G.as this.1,⟨fun z=>?_,fun z=>?_⟩⟩
  .have:=this.2.mp (G.fs z);lk
  .show G.fs (this.2.mpr (by lk))
 .have C:a=v:=by
   rw[r,yu,yy (by simp)] at h1;simpa using h1.symm
  have D:b=w:=by
   obtain⟨_,m⟩:=at_ o;rw[kP,t,yu,yy (by simp)] at m;simpa using m.symm
  subst C;subst D;show⟨E,⟨fun z=>absurd z H,fun z=>by lk⟩⟩
 .rw [yU K] at i;show c.hd s i
 .rw [yu,Yz,yy (by lk),show rv.length+rw.length-1-rv.length=rw.length-1 by lk] at i;obtain⟨_,e⟩:=at_ i;rw[Xl] at e;show g.hd s e
structure Gw(S S':FS)(p u y:Str)(r:LS):Prop where
 ry:S'.rows y=some (r++[u,y])
 ro:∀ s,s≠y->S'.rows s=S.rows s
 pu:S'.par u=some p
 po:∀ s,s≠u->S'.par s=S.par s
 ba:S'.bas=S.bas
 rg:S'.rgs=S.rgs
theorem FI.fresh(G:Gr A f)(I:FI A f S)(a:S.rows u=none)(g:S.par u=none)(c:f u=some y):S.rows y=none:=by
 cases e:S.rows y with
 | none=>rfl
 | some s =>
  exfalso;by_cases z:S.bas y=y
  .obtain⟨_,_,_,k,_⟩:=I.dwn y s u e z (G.fs c);rw[g] at k;cases k
  .obtain⟨_,x,b,k⟩:=I.mat y z;rw[G.fs c] at b;cases b;rw[I.own a] at k;obtain⟨h,d⟩:=I.evb e;rw[<- k,a] at d;cases d
theorem FI.growJ(G:Gr A f)(I:FI A f S){p:Str}(o:S.rows p=some r)(O:A p u)(w:S.rows u=none)(K:S.par u=none)(n:f u=some y)(W:Gw S S' p u y r):FJ A f S':=by
 have c:=I.fresh G w K n;have T:u≠y:=G.ir (G.fa n);have py:p≠y:=fun z=>by rw[z,c] at o;cases o
 have g:∀ s t,S.rows s=some t->S'.rows s=some t:=fun s t e=>by rw[W.ro s (fun z=>by rw[z,c] at e;cases e)];show e
 have new:∀ s t,S'.rows s=some t->(s=y/\t=r++[u,y])\/(s≠y/\S.rows s=some t):=fun s t e=>by
  by_cases z:s=y
  .subst z;rw[W.ry] at e;show .inl ⟨rfl,(yn e).symm⟩
  .rw [W.ro s z] at e;show .inr ⟨z,e⟩
 obtain⟨l,hl⟩:=I.chainOf o
 have C:∀ x∈r,x≠u/\x≠y:=fun x D=>by
  obtain⟨d,X,z⟩:=hl.cov G I o D;obtain⟨rd,i,m⟩:=hl.bs0 I o X;show⟨fun e=>?_,fun e=>?_⟩
  .rw [e] at z;rcases z with z | z
   .rw [I.own w] at z;rw[z,i] at w;cases w
   .obtain⟨_,_,_,k,_⟩:=I.dwn d rd u i m z;rw[K] at k;cases k
  .rw [e] at z;rcases z with z | z
   .rw [I.own c] at z;rw[z,i] at c;cases c
   .have:=G.fs z;rw[G.fs n] at this;rw[yn this,i] at w;cases w
 have B:=I.alt p r o;obtain⟨r0,N⟩:=B.tl;have L:0<r.length:=by rw[N];simp
 show⟨fun v t e=>?_,fun v t e=>?_,fun v t e=>?_,fun b t q e P F=>?_,fun v e=>?_,fun x z e=>?_⟩
 .rcases new v t e with⟨rfl,rfl⟩ | ⟨_,e⟩
  .show⟨Yd.mpr ⟨B.nd,by simp[T],fun x D z hz E=>?_⟩,by rw[yu];have:=B.odd;simp only[yD,xD];lk,fun s R=>?_,⟨r++[u],by simp⟩,B.st.app (fun j a b h1 J=>?_) fun a b h1 J _=>?_⟩
   .obtain⟨Z,n2⟩:=C x D;simp only[yB,yW,YU] at hz;rcases hz with rfl | rfl
    .show Z E
    .show n2 E
   .rw [yU L] at R;show B.hd s R
   .have Y:j=0:=by have:=(yc.mp J).1;simp at this;lk
    subst Y;cases h1;cases J;show⟨G.fa n,⟨fun _=>by have:=B.odd;lk,fun _=>n⟩⟩
   .cases J
    have U:a=p:=by
     rw[N,yu,yy (by simp)] at h1;simpa using h1.symm
    subst U;show⟨O,⟨fun z=>?_,fun z=>by have:=B.odd;lk⟩⟩;have:=G.fs z;rw[n] at this;show absurd (yn this).symm py
  .show I.alt v t e
 .rw [W.ba];rcases new v t e with⟨rfl,rfl⟩ | ⟨_,e⟩
  .rw [I.own c];show⟨_,[],W.ry,by simp,(fun x h=>by cases h)⟩
  .obtain⟨rb,s,i,m,H⟩:=I.bse v t e;show⟨rb,s,g _ _ i,m,H⟩
 .rw [W.ba];rcases new v t e with⟨rfl,rfl⟩ | ⟨_,e⟩
  .rw [I.own c,I.own c]
  .show I.idm v t e
 .rw [W.ba] at P;rcases new b t e with⟨rfl,rfl⟩ | ⟨_,e⟩
  .rw [G.fs n] at F;cases F;show⟨by rw[W.ro u T];show w,p,r,W.pu,g _ _ o,rfl⟩
  .obtain⟨i,z,rz,m,H,M⟩:=I.dwn b t q e P F;show⟨?_,z,rz,?_,g _ _ H,M⟩
   .rw [W.ro q fun z=>?_]
    .show i
    .rw [z] at F;have:=G.fs F;rw[G.fs n] at this;rw[<- yn this,w] at e;cases e
   .rw [W.po q fun z=>?_]
    .show m
    .rw [z,K] at m;cases m
 .rw [W.ba] at e ⊢;obtain⟨⟨t,i⟩,m⟩:=I.mat v e;show⟨⟨t,g _ _ i⟩,m⟩
 .by_cases D:x=u
  .subst D;rw[W.pu] at e;cases e;show⟨O,⟨r,g _ _ o⟩,y,_,n,W.ry⟩
  .rw [W.po x D] at e;obtain⟨i,⟨t,m⟩,y',s,H,M⟩:=I.odd x z e;show⟨i,⟨t,g _ _ m⟩,y',s,H,g _ _ M⟩
theorem FI.grow(G:Gr A f)(I:FI A f S){p:Str}(x:S.rows p=some r)(w:A p u)(h:S.rows u=none)(n:S.par u=none)(o:f u=some y)(W:Gw S S' p u y r):FI A f S':=by
 have J:=I.growJ G x w h n o W;have c:=I.fresh G h n o;have j:∀ s,S.rows s≠none->S'.rows s≠none:=fun s e=>by rw[W.ro s (fun z=>e (by rw[z];show c))];show e
 show⟨J,fun R m=>?_,by rw[W.rg];show I.nst,fun s t h1 g a d=>?_⟩
 .rw [W.rg] at m;obtain⟨B,b,q⟩:=I.rg R m;show⟨B,b,fun u h=>⟨by rw[W.ba];show(q u h).1,j u (q u h).2⟩⟩
 .rw [W.rg];rw[W.ba] at d
  have i:∀{s t},S'.rows t≠none->s≠t->S.bas s=S.bas t->s≠y:=fun{s t} g a d z=>by
   subst z;have v:=I.own c;have E:S.rows t≠none:=by rw[<- W.ro t (yZ a)];show g
   cases k:S.rows t with
   | none=>show E k
   | some r' =>
    obtain⟨F,l⟩:=I.evb k;rw[<- d,v,c] at l;cases l
  have C:=i g a d;have D:=i h1 (yZ a) d.symm;rw[W.ro s C] at h1;rw[W.ro t D] at g;show I.cov s t h1 g a d
theorem FI.start(h1:∀ v r,S.rows v=some r->f v=none/\r=[v])(d:∀ x,S.par x=none)(c:∀ v,S.bas v=v)(i:S.rgs=[]):FI A f S:=by
 show⟨⟨fun v r e=>?_,fun v r e=>?_,fun v r e=>by rw[c,c],fun b r q e _ m=>?_,fun v e=>absurd (c v) e,fun x z e=>by rw[d] at e;cases e⟩,(fun R l=>by rw[i] at l;cases l),by rw[i];show .nil,fun u v _ _ g n=>absurd (by rwa[c,c] at n) g⟩
 .obtain⟨k,rfl⟩:=h1 v r e;show⟨by simp,rfl,fun s o=>by cases o;show k,⟨[],rfl⟩,fun j a b h1 d=>?_⟩;simp at d
 .show⟨r,[],by rw[c];show e,by simp,(fun x h=>by cases h)⟩
 .rw [(h1 b r e).1] at m;cases m
end
structure CI(A:Str->Str->Prop)(S:FS)(Pd:Str->Prop):Prop where
 cl:∀ v u,Pd v->A v u->S.bas u=S.bas v\/(S.par u≠none/\¬ Pd u)
 pe:∀ v,Pd v->S.rows v≠none
theorem CI.mono(h:CI A S Pd)(b:∀ u v,S.bas u=S.bas v->S'.bas u=S'.bas v)(c:∀ u,S.par u≠none->S'.par u≠none)(d:∀ u,S.rows u≠none->S'.rows u≠none):CI A S' Pd:=
 ⟨fun v u k a=>(h.cl v u k a).imp (b u v) fun z=>⟨c u z.1,z.2⟩,fun v k=>d v (h.pe v k)⟩
theorem qeN:∀{l m:LS},l.Nodup->(∀ x∈l,x∈m)->l.length<=m.length
 | [],_,_,_=>YF _
 | x::r,m,hn,hs=>by
  obtain⟨h1,c⟩:=yp.mp hn;have a:=hs x yG;have:=qeN (l:=r) (m:=m.erase x) c fun y b=>(XU (fun e=>h1 (by rw[<- e];show b))).mpr (hs y (yI _ b));rw[Y8 a] at this;have:0<m.length:=YS a;simp only[yD];lk
structure Fn(A:Str->Str->Prop)(f:Str->Option Str)(S:FS)(ss:LS):Prop where
 fi:FI A f S
 gr:Gr A f
 inn:∀ a b,A a b->a∈ss
 nd:ss.Nodup
 cl:∀ v u,S.rows v≠none->A v u->S.bas u=S.bas v\/(S.par u≠none/\S.rows u=none)
 sng:∀ z∈ss,f z=none->S.rows z≠none
 es:∀ v,S.rows v≠none->v∈ss
noncomputable def clsL(S:FS)(ss:LS)(b:Str):LS:=ss.filter fun u=>(S.rows u).isSome&&decide (S.bas u=b)
noncomputable def basL(S:FS)(ss:LS):LS:=ss.filter fun u=>(S.rows u).isSome&&decide (S.bas u=u)
noncomputable def barL(S:FS)(ss:LS):LS:=ss.filter fun u=>(S.par u).isSome&&!(S.rows u).isSome
noncomputable def snL(g:Str->Option Str)(ss:LS):LS:=ss.filter fun u=>!(g u).isSome
section
variable{A:Str->Str->Prop}{f g:Str->Option Str}{S:FS}{ss:LS}
theorem some_of{o:Option α}(h:o≠none):∃ r,o=some r:=by cases o with | none=>show absurd rfl h | some r=>show⟨r,rfl⟩
end
theorem qdO{t:Str}:∀{qs:LP},pt qs s=some t->(s,t)∈qs\/(t,s)∈qs
 | [],h=>by cases h
 | q::r,h=>by
  unfold pt at h;split at h
  .rename_i e;cases h;show .inl (by rw[<- e];simp)
  .split at h
   .rename_i e;cases h;show .inr (by rw[<- e];simp)
   .rcases qdO h with z | z
    .show .inl (yI _ z)
    .show .inr (yI _ z)
theorem qfe:∀{qs:LP},(qp qs).Nodup->∀{a b:Str},(a,b)∈qs\/(b,a)∈qs->pt qs a=some b
 | [],_,a,b,m=>by rcases m with z | z<;>cases z
 | q::r,h,a,b,m=>by
  have f:(q.1::q.2::qp r).Nodup:=h;obtain⟨i,n⟩:=yp.mp f;obtain⟨o,p⟩:=yp.mp n;have inr:∀{x y:Str},(x,y)∈r->x∈qp r/\y∈qp r:=fun d=>⟨xP.mpr ⟨_,d,by simp⟩,xP.mpr ⟨_,d,by simp⟩⟩;unfold pt
  have c:(a,b)∈r\/(b,a)∈r->(if q.1=a then some q.2 else if q.2=a then some q.1 else pt r a)=some b:=fun l=>by
   have j:a∈qp r:=l.elim (fun z=>(inr z).1) fun z=>(inr z).2;rw[yA (fun z=>i (by rw[z];show yI _ j)),yA (fun z=>o (by rw[z];show j))];show qfe p l
  rcases m with z | z
  .rcases yB.mp z with z | z
   .subst z;rw[yF rfl]
   .show c (.inl z)
  .rcases yB.mp z with z | z
   .subst z;have g:b≠a:=fun e=>i (by show b∈a::_;rw[e];show yG);rw[yA g,yF rfl]
   .show c (.inr z)
theorem qcf(h:(qp qs).Nodup):pt qs a=some b↔(a,b)∈qs\/(b,a)∈qs:=⟨qdO,qfe h⟩
theorem qdP(h:(qp qs).Nodup):pt qs a=some b↔pt qs b=some a:=by
 rw[qcf h,qcf h,Or.comm]
theorem qcy{x y:Option Str}(h:∀ b,x=some b↔y=some b):x=y:=by
 cases x with
 | none=>cases y with
  | none=>rfl
  | some b=>show absurd ((h b).mpr rfl) (fun z=>by cases z)
 | some a=>show((h a).mp rfl).symm
theorem um:FnScope ["self","place","row"] ["self","place","row"] (qg jH):=fS
structure Fo where
 x:Addr
 b:Addr
 dp:Addr
 dr:Addr
 da:Addr
 ds:Addr
 dg:Addr
 dw:Addr
 ex:LQ
noncomputable def Fo.six(a:Fo):LQ:=[a.x,a.dr,a.da,a.ds,a.dg,a.dw]
noncomputable def Fo.all(a:Fo):LQ:=a.six++a.ex
noncomputable def Fo.tab(a:Fo)(lo:V):List (Str×V):=[("board",.ref a.b),("partners",.ref a.dp),("rows",.ref a.dr),("parents",.ref a.da),("bases",.ref a.ds),("rings",.ref a.dg),("waiting",.ref a.dw),("longer",lo)]
def Bx(l:LQ)(H H':Hp):Prop:=∀ c o,c∉l->H c=some o->H' c=some o
def RowV(H:Hp)(l:LQ)(o:Option V):Option (LS)->Prop
 | none=>o=none
 | some r=>∃ t,o=some (.ref t)/\H t=some (.lst (r.map V.str))/\t∉l
def RgA(H:Hp)(a:Fo)(ss:LS)(b:List (LS)):Prop:=∃ us:LQ,H a.dg=some (.lst (us.map V.ref))/\All2 (fun u R=>H u=some (.lst (R.map V.str))/\u∉a.all) us b/\∀ R∈b,R=ss.filter fun u=>decide (u∈R)
theorem RgA.mono{a:Fo}{b:List (LS)}{m:LQ}(h:RgA H a ss b)(k:Bx m H H')(g:∀ c∈m,c∈a.all)(e:∀ o,H a.dg=some o->H' a.dg=some o):RgA H' a ss b:=by
 obtain⟨us,h1,d,f⟩:=h;show⟨us,e _ h1,d.mono fun u R z=>⟨k _ _ (fun y=>z.2 (g _ y)) z.1,z.2⟩,f⟩
def FoO(cf:Addr)(H:Hp)(a:Fo)(lo:V):Prop:=∃ dx fs,H a.x=some (.ins cf dx fs)/\fs.length<=9/\(lo=.non->fs.length<=8)/\(∀ f v,(f,v)∈a.tab lo->fs.lookup f=some v)/\∀ f,f∉fAtt->fs.lookup f=none
structure FoA(cf cw:Addr)(H0 H:Hp)(a:Fo)(ss:LS)(ns:LN)(qs:LP)(S:FS)(bs dn wt:LS)(lo:V):Prop where
 sm:L2.Same H0 H
 web:WebAt cw H0 a.b ss ns
 prt:H0 a.dp=some (.dK (prK qs))
 fr:∀ c∈a.six,H0 c=none
 nd:[a.dr,a.da,a.ds,a.dg,a.dw].Nodup
 exf:∀ c∈a.ex,H0 c=none/\c∉a.six/\∃ o,H c=some o
 obj:FoO cf H a lo
 row:∃ kvs,H a.dr=some (.dK kvs)/\kvs.length<=(dn++wt).length/\∀ s,RowV H a.all (j4 kvs (.inr s:Key)) (S.rows s)
 par:∃ kvs,H a.da=some (.dK kvs)/\(∃ po:LS,kvs.length<=po.length/\po.Nodup/\∀ u∈po,u∈ss/\S.par u≠none)/\∀ s,j4 kvs (.inr s:Key)=(S.par s).map V.str
 bas:∃ kvs,H a.ds=some (.dK kvs)/\kvs.length<=bs.length/\∀ s∈bs,j4 kvs (.inr s:Key)=some (.str (S.bas s))
 rng:∃ xs,H a.dg=some (.lst xs)/\xs.length<=(dn++wt).length
 wai:H a.dw=some (.lst (wt.map V.str))
 evn:(dn++wt).Nodup
 evi:∀ v,v∈dn++wt↔S.rows v≠none
 evs:∀ v∈dn++wt,v∈ss
 rgl:RgA H a ss S.rgs
theorem RowV.mono{l:LQ}{o:Option V}{r:Option (LS)}(h:RowV H l o r){m:LQ}(k:Bx m H H')(d:∀ c∈m,c∈l):RowV H' l o r:=by
 cases r with
 | none=>show h
 | some r=>obtain⟨t,h1,b,a⟩:=h;show⟨t,h1,k _ _ (fun z=>a (d _ z)) b,a⟩
theorem Fo.sub{a:Fo}:∀ c∈a.six,c∈a.all:=fun c h=>yJ _ h
theorem Bx.of{l:LQ}(s:L2.Same H H'):Bx l H H':=fun c o _ e=>s c o e
theorem Bx.trans{l:LQ}{d:Hp}(a:Bx l H H')(b:Bx l H' d):Bx l H d:=fun c o n e=>b c o n (a c o n e)
section
variable{cf cw:Addr}{H0 H H':Hp}{a:Fo}{ss:LS}{ns:LN}{qs:LP}{S S':FS}{bs dn wt:LS}{lo:V}
theorem FoA.same(h:FoA cf cw H0 H a ss ns qs S bs dn wt lo)(s:L2.Same H H'):FoA cf cw H0 H' a ss ns qs S bs dn wt lo:=by
 obtain⟨dx,fs,h1,i⟩:=h.obj;obtain⟨j,r,t,u⟩:=h.row;obtain⟨m,p,q⟩:=h.par;obtain⟨n,b,d⟩:=h.bas;obtain⟨xs,f,g⟩:=h.rng;show⟨h.sm.trans s,h.web,h.prt,h.fr,h.nd,fun c hc=>⟨(h.exf c hc).1,(h.exf c hc).2.1,(h.exf c hc).2.2.elim fun o e=>⟨o,s _ _ e⟩⟩,⟨dx,fs,s _ _ h1,i⟩,⟨j,s _ _ r,t,fun z=>(u z).mono (Bx.of (l:=[]) s) (fun c h=>by cases h)⟩,⟨m,s _ _ p,q⟩,⟨n,s _ _ b,d⟩,⟨xs,s _ _ f,g⟩,s _ _ h.wai,h.evn,h.evi,h.evs,h.rgl.mono (Bx.of (l:=[]) s) (fun c h=>by cases h) fun o e=>s _ _ e⟩
theorem FoA.six(h:FoA cf cw H0 H a ss ns qs S bs dn wt lo):∀ c∈a.six,∃ o,H c=some o:=fun c hc=>by
 obtain⟨dx,fs,h1,_⟩:=h.obj;obtain⟨g,f,_⟩:=h.row;obtain⟨i,e,_⟩:=h.par;obtain⟨j,b,_⟩:=h.bas;obtain⟨xs,d,_⟩:=h.rng;simp only[Fo.six,yB,yW,YU] at hc;rcases hc with rfl | rfl | rfl | rfl | rfl | rfl
 .show⟨_,h1⟩
 .show⟨_,f⟩
 .show⟨_,e⟩
 .show⟨_,b⟩
 .show⟨_,d⟩
 .show⟨_,h.wai⟩
theorem FoA.new(h:FoA cf cw H0 H a ss ns qs S bs dn wt lo){c:Addr}(e:H c=none):c∉a.six:=fun z=>by
 obtain⟨o,k⟩:=h.six c z;rw[e] at k;cases k
theorem FoA.sep(h:FoA cf cw H0 H a ss ns qs S bs dn wt lo):a.six.Nodup:=by
 obtain⟨dx,fs,h1,_⟩:=h.obj;obtain⟨f,e,_⟩:=h.row;obtain⟨g,d,_⟩:=h.par;obtain⟨i,b,_⟩:=h.bas;obtain⟨xs,c,_⟩:=h.rng;show yp.mpr ⟨fun z=>?_,h.nd⟩;simp only[yB,yW,YU] at z;rcases z with z | z | z | z | z
 .rw [z,e] at h1;cases h1
 .rw [z,d] at h1;cases h1
 .rw [z,b] at h1;cases h1
 .rw [z,c] at h1;cases h1
 .rw [z,h.wai] at h1;cases h1
theorem FoO.eq(h:FoO cf H a lo)(e:H' a.x=H a.x):FoO cf H' a lo:=by
 obtain⟨dx,fs,h1,b⟩:=h;show⟨dx,fs,e.trans h1,b⟩
theorem Bx.upd{l:LQ}{c:Addr}(k:Bx l H H')(hc:c∈l):Bx l H (upd H' c o):=fun d u n e=>by
 rw[qe (fun z=>n (by rw[z];show hc))];show k d u n e
noncomputable def Fo.add(a:Fo)(c:Addr):Fo:={ a with ex:=c::a.ex }
theorem FoA.add(h:FoA cf cw H0 H a ss ns qs S bs dn wt lo){c:Addr}(e:H c=none):FoA cf cw H0 (upd H c o) (a.add c) ss ns qs S bs dn wt lo:=by
 have g:=h.same (qH (Sr H) (o:=o) e);obtain⟨f,q,A,B⟩:=g.row;obtain⟨n,x,_,C⟩:=h.row
 have v:n=f:=by
  have:=qH (Sr H) (o:=o) e _ _ x;rw[q] at this;show(HO.dK.inj (yn this)).symm
 subst v;show⟨g.sm,g.web,g.prt,g.fr,g.nd,fun d hd=>?_,g.obj,⟨n,q,A,fun z=>?_⟩,g.par,g.bas,g.rng,g.wai,g.evn,g.evi,g.evs,?_⟩
 .rcases yB.mp hd with rfl | hd
  .show⟨h.sm.free e,h.new e,_,qb⟩
  .show g.exf d hd
 .have b:=B z;have j:=C z
  cases i:S.rows z with
  | none=>rw[i] at b;show b
  | some r =>
   rw[i] at b j;obtain⟨t,f,w,p⟩:=b;obtain⟨t',l,m,_⟩:=j;rw[f] at l;cases l;show⟨t,f,w,fun y=>?_⟩;rcases yC.mp y with y | y
   .show p (yJ _ y)
   .rcases yB.mp y with y | y
    .rw [y,e] at m;cases m
    .show p (yK _ y)
 .obtain⟨us,D,E,F⟩:=h.rgl;have s:=qH (Sr H) (o:=o) e;show⟨us,s _ _ D,E.mono fun u R z=>⟨s _ _ z.1,fun y=>?_⟩,F⟩;rcases yC.mp y with y | y
  .show z.2 (yJ _ y)
  .rcases yB.mp y with y | y
   .rw [y,e] at z;cases z.1
   .show z.2 (yK _ y)
theorem FoA.updE(h:FoA cf cw H0 H a ss ns qs S bs dn wt lo){c:Addr}(hc:c∈a.ex):FoA cf cw H0 (upd H c o) a ss ns qs S bs dn wt lo:=by
 obtain⟨l,p,_⟩:=h.exf c hc;have ne:∀{d:Addr},d∈a.six->upd H c o d=H d:=fun b=>qe fun z=>p (by rw[<- z];show b);obtain⟨q,w,x,A⟩:=h.row;obtain⟨r,t,v⟩:=h.par;obtain⟨s,f,g⟩:=h.bas;obtain⟨xs,i,j⟩:=h.rng;show⟨qaA h.sm l,h.web,h.prt,h.fr,h.nd,fun d b=>⟨(h.exf d b).1,(h.exf d b).2.1,by by_cases z:d=c;show⟨_,by rw[z,qb]⟩;rw[qe z];show(h.exf d b).2.2⟩,h.obj.eq (ne (by simp[Fo.six])),⟨q,(ne (by simp[Fo.six])).trans w,x,fun z=>(A z).mono (m:=[c]) (fun d u n e=>by rw[qe (fun y=>n (by rw[y];simp))];show e) fun d b=>by rw[yz.mp b];show yK _ hc⟩,⟨r,(ne (by simp[Fo.six])).trans t,v⟩,⟨s,(ne (by simp[Fo.six])).trans f,g⟩,⟨xs,(ne (by simp[Fo.six])).trans i,j⟩,(ne (by simp[Fo.six])).trans h.wai,h.evn,h.evi,h.evs,h.rgl.mono (m:=[c]) (fun d u n e=>by rw[qe (fun y=>n (by rw[y];simp))];show e) (fun d b=>by rw[yz.mp b];show yK _ hc) fun o e=>(ne (by simp[Fo.six])).trans e⟩
theorem FoA.drop(h:FoA cf cw H0 H a ss ns qs S bs dn wt lo){l:LQ}(d:∀ c∈l,c∈a.ex):FoA cf cw H0 H { a with ex:=l } ss ns qs S bs dn wt lo:=by
 obtain⟨e,j,m,n⟩:=h.row;show⟨h.sm,h.web,h.prt,h.fr,h.nd,fun c hc=>h.exf c (d c hc),h.obj,⟨e,j,m,fun z=>?_⟩,h.par,h.bas,h.rng,h.wai,h.evn,h.evi,h.evs,h.rgl.elim fun us z=>⟨us,z.1,z.2.1.mono fun u R k=>⟨k.1,fun y=>k.2 ((yC.mp y).elim (fun z=>yJ _ z) fun z=>yK _ (d _ z))⟩,z.2.2⟩⟩;have b:=n z
 cases f:S.rows z with
 | none=>rw[f] at b;show b
 | some r =>
  rw[f] at b;obtain⟨t,e,g,i⟩:=b;show⟨t,e,g,fun y=>i ((yC.mp y).elim (fun z=>yJ _ z) fun z=>yK _ (d _ z))⟩
theorem FoA.newA(h:FoA cf cw H0 H a ss ns qs S bs dn wt lo){c:Addr}(e:H c=none):c∉a.all:=fun z=>by
 rcases yC.mp z with z | z
 .show h.new e z
 .obtain⟨o,k⟩:=(h.exf c z).2.2;rw[e] at k;cases k
theorem FoA.few(h:FoA cf cw H0 H a ss ns qs S bs dn wt lo):(dn++wt).length<=ss.length:=zi h.evn h.evs
end
noncomputable def FS.setRow(S:FS)(p:Str)(r:LS):FS:=⟨fun s=>if s=p then some r else S.rows s,S.par,S.bas,S.rgs⟩
inductive spRe(cc:Nat->Addr)(cw:Addr)(vs:List V)(H:Hp)(Q:VK)(E:XK):Prop|mk (H0:Hp) (a:Fo) (ss:LS) (ns:LN) (qs:LP) (S:FS) (bs dn wt:LS) (lo:V) (p:Str) (t:Addr) (r:LS) (_:vs=[.ref a.x,.str p,.ref t]) (_:FoA (cc 9) cw H0 H a ss ns qs S bs dn wt lo) (_:ss.length<=14) (_:H t=some (.lst (r.map V.str))) (_:t∉a.all) (_:p∈ss) (_:S.rows p=none) (_:∀ H',FoA (cc 9) cw H0 H' a ss ns qs (S.setRow p r) bs dn (wt++[p]) lo->Bx a.six H H'->(∀ o,H a.dg=some o->H' a.dg=some o)->Q .non H')
inductive spBd(cc:Nat->Addr)(cw:Addr)(vs:List V)(H:Hp)(Q:VK)(E:XK):Prop|mk (H0:Hp) (a:Fo) (ss:LS) (ns:LN) (qs:LP) (S:FS) (dn wt:LS) (lo:V) (p:Str) (r l:LS) (A:Str->Str->Prop) (_:vs=[.ref a.x,.str p]) (_:FoA (cc 9) cw H0 H a ss ns qs S ss dn wt lo) (_:ss.length<=14) (_:FI A (pt qs) S) (_:S.rows p=some r) (_:Ch (pt qs) S (S.bas p) l) (_:l.length<=14) (_:∀(t:Addr) (H':Hp),L2.Same H H'->H t=none->H' t=some (.lst (l.map V.str))->Q (.ref t) H')
section
variable{P:Program}{w:World}{K:W.Frag}{mg:Str->Option Value}{base:Heap}{cc:Nat->Addr}{cw:Addr}{H0 H:Hp}{a:Fo}{ss:LS}{ns:LN}{qs:LP}{S:FS}{bs dn wt:LS}{lo:V}
theorem FoO.rd{Q:VK}{f:Str}{v:V}(h:FoO (cc 9) H a lo)(T:Txt K mg cc cw)(i:Nat)(e:(a.tab lo)[i]?=some (f,v))(q:Q v H):FldR K f (.ref a.x) H Q:=by
 obtain⟨dx,fs,h1,_,_,b,_⟩:=h;show⟨a.x,cc 9,dx,fs,v,rfl,h1,T.fcl,T.fa f ?_,b f v (ye e),q⟩;have:((a.tab lo).map Prod.fst)[i]?=some f:=by rw[yd,e];rfl
 show ye (l:=fAtt) (i:=i) this
theorem FoO.me{k:Prop}(h:FoO (cc 9) H a lo)(c:m∉fAtt)(q:k):MeR (cc 9) m (.ref a.x) H k:=by
 obtain⟨dx,fs,h1,_,_,_,b⟩:=h;show⟨a.x,dx,fs,rfl,h1,b m c,q⟩
theorem ok_re(F:Fun K "reach" "Forest.reach" jH f fd)(T:Txt K mg cc cw):FnOk P w K mg base CX0 1 f fd ["self","place","row"] (spRe cc cw):=by
 show F.ok um fun _ _ _ _ H vs Q E U h=>?_
 .obtain⟨H0,a,ss,ns,qs,S,bs,dn,wt,lo,p,t,r,rfl,h,R,W,i,s,m,q⟩:=h;have X:=jW U;have g:=h.few;have l:p∉dn++wt:=fun z=>(h.evi p).mp z m;show⟨_,(qc (jY (pv 2) (j6 (qA (K:=K) rfl (pv 0) rfl) (pv 1) (j8 X)))
 (qf (qO (qa9 (K:=K) rfl yN Yb Yc qR (qA (K:=K) rfl (pv 0) rfl) (qa (pv 1) qd))))),?_⟩
  ext;obtain⟨⟨n1,n2,n3,n4,n5⟩,⟨n6,n7,C,D⟩,⟨aa,ac,A⟩,⟨ad,B⟩,b⟩:=(by simpa [Fo.six] using h.sep:(¬a.x=a.dr/\¬a.x=a.da/\¬a.x=a.ds/\¬a.x=a.dg/\¬a.x=a.dw)/\(¬a.dr=a.da/\¬a.dr=a.ds/\¬a.dr=a.dg/\¬a.dr=a.dw)/\(¬a.da=a.ds/\¬a.da=a.dg/\¬a.da=a.dw)/\(¬a.ds=a.dg/\¬a.ds=a.dw)/\¬a.dg=a.dw);obtain⟨j,r1,r2,r3⟩:=h.row;obtain⟨Z,p1,p2,p3⟩:=h.par;obtain⟨ks,J,L,M⟩:=h.bas;obtain⟨xs,N,O⟩:=h.rng;show .inl (h.obj.rd T 2 rfl ?_);apply .inr ⟨a.dr,_,rfl,DPut.k (k:=Sum.inr p) r1 (by rw[Yi];lk),?_⟩;have G:FoO (cc 9) (upd H a.dr (.dK (zo j (Sum.inr p) (.ref t)))) a lo:=h.obj.eq (qe n1);have I:upd H a.dr (.dK (zo j (Sum.inr p) (.ref t))) a.dw=some (.lst (wt.map V.str)):=by rw[qe (yZ D)];show h.wai
  apply .inl (G.rd T 6 rfl ?_);show⟨.inl ⟨rfl,_,.of I⟩,?_⟩;apply⟨a.dw,_,_,rfl,rfl,I,by rw[ya];show qi (by rw[yu] at g;lk),?_⟩;have u:∀{c:Addr} {o o':HO},c∉a.six->upd (upd H a.dr o) a.dw o' c=H c:=fun hc=>by rw[qe (fun z=>hc (by rw[z];simp[Fo.six])),qe (fun z=>hc (by rw[z];simp[Fo.six]))]
  have d:Bx a.six H (upd (upd H a.dr (.dK (zo j (Sum.inr p) (.ref t)))) a.dw (.lst (wt.map V.str++[.str p]))):=fun c o n e=>by rw[u n];show e
  show q _ ⟨qaA (qaA h.sm (h.fr _ (by simp[Fo.six]))) (h.fr _ (by simp[Fo.six])),h.web,h.prt,h.fr,h.nd,fun c hc=>⟨(h.exf c hc).1,(h.exf c hc).2.1,(h.exf c hc).2.2.elim fun o e=>⟨o,d _ _ (h.exf c hc).2.1 e⟩⟩,G.eq (qe n5),⟨_,by rw[qe D,qb],?_,fun z=>?_⟩,⟨Z,by rw[qe A,qe (yZ n6)];show p1,p2,p3⟩,⟨ks,by rw[qe B,qe (yZ n7)];show J,L,M⟩,⟨xs,by rw[qe b,qe (yZ C)];show N,?_⟩,by rw[qb,yH];rfl,?_,fun v=>?_,fun v hv=>?_,h.rgl.mono d Fo.sub fun o e=>by rw[qe b,qe (yZ C)];show e⟩ d fun o e=>by(rw[qe b,qe (yZ C)];show e)
  .have:=jD j (Sum.inr p:Key) (.ref t);rw[<- Yh,yu (bs:=[p])];show _<=_+1;lk
  .unfold FS.setRow;dsimp only;rw[qaC];by_cases e:z=p
   .subst e;rw[yF rfl,yF rfl];show⟨t,rfl,d _ _ (fun y=>i (Fo.sub _ y)) W,i⟩
   .rw [yA (fun y=>e (xE y)),yA e];show(r3 z).mono d Fo.sub
  .rw [<- Yh,yu (bs:=[p])];show Xe O
  .rw [<- Yh];show Yd.mpr ⟨h.evn,xm _ _,fun x u y Y e=>l (by rw[<- yz.mp Y,<- e];show u)⟩
  .rw [<- Yh,yC,yz,h.evi];unfold FS.setRow;dsimp only;by_cases e:v=p
   .subst e;rw[yF rfl];show⟨(fun _ z=>by cases z),fun _=>.inr rfl⟩
   .rw [yA e];show⟨fun z=>z.resolve_right e,.inl⟩
  .rw [<- Yh] at hv;rcases yC.mp hv with z | z
   .show h.evs v z
   .rw [yz.mp z];show s
end
theorem Kh:FnScope ["self","place","bases","below"] ["self","place"] (qg qN):=fS
theorem atI_last{xs:LS}:atI ((xs++[c]).map V.str) (-1)=some (.str c):=by
 have e:ixN ((xs++[c]).map V.str).length (-1)=some xs.length:=by
  unfold ixN;rw[yA (by lk),yF (by rw[ya,yu];simp;lk)]
  congr 1
  rw[ya,yu];simp only[yD,xD];lk
 unfold atI;rw[e];show((xs++[c]).map V.str)[xs.length]?=_;rw[yd,yy (yh _),Xl];rfl
theorem Ch.cases'{f:Str->Option Str}{t:LS}(h:Ch f S b (b::t)):(f b=none/\t=[])\/∃ q z,f b=some q/\S.par q=some z/\Ch f S (S.bas z) t:=by
 generalize e:b::t=l at h
 cases h with
 | root h=>cases e;show .inl ⟨h,rfl⟩
 | step h1 h2 h3=>cases e;show .inr ⟨_,_,h1,h2,h3⟩
theorem in_prK{d:Addr}{Q:VK}(a:H d=some (.dK (prK qs)))(q:Q (.bl (pt qs s).isSome) H):qeh K false (.str s) (.ref d) H Q:=by
 show .inr (.inl ⟨d,_,rfl,DGet.k (k:=Sum.inr s) a,?_⟩);rw[jE,yA (by decide),Xc];show q
theorem qdY{d:Addr}{v:V}{Q:VK}(a:H d=some (.dK kvs))(e:j4 kvs (.inr s:Key)=some v)(q:Q v H):qe8 K (.ref d) (.str s) H Q:=.inr ⟨d,v,rfl,by rw[<- e];show DGet.k (k:=Sum.inr s) a,q⟩
theorem ok_bd(F:Fun K "bases_down_from" "Forest.bases_down_from" qN f fd)(T:Txt K mg cc cw):FnOk P w K mg base CX0 1 f fd ["self","place"] (spBd cc cw):=by
 show F.ok Kh fun _ _ _ _ H vs Q E hr h=>?_
 .obtain⟨H0,a,ss,ns,qs,S,dn,wt,lo,p,r,l,B,rfl,h,ad,I,hp,y,aa,q⟩:=h;have n:=jW hr;show⟨_,(qc (qt (i:=2) Kh.nd rfl (yP rfl) (qY (qa (qu (qv (K:=K) rfl n) (qA (K:=K) rfl (pv 0) rfl) (pv 1) (fun _ _=>rfl)) qd)))
 (qc (qaB yT (qj (j5 (K:=K) rfl n) (qu (qv (K:=K) rfl n) (pv 2) (qbu qag qh) (fun _ _=>rfl)) (qA (K:=K) rfl (pv 0) rfl) (by with_unfolding_all rfl))
 (qc (qt (i:=3) Kh.nd rfl (yP rfl) (qu (qv (K:=K) rfl n) (qA (K:=K) rfl (pv 0) rfl) (qu (qv (K:=K) rfl n) (qA (K:=K) rfl (pv 0) rfl) (qu (qv (K:=K) rfl n) (pv 2) (qbu qag qh) (fun _ _=>rfl)) (fun _ _=>rfl)) (fun _ _=>rfl)))
 (qf (qO (qa9 (K:=K) rfl yN Yb Yc qR (pv 2) (qa (qu (qv (K:=K) rfl n) (qA (K:=K) rfl (pv 0) rfl) (pv 3) (fun _ _=>rfl)) qd))))))
 (qf (qk (pv 2))))),?_⟩
  have u:∀{v:Str} {r:LS},S.rows v=some r->v∈ss:=fun e=>h.evs _ ((h.evi _).mpr (by rw[e];show fun z=>by cases z));obtain⟨ks,b1,b2,b3⟩:=h.bas;apply .inl (h.obj.rd T 4 rfl ?_);apply qdY b1 (b3 p (u hp)) ?_;apply⟨by show 1<=sizeLine;decide,fun bl j=>?_⟩;have s1:=qH (Sr H) (o:=.lst [.str (S.bas p)]) j;have e1:upd H bl (.lst [.str (S.bas p)]) bl=some (.lst (([]++[S.bas p]).map V.str)):=qb;generalize upd H bl (.lst [.str (S.bas p)])=H1 at s1 e1;ext;obtain⟨W,g⟩:∃ W:Nat->L2.St->Hp->Prop,W=fun m σ J=>∃(l1 l2:LS) (c:Str) (y3:Option V),l=l1++c::l2/\σ=[some (.ref a.x),some (.str p),some (.ref bl),y3]/\L2.Same H J/\J bl=some (.lst ((l1++[c]).map V.str))/\m=l2.length:=⟨_,rfl⟩;obtain⟨t0,R⟩:=y.ne;show⟨W,⟨t0.length,by rw[g];show⟨[],t0,_,_,R,rfl,s1,e1,rfl⟩⟩,fun m σ J hW=>?_⟩;rw[g] at hW;obtain⟨l1,l2,c,y3,M,rfl,sJ,s,hm⟩:=hW;obtain⟨rc,_,Y,U,A,_⟩:=y.up I hp rfl M;have d:=h.same sJ;have D:=d.sm _ _ h.prt;apply⟨1,rfl,?_⟩;show .inl (zH s (v:=.str c) atI_last ?_);apply .inl (d.obj.rd T 1 rfl ?_);show in_prK D ?_;rcases A.cases' with⟨C,rfl⟩ | ⟨q',z,C,G,X⟩
  .rw [C];show⟨_,rfl,qL (fun h=>by cases h) fun _=>?_⟩;apply q bl J sJ j (by rw[M];show s)
  .rw [C];show⟨_,rfl,zr ⟨fun L H'=>∃ m',m'<m/\W m' L H',fun L H' z=>z,?_⟩⟩;obtain⟨_,z',rz,b,Z,_⟩:=I.dwn c rc q' Y U C;rw[G] at b;cases b;obtain⟨ka,p1,p2,p3⟩:=d.par;obtain⟨ae,N,ac,O⟩:=d.bas;apply .inl (d.obj.rd T 3 rfl ?_);apply .inl (d.obj.rd T 1 rfl ?_);apply⟨1,rfl,?_⟩;show .inl (zH s (v:=.str c) atI_last ?_);show qdY D (by rw[jE,C];rfl) ?_;show qdY p1 (by rw[p3,G];rfl) ?_;apply⟨.inl ⟨rfl,_,.of s⟩,?_⟩;apply .inl (d.obj.rd T 4 rfl ?_);apply qdY N (O z (u Z)) ?_;apply⟨bl,_,_,rfl,rfl,s,by rw[ya];show qi (by have:=congrArg List.length M;rw[yu,yD] at this;rw[yu];simp only[yD,xD];lk),?_⟩;obtain⟨t1,t⟩:=X.ne;rw[g];show⟨t1.length,by rw[hm,t];simp,l1++[c],t1,S.bas z,_,by rw[M,t];simp,rfl,qaA sJ j,by rw[qb,yH (l₁:=l1++[c])];rfl,rfl⟩
theorem Kd:FnScope ["self","one","other","bases","side","base","place","row"] ["self","one","other","bases"] (qg q0):=fS
structure RR(f:Str->Option Str)(S S':FS)(v w:Str)(cs:LS):Prop where
 par:S'.par=S.par
 bas:S'.bas=S.bas
 rg:S'.rgs=S.rgs
 old:∀ u r,S.rows u=some r->S'.rows u=some r
 new:∀ u r,S'.rows u=some r->S.rows u=some r\/∃ c∈cs,f c=some u/\NewRow S v w u r
 all:∀ c∈cs,∀ q,f c=some q->∃ r,S'.rows q=some r
inductive spRr(cc:Nat->Addr)(cw:Addr)(vs:List V)(H:Hp)(Q:VK)(E:XK):Prop|mk (H0:Hp) (a:Fo) (ss:LS) (ns:LN) (qs:LP) (S:FS) (dn wt:LS) (lo:V) (v w:Str) (lb:Addr) (cs rv rw:LS) (_:vs=[.ref a.x,.str v,.str w,.ref lb]) (_:FoA (cc 9) cw H0 H a ss ns qs S ss dn wt lo) (_:ss.length<=14) (_:H lb=some (.lst (cs.map V.str))) (_:lb∉a.six) (_:S.rows v=some rv) (_:S.rows w=some rw) (_:rv.length<=14) (_:rw.length<=14) (_:rv.Nodup) (_:cs.Nodup) (_:cs.length<=14) (_:(qp qs).Nodup) (_:(∀ c∈cs,∃ q rz t,pt qs c=some q/\S.rows q=none/\q∈ss/\rv=rz++q::t)) (_:∀(t:Addr) (sd more:LS) (H':Hp) (S':FS),FoA (cc 9) cw H0 H' (a.add t) ss ns qs S' ss dn (wt++more) lo->Bx a.six H H'->H t=none->H' t=some (.lst (sd.map V.str))->(∀ u,u∈sd↔∃ c∈cs,u=c\/pt qs c=some u)->sd.length=2*cs.length->more.length=cs.length->RR (pt qs) S S' v w cs->(∀ o,H a.dg=some o->H' a.dg=some o)->Q (.ref t) H')
theorem qcz{t:LS}(a:(rz++q::t).Nodup):(rz++q::t).idxOf q=rz.length:=by
 show qep a (by rw[yy (yh _),Xl];rfl)
theorem qd5{a b:Addr}{Q:VK}(c:G a=some (.lst xs))(d:G b=some (.lst ys))(hl:xs.length+ys.length<=1000)(q:∀ p,G p=none->Q (.ref p) (upd G p (.lst (xs++ys)))):qdd K (.ref a) (.ref b) G Q:=.inl ⟨a,b,_,_,rfl,rfl,c,d,yi hl (by decide),q⟩
theorem ok_rr(F:Fun K "reach_round" "Forest.reach_round" q0 f fd)(T:Txt K mg cc cw)(Kk:MethOk P w K mg base CX0 1 (cc 9) "reach" ["self","place","row"] (spRe cc cw)):FnOk P w K mg base CX0 2 f fd ["self","one","other","bases"] (spRr cc cw):=by
 show F.ok Kd fun _ _ _ _ H vs Q E hr h=>?_
 .obtain⟨H0,a,ss,ns,qs,S,dn,wt,lo,v,w,lb,R,rv,b,rfl,h,ap,G,ba,hv,hw,bd,bm,ak,ax,bh,aj,ay,q⟩:=h;have hu:=jW hr;show⟨_,(qc (qt (i:=4) Kd.nd rfl (yP rfl) (qY qd))
 (qc (q9 yT rfl (qK (K:=K) rfl (pv 3)) (qm (i:=5) Kd.nd rfl (yP rfl))
 (qc (qt (i:=6) Kd.nd rfl (yP rfl) (qu (qv (K:=K) rfl hu) (qA (K:=K) rfl (pv 0) rfl) (pv 5) (fun _ _=>rfl)))
 (qc (qt (i:=7) Kd.nd rfl (yP rfl) (qu (qv (K:=K) rfl hu) (qA (K:=K) rfl (pv 0) rfl) (pv 1) (fun _ _=>rfl)))
 (qc (qO (qF Kk (hmR hr) (pv 0) (qa (pv 6) (qa (qI (zh (K:=K) rfl) (qu (qv (K:=K) rfl hu) (qA (K:=K) rfl (pv 0) rfl) (pv 2) (fun _ _=>rfl)) (qej (K:=K) rfl (jg (qcW (K:=K) rfl) (pv 7) (ji (qa9 (K:=K) rfl yN xl xQ (qbx (K:=K) rfl) (pv 7) (qa (pv 6) qd))) jy) (ji (qbu qag qh)))) qd))))
 (qf (qO (qa9 (K:=K) rfl yN PySem.F.slot_list_extend PySem.F.type_list_extend qbo (pv 4) (qa (qY (qa (pv 5) (qa (pv 6) qd))) qd))))))))
 (qf (qk (pv 4))))),?_⟩
  apply⟨by show 0<=sizeLine;decide,fun g p=>?_⟩;have s1:=qH (Sr H) (o:=.lst []) p;have h1:=h.add (o:=.lst []) p;have Y:upd H g (.lst []) g=some (.lst (([]:LS).map V.str)):=qb;have bn:lb≠g:=fun z=>by rw[z,p] at G;cases G
  generalize upd H g (.lst [])=H1 at s1 h1 Y;ext;obtain⟨LI,A⟩:∃ LI:Nat->L2.St->Hp->Prop,LI=fun i σ J=>∃(S':FS) (more D:LS) (y5 y6 y7:Option V),σ=[some (.ref a.x),some (.str v),some (.str w),some (.ref lb),some (.ref g),y5,y6,y7]/\FoA (cc 9) cw H0 J (a.add g) ss ns qs S' ss dn (wt++more) lo/\Bx a.six H J/\J g=some (.lst (D.map V.str))/\(∀ u,u∈D↔∃ c∈R.take i,u=c\/pt qs c=some u)/\D.length=2*i/\more.length=i/\RR (pt qs) S S' v w (R.take i)/\∀ o,H a.dg=some o->J a.dg=some o:=⟨_,rfl⟩;show .inl ⟨⟨_,.of (s1 _ _ G)⟩,qP (xs:=R.map V.str) LI (by rw[A];show⟨S,[],[],_,_,_,rfl,by rw[Ye];show h1,Bx.of s1,Y,fun u=>by simp,rfl,rfl,⟨rfl,rfl,rfl,fun _ _ e=>e,fun _ _ e=>.inl e,fun c hc=>by simp at hc⟩,fun o e=>s1 _ _ e⟩) (fun i σ J _ O=>?_) (fun i y σ J hy O=>?_) fun σ J O=>?_⟩
  .rw [A] at O;obtain⟨S',more,D,y5,y6,y7,rfl,s,W,_⟩:=O;show .of (W _ _ ba G)
  .rw [A] at O;obtain⟨S',more,D,y5,y6,y7,rfl,s,W,eJ,L,l,I,B,U⟩:=O;rw[yd] at hy;obtain⟨c,hc,rfl⟩:=yo.mp hy;have aw:=ye hc;obtain⟨z,rz,t,hz,al,bg,m⟩:=ay c aw;have bi:i<R.length:=(yc.mp hc).1;have M:R.take (i+1)=R.take i++[c]:=by rw[yM,hc];rfl
   have bc:=s.sm _ _ h.prt;obtain⟨kr,r1,r2,r3⟩:=s.row
   have rowOf:∀{u:Str} {r:LS},S.rows u=some r->∃ t,j4 kr (.inr u:Key)=some (.ref t)/\J t=some (.lst (r.map V.str)):=fun{u r} e=>by
    have:=r3 u;rw[B.old u r e] at this;obtain⟨t,k1,k2,_⟩:=this;show⟨t,k1,k2⟩
   obtain⟨tv,kv,ev⟩:=rowOf hv;obtain⟨tw,kw,ew⟩:=rowOf hw;apply .inl (s.obj.rd T 1 rfl ?_);apply qdY bc (by rw[jE,hz];rfl) ?_;apply .inl (s.obj.rd T 2 rfl ?_);apply qdY r1 kv ?_;ext;obtain⟨dx,fs,be,_,_,_,bf⟩:=id s.obj;show⟨a.x,dx,fs,rfl,be,bf _ (by room),?_⟩;apply .inl (s.obj.rd T 2 rfl ?_);apply qdY r1 kw ?_;apply qfX ?_;apply⟨.inl ⟨rfl,_,.of ev⟩,?_⟩;apply⟨tv,rv,z,rfl,rfl,.of ev,by rw[m];simp,_,rfl,?_⟩;rw[m] at ak;have ao:rv.idxOf z=rz.length:=by rw[m];show qcz ak
   rw[ao];apply .inl ⟨tv,_,rfl,.of ev,fun c1 ar=>?_⟩;have af:qbb (rv.map V.str) (some ((rz.length:Nat):Int)) none=(z::t).map V.str:=by rw[qb6,m,yH,List.drop_left' (by simp)]
   rw[af];have t1:=qH (Sr J) (o:=.lst ((z::t).map V.str)) ar;have aa:upd J c1 (.lst ((z::t).map V.str)) c1=some (.lst ((z::t).map V.str)):=qb;generalize upd J c1 (.lst ((z::t).map V.str))=J1 at t1 aa;apply⟨1,rfl,?_⟩;show⟨_,rfl,rfl,c1,_,rfl,.of aa,fun c2 au=>?_⟩;have t2:=qH t1 (o:=.lst ((z::t).map V.str).reverse) au;have ac:upd J1 c2 (.lst ((z::t).map V.str).reverse) c2=some (.lst ((z::t).reverse.map V.str)):=by rw[qb,List.map_reverse]
   generalize upd J1 c2 (.lst ((z::t).map V.str).reverse)=J2 at t2 ac;have bj:(z::t).length<=14:=by rw[m,yu] at bd;lk
   show qd5 (t2 _ _ ew) ac (by rw[ya,ya,Yz];lk) fun c3 ag=>?_;have aq:=s.same t2;have n3:=aq.newA ag;have t3:=qH t2 (o:=.lst (b.map V.str++(z::t).reverse.map V.str)) ag;have ad:upd J2 c3 (.lst (b.map V.str++(z::t).reverse.map V.str)) c3=some (.lst ((b++(z::t).reverse).map V.str)):=by rw[qb,yH]
   generalize upd J2 c3 (.lst (b.map V.str++(z::t).reverse.map V.str))=J3 at t3 ad
   have ah:c∉R.take i:=fun y=>by
    obtain⟨j,hj⟩:=yf y;have az:=(yc.mp hj).1;rw[yO] at az;rw[kg,yF (by lk)] at hj;have:=qy ax hj hc;lk
   have am:S'.rows z=none:=by
    cases e:S'.rows z with
    | none=>rfl
    | some r =>
     exfalso;rcases B.new z r e with y | ⟨N,C,y,_⟩
     .rw [al] at y;cases y
     .have Y:=(qdP aj).mp y;rw[(qdP aj).mp hz] at Y;rw[<- yn Y] at C;show ah C
   apply⟨H0,a.add g,ss,ns,qs,S',ss,dn,wt++more,lo,z,c3,b++(z::t).reverse,rfl,s.same t3,ap,ad,n3,bg,am,fun J4 h4 X ai=>?_⟩;have an:g∉a.six:=h.new p;have Z:J4 g=some (.lst (D.map V.str)):=X _ _ an (t3 _ _ eJ);apply⟨.inl ⟨rfl,_,.of Z⟩,?_⟩;apply⟨by show 2<=sizeLine;decide,fun c5 av=>?_⟩;have t5:=qH (Sr J4) (o:=.lst [.str c,.str z]) av;have ae:upd J4 c5 (.lst [.str c,.str z]) c5=some (.lst [.str c,.str z]):=qb;generalize upd J4 c5 (.lst [.str c,.str z])=J5 at t5 ae;have h5:=h4.same t5;apply⟨g,c5,_,_,rfl,rfl,t5 _ _ Z,ae,by rw[ya,Yi];show _+2<=_;lk,?_⟩;have h6:=h5.updE (c:=g) (o:=.lst (D.map V.str++[.str c,.str z])) yG;rw[A];show⟨S'.setRow z (b++(z::t).reverse),more++[z],D++[c,z],_,_,_,rfl,by rw[<- Yh wt];show h6,?_,by rw[qb,yH];rfl,fun u=>?_,by rw[yu,l];show _+2=_;lk,by rw[yu,I];rfl,⟨B.par,B.bas,B.rg,fun u r e=>?_,fun u r e=>?_,fun N C q' e=>?_⟩,fun o e=>?_⟩
   .show fun d o n e=>by
     have ne:d≠g:=fun y=>by rw[y,p] at e;cases e
     rw[qe ne];show t5 _ _ (X _ _ n (t3 _ _ (W _ _ n e)))
   .rw [M,yC,L];simp only[yC,yB,yW,YU];constructor
    .rintro (⟨N,h1,h2⟩ | rfl | rfl)
     .show⟨N,.inl h1,h2⟩
     .show⟨u,.inr rfl,.inl rfl⟩
     .show⟨c,.inr rfl,.inr hz⟩
    .rintro ⟨N,h1 | rfl,h2⟩
     .show .inl ⟨N,h1,h2⟩
     .rcases h2 with h2 | h2
      .show .inr (.inl h2)
      .rw [hz] at h2;show .inr (.inr (yn h2).symm)
   .show(if u=z then _ else S'.rows u)=_;rw[yA (fun y=>by rw[y,al] at e;cases e)];show B.old u r e
   .have e':(if u=z then some (b++(z::t).reverse) else S'.rows u)=some r:=e;by_cases y:u=z
    .subst y;rw[yF rfl] at e';show .inr ⟨c,by rw[M];simp,hz,rv,b,rz,t,hv,hw,m,(yn e').symm⟩
    .rw [yA y] at e';rcases B.new u r e' with x | ⟨N,h1,h2⟩
     .show .inl x
     .show .inr ⟨N,by rw[M];show yJ _ h1,h2⟩
   .show ∃ r,(if q'=z then some (b++(z::t).reverse) else S'.rows q')=some r;by_cases y:q'=z
    .rw [yF y];show⟨_,rfl⟩
    .rw [yA y];rw[M] at C;rcases yC.mp C with x | x
     .show B.all N x q' e
     .rw [yz.mp x,hz] at e;show absurd (yn e).symm y
   .have ne:a.dg≠g:=fun y=>an (by rw[<- y];simp[Fo.six]);rw[qe ne];show t5 _ _ (ai o (t3 _ _ (U o e)))
  .rw [A] at O;obtain⟨S',more,D,y5,y6,y7,rfl,s,W,eJ,L,l,I,B,U⟩:=O;rw[ya] at l I;rw[ya,yQ] at L B;apply q g D more J S' s W p eJ L l I B U
theorem KA:FnScope ["self","ring","meeting","within","place"] ["self","ring","meeting"] (qg jB):=fS
noncomputable def FS.setBas(S:FS)(l:LS)(m:Str):FS:=⟨S.rows,S.par,fun u=>if u∈l then m else S.bas u,S.rgs⟩
noncomputable def FS.addRg(S:FS)(R:LS):FS:=⟨S.rows,S.par,S.bas,S.rgs++[R]⟩
noncomputable def wnL(S:FS)(ss a:LS)(m:Str):LS:=ss.filter fun u=>decide (S.bas u∈a++[m])
inductive spFd(cc:Nat->Addr)(cw:Addr)(vs:List V)(H:Hp)(Q:VK)(E:XK):Prop|mk (H0:Hp) (a:Fo) (ss:LS) (ns:LN) (qs:LP) (S:FS) (dn wt:LS) (lo:V) (lr:Addr) (rg:LS) (m:Str) (xs:List V) (_:vs=[.ref a.x,.ref lr,.str m]) (_:FoA (cc 9) cw H0 H a ss ns qs S ss dn wt lo) (_:ss.length<=14) (_:H lr=some (.lst (rg.map V.str))) (_:lr∉a.six) (_:rg.length<=100) (_:H a.dg=some (.lst xs)) (_:xs.length<(dn++wt).length) (_:∀ H',FoA (cc 9) cw H0 H' a ss ns qs ((S.setBas (wnL S ss rg m) m).addRg (wnL S ss rg m)) ss dn wt lo->Bx a.six H H'->Q .non H')
theorem put_len{k:Key}{v u:V}(h:j4 kvs k=some u):(zo kvs k v).length=kvs.length:=by
 unfold zo;rw[zN,h];show ya _
theorem zK{z:Str}{Q:VK}(a:H n=some (.lst (ss.map V.str)))(q:Q (.bl (decide (z∈ss))) H):qeh K false (.str z) (.ref n) H Q:=
 .inl ⟨n,_,rfl,.inl (.of a),rfl,YA.mpr fun x b=>by(obtain⟨s,_,rfl⟩:=YJ.mp b;rfl),by rw[yA (by decide),qdM];show q⟩
theorem FoA.setB{a:Fo}{ks:List (Key×V)}{l:LS}{z:Str}(h:FoA (cc 9) cw H0 H a ss ns qs (S.setBas l m) ss dn wt lo)(t:H a.ds=some (.dK ks))(hz:z∈ss):FoA (cc 9) cw H0 (upd H a.ds (.dK (zo ks (Sum.inr z) (.str m)))) a ss ns qs (S.setBas (l++[z]) m) ss dn wt lo/\ks.length<=ss.length:=by
 obtain⟨A,K,L,M⟩:=h.row;obtain⟨w,G,I,J⟩:=h.par;obtain⟨k,i,j,p⟩:=h.bas;obtain⟨xs,r,s⟩:=h.rng;rw[t] at i;cases i;obtain⟨⟨N,O,E,P,R⟩,⟨T,F,U,W⟩,⟨f,B,C⟩,⟨b,g⟩,D⟩:=(by simpa [Fo.six] using h.sep:(¬a.x=a.dr/\¬a.x=a.da/\¬a.x=a.ds/\¬a.x=a.dg/\¬a.x=a.dw)/\(¬a.dr=a.da/\¬a.dr=a.ds/\¬a.dr=a.dg/\¬a.dr=a.dw)/\(¬a.da=a.ds/\¬a.da=a.dg/\¬a.da=a.dw)/\(¬a.ds=a.dg/\¬a.ds=a.dw)/\¬a.dg=a.dw);have d:Bx a.six H (upd H a.ds (.dK (zo ks (Sum.inr z) (.str m)))):=fun c o n e=>by rw[qe (fun y=>n (by rw[y];simp[Fo.six]))];show e
 show⟨⟨qaA h.sm (h.fr _ (by simp[Fo.six])),h.web,h.prt,h.fr,h.nd,fun c hc=>⟨(h.exf c hc).1,(h.exf c hc).2.1,(h.exf c hc).2.2.elim fun o e=>⟨o,d _ _ (h.exf c hc).2.1 e⟩⟩,h.obj.eq (qe E),⟨A,by rw[qe F];show K,L,fun y=>(M y).mono d Fo.sub⟩,⟨w,by rw[qe f];show G,I,J⟩,⟨_,qb,by rw[put_len (p z hz)];show j,fun u v=>?_⟩,⟨xs,by rw[qe (yZ b)];show r,s⟩,by rw[qe (yZ g)];show h.wai,h.evn,h.evi,h.evs,h.rgl.mono d Fo.sub fun o e=>by rw[qe (yZ b)];show e⟩,j⟩;rw[qaC,p u v];show(if _ then _ else _)=some (V.str (if u∈l++[z] then m else S.bas u));have q:(S.setBas l m).bas u=if u∈l then m else S.bas u:=rfl;rw[q];by_cases e:u=z
 .subst e;rw[yF rfl,yF (by simp)]
 .rw [yA (fun x=>e (xE x))];by_cases y:u∈l
  .rw [yF y,yF (yJ _ y)]
  .rw [yA y,yA (fun x=>(yC.mp x).elim y fun x=>e (yz.mp x))]
theorem FoA.updG{a:Fo}{bs:LS}{b:Addr}{i:LS}(h:FoA (cc 9) cw H0 H a ss ns qs S bs dn wt lo)(v:H a.dg=some (.lst xs))(hw:H b=some (.lst (i.map V.str)))(d:b∉a.all)(l:i=ss.filter fun u=>decide (u∈i))(w:(xs++[V.ref b]).length<=(dn++wt).length):FoA (cc 9) cw H0 (upd H a.dg (.lst (xs++[V.ref b]))) a ss ns qs (S.addRg i) bs dn wt lo:=by
 obtain⟨B,L,M,N⟩:=h.row;obtain⟨A,I,J,K⟩:=h.par;obtain⟨k,q,r,s⟩:=h.bas;obtain⟨⟨T,U,W,F,X⟩,⟨Y,Z,G,n9⟩,⟨C,m,D⟩,⟨n,E⟩,p⟩:=(by simpa [Fo.six] using h.sep:(¬a.x=a.dr/\¬a.x=a.da/\¬a.x=a.ds/\¬a.x=a.dg/\¬a.x=a.dw)/\(¬a.dr=a.da/\¬a.dr=a.ds/\¬a.dr=a.dg/\¬a.dr=a.dw)/\(¬a.da=a.ds/\¬a.da=a.dg/\¬a.da=a.dw)/\(¬a.ds=a.dg/\¬a.ds=a.dw)/\¬a.dg=a.dw);have f:Bx a.six H (upd H a.dg (.lst (xs++[V.ref b]))):=(Bx.of (Sr H)).upd (by simp[Fo.six]);obtain⟨us,g,O,P⟩:=h.rgl;rw[v] at g;have j:xs=us.map V.ref:=by injection g with g;injection g
 show⟨qaA h.sm (h.fr _ (by simp[Fo.six])),h.web,h.prt,h.fr,h.nd,fun c hc=>⟨(h.exf c hc).1,(h.exf c hc).2.1,(h.exf c hc).2.2.elim fun o e=>⟨o,f _ _ (h.exf c hc).2.1 e⟩⟩,h.obj.eq (qe F),⟨B,by rw[qe G];show L,M,fun y=>(N y).mono f Fo.sub⟩,⟨A,by rw[qe m];show I,J,K⟩,⟨k,by rw[qe n];show q,r,s⟩,⟨_,qb,w⟩,by rw[qe (yZ p)];show h.wai,h.evn,h.evi,h.evs,us++[b],by rw[qb,j,yH];rfl,(O.mono fun u R z=>⟨f _ _ (fun y=>z.2 (Fo.sub _ y)) z.1,z.2⟩).snoc ⟨f _ _ (fun y=>d (Fo.sub _ y)) hw,d⟩,fun R t=>(yC.mp t).elim (P R) fun z=>by rw[yz.mp z];show l⟩
theorem ok_fdF(F:Fun K "fold" "Forest.fold" jB f fd)(T:Txt K mg cc cw)(Kp:MethOk P w K mg base CX0 1 cw "places" ["self"] (spPls cw)):FnOk P w K mg base CX0 2 f fd ["self","ring","meeting"] (spFd cc cw):=by
 show F.ok KA fun _ _ _ _ H vs Q E hr h=>?_
 .obtain⟨H0,a,ss,ns,qs,S,dn,wt,lo,lr,d,m,xs,rfl,h,ao,ae,ar,au,ac,av,q⟩:=h;have v:=jW hr;show⟨_,(qc (qaw (sc:=qg jB) (XN:=["self","ring","meeting","within","place"]) ["place","ring","self","meeting"] 1 [1,0,2] rfl rfl rfl (by room) rfl (by room) (i:=3) KA.nd rfl rfl
  (qK (K:=K) rfl (je Kp (hmR hr) (qA (K:=K) rfl (pv 0) rfl))) (fun _ _ _ _=>(qm (i:=0) (show(["place","ring","self","meeting"]:LS).Nodup by room) rfl (yP rfl))) qU
  (fun _ _ _ _=>(jk (qj (j5 (K:=K) rfl v) (qu (qv (K:=K) rfl v) (qA (K:=K) rfl (pv 2) rfl) (pv 0) (fun _ _=>rfl)) (qI (zh (K:=K) rfl) (pv 1) (qY (qa (pv 3) qd))) (by with_unfolding_all rfl))))
  (fun _ _ _ _=>(pv 0)))
 (qc (q9 yT rfl (qK (K:=K) rfl (pv 3)) (qm (i:=4) KA.nd rfl (yP rfl))
 (qf (jY (pv 2) (j6 (qA (K:=K) rfl (pv 0) rfl) (pv 4) (j8 v)))))
 (qf (qO (qa9 (K:=K) rfl yN Yb Yc qR (qA (K:=K) rfl (pv 0) rfl) (qa (pv 3) qd)))))),?_⟩
  have am:=h.few;have D:=h.web.same h.sm;obtain⟨wx,dd,ol,nn,hb,_⟩:=id D;apply .inl (h.obj.rd T 0 rfl ?_);show⟨a.b,wx,_,rfl,hb,zE (by room),?_⟩;apply⟨a.b,ss,ns,rfl,D,fun pl af=>?_⟩;have s1:=qH (Sr H) (o:=.lst (ss.map V.str)) af;have Y:upd H pl (.lst (ss.map V.str)) pl=some (.lst (ss.map V.str)):=qb;generalize upd H pl (.lst (ss.map V.str))=H1 at s1 Y;show .inl ⟨⟨_,.of Y⟩,qE (xs:=ss.map V.str) (fun i ys J=>L2.Same H1 J/\ys=((ss.take i).filter fun u=>decide (S.bas u∈d++[m])).map V.str) ⟨L2.Same.refl H1,rfl⟩ (fun i ys J _ j=>.of (j.1 _ _ Y)) (fun i y ys J G j=>?_) fun ys J j=>?_⟩
  .obtain⟨I,rfl⟩:=j;rw[yd] at G;obtain⟨z,hz,rfl⟩:=yo.mp G;have g:=s1.trans I;have l:=h.same g;obtain⟨ks,N,b2,b3⟩:=l.bas;have ap:=(yc.mp hz).1
   have t:(ss.take (i+1)).filter (fun u=>decide (S.bas u∈d++[m]))=(ss.take i).filter (fun u=>decide (S.bas u∈d++[m]))++(if S.bas z∈d++[m] then [z] else []):=by
    rw[yM,hz,Yg];show _++[z].filter _=_;rw[yX];simp only[kB,Yv]
   apply .inl (l.obj.rd T 4 rfl ?_);apply qdY N (b3 z (ye hz)) ?_;apply⟨by show 1<=sizeLine;decide,fun W Z=>?_⟩;have t1:=qH (Sr J) (o:=.lst [.str m]) Z;have B:upd J W (.lst [.str m]) W=some (.lst [.str m]):=qb;generalize upd J W (.lst [.str m])=J1 at t1 B;show qd5 ((g.trans t1) _ _ ae) B (by rw[ya];show _+1<=_;lk) fun X aa=>?_;have t2:=qH t1 (o:=.lst (d.map V.str++[.str m])) aa;have C:upd J1 X (.lst (d.map V.str++[.str m])) X=some (.lst ((d++[m]).map V.str)):=by rw[qb,yH];rfl
   generalize upd J1 X (.lst (d.map V.str++[.str m]))=J2 at t2 C;show zK C ⟨_,rfl,?_⟩;rw[t];by_cases p:S.bas z∈d++[m]
   .rw [yS p,yF p];show zr ?_;ext;have ad:=yV (fun u=>decide (S.bas u∈d++[m])) (ss.take i);rw[yO] at ad;show⟨by rw[ya];show qi (by lk),I.trans t2,by rw[yH];rfl⟩
   .rw [yl p,yA p,Ye];show yr ?_;show⟨I.trans t2,rfl⟩
  .obtain⟨I,rfl⟩:=j;rw[show(ss.map V.str).length=ss.length from ya _,yQ];have g:=s1.trans I;have aj:(ss.filter fun u=>decide (S.bas u∈d++[m])).length<=ss.length:=yV _ _;show⟨by rw[ya];show yY (qi (by lk)),fun M A=>?_⟩;have U:=qH g (o:=.lst ((wnL S ss d m).map V.str)) A;have R:upd J M (.lst ((wnL S ss d m).map V.str)) M=some (.lst ((wnL S ss d m).map V.str)):=qb;have an:(wnL S ss d m).length<=ss.length:=aj;have ak:∀ u∈wnL S ss d m,u∈ss:=fun u v=>(yq.mp v).1;show qfr _ _ _ _ (upd J M (.lst ((wnL S ss d m).map V.str)))
   have ai:wnL S ss d m=ss.filter fun u=>decide (u∈wnL S ss d m):=List.filter_congr fun u v=>by
    rw[xn,Ys,Ys];unfold wnL;rw[yq,Ys];show⟨fun z=>⟨v,z⟩,fun z=>z.2⟩
   have ah:=(h.same g).newA A;generalize wnL S ss d m=L at *;have r:=(h.same g).new A;generalize upd J M (.lst (L.map V.str))=H2 at U R;have h2:=h.same U;apply .inl ⟨⟨_,.of R⟩,qP (xs:=L.map V.str) (fun i σ J=>Bx a.six H2 J/\(∀ o,H2 a.dg=some o->J a.dg=some o)/\FoA (cc 9) cw H0 J a ss ns qs (S.setBas (L.take i) m) ss dn wt lo/\∃ y4,σ=[some (.ref a.x),some (.ref lr),some (.str m),some (.ref M),y4]) ⟨fun c o _ e=>e,fun _ e=>e,?_,_,rfl⟩ (fun i σ J _ j=>.of (j.1 _ _ r R)) (fun i y σ J G j=>?_) fun σ J j=>?_⟩
   .have:S.setBas ([]:LS) m=S:=by unfold FS.setBas;simp
    rw[List.take_zero,this];show h2
   .obtain⟨O,hg,l,y4,rfl⟩:=j;rw[yd] at G;obtain⟨z,hz,rfl⟩:=yo.mp G;obtain⟨ks,N,b2,b3⟩:=l.bas;have ag:L.take (i+1)=L.take i++[z]:=by rw[yM,hz];rfl
    obtain⟨h3,aq⟩:=l.setB N (ak z (ye hz));apply .inl (l.obj.rd T 4 rfl ?_);apply .inr ⟨a.ds,_,rfl,DPut.k (k:=Sum.inr z) N (by rw[Yi];lk),?_⟩;have al:a.dg≠a.ds:=fun e=>by have:=h.nd;rw[e] at this;simp at this
    show⟨fun c o n e=>by rw[qe (fun y=>n (by rw[y];simp[Fo.six]))];show O c o n e,fun o e=>by rw[qe al];show hg o e,by rw[ag];show h3,_,rfl⟩
   .obtain⟨O,hg,l,y4,rfl⟩:=j;rw[ya,yQ] at l;have s:=hg _ (U _ _ ac);apply .inl (l.obj.rd T 5 rfl ?_);show⟨.inl ⟨rfl,_,.of s⟩,?_⟩;apply⟨a.dg,_,_,rfl,rfl,s,qi (by lk),?_⟩;show q _ (l.updG s (O _ _ r R) ah ai (by rw[yu];simp only[yD,xD];lk)) ((Bx.of U).trans O |>.upd (by simp[Fo.six]))
theorem Kb:FnScope ["self","one","other","ones","others","meeting","ring"] ["self","one","other"] (qg qG):=fS
structure Mono(S S':FS):Prop where
 ba:∀ u v,S.bas u=S.bas v->S'.bas u=S'.bas v
 pa:∀ u,S.par u≠none->S'.par u≠none
 ro:∀ u r,S.rows u=some r->S'.rows u=some r
theorem Mono.refl(S:FS):Mono S S:=⟨fun _ _ e=>e,fun _ e=>e,fun _ _ e=>e⟩
theorem Mono.trans{c:FS}(a:Mono S S')(b:Mono S' c):Mono S c:=⟨fun u v e=>b.ba u v (a.ba u v e),fun u e=>b.pa u (a.pa u e),fun u r e=>b.ro u r (a.ro u r e)⟩
structure Wb(A:Str->Str->Prop)(ss:LS)(qs:LP):Prop where
 gr:Gr A (pt qs)
 inn:∀ a b,A a b->a∈ss
 qn:(qp qs).Nodup
 few:ss.length<=14
 nd:ss.Nodup
theorem Alt.inn(W:Wb A ss qs)(h:Alt A (pt qs) r v)(hv:v∈ss):r.length<=14/\∀ u∈r,u∈ss:=by
 have a:∀ u∈r,u∈ss:=fun u g=>by
  obtain⟨j,d⟩:=yf g;obtain⟨i,e⟩:=h.tl;by_cases hl:j+1<r.length
  .obtain⟨b,f⟩:∃ b,r[j+1]?=some b:=⟨_,yb hl⟩;show W.inn _ _ (h.st j u b d f).1
  .have c:=(yc.mp d).1;have:j=i.length:=by rw[e,yu] at c hl;simp at c hl;lk
   rw[e,this,yy (yh _),Xl] at d;rw[<- yn d];show hv
 show⟨yi (zi h.nd a) W.few,a⟩
theorem qc9(l':LS):∀{l:LS},(∃ d∈l,d∈l')->∃ l1 m l2,l=l1++m::l2/\m∈l'/\(∀ d∈l1,d∉l')/\∃ t,l.filter (fun d=>decide (d∈l'))=m::t
 | [],⟨_,h,_⟩=>by cases h
 | x::r,h=>by
  by_cases b:x∈l'
  .show⟨[],x,r,rfl,b,(fun _ h=>by cases h),_,by rw[yX,yF (yS b)]⟩
  .obtain⟨d,i,a⟩:=h;obtain⟨l1,m,l2,c,e,f,t,g⟩:=qc9 l' (l:=r) ⟨d,(yB.mp i).resolve_left (fun z=>b (by rw[<- z];show a)),a⟩;show⟨x::l1,m,l2,by rw[c];rfl,e,fun y hy=>?_,t,by rw[yX,yA (by simpa using b)];show g⟩;rcases yB.mp hy with rfl | hy
   .show b
   .show f y hy
inductive spBt(cc:Nat->Addr)(cw:Addr)(vs:List V)(H:Hp)(Q:VK)(E:XK):Prop|mk (H0:Hp) (a:Fo) (ss:LS) (ns:LN) (qs:LP) (S:FS) (dn wt:LS) (v w:Str) (rv rw:LS) (A:Str->Str->Prop) (_:vs=[.ref a.x,.str v,.str w]) (_:FoA (cc 9) cw H0 H a ss ns qs S ss dn wt .non) (_:Wb A ss qs) (_:FI A (pt qs) S) (_:S.rows v=some rv) (_:S.rows w=some rw) (_:A v w) (_:(∀(H':Hp) (S':FS) (more:LS),FoA (cc 9) cw H0 H' a ss ns qs S' ss dn (wt++more) .non->Bx a.six H H'->FI A (pt qs) S'->S'.bas v=S'.bas w->Mono S S'->Q .non H')) (_:∀(H':Hp) (t:Addr) (r:LS),FoA (cc 9) cw H0 H' a ss ns qs S ss dn wt (.ref t)->Bx a.six H H'->H' t=some (.lst (r.map V.str))->t∉a.all->Aug A (pt qs) r->r.length<=28->Q .non H')
theorem qer{d:Str}{Q:VK}(q:Q (.bl (!decide (c=d))) H):qd2 K true (.str c) (.str d) H Q:=by
 show .inl ⟨rfl,rfl,?_⟩;rw[yF rfl]
 have e:eqV (.str c) (.str d)=decide (c=d):=by
  by_cases h:c=d
  .subst h;simp[eqV]
  .simp [eqV,h]
 rw[e];show q
theorem FoA.setL{a:Fo}{bs:LS}{fs:List (Str×V)}{v:V}(h:FoA (cc 9) cw H0 H a ss ns qs S bs dn wt .non)(s:H a.x=some (.ins (cc 9) dx fs))(hv:v≠.non):fs.length<1000/\FoA (cc 9) cw H0 (upd H a.x (.ins (cc 9) dx (qD "longer" v fs))) a ss ns qs S bs dn wt v:=by
 obtain⟨m,n,g,K,G,I,J⟩:=h.obj;rw[s] at g;cases g;have hl:=G rfl;obtain⟨w,D,E,F⟩:=h.row;obtain⟨t,A,B,C⟩:=h.par;obtain⟨k,i,j,l⟩:=h.bas;obtain⟨xs,p,q⟩:=h.rng;have r:=h.sep;have nx:∀{c:Addr},c∈[a.dr,a.da,a.ds,a.dg,a.dw]->c≠a.x:=fun hc e=>(yp.mp r).1 (by rw[<- e];show hc);have d:Bx a.six H (upd H a.x (.ins (cc 9) dx (qD "longer" v fs))):=(Bx.of (Sr H)).upd (by simp[Fo.six]);show⟨by lk,qaA h.sm (h.fr _ (by simp[Fo.six])),h.web,h.prt,h.fr,h.nd,fun c hc=>⟨(h.exf c hc).1,(h.exf c hc).2.1,(h.exf c hc).2.2.elim fun o e=>⟨o,d _ _ (h.exf c hc).2.1 e⟩⟩,⟨dx,_,qb,yi (ju _ _ _) (by lk),fun e=>absurd e hv,fun f u b=>?_,fun f b=>?_⟩,⟨w,by rw[qe (nx (by simp))];show D,E,fun y=>(F y).mono d Fo.sub⟩,⟨t,by rw[qe (nx (by simp))];show A,B,C⟩,⟨k,by rw[qe (nx (by simp))];show i,j,l⟩,⟨xs,by rw[qe (nx (by simp))];show p,q⟩,by rw[qe (nx (by simp))];show h.wai,h.evn,h.evi,h.evs,h.rgl.mono d Fo.sub fun o e=>by rw[qe (nx (by simp))];show e⟩
 .rw [qB];by_cases e:f="longer"
  .rw [yF e];subst e;have:(Str.ofString "longer",u)∈a.tab v:=b;simp only[Fo.tab,yB,x0,yW,YU] at this;rcases this with⟨z,_⟩ | ⟨z,_⟩ | ⟨z,_⟩ | ⟨z,_⟩ | ⟨z,_⟩ | ⟨z,_⟩ | ⟨z,_⟩ | ⟨_,z⟩<;>first | show absurd z (by room) | show congrArg some z.symm
  .rw [yA e];show I f u ?_;have:(f,u)∈a.tab v:=b;simp only[Fo.tab,yB,x0,yW,YU] at this ⊢;rcases this with z | z | z | z | z | z | z | ⟨z,_⟩
   all_goals first | show absurd z e | simp[z]
 .rw [qB,yA (fun e=>b (by rw[e];room))];show J f b
theorem FoA.rowAt{a:Fo}{bs:LS}(h:FoA (cc 9) cw H0 H a ss ns qs S bs dn wt lo)(e:S.rows u=some r){Q:VK}(q:∀ t,H t=some (.lst (r.map V.str))->Q (.ref t) H):qe8 K (.ref a.dr) (.str u) H Q:=by
 obtain⟨g,d,_,f⟩:=h.row;have:=f u;rw[e] at this;obtain⟨t,b,c,_⟩:=this;show qdY d b (q t c)
theorem ok_bt(F:Fun K "bring_together" "Forest.bring_together" qG f fd)(T:Txt K mg cc cw)(Kq:MethOk P w K mg base CX0 1 (cc 9) "bases_down_from" ["self","place"] (spBd cc cw))(Kw:MethOk P w K mg base CX0 2 (cc 9) "reach_round" ["self","one","other","bases"] (spRr cc cw))(uE:MethOk P w K mg base CX0 2 (cc 9) "fold" ["self","ring","meeting"] (spFd cc cw)):FnOk P w K mg base CX0 3 f fd ["self","one","other"] (spBt cc cw):=by
 show F.ok Kb fun _ _ _ _ H vs Q E hr h=>?_
 .obtain⟨H0,a,ss,ns,qs,S,dn,wt,v,w,rv,p,B,rfl,h,b,I,hv,hw,ci,q1,q2⟩:=h;have M:=jW hr;have Y:∀{v:Str} {r:LS},S.rows v=some r->v∈ss:=fun e=>h.evs _ ((h.evi _).mpr (by rw[e];show fun z=>by cases z));obtain⟨l,hl⟩:=I.chainOf hv;obtain⟨l',D⟩:=I.chainOf hw;have ai:=hl.nd I hv rfl;have C:=D.nd I hw rfl;have Z:l.length<=14:=yi (zi ai fun c hc=>(hl.bs0 I hv hc).elim fun r z=>Y z.1) b.few;have L:l'.length<=14:=yi (zi C fun c hc=>(D.bs0 I hw hc).elim fun r z=>Y z.1) b.few;obtain⟨av,dw⟩:=(I.alt v rv hv).inn b (Y hv);obtain⟨al,dy⟩:=(I.alt w p hw).inn b (Y hw);obtain⟨lx,c,ay⟩:∃ lx c,l=lx++[c]:=by obtain⟨t,e⟩:=hl.ne;show⟨_,_,(xp (by rw[e];show kM _ _)).symm⟩
  obtain⟨ly,d,az⟩:∃ ly d,l'=ly++[d]:=by obtain⟨t,e⟩:=D.ne;show⟨_,_,(xp (by rw[e];show kM _ _)).symm⟩
  show⟨_,(qc (qt (i:=3) Kb.nd rfl (yP rfl) (qF Kq (hmR hr) (pv 0) (qa (pv 1) qd)))
 (qc (qt (i:=4) Kb.nd rfl (XD rfl) (qF Kq (hmR hr) (pv 0) (qa (pv 2) qd)))
 (qf (qJ (qj (qam (K:=K) rfl M) (qu (qv (K:=K) rfl M) (pv 3) (qbu qag qh) (fun _ _=>rfl)) (qu (qv (K:=K) rfl M) (pv 4) (qbu qag qh) (fun _ _=>rfl)) (qx _)) (qf (jP (K:=K) rfl (pv 0) (qI (zh (K:=K) rfl) (qu (qv (K:=K) rfl M) (qA (K:=K) rfl (pv 0) rfl) (pv 1) (fun _ _=>rfl)) (qej (K:=K) rfl (qu (qv (K:=K) rfl M) (qA (K:=K) rfl (pv 0) rfl) (pv 2) (fun _ _=>rfl)) (ji (qbu qag qh)))) rfl)) (qf (qJ (qj (qam (K:=K) rfl M) (qu (qv (K:=K) rfl M) (pv 3) qh (fun _ _=>rfl)) (qu (qv (K:=K) rfl M) (pv 4) qh (fun _ _=>rfl)) (qx _)) (qc (qt (i:=5) Kb.nd rfl (yP rfl) (qu (qv (K:=K) rfl M) (jj (sc:=qg qG) (XN:=["self","one","other","ones","others","meeting","ring"]) ["base","others"] 1 [4] rfl rfl rfl (by room) rfl (by room)
  (qK (K:=K) rfl (pv 3)) (fun _ _ _ _=>(qm (i:=0) (show(["base","others"]:LS).Nodup by room) rfl (yP rfl))) qU
  (fun _ _ _ _=>(jk (qj (j5 (K:=K) rfl M) (pv 0) (pv 1) (by with_unfolding_all rfl))))
  (fun _ _ _ _=>(pv 0))) qh (fun _ _=>rfl)))
 (qc (qt (i:=6) Kb.nd rfl (yP rfl) (qF Kw (hmR hr) (pv 0) (qa (pv 1) (qa (pv 2) (qa (jg (qcW (K:=K) rfl) (pv 3) jy (ji (qa9 (K:=K) rfl yN xl xQ (qbx (K:=K) rfl) (pv 3) (qa (pv 5) qd)))) qd)))))
 (qc (qO (qa9 (K:=K) rfl yN PySem.F.slot_list_extend PySem.F.type_list_extend qbo (pv 6) (qa (qF Kw (hmR hr) (pv 0) (qa (pv 2) (qa (pv 1) (qa (jg (qcW (K:=K) rfl) (pv 4) jy (ji (qa9 (K:=K) rfl yN xl xQ (qbx (K:=K) rfl) (pv 4) (qa (pv 5) qd)))) qd)))) qd)))
 (qf (qO (qF uE (hmR hr) (pv 0) (qa (pv 6) (qa (pv 5) qd)))))))) qo)))))),?_⟩
  ext;obtain⟨dx,fs,ak,_,_,_,bd⟩:=id h.obj;show⟨a.x,dx,fs,rfl,ak,bd _ (by room),?_⟩;apply⟨H0,a,ss,ns,qs,S,dn,wt,.non,v,rv,l,B,rfl,h,b.few,I,hv,hl,Z,fun o1 H1 s1 dm cx=>?_⟩;apply⟨a.x,dx,fs,rfl,s1 _ _ ak,bd _ (by room),?_⟩;apply⟨H0,a,ss,ns,qs,S,dn,wt,.non,w,p,l',B,rfl,h.same s1,b.few,I,hw,D,L,fun o2 H2 s2 dp am=>?_⟩;have aq:=s1.trans s2;have h2:=h.same aq;have R:=s2 _ _ cx;have du:=h.newA dm;have dv:=(h.same s1).newA dp;apply⟨1,rfl,?_⟩;show .inl (zH R (v:=.str c) (by rw[ay];show atI_last) ?_);apply⟨1,rfl,?_⟩;show .inl (zH am (v:=.str d) (by rw[az];show atI_last) ?_);show qer ⟨_,rfl,?_⟩;by_cases an:c=d
  .rw [yS an];show yr ?_;obtain⟨t0,X⟩:=hl.ne;obtain⟨eh,A⟩:=D.ne;apply .inl (zH R (v:=.str (S.bas v)) (qw (j:=0) (by rw[X];rfl)) ?_);apply .inl (zH am (v:=.str (S.bas w)) (qw (j:=0) (by rw[A];rfl)) ?_);show qer ⟨_,rfl,?_⟩;by_cases ag:S.bas v=S.bas w
   .rw [yS ag];show yr ?_;show q1 H2 S [] (by rw[Ye];show h2) (Bx.of aq) I ag (Mono.refl S)
   .rw [yl ag];show zr ?_;obtain⟨l1,m,l2,U,aj,ao,tf,bu⟩:=qc9 l' (l:=l) ⟨c,by rw[ay];simp,by rw[az,an];simp⟩;obtain⟨m1,m2,O⟩:=Yp aj;obtain⟨cv,dh⟩:=hl.meet I hv hw D U O ao;rw[cv] at O;have eb:m∉m1:=fun z=>by rw[O] at C;show(Yd.mp C).2.2 m z m (by simp) rfl
    have dz:m∉l1:=fun z=>ao m z aj;apply .inl ⟨⟨_,.of R⟩,qE (xs:=l.map V.str) (fun i ys J=>J=H2/\ys=((l.take i).filter fun d=>decide (d∈l')).map V.str) ⟨rfl,rfl⟩ (fun i ys J _ hp=>by rw[hp.1];show .of R) (fun i y ys J hy hp=>?_) fun ys J hp=>?_⟩
    .obtain⟨rfl,rfl⟩:=hp;rw[yd] at hy;obtain⟨z,hz,rfl⟩:=yo.mp hy
     have ba:(l.take (i+1)).filter (fun d=>decide (d∈l'))=(l.take i).filter (fun d=>decide (d∈l'))++(if z∈l' then [z] else []):=by
      rw[yM,hz,Yg];show _++[z].filter _=_;rw[yX];simp only[kB,Yv]
     have ee:=(yc.mp hz).1;have dj:=yV (fun d=>decide (d∈l')) (l.take i);rw[yO] at dj;apply zK am ⟨_,rfl,?_⟩;rw[ba];by_cases G:z∈l'
     .rw [yS G,yF G];show zr ?_;apply⟨by rw[ya];show qi (by lk),rfl,by rw[yH];rfl⟩
     .rw [yl G,yA G,Ye];show yr ?_;show⟨rfl,rfl⟩
    .obtain⟨rfl,rfl⟩:=hp;rw[show(l.map V.str).length=l.length from ya _,yQ,bu];have dr:=yV (fun d=>decide (d∈l')) l;rw[bu] at dr;show⟨by rw[ya];show yY (qi (by lk)),fun cl bw=>?_⟩;have s3:=qH aq (o:=.lst ((m::tf).map V.str)) bw;have bf:=qH (Sr J) (o:=.lst ((m::tf).map V.str)) bw;have bm:upd J cl (.lst ((m::tf).map V.str)) cl=some (.lst ((m::tf).map V.str)):=qb;generalize upd J cl (.lst ((m::tf).map V.str))=H3 at s3 bf bm;apply .inl (zH bm (v:=.str m) (qw (j:=0) rfl) ?_);have h3:=h.same s3;have ae:=bf _ _ R;have bp:=bf _ _ am;apply⟨a.x,dx,fs,rfl,s3 _ _ ak,bd _ (by room),?_⟩;apply⟨.inl ⟨rfl,_,.of ae⟩,?_⟩;apply⟨o1,l,m,rfl,rfl,.of ae,by rw[U];simp,_,rfl,?_⟩;rw[show l.idxOf m=l1.length by rw[U] at ai ⊢;show qcz ai];apply .inl ⟨o1,_,rfl,.of ae,fun c1 aa=>?_⟩;have bn:qbb (l.map V.str) none (some ((l1.length:Nat):Int))=l1.map V.str:=by rw[qa0,U,yH,List.take_left' (by simp)]
     rw[bn];have s4:=qH s3 (o:=.lst (l1.map V.str)) aa;have cq:=qH (Sr H3) (o:=.lst (l1.map V.str)) aa;have ac:upd H3 c1 (.lst (l1.map V.str)) c1=some (.lst (l1.map V.str)):=qb;have n1:=h3.new aa;generalize upd H3 c1 (.lst (l1.map V.str))=H4 at s4 cq ac;have h4:=h.same s4
     have aw:∀{x y:Str} {rx k W:LS},S.rows x=some rx->(∀ u∈rx,u∈ss)->Ch (pt qs) S (S.bas x) k->k=W++m::l2->∀ c∈W,∃ q rz t,pt qs c=some q/\S.rows q=none/\q∈ss/\rx=rz++q::t:=fun{x y rx k W} hx hs hk ek c hc=>by
      obtain⟨a',b',ea⟩:=Yp hc;have bo:k=a'++c::(b'++m::l2):=by rw[ek,ea];simp
      obtain⟨_,_,_,_,g3,_⟩:=hk.up I hx rfl bo;rcases g3.cases' with⟨_,z⟩ | ⟨q,_,hq,_⟩
      .simp at z
      .obtain⟨rz,t,W,_,k3,_⟩:=hk.suf I hx bo hq;show⟨q,rz,_,hq,k3,hs q (by rw[W];simp),W⟩
     apply⟨H0,a,ss,ns,qs,S,dn,wt,.non,v,w,c1,l1,rv,p,rfl,h4,b.few,ac,n1,hv,hw,av,al,(I.alt v rv hv).nd,?_,?_,b.qn,aw (y:=v) hv dw hl U,fun N g ap H5 S1 h5 bh ch bq cb ce bz R1 dk=>?_⟩
     .rw [U] at ai;show(Yd.mp ai).1
     .rw [U,yu] at Z;lk
     have ed:o1∉a.six:=fun z=>du (Fo.sub _ z);have cp:o2∉a.six:=fun z=>dv (Fo.sub _ z);have af:=bh _ _ cp (cq _ _ bp);apply⟨.inl ⟨rfl,_,.of bq⟩,?_⟩;ext;obtain⟨ct,db,cj,_,_,_,cm⟩:=id h5.obj;show⟨a.x,ct,db,rfl,cj,cm _ (by room),?_⟩;apply⟨.inl ⟨rfl,_,.of af⟩,?_⟩;apply⟨o2,l',m,rfl,rfl,.of af,aj,_,rfl,?_⟩;rw[show l'.idxOf m=m1.length by rw[O] at C ⊢;show qcz C];apply .inl ⟨o2,_,rfl,.of af,fun c2 ah=>?_⟩;have ax:qbb (l'.map V.str) none (some ((m1.length:Nat):Int))=m1.map V.str:=by rw[qa0,O,yH,List.take_left' (by simp)]
     rw[ax];have s6:=qH (Sr H5) (o:=.lst (m1.map V.str)) ah;have ad:upd H5 c2 (.lst (m1.map V.str)) c2=some (.lst (m1.map V.str)):=qb;have n2:=h5.new ah;generalize upd H5 c2 (.lst (m1.map V.str))=H6 at s6 ad;have h6:=h5.same s6
     have co:∀ c∈m1,∀ q,pt qs c=some q->S.rows q=none->S1.rows q=none:=fun c hc q hq hn=>by
      cases e:S1.rows q with
      | none=>rfl
      | some r =>
       exfalso;rcases R1.new q r e with z | ⟨c',hc',z,_⟩
       .rw [hn] at z;cases z
       .have e1:=b.gr.fs z;rw[b.gr.fs hq] at e1;rw[<- yn e1] at hc';show ao c hc' (by rw[O];show yJ _ hc)
     apply⟨H0,a.add N,ss,ns,qs,S1,dn,wt++ap,.non,w,v,c2,m1,p,rv,rfl,h6,b.few,ad,n2,R1.old _ _ hw,R1.old _ _ hv,al,av,(I.alt w p hw).nd,?_,?_,b.qn,fun c hc=>?_,fun t2 s be H7 S2 h7 bi ef cy cd cg ca R2 dl=>?_⟩
     .rw [O] at C;show(Yd.mp C).1
     .rw [O,yu] at L;lk
     .obtain⟨q,rz,t,W,k2,k3,k4⟩:=aw (y:=v) hw dy D O c hc;show⟨q,rz,t,W,co c hc q W k2,k3,k4⟩
     have bg:N∉a.six:=h4.new ch;have br:H7 N=some (.lst (g.map V.str)):=bi _ _ bg (s6 _ _ bq);apply⟨N,t2,_,_,rfl,rfl,br,cy,by rw[ya,ya,Yi];rw[U,yu] at Z;rw[O,yu] at L;lk,?_⟩;have h8:=h7.updE (c:=N) (o:=.lst (g.map V.str++s.map V.str)) (by simp[Fo.add]);obtain⟨xs,di,eg⟩:=h.rng;have bx:=dl _ (s6 _ _ (dk _ (s4 _ _ di)));have dt:a.dg≠N:=fun z=>bg (by rw[<- z];simp[Fo.six]);have bt:upd H7 N (.lst (g.map V.str++s.map V.str)) N=some (.lst ((g++s).map V.str)):=by rw[qb,yH]
     have ar:upd H7 N (.lst (g.map V.str++s.map V.str)) a.dg=some (.lst xs):=by rw[qe dt];show bx
     have bj:Bx a.six H (upd H7 N (.lst (g.map V.str++s.map V.str))):=fun e o n k=>by
      have ne:e≠N:=fun z=>by rw[z,s4.free ch] at k;cases k
      rw[qe ne];show bi _ _ n (s6 _ _ (bh _ _ n (s4 _ _ k)))
     generalize upd H7 N (.lst (g.map V.str++s.map V.str))=H8 at h8 bt ar bj
     have ec:0<ap.length+be.length:=by
      rw[bz,ca];rcases l1 with _ | ⟨x,r⟩
      .rcases m1 with _ | ⟨x,r⟩
       .rw [U] at X;rw[O] at A;show absurd ((YN X).1.symm.trans (YN A).1) ag
       .simp
      .simp;lk
     ext;obtain⟨cu,dc,ck,_,_,_,cn⟩:=id h8.obj;show⟨a.x,cu,dc,rfl,ck,cn _ (by room),?_⟩;apply⟨H0,(a.add N).add t2,ss,ns,qs,S2,dn,wt++ap++be,.non,N,g++s,m,xs,rfl,h8,b.few,bt,bg,?_,ar,?_,fun H9 h9 cs=>?_⟩
     .rw [yu,ce,cg];rw[U,yu] at Z;rw[O,yu] at L;lk
     .rw [<- Yh,<- Yh,yu,yu (as:=dn++wt)];lk
     have dq:∀ u,u∈g++s++[m]↔InR (pt qs) m (l1++m1) u:=fun u=>by
      rw[yC,yC,cb,cd,yz];unfold InR;constructor
      .rintro ((⟨c,hc,z⟩ | ⟨c,hc,z⟩) | z)
       .show .inr ⟨c,yJ _ hc,z⟩
       .show .inr ⟨c,yK _ hc,z⟩
       .show .inl z
      .rintro (z | ⟨c,hc,z⟩)
       .show .inr z
       .rcases yC.mp hc with y | y
        .show .inl (.inl ⟨c,y,z⟩)
        .show .inl (.inr ⟨c,y,z⟩)
     have bv:S2.bas=S.bas:=by rw[R2.bas,R1.bas]
     have au:∀ u,InR (pt qs) m (l1++m1) (S.bas u)->u∈ss:=fun u M=>by
      cases e:S.rows u with
      | some r=>show Y e
      | none =>
       rw[I.own e] at M;rcases M with z | ⟨c,hc,z⟩
       .obtain⟨r,k,_⟩:=hl.bs0 I hv (c:=m) (by rw[U];simp);rw[z];show Y k
       .have df:∃ r,S.rows c=some r:=by
         rcases yC.mp hc with y | y
         .show(hl.bs0 I hv (by rw[U];show yJ _ y)).elim fun r k=>⟨r,k.1⟩
         .show(D.bs0 I hw (by rw[O];show yJ _ y)).elim fun r k=>⟨r,k.1⟩
        obtain⟨r,k⟩:=df;rcases z with z | z
        .rw [z];show Y k
        .show b.inn _ _ (b.gr.as (b.gr.fa z))
     have hM:Mg (pt qs) S ((S2.setBas (wnL S2 ss (g++s) m) m).addRg (wnL S2 ss (g++s) m)) v w m l1 m1:=by
      have bc:∀ u,u∈wnL S2 ss (g++s) m↔u∈ss/\InR (pt qs) m (l1++m1) (S.bas u):=fun u=>by
       unfold wnL;rw[yq,Ys,dq,bv]
      have nr:∀{u:Str} {r:LS},NewRow S1 w v u r->NewRow S w v u r:=fun⟨a1,a2,a3,a4,W,k2,k3⟩=>by
       rw[R1.old _ _ hw] at W;rw[R1.old _ _ hv] at k2;cases W;cases k2;show⟨_,_,a3,a4,hw,hv,k3⟩
      show⟨by show S2.par=S.par;rw[R2.par,R1.par],fun u r e=>R2.old _ _ (R1.old _ _ e),fun u r e=>?_,fun c hc q hq=>?_,fun u M=>?_,fun u M=>?_,wnL S2 ss (g++s) m,by show S2.rgs++_=_;rw[R2.rg,R1.rg],b.nd.filter _,fun u=>(bc u).trans ⟨fun z=>z.2,fun z=>⟨au u z,z⟩⟩⟩
      .rcases R2.new u r e with z | ⟨c,hc,W,k2⟩
       .rcases R1.new u r z with z | z
        .show .inl z
        .show .inr (.inl z)
       .show .inr (.inr ⟨c,hc,W,nr k2⟩)
      .rcases yC.mp hc with y | y
       .obtain⟨r,k⟩:=R1.all c y q hq;show⟨r,R2.old _ _ k⟩
       .show R2.all c y q hq
      .show(if u∈wnL S2 ss (g++s) m then m else S2.bas u)=m;rw[yF ((bc u).mpr ⟨au u M,M⟩)]
      .show(if u∈wnL S2 ss (g++s) m then m else S2.bas u)=S.bas u;rw[yA (fun z=>M ((bc u).mp z).2),bv]
     have hI:=I.merge b.gr hv hw (U ▸ hl) (O ▸ D) (O ▸ ao) (U ▸ dh) ci ag hM
     have dd:InR (pt qs) m (l1++m1) (S.bas v):=by
      rcases l1 with _ | ⟨x,r⟩
      .rw [U] at X;cases X;show .inl rfl
      .rw [U] at X;cases X;show .inr ⟨_,by simp,.inl rfl⟩
     have de:InR (pt qs) m (l1++m1) (S.bas w):=by
      rcases m1 with _ | ⟨x,r⟩
      .rw [O] at A;cases A;show .inl rfl
      .rw [O] at A;cases A;show .inr ⟨_,by simp,.inl rfl⟩
     show q1 H9 _ (ap++be) ?_ (bj.trans cs) hI ((hM.inn v dd).trans (hM.inn w de).symm) ⟨fun u z e=>?_,fun u e=>by rw[hM.par];show e,hM.old⟩
     .rw [<- Yh];show h9.drop (l:=a.ex) fun c hc=>by simp[Fo.add,hc]
     .by_cases G:InR (pt qs) m (l1++m1) (S.bas u)
      .rw [hM.inn u G,hM.inn z (by rw[<- e];show G)]
      .rw [hM.out u G,hM.out z (by rw[<- e];show G),e]
  .rw [yl an];show zr ?_;apply .inl (h2.obj.rd T 2 rfl ?_);apply h2.rowAt hv fun tv cz=>?_;apply qfX ?_;apply .inl (h2.obj.rd T 2 rfl ?_);apply h2.rowAt hw fun tw da=>?_;apply⟨1,rfl,?_⟩;show⟨_,rfl,rfl,tw,_,rfl,.of da,fun c1 aa=>?_⟩;have N:=qH aq (o:=.lst (p.map V.str).reverse) aa;have cr:=qH (Sr H2) (o:=.lst (p.map V.str).reverse) aa;have ac:upd H2 c1 (.lst (p.map V.str).reverse) c1=some (.lst (p.reverse.map V.str)):=by rw[qb,List.map_reverse]
   generalize upd H2 c1 (.lst (p.map V.str).reverse)=H3 at N cr ac;show qd5 (cr _ _ cz) ac (by rw[ya,ya,Yz];lk) fun c2 ah=>?_;have n2:=(h.same N).newA ah;have t2:=qH N (o:=.lst (rv.map V.str++p.reverse.map V.str)) ah;have ad:upd H3 c2 (.lst (rv.map V.str++p.reverse.map V.str)) c2=some (.lst ((rv++p.reverse).map V.str)):=by rw[qb,yH]
   generalize upd H3 c2 (.lst (rv.map V.str++p.reverse.map V.str))=H4 at t2 ad;obtain⟨W,k2⟩:=(h.same t2).setL (v:=.ref c2) (t2 _ _ ak) (fun e=>by cases e);apply .inl ⟨a.x,cc 9,dx,fs,rfl,t2 _ _ ak,T.fcl,T.fa _ (by room),W,?_⟩;have ds:c2≠a.x:=fun z=>n2 (Fo.sub _ (by rw[z];simp[Fo.six]));show q2 _ c2 _ k2 ((Bx.of t2).upd (by simp[Fo.six])) (by rw[qe ds];show ad) n2 (I.aug b.gr hv hw hl D (by rw[ay,az];simpa using an) ci) (by rw[yu,Yz];lk)
theorem Kl:FnScope ["self","place","other","partner"] ["self","place"] (qg q8):=fS
noncomputable def FS.setPar(S:FS)(u p:Str):FS:=⟨S.rows,fun s=>if s=u then some p else S.par s,S.bas,S.rgs⟩
inductive spLa(cc:Nat->Addr)(cw:Addr)(vs:List V)(H:Hp)(Q:VK)(E:XK):Prop|mk (H0:Hp) (a:Fo) (ss:LS) (ns:LN) (qs:LP) (S:FS) (dn wt:LS) (v:Str) (A:Str->Str->Prop) (_:vs=[.ref a.x,.str v]) (_:FoA (cc 9) cw H0 H a ss ns qs S ss (dn++[v]) wt .non) (_:Wb A ss qs) (_:(∀ s∈ss,zv s=true)) (_:(∀(j:Nat) z u,ss[j]?=some z->(u∈inB ss 0 (ns.getD j 0)↔A z u))) (_:(∀ z∈ss,pt qs z=none->S.rows z≠none)) (_:FI A (pt qs) S) (_:CI A S (fun u=>u∈dn)) (_:(∀(H':Hp) (S':FS) (more:LS),FoA (cc 9) cw H0 H' a ss ns qs S' ss (dn++[v]) (wt++more) .non->Bx a.six H H'->FI A (pt qs) S'->CI A S' (fun u=>u∈dn++[v])->Mono S S'->Q .non H')) (_:∀(H':Hp) (S':FS) (more:LS) (t:Addr) (r:LS),FoA (cc 9) cw H0 H' a ss ns qs S' ss (dn++[v]) (wt++more) (.ref t)->Bx a.six H H'->H' t=some (.lst (r.map V.str))->t∉a.all->Aug A (pt qs) r->r.length<=28->FI A (pt qs) S'->Q .non H')
theorem CI.on(h:CI A S Pd)(m:Mono S S'):CI A S' Pd:=h.mono m.ba m.pa fun u a=>by
 cases e:S.rows u with
 | none=>show absurd e a
 | some r=>rw[m.ro u r e];show fun z=>by cases z
theorem FoA.setP{a:Fo}{bs:LS}{d:List (Key×V)}{p:Str}(h:FoA (cc 9) cw H0 H a ss ns qs S bs dn wt lo)(C:H a.da=some (.dK d))(j:u∈ss)(i:S.par u=none):FoA (cc 9) cw H0 (upd H a.da (.dK (zo d (Sum.inr u) (.str p)))) a ss ns qs (S.setPar u p) bs dn wt lo/\d.length<=ss.length:=by
 obtain⟨E,P,R,T⟩:=h.row;obtain⟨k',r,M,N⟩:=h.par;obtain⟨k,t,v,w⟩:=h.bas;obtain⟨xs,A,B⟩:=h.rng;rw[C] at r;cases r;obtain⟨⟨U,J,W,X,Y⟩,⟨K,Z,n8,n9⟩,⟨l,f,m⟩,⟨F,G⟩,I⟩:=(by simpa [Fo.six] using h.sep:(¬a.x=a.dr/\¬a.x=a.da/\¬a.x=a.ds/\¬a.x=a.dg/\¬a.x=a.dw)/\(¬a.dr=a.da/\¬a.dr=a.ds/\¬a.dr=a.dg/\¬a.dr=a.dw)/\(¬a.da=a.ds/\¬a.da=a.dg/\¬a.da=a.dw)/\(¬a.ds=a.dg/\¬a.ds=a.dw)/\¬a.dg=a.dw);have g:Bx a.six H (upd H a.da (.dK (zo d (Sum.inr u) (.str p)))):=(Bx.of (Sr H)).upd (by simp[Fo.six]);obtain⟨O,L,q,n⟩:=M;show⟨⟨qaA h.sm (h.fr _ (by simp[Fo.six])),h.web,h.prt,h.fr,h.nd,fun c hc=>⟨(h.exf c hc).1,(h.exf c hc).2.1,(h.exf c hc).2.2.elim fun o e=>⟨o,g _ _ (h.exf c hc).2.1 e⟩⟩,h.obj.eq (qe J),⟨E,by rw[qe K];show P,R,fun y=>(T y).mono g Fo.sub⟩,⟨_,qb,⟨O++[u],by have:=jD d (Sum.inr u:Key) (.str p);rw[yu];show _<=_+1;lk,Yd.mpr ⟨q,xm _ _,fun x b y D e=>(n u (by rw[<- yz.mp D,<- e];show b)).2 i⟩,fun x b=>?_⟩,fun s=>?_⟩,⟨k,by rw[qe (yZ l)];show t,v,w⟩,⟨xs,by rw[qe (yZ f)];show A,B⟩,by rw[qe (yZ m)];show h.wai,h.evn,h.evi,h.evs,h.rgl.mono g Fo.sub fun o e=>by rw[qe (yZ f)];show e⟩,yi L (zi q fun x b=>(n x b).1)⟩
 .show x∈ss/\(if x=u then some p else S.par x)≠none;by_cases e:x=u
  .rw [yF e,e];show⟨j,fun z=>by cases z⟩
  .rw [yA e];show n x ((yC.mp b).resolve_right fun z=>e (yz.mp z))
 .rw [qaC,N];show _=(if s=u then some p else S.par s).map V.str;by_cases e:s=u
  .subst e;rw[yF rfl,yF rfl];rfl
  .rw [yA (fun x=>e (xE x)),yA e]
theorem ok_la(F:Fun K "look_around" "Forest.look_around" q8 f fd)(T:Txt K mg cc cw)(KN:MethOk P w K mg base CX0 6 cw "beside" ["self","place"] (spBs cw))(KU:MethOk P w K mg base CX0 3 (cc 9) "bring_together" ["self","one","other"] (spBt cc cw))(Kk:MethOk P w K mg base CX0 1 (cc 9) "reach" ["self","place","row"] (spRe cc cw)):FnOk P w K mg base CX0 7 f fd ["self","place"] (spLa cc cw):=by
 show F.ok Kl fun _ _ _ s H vs Q E hr h=>?_
 .obtain⟨H0,a,ss,ns,qs,S,dn,wt,v,B,rfl,h,c,bh,av,bc,I,hC,q1,q2⟩:=h;have O:=jW hr;show⟨_,(qf (q9 yT rfl (qK (K:=K) rfl (qF KN (hmR hr) (qA (K:=K) rfl (pv 0) rfl) (qa (pv 1) qd))) (qm (i:=2) Kl.nd rfl (yP rfl))
 (qc (qJ (qj (j5 (K:=K) rfl O) (pv 2) (qA (K:=K) rfl (pv 0) rfl) (by with_unfolding_all rfl)) (qf (qO (qF KU (hmR hr) (pv 0) (qa (pv 1) (qa (pv 2) qd))))) (qf (qJ (qj (qbw (K:=K) rfl O) (pv 2) (qA (K:=K) rfl (pv 0) rfl) (by with_unfolding_all rfl)) (qc (qt (i:=3) Kl.nd rfl (yP rfl) (qu (qv (K:=K) rfl O) (qA (K:=K) rfl (pv 0) rfl) (pv 2) (fun _ _=>rfl)))
 (qc (jY (pv 1) (j6 (qA (K:=K) rfl (pv 0) rfl) (pv 2) (j8 O)))
 (qf (qO (qF Kk (hmR hr) (pv 0) (qa (pv 3) (qa (qI (zh (K:=K) rfl) (qu (qv (K:=K) rfl O) (qA (K:=K) rfl (pv 0) rfl) (pv 1) (fun _ _=>rfl)) (qY (qa (pv 2) (qa (pv 3) qd)))) qd))))))) qo)))
 (qf (qJ (qj qcm (qA (K:=K) rfl (pv 0) rfl) zg (qx _)) (qf ps_retN) qo))))),?_⟩
  have am:v∈ss:=h.evs v (by simp)
  obtain⟨rv,az⟩:∃ r,S.rows v=some r:=by
   cases e:S.rows v with
   | none=>show absurd e ((h.evi v).mp (by simp))
   | some r=>show⟨r,rfl⟩
  obtain⟨j,hj⟩:=yf am;have ae:=h.web.same h.sm;obtain⟨wx,dd,ol,nn,hb,_⟩:=id ae;apply .inl (h.obj.rd T 0 rfl ?_);show⟨a.b,wx,_,rfl,hb,zE (by room),?_⟩;apply⟨a.b,ss,ns,v,j,rfl,ae,hj,fun H1 s1 bl af=>?_⟩;have g:=fun u=>av j v u hj;have M:(inB ss 0 (ns.getD j 0)).length<=14:=yi (qa7 _ _ _) c.few;generalize inB ss 0 (ns.getD j 0)=bes at g M ⊢;have bf:=(h.same s1).new af;have s2:=qH s1 (o:=.lst (bes.map V.str)) af;have eb:upd H1 bl (.lst (bes.map V.str)) bl=some (.lst (bes.map V.str)):=qb;generalize upd H1 bl (.lst (bes.map V.str))=H2 at s2 eb;have h2:=h.same s2;show .inl ⟨⟨_,.of eb⟩,qP (xs:=bes.map V.str) (fun i σ J=>∃(S':FS) (more:LS) (Z y3:Option V),σ=[some (.ref a.x),some (.str v),Z,y3]/\FoA (cc 9) cw H0 J a ss ns qs S' ss (dn++[v]) (wt++more) .non/\Bx a.six H2 J/\FI B (pt qs) S'/\Mono S S'/\∀ u∈bes.take i,S'.bas u=S'.bas v\/(S'.par u≠none/\u∉dn++[v])) ⟨S,[],_,_,rfl,by rw[Ye];show h2,fun _ _ _ e=>e,I,Mono.refl S,(fun u O=>by simp at O)⟩ (fun i σ J _ hp=>?_) (fun i y σ J hy hp=>?_) fun σ J hp=>?_⟩
  .obtain⟨S',more,Z,y3,rfl,_,A,_⟩:=hp;show .of (A _ _ bf eb)
  .obtain⟨S',more,Z,y3,rfl,d,A,t,D,L⟩:=hp;rw[yd] at hy;obtain⟨u,ai,rfl⟩:=yo.mp hy;have R:B v u:=(g u).mp (ye ai);have ak:u∈ss:=c.inn _ _ (c.gr.as R);have l:=D.ro v rv az;have N:bes.take (i+1)=bes.take i++[u]:=by rw[yM,ai];rfl
   obtain⟨kr,r1,r2,r3⟩:=d.row;have n:=r3 u;apply .inl (d.obj.rd T 2 rfl ?_);show .inr (.inl ⟨a.dr,_,rfl,DGet.k (k:=Sum.inr u) r1,?_⟩)
   cases C:S'.rows u with
   | some ru =>
    rw[C] at n;obtain⟨tu,k1,k2,_⟩:=n;rw[k1];show⟨_,rfl,zr ?_⟩;ext;obtain⟨dx,fs,U,_,_,_,X⟩:=id d.obj;show⟨a.x,dx,fs,rfl,U,X _ (by room),?_⟩;apply⟨H0,a,ss,ns,qs,S',dn++[v],wt++more,v,u,rv,ru,B,rfl,d,c,t,l,C,R,fun H5 S5 be h5 G I5 au m5=>?_,fun H5 t5 r5 h5 G e5 n5 aq ax=>?_⟩
    .ext;show .inl (h5.obj.rd T 7 rfl ?_);apply⟨rfl,_,rfl,qL (fun h=>by simp at h) fun _=>?_⟩;show⟨S5,more++be,_,_,rfl,by rw[<- Yh wt];show h5,A.trans G,I5,D.trans m5,fun z hz=>?_⟩;rw[N] at hz;rcases yC.mp hz with hz | hz
     .show(L z hz).imp (m5.ba z v) fun y=>⟨m5.pa z y.1,y.2⟩
     .rw [yz.mp hz];show .inl au.symm
    .ext;show .inl (h5.obj.rd T 7 rfl ?_);apply⟨rfl,_,rfl,zr ?_⟩;show q2 H5 S' more t5 r5 h5 (((Bx.of s2).trans A).trans G) e5 n5 aq ax t
   | none =>
    rw[C] at n;have ah:j4 kr (.inr u:Key)=none:=n;rw[ah];have aj:u∉dn++[v]:=fun z=>(d.evi u).mp (yJ _ z) C;show⟨_,rfl,qL (fun h=>by cases h) fun _=>?_⟩;obtain⟨ka,p1,p2,p3⟩:=d.par;apply .inl (d.obj.rd T 3 rfl ?_);show .inr (.inl ⟨a.da,_,rfl,DGet.k (k:=Sum.inr u) p1,?_⟩);rw[p3]
    cases ep:S'.par u with
    | some z =>
     show⟨_,rfl,qL (fun h=>by cases h) fun _=>?_⟩;apply .inl (d.obj.rd T 7 rfl ?_);apply⟨rfl,_,rfl,qL (fun h=>by simp at h) fun _=>?_⟩;show⟨S',more,_,_,rfl,d,A,t,D,fun z hz=>?_⟩;rw[N] at hz;rcases yC.mp hz with hz | hz
     .show L z hz
     .rw [yz.mp hz];show .inr ⟨by rw[ep];show(fun y=>by cases y),aj⟩
    | none =>
     show⟨_,rfl,zr ?_⟩
     obtain⟨y,q⟩:∃ y,pt qs u=some y:=by
      cases e:pt qs u with
      | some y=>show⟨y,rfl⟩
      | none =>
       exfalso;have k:=bc u ak e
       cases e2:S.rows u with
       | none=>show k e2
       | some r=>rw[D.ro u r e2] at C;cases C
     have bd:y∈ss:=c.inn _ _ (c.gr.as (c.gr.fa q));have an:=t.fresh c.gr C ep q;have ay:=d.sm _ _ h.prt;obtain⟨Y,bg⟩:=d.setP (p:=v) p1 ak ep;have bj:=c.few;apply .inl (d.obj.rd T 1 rfl ?_);apply qdY ay (by rw[jE,q];rfl) ?_;apply .inl (d.obj.rd T 3 rfl ?_);apply .inr ⟨a.da,_,rfl,DPut.k (k:=Sum.inr u) p1 (by rw[Yi];lk),?_⟩;have aa:Bx a.six H2 (upd J a.da (.dK (zo ka (Sum.inr u) (.str v)))):=A.upd (by simp[Fo.six]);generalize upd J a.da (.dK (zo ka (Sum.inr u) (.str v)))=J3 at Y aa;ext;obtain⟨dx,fs,U,_,_,_,X⟩:=id Y.obj;show⟨a.x,dx,fs,rfl,U,X _ (by room),?_⟩;apply .inl (Y.obj.rd T 2 rfl ?_);apply Y.rowAt (S:=S'.setPar u v) l fun tv ap=>?_;apply⟨by show 2<=sizeLine;decide,fun c1 aw=>?_⟩;have t1:=qH (Sr J3) (o:=.lst [.str u,.str y]) aw;have ac:upd J3 c1 (.lst [.str u,.str y]) c1=some (.lst [.str u,.str y]):=qb;generalize upd J3 c1 (.lst [.str u,.str y])=J4 at t1 ac;have bi:=((t.alt v rv l).inn c am).1;show qd5 (t1 _ _ ap) ac (by rw[ya];show _+2<=_;lk) fun c2 ag=>?_;have n2:=(Y.same t1).newA ag;have t2:=qH t1 (o:=.lst (rv.map V.str++[.str u,.str y])) ag;have ad:upd J4 c2 (.lst (rv.map V.str++[.str u,.str y])) c2=some (.lst ((rv++[u,y]).map V.str)):=by rw[qb,yH];rfl
     generalize upd J4 c2 (.lst (rv.map V.str++[.str u,.str y]))=J5 at t2 ad;apply⟨H0,a,ss,ns,qs,S'.setPar u v,ss,dn++[v],wt++more,.non,y,c2,rv++[u,y],rfl,Y.same t2,c.few,ad,n2,bd,an,fun H6 h6 ao _=>?_⟩;have W:Gw S' ((S'.setPar u v).setRow y (rv++[u,y])) v u y rv:=⟨yF rfl,fun s hs=>yA hs,yF rfl,fun s hs=>yA hs,rfl,rfl⟩;have I6:=t.grow c.gr l R C ep q W
     have m6:Mono S' ((S'.setPar u v).setRow y (rv++[u,y])):=⟨fun _ _ e=>e,fun z hz=>by
      show(if z=u then some v else S'.par z)≠none;split
      .show fun x=>by cases x
      .show hz,fun z r e=>by rw[W.ro z (fun x=>by rw[x,an] at e;cases e)];show e⟩
     apply .inl (h6.obj.rd T 7 rfl ?_);apply⟨rfl,_,rfl,qL (fun h=>by simp at h) fun _=>?_⟩;show⟨_,more++[y],_,_,rfl,by rw[<- Yh wt];show h6,(aa.trans (Bx.of t2)).trans ao,I6,D.trans m6,fun z hz=>?_⟩;rw[N] at hz;rcases yC.mp hz with hz | hz
     .show(L z hz).imp (m6.ba z v) fun y=>⟨m6.pa z y.1,y.2⟩
     .rw [yz.mp hz];show .inr ⟨by rw[W.pu];show(fun x=>by cases x),aj⟩
  .obtain⟨S',more,Z,y3,rfl,d,A,t,D,L⟩:=hp;rw[ya,yQ] at L;show q1 J S' more d ((Bx.of s2).trans A) t ?_ D;have ar:=hC.on D;show⟨fun z u hz m=>?_,fun z hz=>?_⟩
   .rcases yC.mp hz with hz1 | hz1
    .by_cases al:u=v
     .rw [al] at m ⊢;rcases L z ((g z).mpr (c.gr.as m)) with y | y
      .show .inl y.symm
      .show absurd (yJ _ hz1) y.2
     .rcases ar.cl z u hz1 m with y | ⟨y1,Z⟩
      .show .inl y
      .show .inr ⟨y1,fun x=>(yC.mp x).elim Z fun x=>al (yz.mp x)⟩
    .rw [yz.mp hz1] at m ⊢;show L u ((g u).mpr m)
   .show(d.evi z).mp (yJ _ hz)
theorem K1:FnScope ["self","place"] ["self"] (qg jU):=fS
structure FoD(cf cw:Addr)(H0 H:Hp)(a:Fo)(ss:LS)(ns:LN)(qs:LP)(S:FS)(dn wt:LS)(lo:V)(A:Str->Str->Prop):Prop where
 fo:FoA cf cw H0 H a ss ns qs S ss dn wt lo
 en:(lo=.non/\wt=[]/\FI A (pt qs) S/\CI A S (fun u=>u∈dn)/\∀ z∈ss,pt qs z=none->S.rows z≠none)\/∃ t r,lo=.ref t/\H t=some (.lst (r.map V.str))/\t∉a.all/\Aug A (pt qs) r/\r.length<=28
 fi:FI A (pt qs) S
noncomputable def S0:FS:=⟨fun _=>none,fun _=>none,fun s=>s,[]⟩
noncomputable def SI(qs:LP)(l:LS):FS:=⟨fun s=>if s∈l/\pt qs s=none then some [s] else none,fun _=>none,fun s=>s,[]⟩
theorem SI_nil(qs:LP):SI qs []=S0:=by unfold SI S0;simp
theorem SI_on{l:LS}{z:Str}(h:pt qs z=none):SI qs (l++[z])=(SI qs l).setRow z [z]:=by
 unfold SI FS.setRow
 congr 1
 funext s;dsimp only;by_cases e:s=z
 .subst e;rw[yF ⟨by simp,h⟩,yF rfl]
 .rw [yA e];have:s∈l++[z]↔s∈l:=by simp[e]
  simp only[this]
theorem SI_off{l:LS}{z:Str}(h:pt qs z≠none):SI qs (l++[z])=SI qs l:=by
 unfold SI
 congr 1
 funext s;by_cases e:s=z
 .subst e;rw[yA (fun k=>h k.2),yA (fun k=>h k.2)]
 .have:s∈l++[z]↔s∈l:=by simp[e]
  simp only[this]
inductive spGw(cc:Nat->Addr)(cw:Addr)(vs:List V)(H:Hp)(Q:VK)(E:XK):Prop|mk (H0:Hp) (a:Fo) (ss:LS) (ns:LN) (qs:LP) (A:Str->Str->Prop) (_:vs=[.ref a.x]) (_:FoA (cc 9) cw H0 H a ss ns qs S0 [] [] [] .non) (_:Wb A ss qs) (_:(∀ s∈ss,zv s=true)) (_:(∀(j:Nat) z u,ss[j]?=some z->(u∈inB ss 0 (ns.getD j 0)↔A z u))) (_:∀(H':Hp) (S:FS) (dn wt:LS) (lo:V),FoD (cc 9) cw H0 H' a ss ns qs S dn wt lo A->Bx a.six H H'->Q .non H')
theorem ix_natF{k n:Nat}(h:k<n):seqIndex? (k:Int) n=some k:=by
 unfold seqIndex?;simp;lk
theorem nin_prF{d:Addr}{Q:VK}(a:H d=some (.dK (prK qs)))(q:Q (.bl (!(pt qs s).isSome)) H):qeh K true (.str s) (.ref d) H Q:=by
 show .inr (.inl ⟨d,_,rfl,DGet.k (k:=Sum.inr s) a,?_⟩);rw[jE,yF rfl,Xc];show q
theorem FoA.ne{a:Fo}{bs:LS}(h:FoA (cc 9) cw H0 H a ss ns qs S bs dn wt lo):(¬a.x=a.dr/\¬a.x=a.da/\¬a.x=a.ds/\¬a.x=a.dg/\¬a.x=a.dw)/\(¬a.dr=a.da/\¬a.dr=a.ds/\¬a.dr=a.dg/\¬a.dr=a.dw)/\(¬a.da=a.ds/\¬a.da=a.dg/\¬a.da=a.dw)/\(¬a.ds=a.dg/\¬a.ds=a.dw)/\¬a.dg=a.dw:=by simpa [Fo.six] using h.sep
theorem FoA.setN{a:Fo}{bs:LS}{ks:List (Key×V)}{z:Str}(h:FoA (cc 9) cw H0 H a ss ns qs S bs dn wt lo)(p:H a.ds=some (.dK ks))(hz:S.bas z=z):FoA (cc 9) cw H0 (upd H a.ds (.dK (zo ks (Sum.inr z) (.str z)))) a ss ns qs S (bs++[z]) dn wt lo/\ks.length<=bs.length:=by
 obtain⟨s,F,G,I⟩:=h.row;obtain⟨r,C,D,E⟩:=h.par;obtain⟨k,i,j,l⟩:=h.bas;obtain⟨xs,m,n⟩:=h.rng;rw[p] at i;cases i;obtain⟨⟨J,K,A,L,M⟩,⟨N,B,O,P⟩,⟨f,t,v⟩,⟨b,g⟩,w⟩:=h.ne;have d:Bx a.six H (upd H a.ds (.dK (zo ks (Sum.inr z) (.str z)))):=(Bx.of (Sr H)).upd (by simp[Fo.six]);show⟨⟨qaA h.sm (h.fr _ (by simp[Fo.six])),h.web,h.prt,h.fr,h.nd,fun c hc=>⟨(h.exf c hc).1,(h.exf c hc).2.1,(h.exf c hc).2.2.elim fun o e=>⟨o,d _ _ (h.exf c hc).2.1 e⟩⟩,h.obj.eq (qe A),⟨s,by rw[qe B];show F,G,fun y=>(I y).mono d Fo.sub⟩,⟨r,by rw[qe f];show C,D,E⟩,⟨_,qb,by have:=jD ks (Sum.inr z:Key) (.str z);rw[yu];show _<=_+1;lk,fun u q=>?_⟩,⟨xs,by rw[qe (yZ b)];show m,n⟩,by rw[qe (yZ g)];show h.wai,h.evn,h.evi,h.evs,h.rgl.mono d Fo.sub fun o e=>by rw[qe (yZ b)];show e⟩,j⟩;rw[qaC];by_cases e:u=z
 .subst e;rw[yF rfl,hz]
 .rw [yA (fun x=>e (xE x))];show l u ((yC.mp q).resolve_right fun y=>e (yz.mp y))
theorem FoA.pop{a:Fo}{bs:LS}(h:FoA (cc 9) cw H0 H a ss ns qs S bs dn (v::wt) lo):FoA (cc 9) cw H0 (upd H a.dw (.lst (wt.map V.str))) a ss ns qs S bs (dn++[v]) wt lo:=by
 obtain⟨r,D,E,F⟩:=h.row;obtain⟨q,A,B,C⟩:=h.par;obtain⟨k,j,l,m⟩:=h.bas;obtain⟨xs,n,p⟩:=h.rng;obtain⟨⟨G,I,J,K,w⟩,⟨L,M,N,x⟩,⟨s,t,g⟩,⟨u,i⟩,d⟩:=h.ne;have b:dn++[v]++wt=dn++v::wt:=by simp
 have f:Bx a.six H (upd H a.dw (.lst (wt.map V.str))):=(Bx.of (Sr H)).upd (by simp[Fo.six]);show⟨qaA h.sm (h.fr _ (by simp[Fo.six])),h.web,h.prt,h.fr,h.nd,fun c hc=>⟨(h.exf c hc).1,(h.exf c hc).2.1,(h.exf c hc).2.2.elim fun o e=>⟨o,f _ _ (h.exf c hc).2.1 e⟩⟩,h.obj.eq (qe w),⟨r,by rw[qe x];show D,by rw[b];show E,fun y=>(F y).mono f Fo.sub⟩,⟨q,by rw[qe g];show A,B,C⟩,⟨k,by rw[qe i];show j,l,m⟩,⟨xs,by rw[qe d];show n,by rw[b];show p⟩,qb,by rw[b];show h.evn,by rw[b];show h.evi,by rw[b];show h.evs,h.rgl.mono f Fo.sub fun o e=>by rw[qe d];show e⟩
theorem ok_gw(F:Fun K "grow" "Forest.grow" jU f fd)(T:Txt K mg cc cw)(Kp:MethOk P w K mg base CX0 1 cw "places" ["self"] (spPls cw))(Kk:MethOk P w K mg base CX0 1 (cc 9) "reach" ["self","place","row"] (spRe cc cw))(K3:MethOk P w K mg base CX0 7 (cc 9) "look_around" ["self","place"] (spLa cc cw)):FnOk P w K mg base CX0 8 f fd ["self"] (spGw cc cw):=by
 show F.ok K1 fun _ _ _ _ H vs Q E hr h=>?_
 .obtain⟨H0,a,ss,ns,qs,B,rfl,h,G,am,ai,q⟩:=h;have hu:=jW hr;have ao:=G.few;show⟨_,(qc (q9 yT rfl (qK (K:=K) rfl (je Kp (hmR hr) (qA (K:=K) rfl (pv 0) rfl))) (qm (i:=1) K1.nd rfl (yP rfl))
 (qc (jY (pv 1) (j6 (qA (K:=K) rfl (pv 0) rfl) (pv 1) (j8 hu)))
 (qf (qJ (qj (qbw (K:=K) rfl hu) (pv 1) (qA (K:=K) rfl (pv 0) rfl) (by with_unfolding_all rfl)) (qf (qO (qF Kk (hmR hr) (pv 0) (qa (pv 1) (qa (qY (qa (pv 1) qd)) qd))))) qo))))
 (qf (qaB yT (PW.pt (qay (qj qdb (qq (jR (K:=K) rfl) rfl T.b_len YL (qa (qA (K:=K) rfl (pv 0) rfl) qd)) qh (qx _)) (zF (qj qfo (qA (K:=K) rfl (pv 0) rfl) zg (qx _)))))
 (qf (qO (qF K3 (hmR hr) (pv 0) (qa (qa9 (K:=K) rfl yN PySem.F.slot_list_pop PySem.F.type_list_pop qb3 (qA (K:=K) rfl (pv 0) rfl) (qa qh qd)) qd))))))),?_⟩
  have aa:=h.web.same h.sm;obtain⟨wx,dd,ol,nn,hb,_⟩:=id aa;apply .inl (h.obj.rd T 0 rfl ?_);show⟨a.b,wx,_,rfl,hb,zE (by room),?_⟩;apply⟨a.b,ss,ns,rfl,aa,fun pl ad=>?_⟩;have ar:=h.new ad;have s1:=qH (Sr H) (o:=.lst (ss.map V.str)) ad;have e1:upd H pl (.lst (ss.map V.str)) pl=some (.lst (ss.map V.str)):=qb;generalize upd H pl (.lst (ss.map V.str))=H1 at s1 e1;show .inl ⟨⟨_,.of e1⟩,qP (xs:=ss.map V.str) (fun i σ J=>∃(p:LS) (X:Option V),σ=[some (.ref a.x),X]/\FoA (cc 9) cw H0 J a ss ns qs (SI qs (ss.take i)) (ss.take i) [] p .non/\Bx a.six H1 J) ⟨[],_,rfl,by rw[List.take_zero,SI_nil];show h.same s1,fun _ _ _ e=>e⟩ (fun i σ J _ n=>?_) (fun i y σ J hy n=>?_) fun σ J n=>?_⟩
  .obtain⟨p,X,rfl,_,Y⟩:=n;show .of (Y _ _ ar e1)
  .obtain⟨p,X,rfl,U,Y⟩:=n;rw[yd] at hy;obtain⟨z,hz,rfl⟩:=yo.mp hy;have aw:=(yc.mp hz).1;have aq:=ye hz;have ae:ss.take (i+1)=ss.take i++[z]:=by rw[yM,hz];rfl
   obtain⟨ks,b1,b2,b3⟩:=U.bas;rw[yO] at b2;obtain⟨D,_⟩:=U.setN (z:=z) b1 rfl;apply .inl (U.obj.rd T 4 rfl ?_);apply .inr ⟨a.ds,_,rfl,DPut.k (k:=Sum.inr z) b1 (by rw[Yi];lk),?_⟩;have s:Bx a.six H1 (upd J a.ds (.dK (zo ks (Sum.inr z) (.str z)))):=Y.upd (by simp[Fo.six]);generalize upd J a.ds (.dK (zo ks (Sum.inr z) (.str z)))=J2 at D s;have an:=D.sm _ _ h.prt;apply .inl (D.obj.rd T 1 rfl ?_);show nin_prF an ⟨_,rfl,?_⟩
   cases ez:pt qs z with
   | some y =>
    show yr ?_;show⟨p,_,rfl,by rw[ae,SI_off (by rw[ez];show fun k=>nomatch k)];show D,s⟩
   | none =>
    show zr ?_;ext;obtain⟨dx,fs,N,_,_,_,O⟩:=id D.obj;show⟨a.x,dx,fs,rfl,N,O _ (by room),?_⟩;apply⟨by show 1<=sizeLine;decide,fun c1 ac=>?_⟩;have n1:=D.newA ac;have t1:=qH (Sr J2) (o:=.lst [.str z]) ac;have Z:upd J2 c1 (.lst [.str z]) c1=some (.lst ([z].map V.str)):=qb;generalize upd J2 c1 (.lst [.str z])=J3 at t1 Z
    have ap:z∉ss.take i:=fun y=>by
     obtain⟨j,hj⟩:=yf y;have aj:=(yc.mp hj).1;rw[yO] at aj;rw[kg,yF (by lk)] at hj;have:=qy G.nd hj hz;lk
    apply⟨H0,a,ss,ns,qs,SI qs (ss.take i),ss.take i++[z],[],p,.non,z,c1,[z],rfl,D.same t1,ao,Z,n1,aq,yA (fun k=>ap k.1),fun H6 h6 ag _=>?_⟩;show⟨p++[z],_,rfl,by rw[ae,SI_on ez];show h6,(s.trans (Bx.of t1)).trans ag⟩
  .obtain⟨p,X,rfl,U,Y⟩:=n;rw[ya,yQ] at U;have af:Bx a.six H J:=(Bx.of s1).trans Y
   have IJ:FI B (pt qs) (SI qs ss):=FI.start (fun v r e=>by
    have e':(if v∈ss/\pt qs v=none then some [v] else none)=some r:=e;split at e'
    .rename_i k;show⟨k.2,(yn e').symm⟩
    .cases e') (fun _=>rfl) (fun _=>rfl) rfl
   ext;obtain⟨W,g⟩:∃ W:Nat->L2.St->Hp->Prop,W=fun m σ J=>∃(S:FS) (dn wt:LS) (lo:V) (X:Option V),σ=[some (.ref a.x),X]/\Bx a.six H J/\((lo=.non/\m=15-dn.length/\FoA (cc 9) cw H0 J a ss ns qs S ss dn wt .non/\FI B (pt qs) S/\CI B S (fun u=>u∈dn)/\∀ z∈ss,pt qs z=none->S.rows z≠none)\/(lo≠.non/\m=0/\FoD (cc 9) cw H0 J a ss ns qs S dn wt lo B)):=⟨_,rfl⟩;show⟨W,⟨15,by rw[g];show⟨SI qs ss,[],p,.non,_,rfl,af,.inl ⟨rfl,rfl,U,IJ,⟨(fun v u k=>by cases k),(fun v k=>by cases k)⟩,fun z hz e=>by show(if _ then _ else _)≠none;rw[yF ⟨hz,e⟩];show fun k=>by cases k⟩⟩⟩,fun m σ J hW=>?_⟩;rw[g] at hW;obtain⟨S,dn,wt,lo,ax,rfl,d,L⟩:=hW;rcases L with⟨rfl,hm,l,I,hC,M⟩ | ⟨al,hm,R⟩
   .have c:=l.wai;apply .inl (l.obj.rd T 6 rfl ?_);apply zD c ?_;rw[ya];ext
    cases wt with
    | nil =>
     show qL (fun h=>by simp at h) fun _=>qL (fun h=>by cases h) fun _=>?_;show q J S dn [] .non ⟨l,.inl ⟨rfl,rfl,I,hC,M⟩,I⟩ d
    | cons v wt =>
     show qL (fun _=>?_) fun h=>absurd (yS (by simp)) h;apply .inl (l.obj.rd T 7 rfl ?_);apply⟨_,rfl,zr ⟨fun au H'=>∃ m',m'<m/\W m' au H',fun _ _ z=>z,?_⟩⟩;have av:dn.length+1<=14:=by have:=l.few;rw[yu,yD] at this;lk
     ext;obtain⟨dx,fs,N,_,_,_,O⟩:=id l.obj;show⟨a.x,dx,fs,rfl,N,O _ (by room),?_⟩;apply .inl (l.obj.rd T 6 rfl ?_);show⟨.inl ⟨rfl,_,.of c⟩,?_⟩;apply⟨a.dw,_,0,0,.str v,rfl,rfl,c,by decide,by decide,by rw[ya];show ix_natF (by simp),rfl,?_⟩;have n:=l.pop;have C:Bx a.six H (upd J a.dw (.lst (wt.map V.str))):=d.upd (by simp[Fo.six]);ext;show spLa cc cw _ (upd J a.dw (.lst (wt.map V.str))) _ _;generalize upd J a.dw (.lst (wt.map V.str))=J2 at n C;show⟨H0,a,ss,ns,qs,S,dn,wt,v,B,rfl,n,G,am,ai,M,I,hC,fun H5 S5 mo h5 A I5 C5 m5=>?_,fun H5 S5 mo t5 r5 h5 A e5 n5 ah ak I5=>?_⟩
     .show⟨15-(dn++[v]).length,by rw[hm,yu];show _-(_+1)<_;lk,?_⟩;rw[g]
      show⟨S5,dn++[v],wt++mo,.non,_,rfl,C.trans A,.inl ⟨rfl,rfl,h5,I5,C5,fun z hz e=>(by
       have k:=M z hz e
       cases e2:S.rows z with
       | none=>show absurd e2 k
       | some r=>rw[m5.ro z r e2];show fun x=>by cases x)⟩⟩
     .show⟨0,by lk,?_⟩;rw[g];show⟨S5,dn++[v],wt++mo,.ref t5,_,rfl,C.trans A,.inr ⟨(fun e=>by cases e),rfl,⟨h5,.inr ⟨t5,r5,rfl,e5,n5,ah,ak⟩,I5⟩⟩⟩
   .have c:=R.fo.wai;rcases R.en with k | ⟨t,r,rfl,_⟩
    .show absurd k.1 al
    apply .inl (R.fo.obj.rd T 6 rfl ?_);apply zD c ?_;apply qL (fun _=>?_) (fun _=>qL (fun h=>by cases h) fun _=>q J S dn wt _ R d);apply .inl (R.fo.obj.rd T 7 rfl ?_);apply⟨_,rfl,qL (fun h=>by cases h) fun _=>?_⟩;show q J S dn wt _ R d
theorem uw:FnScope ["self","web","pairs"] ["self","web","pairs"] (qg jV):=fS
theorem uF:FnScope ["self"] ["self"] (qg zd):=fS
theorem ub:FnScope ["self"] ["self"] (qg jf):=fS
noncomputable def qeJ(p:Addr)(H:Hp):Hp:=fun b=>if b=p then none else H b
theorem zz{b:Addr}(h:b≠p):qeJ p H b=H b:=yA h
theorem lkn{f g:Str}{v:V}{fs:List (Str×V)}(h:f≠g)(k:fs.lookup f=none):(qD g v fs).lookup f=none:=by rw[qB,yA h];show k
inductive spFi(cc:Nat->Addr)(cw:Addr)(vs:List V)(H:Hp)(Q:VK)(E:XK):Prop|mk (x dx b r:Addr) (ss:LS) (ns:LN) (us:LQ) (tps qs:LP) (A:Str->Str->Prop) (_:vs=[.ref x,.ref b,.ref r]) (_:H x=some (.ins (cc 9) dx [])) (_:WebAt cw H b ss ns) (_:Adj ss ns tps) (_:Wb A ss qs) (_:(∀ s∈ss,zv s=true)) (_:(∀(j:Nat) z u,ss[j]?=some z->(u∈inB ss 0 (ns.getD j 0)↔A z u))) (_:PL H r us qs) (_:qs.length<=30) (_:(∀ q∈qs,(q∈tps\/(q.2,q.1)∈tps)/\q.1∈ss/\q.2∈ss/\q.1≠q.2)) (_:∀(H0 H':Hp) (a:Fo) (S:FS) (dn wt:LS) (lo:V),a.x=x->a.ex=[]->FoD (cc 9) cw H0 H' a ss ns qs S dn wt lo A->L2.Same (qeJ x H) H0->Q .non H')
theorem WebAt.out{b:Addr}{fs:List (Str×V)}(h:WebAt cw H b ss ns)(a:H x=some (.ins (cc 9) dx fs))(i:b≠x):WebAt cw (qeJ x H) b ss ns:=by
 obtain⟨j,d,ol,n,h1,c,e,f,g⟩:=h;show⟨j,d,ol,n,(zz i).trans h1,(zz ?_).trans c,(zz ?_).trans e,(zz ?_).trans f,g⟩
 .show jv c a (fun z=>by cases z)
 .show jv e a (fun z=>by cases z)
 .show jv f a (fun z=>by cases z)
theorem ok_fi(F:Fun K "__init__" "Forest.__init__" jV f fd)(T:Txt K mg cc cw)(Kc:DefOk P w K mg base CX0 9 "partners_in" ["web","pairs"] (spPn cw))(uG:MethOk P w K mg base CX0 8 (cc 9) "grow" ["self"] (spGw cc cw)):FnOk P w K mg base CX0 10 f fd ["self","web","pairs"] (spFi cc cw):=by
 show F.ok uw fun _ _ _ s H vs Q E hr h=>?_
 .obtain⟨x,dx,b,r,ss,ns,us,tps,qs,B,rfl,hx,hW,hA,bw,ck,ci,hP,cl,cm,q⟩:=h;have hu:=jW hr;show⟨_,(qc (jP (K:=K) rfl (pv 0) (pv 1) rfl)
 (qc (jP (K:=K) rfl (pv 0) (qr Kc (hmR hr) qC (qa (pv 1) (qa (pv 2) qd))) rfl)
 (qc (jP (K:=K) rfl (pv 0) zq rfl)
 (qc (jP (K:=K) rfl (pv 0) zq rfl)
 (qc (jP (K:=K) rfl (pv 0) zq rfl)
 (qc (jP (K:=K) rfl (pv 0) (qY qd) rfl)
 (qc (jP (K:=K) rfl (pv 0) (qY qd) rfl)
 (qc (jP (K:=K) rfl (pv 0) zg rfl)
 (qf (qO (je uG (hmR hr) (pv 0)))))))))))),?_⟩
  have cd:b≠x:=fun e=>by
   obtain⟨wx,d,ol,n,hb,_⟩:=id hW;subst e;rw[hx] at hb;injection hb with hb;injection hb with _ _ hb;cases hb
  have ct:r≠x:=jv hP.1 hx (fun z=>by cases z)
  have cu:∀ u∈us,u≠x:=fun u hu=>by
   obtain⟨q,_,eu⟩:=hP.2.mem hu;show jv eu hx (fun z=>by cases z)
  have fa:∀ i,(h:i<8)->NoAttr K (cc 9) (fAtt.getD i ""):=fun i h=>T.fa _ (by have:i<fAtt.length:=h;rw[Yl,yb this];show YR this);apply .inl ⟨x,cc 9,dx,[],rfl,hx,T.fcl,fa 0 (by decide),by decide,?_⟩;have b1:=(But.refl x H).put (o:=.ins (cc 9) dx (qD "board" (.ref b) []));have bt:upd H x (.ins (cc 9) dx (qD "board" (.ref b) [])) x=some (.ins (cc 9) dx (qD "board" (.ref b) [])):=qb;generalize upd H x (.ins (cc 9) dx (qD "board" (.ref b) []))=H1 at b1 bt ⊢
  have keepW:∀{J:Hp},But x H J->WebAt cw J b ss ns:=fun k=>by
   obtain⟨wx,d,ol,n,h1,h2,h3,h4,h5⟩:=hW;show⟨wx,d,ol,n,k _ _ cd h1,k _ _ (jv h2 hx (fun z=>by cases z)) h2,k _ _ (jv h3 hx (fun z=>by cases z)) h3,k _ _ (jv h4 hx (fun z=>by cases z)) h4,h5⟩
  have cg:PL H1 r us qs:=⟨b1 _ _ ct hP.1,hP.2.len,fun k t ab ht ch=>b1 _ _ (cu t (ye ht)) (hP.2.at_ k t ab ht ch)⟩;apply⟨b,r,ss,ns,us,tps,qs,rfl,keepW b1,hA,cg,⟨cm,bw.qn,cl⟩,fun dp H2 s2 bj cj=>?_⟩;have bz:=s2 _ _ bt;have b2:=b1.same s2;have cs:dp≠x:=fun e=>by rw[e,bt] at bj;cases bj
  have hl:∀{f:Str} {v:V} {fs:List (Str×V)} {n:Nat},fs.length<=n->(qD f v fs).length<=n+1:=fun h=>yi (ju _ _ _) (by lk);apply .inl ⟨x,cc 9,dx,_,rfl,bz,T.fcl,fa 1 (by decide),Yr (hl (n:=0) (yh _)) (by decide),?_⟩
  have c3:L2.Same (qeJ x H2) (upd H2 x (.ins (cc 9) dx (qD "partners" (.ref dp) (qD "board" (.ref b) [])))):=fun c o e=>by
   have hc:c≠x:=fun z=>by rw[z] at e;unfold qeJ at e;rw[yF rfl] at e;cases e
   rw[zz hc] at e;rw[qe hc];show e
  have ar:upd H2 x (.ins (cc 9) dx (qD "partners" (.ref dp) (qD "board" (.ref b) []))) x=some (.ins (cc 9) dx (qD "partners" (.ref dp) (qD "board" (.ref b) []))):=qb;obtain⟨H0,ae⟩:∃ H0,H0=qeJ x H2:=⟨_,rfl⟩;rw[<- ae] at c3;have D:H0 x=none:=by rw[ae];show yF rfl
  have l3:(qD "partners" (.ref dp) (qD "board" (.ref b) [])).length<=2:=hl (hl (n:=0) (yh _));generalize upd H2 x (.ins (cc 9) dx (qD "partners" (.ref dp) (qD "board" (.ref b) [])))=H3 at c3 ar ⊢;obtain⟨f3,bm⟩:∃ f3,f3=qD "partners" (.ref dp) (qD "board" (.ref b) []):=⟨_,rfl⟩;rw[<- bm] at ar l3;ext;intro m aq;have C:m≠x:=fun e=>by rw[e,ar] at aq;cases aq
  have cz:H0 m=none:=c3.free aq;have cn:upd H3 m (.dK []) x=some (.ins (cc 9) dx f3):=by rw[qe C.symm];show ar
  apply .inl ⟨x,cc 9,dx,_,rfl,cn,T.fcl,fa 2 (by decide),Yr l3 (by decide),?_⟩;have c4:L2.Same H0 (upd (upd H3 m (.dK [])) x (.ins (cc 9) dx (qD "rows" (.ref m) f3))):=qaA (qH c3 aq) D;have au:(upd (upd H3 m (.dK [])) x (.ins (cc 9) dx (qD "rows" (.ref m) f3))) x=some (.ins (cc 9) dx (qD "rows" (.ref m) f3)):=qb;have l4:(qD "rows" (.ref m) f3).length<=3:=hl l3;have X:(upd (upd H3 m (.dK [])) x (.ins (cc 9) dx (qD "rows" (.ref m) f3))) m=some (.dK []):=by rw[qe C,qb]
  generalize upd (upd H3 m (.dK [])) x (.ins (cc 9) dx (qD "rows" (.ref m) f3))=H4 at c4 au X ⊢;obtain⟨f4,bn⟩:∃ f,f=qD "rows" (.ref m) f3:=⟨_,rfl⟩;rw[<- bn] at au l4;ext;intro l G;have I:l≠x:=fun e=>by rw[e,au] at G;cases G
  have cx:H0 l=none:=c4.free G;have af:l≠m:=fun e=>by rw[e,X] at G;cases G
  have co:upd H4 l (.dK []) x=some (.ins (cc 9) dx f4):=by rw[qe I.symm];show au
  apply .inl ⟨x,cc 9,dx,_,rfl,co,T.fcl,fa 3 (by decide),Yr l4 (by decide),?_⟩;have c5:L2.Same H0 (upd (upd H4 l (.dK [])) x (.ins (cc 9) dx (qD "parents" (.ref l) f4))):=qaA (qH c4 G) D;have av:(upd (upd H4 l (.dK [])) x (.ins (cc 9) dx (qD "parents" (.ref l) f4))) x=some (.ins (cc 9) dx (qD "parents" (.ref l) f4)):=qb;have l5:(qD "parents" (.ref l) f4).length<=4:=hl l4;have M:(upd (upd H4 l (.dK [])) x (.ins (cc 9) dx (qD "parents" (.ref l) f4))) l=some (.dK []):=by rw[qe I,qb]
  have Y:(upd (upd H4 l (.dK [])) x (.ins (cc 9) dx (qD "parents" (.ref l) f4))) m=some (.dK []):=by rw[qe C,qe (yZ af)];show X
  generalize upd (upd H4 l (.dK [])) x (.ins (cc 9) dx (qD "parents" (.ref l) f4))=H5 at c5 av Y M ⊢;obtain⟨f5,bo⟩:∃ f,f=qD "parents" (.ref l) f4:=⟨_,rfl⟩;rw[<- bo] at av l5;ext;intro j A;have aj:j≠x:=fun e=>by rw[e,av] at A;cases A
  have db:H0 j=none:=c5.free A;have al:j≠m:=fun e=>by rw[e,Y] at A;cases A
  have ak:j≠l:=fun e=>by rw[e,M] at A;cases A
  have cp:upd H5 j (.dK []) x=some (.ins (cc 9) dx f5):=by rw[qe aj.symm];show av
  apply .inl ⟨x,cc 9,dx,_,rfl,cp,T.fcl,fa 4 (by decide),Yr l5 (by decide),?_⟩;have c6:L2.Same H0 (upd (upd H5 j (.dK [])) x (.ins (cc 9) dx (qD "bases" (.ref j) f5))):=qaA (qH c5 A) D;have aw:(upd (upd H5 j (.dK [])) x (.ins (cc 9) dx (qD "bases" (.ref j) f5))) x=some (.ins (cc 9) dx (qD "bases" (.ref j) f5)):=qb;have l6:(qD "bases" (.ref j) f5).length<=5:=hl l5;have ac:(upd (upd H5 j (.dK [])) x (.ins (cc 9) dx (qD "bases" (.ref j) f5))) j=some (.dK []):=by rw[qe aj,qb]
  have Z:(upd (upd H5 j (.dK [])) x (.ins (cc 9) dx (qD "bases" (.ref j) f5))) m=some (.dK []):=by rw[qe C,qe (yZ al)];show Y
  have N:(upd (upd H5 j (.dK [])) x (.ins (cc 9) dx (qD "bases" (.ref j) f5))) l=some (.dK []):=by rw[qe I,qe (yZ ak)];show M
  generalize upd (upd H5 j (.dK [])) x (.ins (cc 9) dx (qD "bases" (.ref j) f5))=H6 at c6 aw Z N ac ⊢;obtain⟨f6,bp⟩:∃ f,f=qD "bases" (.ref j) f5:=⟨_,rfl⟩;rw[<- bp] at aw l6;apply⟨by show 0<=sizeLine;decide,fun g y=>?_⟩;have ay:g≠x:=fun e=>by rw[e,aw] at y;cases y
  have cy:H0 g=none:=c6.free y;have ah:g≠m:=fun e=>by rw[e,Z] at y;cases y
  have ag:g≠l:=fun e=>by rw[e,N] at y;cases y
  have ai:g≠j:=fun e=>by rw[e,ac] at y;cases y
  have cq:upd H6 g (.lst []) x=some (.ins (cc 9) dx f6):=by rw[qe ay.symm];show aw
  apply .inl ⟨x,cc 9,dx,_,rfl,cq,T.fcl,fa 5 (by decide),Yr l6 (by decide),?_⟩;have c7:L2.Same H0 (upd (upd H6 g (.lst [])) x (.ins (cc 9) dx (qD "rings" (.ref g) f6))):=qaA (qH c6 y) D;have ax:(upd (upd H6 g (.lst [])) x (.ins (cc 9) dx (qD "rings" (.ref g) f6))) x=some (.ins (cc 9) dx (qD "rings" (.ref g) f6)):=qb;have l7:(qD "rings" (.ref g) f6).length<=6:=hl l6;have U:(upd (upd H6 g (.lst [])) x (.ins (cc 9) dx (qD "rings" (.ref g) f6))) g=some (.lst []):=by rw[qe ay,qb]
  have aa:(upd (upd H6 g (.lst [])) x (.ins (cc 9) dx (qD "rings" (.ref g) f6))) m=some (.dK []):=by rw[qe C,qe (yZ ah)];show Z
  have O:(upd (upd H6 g (.lst [])) x (.ins (cc 9) dx (qD "rings" (.ref g) f6))) l=some (.dK []):=by rw[qe I,qe (yZ ag)];show N
  have ad:(upd (upd H6 g (.lst [])) x (.ins (cc 9) dx (qD "rings" (.ref g) f6))) j=some (.dK []):=by rw[qe aj,qe (yZ ai)];show ac
  generalize upd (upd H6 g (.lst [])) x (.ins (cc 9) dx (qD "rings" (.ref g) f6))=H7 at c7 ax aa O ad U ⊢;obtain⟨L,bq⟩:∃ f,f=qD "rings" (.ref g) f6:=⟨_,rfl⟩;rw[<- bq] at ax l7;apply⟨by show 0<=sizeLine;decide,fun a p=>?_⟩;have bv:a≠x:=fun e=>by rw[e,ax] at p;cases p
  have dc:H0 a=none:=c7.free p;have ao:a≠m:=fun e=>by rw[e,aa] at p;cases p
  have am:a≠l:=fun e=>by rw[e,O] at p;cases p
  have ap:a≠j:=fun e=>by rw[e,ad] at p;cases p
  have an:a≠g:=fun e=>by rw[e,U] at p;cases p
  have cr:upd H7 a (.lst []) x=some (.ins (cc 9) dx L):=by rw[qe bv.symm];show ax
  apply .inl ⟨x,cc 9,dx,_,rfl,cr,T.fcl,fa 6 (by decide),Yr l7 (by decide),?_⟩;have c8:L2.Same H0 (upd (upd H7 a (.lst [])) x (.ins (cc 9) dx (qD "waiting" (.ref a) L))):=qaA (qH c7 p) D;have bu:(upd (upd H7 a (.lst [])) x (.ins (cc 9) dx (qD "waiting" (.ref a) L))) x=some (.ins (cc 9) dx (qD "waiting" (.ref a) L)):=qb;have l8:(qD "waiting" (.ref a) L).length<=7:=hl l7;have bh:(upd (upd H7 a (.lst [])) x (.ins (cc 9) dx (qD "waiting" (.ref a) L))) a=some (.lst []):=by rw[qe bv,qb]
  have bd:(upd (upd H7 a (.lst [])) x (.ins (cc 9) dx (qD "waiting" (.ref a) L))) m=some (.dK []):=by rw[qe C,qe (yZ ao)];show aa
  have az:(upd (upd H7 a (.lst [])) x (.ins (cc 9) dx (qD "waiting" (.ref a) L))) l=some (.dK []):=by rw[qe I,qe (yZ am)];show O
  have bf:(upd (upd H7 a (.lst [])) x (.ins (cc 9) dx (qD "waiting" (.ref a) L))) j=some (.dK []):=by rw[qe aj,qe (yZ ap)];show ad
  have bc:(upd (upd H7 a (.lst [])) x (.ins (cc 9) dx (qD "waiting" (.ref a) L))) g=some (.lst []):=by rw[qe ay,qe (yZ an)];show U
  generalize upd (upd H7 a (.lst [])) x (.ins (cc 9) dx (qD "waiting" (.ref a) L))=H8 at c8 bu bd az bf bc bh ⊢;obtain⟨f8,br⟩:∃ f,f=qD "waiting" (.ref a) L:=⟨_,rfl⟩;rw[<- br] at bu l8;apply .inl ⟨x,cc 9,dx,_,rfl,bu,T.fcl,fa 7 (by decide),Yr l8 (by decide),?_⟩;have c9:L2.Same H0 (upd H8 x (.ins (cc 9) dx (qD "longer" .non f8))):=qaA c8 D;have cb:(upd H8 x (.ins (cc 9) dx (qD "longer" .non f8))) x=some (.ins (cc 9) dx (qD "longer" .non f8)):=qb;have l9:(qD "longer" .non f8).length<=8:=hl l8;have be:(upd H8 x (.ins (cc 9) dx (qD "longer" .non f8))) m=some (.dK []):=by rw[qe C];show bd
  have ba:(upd H8 x (.ins (cc 9) dx (qD "longer" .non f8))) l=some (.dK []):=by rw[qe I];show az
  have bg:(upd H8 x (.ins (cc 9) dx (qD "longer" .non f8))) j=some (.dK []):=by rw[qe aj];show bf
  have W:(upd H8 x (.ins (cc 9) dx (qD "longer" .non f8))) g=some (.lst []):=by rw[qe ay];show bc
  have bi:(upd H8 x (.ins (cc 9) dx (qD "longer" .non f8))) a=some (.lst []):=by rw[qe bv];show bh
  generalize upd H8 x (.ins (cc 9) dx (qD "longer" .non f8))=H9 at c9 cb be ba bg W bi ⊢
  have hF:FoA (cc 9) cw H0 H9 ⟨x,b,dp,m,l,j,g,a,[]⟩ ss ns qs S0 [] [] [] .non:=by
   show⟨c9,?_,?_,fun c hc=>?_,?_,(fun c hc=>by cases hc),⟨dx,_,cb,Xe l9,fun _=>l9,fun f v hf=>?_,fun f hf=>?_⟩,⟨[],be,yh _,fun _=>rfl⟩,⟨[],ba,⟨[],yh _,.nil,(fun u hu=>by cases hu)⟩,fun _=>rfl⟩,⟨[],bg,yh _,(fun s hs=>by cases hs)⟩,⟨[],W,yh _⟩,bi,.nil,fun v=>⟨(fun k=>by cases k),fun k=>absurd rfl k⟩,(fun v hv=>by cases hv),⟨[],W,.nil,(fun R hR=>by cases hR)⟩⟩
   .rw [ae];show(keepW b2).out bz cd
   .rw [ae];show(zz cs).trans cj
   .simp only[Fo.six,yB,yW,YU] at hc;rcases hc with rfl | rfl | rfl | rfl | rfl | rfl<;>assumption
   .simp [af.symm,al.symm,ah.symm,ao.symm,ak.symm,ag.symm,am.symm,ai.symm,ap.symm,an.symm]
   .simp only[Fo.tab,yB,x0,yW,YU] at hf;rw[br,bq,bp,bo,bn,bm];rcases hf with⟨rfl,rfl⟩ | ⟨rfl,rfl⟩ | ⟨rfl,rfl⟩ | ⟨rfl,rfl⟩ | ⟨rfl,rfl⟩ | ⟨rfl,rfl⟩ | ⟨rfl,rfl⟩ | ⟨rfl,rfl⟩<;>rfl
   .rw [br,bq,bp,bo,bn,bm];have no:∀ i,i<8->f≠fAtt.getD i "":=fun i hi e=>hf (by rw[e,Yl,yb (show i<fAtt.length from hi)];show YR _);show lkn (no 7 (by decide)) (lkn (no 6 (by decide)) (lkn (no 5 (by decide)) (lkn (no 4 (by decide)) (lkn (no 3 (by decide)) (lkn (no 2 (by decide)) (lkn (no 1 (by decide)) (lkn (no 0 (by decide)) rfl)))))))
  ext;obtain⟨ce,fs,bx,_,_,_,ca⟩:=id hF.obj;show⟨x,ce,fs,rfl,bx,ca _ (by room),?_⟩;apply⟨H0,_,ss,ns,qs,B,rfl,hF,bw,ck,ci,fun HA S dn wt lo hD cv=>?_⟩;show q H0 HA _ S dn wt lo rfl rfl hD fun c o e=>?_;have hc:c≠x:=fun z=>by rw[z] at e;unfold qeJ at e;rw[yF rfl] at e;cases e
  rw[zz hc] at e;rw[ae,zz hc];show b2 _ _ hc e
inductive spFr(cc:Nat->Addr)(cw:Addr)(vs:List V)(H:Hp)(Q:VK)(E:XK):Prop|mk (H0:Hp) (a:Fo) (ss:LS) (ns:LN) (qs:LP) (S:FS) (dn wt:LS) (lo:V) (A:Str->Str->Prop) (_:vs=[.ref a.x]) (_:FoD (cc 9) cw H0 H a ss ns qs S dn wt lo A) (_:(lo=.non->Q .non H)) (_:∀(t:Addr) (r:LS),lo=.ref t->H t=some (.lst (r.map V.str))->Aug A (pt qs) r->∀ l,H l=none->Q (.ref l) (upd H l (.lst (r.map V.str))))
inductive spFd2(cc:Nat->Addr)(cw:Addr)(vs:List V)(H:Hp)(Q:VK)(E:XK):Prop|mk (H0:Hp) (a:Fo) (ss:LS) (ns:LN) (qs:LP) (S:FS) (dn wt:LS) (lo:V) (A:Str->Str->Prop) (_:vs=[.ref a.x]) (_:FoD (cc 9) cw H0 H a ss ns qs S dn wt lo A) (_:ss.length<=14) (_:(lo≠.non->Q .non H)) (_:(lo=.non->∀(l:Addr) (H':Hp),L2.Same H H'->H l=none->H' l=some (.lst ((ss.filter fun s=>(S.rows s).isSome).map V.str))->Q (.ref l) H'))
theorem ok_fr(F:Fun K "row" "Forest.row" zd f fd)(T:Txt K mg cc cw):FnOk P w K mg base CX0 1 f fd ["self"] (spFr cc cw):=by
 show F.ok uF fun _ _ _ _ H vs Q E i h=>?_
 .obtain⟨H0,a,ss,ns,qs,S,dn,wt,lo,B,rfl,b,e,g⟩:=h;show⟨_,(qf (qk (pe_ifExp (qj qfo (qA (K:=K) rfl (pv 0) rfl) zg (qx _)) zg (jK (qac (K:=K) rfl rfl) rfl T.b_list xw (qa (qA (K:=K) rfl (pv 0) rfl) qd))))),?_⟩;apply .inl (b.fo.obj.rd T 7 rfl ?_);ext;rcases b.en with⟨rfl,_⟩ | ⟨t,r,rfl,c,j,d,_⟩
  .show⟨_,rfl,zr ?_⟩;apply e rfl
  .show⟨_,rfl,qL (fun h=>by cases h) fun _=>?_⟩;apply .inl (b.fo.obj.rd T 7 rfl ?_);apply .inl ⟨t,_,rfl,.inl (.of c),g t r rfl c d⟩
theorem ok_fd2(F:Fun K "reached" "Forest.reached" jf f fd)(T:Txt K mg cc cw)(D:MethOk P w K mg base CX0 1 cw "places" ["self"] (spPls cw)):FnOk P w K mg base CX0 2 f fd ["self"] (spFd2 cc cw):=by
 show F.ok ub fun _ _ _ s H vs Q E x h=>?_
 .obtain⟨H0,a,ss,ns,qs,S,dn,wt,lo,B,rfl,v,G,N,O⟩:=h;have M:=jW x;show⟨_,(qc (qJ (qj qcm (qA (K:=K) rfl (pv 0) rfl) zg (qx _)) (qf (qk zg)) qo)
 (qf (qk (jj (sc:=qg jf) (XN:=["self"]) ["place","self"] 1 [0] rfl rfl rfl (by room) rfl (by room)
  (qK (K:=K) rfl (je D (hmR x) (qA (K:=K) rfl (pv 0) rfl))) (fun _ _ _ _=>(qm (i:=0) (show(["place","self"]:LS).Nodup by room) rfl (yP rfl))) qU
  (fun _ _ _ _=>(jk (qj (j5 (K:=K) rfl M) (pv 0) (qA (K:=K) rfl (pv 1) rfl) (by with_unfolding_all rfl))))
  (fun _ _ _ _=>(pv 0)))))),?_⟩
  have h:=v.fo;apply .inl (h.obj.rd T 7 rfl ?_);ext;rcases v.en with⟨rfl,_⟩ | ⟨t,r,rfl,_⟩
  .show⟨rfl,_,rfl,qL (fun h=>by simp at h) fun _=>?_⟩;have g:=h.web.same h.sm;obtain⟨W,X,ol,Y,I,_⟩:=id g;apply .inl (h.obj.rd T 0 rfl ?_);show⟨a.b,W,_,rfl,I,zE (by room),?_⟩;apply⟨a.b,ss,ns,rfl,g,fun pl u=>?_⟩;have n:=qH (Sr H) (o:=.lst (ss.map V.str)) u;have p:upd H pl (.lst (ss.map V.str)) pl=some (.lst (ss.map V.str)):=qb;generalize upd H pl (.lst (ss.map V.str))=H1 at n p;have h1:=h.same n;obtain⟨C,R,Z,U⟩:=h1.row;show .inl ⟨⟨_,.of p⟩,qE (xs:=ss.map V.str) (fun i ys J=>J=H1/\ys=((ss.take i).filter fun s=>(S.rows s).isSome).map V.str) ⟨rfl,rfl⟩ (fun i ys J _ m=>by rw[m.1];show .of p) (fun i y ys J A m=>?_) fun ys J m=>?_⟩
   .obtain⟨rfl,rfl⟩:=m;rw[yd] at A;obtain⟨z,hz,rfl⟩:=yo.mp A;have L:=(yc.mp hz).1;have j:=yV (fun s=>(S.rows s).isSome) (ss.take i);rw[yO] at j
    have d:(ss.take (i+1)).filter (fun s=>(S.rows s).isSome)=(ss.take i).filter (fun s=>(S.rows s).isSome)++(if (S.rows z).isSome=true then [z] else []):=by
     rw[yM,hz,Yg];show _++[z].filter _=_;rw[yX,Yv]
    apply .inl (h1.obj.rd T 2 rfl ?_);show .inr (.inl ⟨a.dr,_,rfl,DGet.k (k:=Sum.inr z) R,?_⟩);have c:=U z
    have q:(j4 C (.inr z:Key)).isSome=(S.rows z).isSome:=by
     cases e:S.rows z with
     | none=>rw[e] at c;rw[show j4 C (.inr z:Key)=none from c];rfl
     | some r=>rw[e] at c;obtain⟨t,k,_⟩:=c;rw[k];rfl
    rw[yA (by decide),q,d];show⟨_,rfl,?_⟩
    cases (S.rows z).isSome with
    | true =>
     show zr ?_;rw[yF rfl];apply⟨by rw[ya];show qi (by lk),rfl,by rw[yH];rfl⟩
    | false =>
     show yr ?_;rw[yA (by decide),Ye];show⟨rfl,rfl⟩
   .obtain⟨rfl,rfl⟩:=m;rw[show(ss.map V.str).length=ss.length from ya _,yQ];have j:=yV (fun s=>(S.rows s).isSome) ss;show⟨by rw[ya];show yY (qi (by lk)),fun l hl=>?_⟩;show O rfl l _ (qH n hl) (n.free hl) qb
  .show⟨rfl,_,rfl,zr ?_⟩;apply N (fun e=>by cases e)
theorem K5:FnScope ["web","pairs","partners"] ["web","pairs"] (qg jM):=fS
theorem Km:FnScope ["web","thing","seen","place"] ["web","thing"] (qg jd):=fS
theorem qcA(a b:Str):eqV (.str a) (.str b)=decide (a=b):=by
 unfold eqV;by_cases h:a=b<;>simp[h]
theorem qfD{i j:Str}{Q:VK}(q:Q (.bl (decide (i=j))) H):qfp K (.str i) (.str j) H Q:=.inl (.inl (.inl ⟨rfl,rfl,by rw[yA (by decide),qcA];show q⟩))
noncomputable def qa8(a qs:LP):LP:=a.filter fun q=>decide (pt qs q.1=some q.2)
inductive spTp(cw:Addr)(vs:List V)(H:Hp)(Q:VK)(E:XK):Prop|mk (x l:Addr) (ss:LS) (ns:LN) (us:LQ) (tps qs:LP) (_:vs=[.ref x,.ref l]) (_:WebAt cw H x ss ns) (_:Adj ss ns tps) (_:PL H l us qs) (_:PGo ss tps qs) (_:∀(l:Addr) (ls:LQ) (H':Hp),L2.Same H H'->H l=none->H' l=some (.lst (ls.map V.ref))->ls.length<=196->All2 (PrAt H H' l) ls (qa8 (qT ss ns ss.length) qs)->Q (.ref l) H')
noncomputable def stp(rs:LS):LP:=rs.zip rs.tail
noncomputable def prB(qs:LP)(ab:Str×Str):Bool:=decide (pt qs ab.1=some ab.2)
theorem stp_at:(stp rs)[j]?=some ab↔rs[j]?=some ab.1/\rs[j+1]?=some ab.2:=by
 unfold stp;rw[Xm,xX]
theorem qae(rs:LS):(stp rs).length=rs.length-1:=by unfold stp;rw[kW,xR];lk
structure RowG(ss:LS)(tps qs:LP)(rs:LS):Prop where
 nd:rs.Nodup
 two:2<=rs.length
 few:rs.length<=1000
 inn:∀ r∈rs,r∈ss
 tie:∀(j:Nat) ab,(stp rs)[j]?=some ab->(ab∈tps\/(ab.2,ab.1)∈tps)/\prB qs ab=decide (j % 2=1)
 hd:∀ s,rs[0]?=some s->pt qs s=none
 tl:∀ s,rs[rs.length-1]?=some s->pt qs s=none
structure Rw(cw:Addr)(H:Hp)(x l a:Addr)(ss:LS)(ns:LN)(us:LQ)(tps qs:LP)(rs:LS):Prop where
 web:WebAt cw H x ss ns
 adj:Adj ss ns tps
 prs:PL H l us qs
 pgo:PGo ss tps qs
 row:H a=some (.lst (rs.map V.str))
 rok:RowG ss tps qs rs
theorem Rw.same{a:Addr}(h:Rw cw H x l a ss ns us tps qs rs)(s:L2.Same H H'):Rw cw H' x l a ss ns us tps qs rs:=
 ⟨h.web.same s,h.adj,h.prs.same s,h.pgo,s _ _ h.row,h.rok⟩
inductive spUl(cw:Addr)(vs:List V)(H:Hp)(Q:VK)(E:XK):Prop|mk (x a:Addr) (ss:LS) (ns:LN) (rs:LS) (_:vs=[.ref x,.ref a]) (_:WebAt cw H x ss ns) (_:H a=some (.lst (rs.map V.str))) (_:rs.Nodup) (_:rs.length<=1000) (_:(∀ r∈rs,r∈ss)) (_:∀ H',L2.Same H H'->Q (.bl true) H')
inductive spGt(cw:Addr)(vs:List V)(H:Hp)(Q:VK)(E:XK):Prop|mk (x l d a:Addr) (ss:LS) (ns:LN) (us:LQ) (tps qs:LP) (rs:LS) (_:vs=[.ref x,.ref d,.ref a]) (_:Rw cw H x l a ss ns us tps qs rs) (_:H d=some (.dK (prK qs))) (_:∀ H',L2.Same H H'->Q (.bl true) H')
inductive spIr(cw:Addr)(vs:List V)(H:Hp)(Q:VK)(E:XK):Prop|mk (x l a:Addr) (ss:LS) (ns:LN) (us:LQ) (tps qs:LP) (rs:LS) (_:vs=[.ref x,.ref l,.ref a]) (_:Rw cw H x l a ss ns us tps qs rs) (_:∀ H',L2.Same H H'->Q (.bl true) H')
theorem qeK{t:Str}{Q:VK}(q:Q (.bl (decide (pt qs s=some t))) H):qfp K (((pt qs s).map V.str).getD .non) (.str t) H Q:=by
 cases e:pt qs s with
 | none=>rw[e] at q;show .inl (.inl (.inl ⟨rfl,rfl,q⟩))
 | some u =>
  show qfD ?_;rw[e] at q
  rwa[show decide (u=t)=decide (some u=some t) from YD.mpr ⟨congrArg some,yn⟩]
theorem ok_tp(F:Fun K "told_pairs" "told_pairs" jM f fd)(T:Txt K mg cc cw)(S:DefOk P w K mg base CX0 9 "partners_in" ["web","pairs"] (spPn cw))(R:MethOk P w K mg base CX0 7 cw "ties" ["self"] (spTs cw)):FnOk P w K mg base CX0 10 f fd ["web","pairs"] (spTp cw):=by
 show F.ok K5 fun _ _ _ _ H vs Q E J h=>?_
 .obtain⟨x,pl,ss,ns,ps,tps,qs,rfl,C,U,X,W,q⟩:=h;have A:=jW J;obtain⟨wx,dd,ol,nn,Y,_⟩:=id C;show⟨_,(qc (qt (i:=2) K5.nd rfl (XD rfl) (qr S (hmR J) qC (qa (pv 0) (qa (pv 1) qd))))
 (qf (qk (jj (sc:=qg jM) (XN:=["web","pairs","partners"]) ["tie","partners"] 1 [2] rfl rfl rfl (by room) rfl (by room)
  (qK (K:=K) rfl (je R (hmR J) (pv 0))) (fun _ _ _ _=>(qm (i:=0) (show(["tie","partners"]:LS).Nodup by room) rfl (yP rfl))) qU
  (fun _ _ _ _=>(jk (qj (zZ (K:=K) rfl A) (qai (qe9 A) (pv 1) (qu (qv (K:=K) rfl A) (pv 0) qh (fun _ _=>rfl)) ⟨rfl,rfl,rfl,rfl⟩) (qu (qv (K:=K) rfl A) (pv 0) qh (fun _ _=>rfl)) (qx _))))
  (fun _ _ _ _=>(pv 0)))))),?_⟩
  apply⟨x,pl,ss,ns,ps,tps,qs,rfl,C,U,X,W,fun d H1 B aa Z=>?_⟩;apply⟨x,wx,_,rfl,B _ _ Y,zE (by room),?_⟩;apply⟨x,ss,ns,rfl,C.same B,fun l ts H2 O ac hl D b=>?_⟩;have p:=O _ _ Z;have s:=B.trans O;show .inl ⟨⟨_,.of hl⟩,qE (xs:=ts.map V.ref) (fun i ys G=>G=H2/\∃ us:LQ,ys=us.map V.ref/\us.length<=i/\All2 (fun t ab=>H1 t=none/\H2 t=some (.tup [.str ab.1,.str ab.2])) us (qa8 ((qT ss ns ss.length).take i) qs)) ⟨rfl,[],rfl,yh _,.nil⟩ (fun i ys G _ a=>by rw[a.1];show .of hl) (fun i y ys G N a=>?_) fun ys G a=>?_⟩
  .obtain⟨rfl,us,rfl,r,m⟩:=a;rw[yd] at N;obtain⟨t,M,rfl⟩:=yo.mp N;have hi:i<ts.length:=(yc.mp M).1;obtain⟨ab,n⟩:∃ ab,(qT ss ns ss.length)[i]?=some ab:=⟨_,yb (by rw[<- b.len];show hi)⟩;obtain⟨z1,z2,L⟩:=b.at_ i t ab M n
   have c:qa8 ((qT ss ns ss.length).take (i+1)) qs=qa8 ((qT ss ns ss.length).take i) qs++(if pt qs ab.1=some ab.2 then [ab] else []):=by
    unfold qa8;rw[yM,n,Yg];show _++[ab].filter _=_;rw[yX];simp only[kB,Yv]
   apply qb7 ?_;apply⟨d,rfl,.inl ⟨_,.inl p⟩,?_⟩;apply .inl (qaY L (v:=.str ab.1) (qw (j:=0) rfl) ?_);show⟨_,DGet.k (k:=Sum.inr ab.1) p,?_⟩;rw[jE];apply .inl (qaY L (v:=.str ab.2) (qw (j:=1) rfl) ?_);show qeK ?_;ext;rw[c];show qL (fun I=>?_) (fun I=>?_)
   .rw [yF (yk I)];apply⟨by rw[ya];show qi (by lk),rfl,us++[t],by rw[yH];rfl,by rw[yu];simp;lk,m.snoc ⟨z1,L⟩⟩
   .rw [yA (fun e=>I (yS e)),Ye];show⟨rfl,us,rfl,by lk,m⟩
  .obtain⟨rfl,us,rfl,r,m⟩:=a;have e:(ts.map V.ref).length=(qT ss ns ss.length).length:=by rw[ya,b.len]
   rw[e,yQ] at m;rw[ya] at r;show⟨by rw[ya];show yY (qi (by lk)),fun g u=>?_⟩;have s3:=qH s (o:=.lst (us.map V.ref)) u;show q g us _ s3 (s.free u) qb (by lk) (m.mono fun t ab z=>⟨B.free z.1,(fun e=>by rw[e,u] at z;cases z.2),by rw[qe (fun e=>by rw[e,u] at z;cases z.2)];show z.2⟩)
theorem ok_ul(F:Fun K "are_unlike_places" "are_unlike_places" jd f fd)(T:Txt K mg cc cw)(I:MethOk P w K mg base CX0 3 cw "has_place" ["self","thing"] (spHas cw)):FnOk P w K mg base CX0 4 f fd ["web","thing"] (spUl cw):=by
 show F.ok Km fun _ _ _ _ H vs Q E C h=>?_
 .obtain⟨x,a,ss,ns,rs,rfl,u,j,m,hl,l,q⟩:=h;have D:=jW C;show⟨_,(qc (qJ (jc (qV (qq (qbm (K:=K) rfl) rfl T.b_isinstance xo (qa (pv 1) (qa (ze (v:=.ty "list") rfl T.b_list xw rfl) qd))))) (qf (qk jo)) qo)
 (qc (qt (i:=2) Km.nd rfl (yP rfl) zq)
 (qc (q9 yT rfl (qK (K:=K) rfl (pv 1)) (qm (i:=3) Km.nd rfl (yP rfl))
 (qc (qJ (PW.pt (qbL (jc (qV (qF I (hmR C) (pv 0) (qa (pv 3) qd)))) (qbe (qj (j5 (K:=K) rfl D) (pv 3) (pv 2) (by with_unfolding_all rfl))))) (qf (qk jo)) qo)
 (qf (jY jo (j6 (pv 2) (pv 3) (j8 D))))))
 (qf (qk jo))))),?_⟩
  apply qdf (.inl (.lst j)) rfl (qax K "list" (by simp) "list" (by simp)) ?_;apply yr ?_;ext;intro d A;have n:=qH (Sr H) (o:=.dK []) A;have s:upd H d (.dK []) d=some (.dK (qbF [])):=qb;generalize upd H d (.dK [])=H1 at n s;obtain⟨N,R,ol,S,L,_⟩:=id u;apply .inl ⟨⟨_,.of (n _ _ j)⟩,qP (xs:=rs.map V.str) (fun i σ J=>L2.Same H J/\∃ r,σ=[some (.ref x),some (.ref a),some (.ref d),r]/\J d=some (.dK (qbF (rs.take i)))) ⟨n,_,rfl,s⟩ (fun i σ J _ c=>.of (c.1 _ _ j)) (fun i y σ J G c=>?_) fun σ J c=>?_⟩
  .obtain⟨g,r,rfl,b⟩:=c;rw[yd] at G;obtain⟨z,hz,rfl⟩:=yo.mp G;have M:i<rs.length:=(yc.mp hz).1;have e:rs.take (i+1)=rs.take i++[z]:=by rw[yM,hz];rfl
   have B:z∉rs.take i:=fun y=>by
    have t:(rs.take (i+1)).Nodup:=m.sublist (XB _ _);rw[e] at t;show(Yd.mp t).2.2 _ y z (by simp) rfl
   apply⟨x,N,_,rfl,g _ _ L,zE (by room),?_⟩;apply⟨x,ss,ns,z,rfl,u.same g,l z (ye hz),fun O p=>?_⟩;apply yr ?_;apply .inr (.inl ⟨d,_,rfl,DGet.k (k:=Sum.inr z) (p _ _ b),?_⟩);rw[yA (by decide),zJ,yl B];apply yr ?_;apply .inr ⟨d,_,rfl,DPut.k (k:=Sum.inr z) (p _ _ b) (qi (by unfold qbF;rw[ya,yO];lk)),?_⟩;show⟨qaA (g.trans p) A,_,rfl,?_⟩;rw[qb,qbG B,e]
  .obtain⟨g,r,rfl,b⟩:=c;apply q J g
theorem uz:FnScope ["web","pairs","thing","partners"] ["web","pairs","thing"] (qg qaL):=fS
theorem Kt:FnScope ["web","partners","names","steps","paired"] ["web","partners","names"] (qg qS):=fS
theorem KC:FnScope ["web","pairs","thing","partners","first","last"] ["web","pairs","thing"] (qg zW):=fS
theorem zX(rs:List V):qbb rs (some 1) none=rs.tail:=by
 have:=qb6 rs 1
 rwa[List.drop_one] at this
theorem qff:∀{bs:List Bool},(∀ b∈bs,b=true)->bs.all id=true:=fun h=>YA.mpr h
theorem qdQ{xs ys:LS}(Z:Zl H H' l ts (xs.map V.str) (ys.map V.str))(hl:qs.length=min xs.length ys.length)(h:∀(j:Nat) q,qs[j]?=some q->xs[j]?=some q.1/\ys[j]?=some q.2):All2 (fun t ab=>H' t=some (.tup [.str ab.1,.str ab.2])) ts qs:=by
 show⟨by rw[Z.len,ya,ya,hl],fun j t ab g c=>?_⟩;obtain⟨d,f⟩:=h j ab c;obtain⟨_,u,v,a,b,e⟩:=Z.tp j t g;rw[yd,d] at a;rw[yd,f] at b;cases a;cases b;show e
theorem atI_back{xs:List α}{v:α}(a:1<=j)(h1:j<=xs.length)(h:xs[xs.length-j]?=some v):atI xs (-(j:Int))=some v:=by
 have e:ixN xs.length (-(j:Int))=some (xs.length-j):=by
  unfold ixN;rw[yA (by lk),yF (by lk)]
  congr 1
  lk
 unfold atI;rw[e];show h
theorem ok_gt(F:Fun K "goes_by_turns" "goes_by_turns" qS f fd)(T:Txt K mg cc cw)(KH:MethOk P w K mg base CX0 7 cw "has_tie" ["self","thing"] (spHt cw)):FnOk P w K mg base CX0 8 f fd ["web","partners","names"] (spGt cw):=by
 show F.ok Kt fun _ _ _ _ H vs Q E hr h=>?_
 .obtain⟨x,l,d,a,ss,ns,us,tps,qs,rs,rfl,R,hd,q⟩:=h;have hu:=jW hr;obtain⟨wx,dd,ol,nn,X,_⟩:=id R.web;have ha:=R.row;have M:=R.rok;have hl:=M.few;show⟨_,(qc (qt (i:=3) Kt.nd rfl (yP rfl) (qcs (K:=K) rfl rfl rfl rfl T.b_list T.b_zip (qa (pv 2) (qa (jg (qcW (K:=K) rfl) (pv 2) (ji qh) jy) qd))))
 (qc (qJ (jc (qV (qq (qeE (K:=K) rfl rfl) rfl T.b_all boot_all (qa (jj (sc:=qg qS) (XN:=["web","partners","names","steps","paired"]) ["step","web"] 1 [0] rfl rfl rfl (by room) rfl (by room)
  (qK (K:=K) rfl (pv 3)) (fun _ _ _ _=>(qm (i:=0) (show(["step","web"]:LS).Nodup by room) rfl (yP rfl))) qU
  (fun _ _ _ _=>jG)
  (fun _ _ _ _=>(qF KH (hmR hr) (pv 1) (qa (pv 0) qd)))) qd)))) (qf (qk jo)) qo)
 (qc (qaw (sc:=qg qS) (XN:=["web","partners","names","steps","paired"]) ["step","partners"] 1 [1] rfl rfl rfl (by room) rfl (by room) (i:=4) Kt.nd rfl rfl
  (qK (K:=K) rfl (pv 3)) (fun _ _ _ _=>(qm (i:=0) (show(["step","partners"]:LS).Nodup by room) rfl (yP rfl))) qU
  (fun _ _ _ _=>jG)
  (fun _ _ _ _=>(jt (zZ (K:=K) rfl hu) (qai (qe9 hu) (pv 1) (qu (qv (K:=K) rfl hu) (pv 0) qh (fun _ _=>rfl)) ⟨rfl,rfl,rfl,rfl⟩) (qu (qv (K:=K) rfl hu) (pv 0) qh (fun _ _=>rfl)) (qx _))))
 (qf (qk (qq (qeE (K:=K) rfl rfl) rfl T.b_all boot_all (qa (jj (sc:=qg qS) (XN:=["web","partners","names","steps","paired"]) ["one","other"] 2 [] rfl rfl rfl (by room) rfl (by room)
  (pi_zip (K:=K) rfl rfl T.b_zip (qa (pv 4) (qa (jg (qcW (K:=K) rfl) (pv 4) (ji qh) jy) qd))) (fun _ _ _ _=>(qbM (n:=2) rfl (jF (qm (i:=0) (show(["one","other"]:LS).Nodup by room) rfl (yP rfl)) (jF (qm (i:=1) (show(["one","other"]:LS).Nodup by room) rfl (yP rfl)) qaP)))) gk_two
  (fun _ _ _ _=>jG)
  (fun _ _ _ _=>(jt (qam (K:=K) rfl hu) (pv 0) (pv 1) (qx _)))) qd))))))),?_⟩
  apply vLZ ?_;apply .inl ⟨a,_,rfl,SqL.of ha,fun c hc=>?_⟩;rw[zX,<- Xu];have s1:=qH (Sr H) (o:=.lst (rs.tail.map V.str)) hc;have aa:upd H c (.lst (rs.tail.map V.str)) c=some (.lst (rs.tail.map V.str)):=qb;generalize upd H c (.lst (rs.tail.map V.str))=H1 at s1 aa;apply⟨a,c,_,_,rfl,SqL.of (s1 _ _ ha),SqL.of aa,by rw[ya];show hl,fun l ts H2 Z=>?_⟩;have L:=s1.trans Z.sm;have ak:(stp rs).length<=1000:=by rw[qae];lk
  have W:=qdQ (qs:=stp rs) Z (by rw[qae,xR];lk) fun j q e=>by
   obtain⟨z1,z2⟩:=stp_at.mp e;show⟨z1,by rw[xX];show z2⟩
  have tl:=W.len;have C:=Z.ls
  have ai:∀{i:Nat} {y:V},(ts.map V.ref)[i]?=some y->∃ t ab,y=.ref t/\(stp rs)[i]?=some ab/\H2 t=some (.tup [.str ab.1,.str ab.2]):=fun{i y} O=>by
   rw[yd] at O;obtain⟨t,ht,rfl⟩:=yo.mp O;obtain⟨ab,p⟩:∃ ab,(stp rs)[i]?=some ab:=⟨_,yb (by rw[<- tl];show(yc.mp ht).1)⟩;show⟨t,ab,rfl,p,W.at_ i t ab ht p⟩
  apply .inl ⟨⟨_,.of C⟩,qE (xs:=ts.map V.ref) (fun i ys G=>L2.Same H2 G/\ys=(((stp rs).take i).map fun _=>true).map V.bl) ⟨L2.Same.refl H2,rfl⟩ (fun i ys G _ m=>.of (m.1 _ _ C)) (fun i y ys G O m=>?_) fun ys G m=>?_⟩
  .obtain⟨S,rfl⟩:=m;obtain⟨t,ab,rfl,p,N⟩:=ai O;obtain⟨e1,U⟩:=stp_at.mp p;apply zr ?_;apply⟨x,wx,_,rfl,(L.trans S) _ _ X,zE (by room),?_⟩;apply⟨x,t,ss,ns,tps,ab,rfl,R.web.same (L.trans S),R.adj,S _ _ N,(M.tie i ab p).1,M.inn _ (ye e1),M.inn _ (ye U),fun z=>?_,fun G2 am=>?_⟩
   .rw [<- z] at U;show absurd (qy M.nd e1 U) (by lk)
   .show⟨by rw[ya,ya,yO];show qi (by lk),S.trans am,?_⟩;rw[yM,p,yH,yH];rfl
  .obtain⟨S,rfl⟩:=m;rw[show(ts.map V.ref).length=(stp rs).length by rw[ya,tl],yQ];show⟨by rw[ya,ya];show yY (qi (by lk)),fun g hg=>?_⟩;have s3:=qH S (o:=.lst (((stp rs).map fun _=>true).map V.bl)) hg;have eg:upd G g (.lst (((stp rs).map fun _=>true).map V.bl)) g=some (.lst (((stp rs).map fun _=>true).map V.bl)):=qb;generalize upd G g (.lst (((stp rs).map fun _=>true).map V.bl))=G3 at s3 eg;apply⟨g,_,rfl,SqL.of eg,_,rfl,?_⟩;rw[qff (fun b X=>by obtain⟨_,_,rfl⟩:=YJ.mp X;rfl)];have ag:=L.trans s3;show yr ?_;have r:=s3 _ _ C;have ad:=ag _ _ hd;apply .inl ⟨⟨_,.of r⟩,qE (xs:=ts.map V.ref) (fun i ys G=>G=G3/\ys=(((stp rs).take i).map (prB qs)).map V.bl) ⟨rfl,rfl⟩ (fun i ys G _ m=>by rw[m.1];show .of r) (fun i y ys G O m=>?_) fun ys G m=>?_⟩
   .obtain⟨rfl,rfl⟩:=m;obtain⟨t,ab,rfl,p,N⟩:=ai O;have N:=s3 _ _ N;apply zr ?_;apply qb7 ?_;apply⟨d,rfl,.inl ⟨_,.inl ad⟩,?_⟩;apply .inl (qaY N (v:=.str ab.1) (qw (j:=0) rfl) ?_);show⟨_,DGet.k (k:=Sum.inr ab.1) ad,?_⟩;rw[jE];apply .inl (qaY N (v:=.str ab.2) (qw (j:=1) rfl) ?_);show qeK ?_;show⟨by rw[ya,ya,yO];show qi (by lk),rfl,?_⟩;rw[yM,p,yH,yH];rfl
   .obtain⟨rfl,rfl⟩:=m;rw[show(ts.map V.ref).length=(stp rs).length by rw[ya,tl],yQ];show⟨by rw[ya,ya];show yY (qi (by lk)),fun b aj=>?_⟩;obtain⟨bs,B⟩:∃ bs,bs=(stp rs).map (prB qs):=⟨_,rfl⟩;rw[<- B];have an:bs.length<=1000:=by rw[B,ya];show ak
    have Y:∀(i:Nat) b,bs[i]?=some b->b=decide (i % 2=1):=fun i b e=>by
     rw[B,yd] at e;obtain⟨ab,p,rfl⟩:=yo.mp e;show(M.tie i ab p).2
    have s4:=qH ag (o:=.lst (bs.map V.bl)) aj;have eb:upd G b (.lst (bs.map V.bl)) b=some (.lst (bs.map V.bl)):=qb;generalize upd G b (.lst (bs.map V.bl))=G4 at s4 eb;apply vZip ?_;apply .inl ⟨b,_,rfl,SqL.of eb,fun c2 ac=>?_⟩;rw[zX,<- Xu];have s5:=qH s4 (o:=.lst (bs.tail.map V.bl)) ac;have s:=qH (Sr G4) (o:=.lst (bs.tail.map V.bl)) ac _ _ eb;have A:upd G4 c2 (.lst (bs.tail.map V.bl)) c2=some (.lst (bs.tail.map V.bl)):=qb;generalize upd G4 c2 (.lst (bs.tail.map V.bl))=G5 at s5 s A;apply⟨b,c2,_,_,rfl,SqL.of s,SqL.of A,comp_zip (xs:=bs.map V.bl) (ys:=bs.tail.map V.bl) (by simp) (fun i zs J=>L2.Same G5 J/\zs=(List.replicate i true).map V.bl) ⟨L2.Same.refl G5,rfl⟩ (fun i zs J _ m=>⟨SqL.of (m.1 _ _ s),SqL.of (m.1 _ _ A)⟩) (fun i u v t zs J D I ht m=>?_) fun zs J m=>?_⟩
    .obtain⟨sJ,rfl⟩:=m;rw[yd] at D I;obtain⟨u,ae,rfl⟩:=yo.mp D;obtain⟨v,af,rfl⟩:=yo.mp I;clear D I;have ao:=(yc.mp ae).1;rw[xX] at af;have e1:=Y _ _ ae;have U:=Y _ _ af;have ah:=qH sJ (o:=.tup [.bl u,.bl v]) ht;show⟨t,_,rfl,.of qb,rfl,_,_,rfl,_,_,rfl,rfl,?_⟩;generalize upd J t (.tup [.bl u,.bl v])=J3 at ah;apply zr ?_;apply .inl ⟨rfl,rfl,?_⟩;show⟨by rw[ya,YW];show qi (by lk),ah,?_⟩
     have al:v=!u:=by
      rw[e1,U];rcases Nat.mod_two_eq_zero_or_one i with z | z
      .rw [z,yS (by lk)];rfl
      .rw [z,yl (by lk)];rfl
     rw[List.replicate_succ',yH,al];cases u<;>rfl
    .obtain⟨sJ,rfl⟩:=m;rw[show(bs.tail.map V.bl).length=bs.length-1 by rw[ya,xR]];show⟨by rw[ya,YW];show yY (qi (by lk)),fun e he=>?_⟩;have s6:=qH (s5.trans sJ) (o:=.lst ((List.replicate (bs.length-1) true).map V.bl)) he;have ee:upd J e (.lst ((List.replicate (bs.length-1) true).map V.bl)) e=some (.lst ((List.replicate (bs.length-1) true).map V.bl)):=qb;generalize upd J e (.lst ((List.replicate (bs.length-1) true).map V.bl))=J6 at s6 ee;apply⟨e,_,rfl,SqL.of ee,?_⟩;rw[qff (fun b X=>(List.mem_replicate.mp X).2)];show q J6 s6
theorem ok_ir(F:Fun K "is_row" "is_row" qaL f fd)(T:Txt K mg cc cw)(n:DefOk P w K mg base CX0 9 "partners_in" ["web","pairs"] (spPn cw))(m:DefOk P w K mg base CX0 4 "are_unlike_places" ["web","thing"] (spUl cw))(s:DefOk P w K mg base CX0 8 "goes_by_turns" ["web","partners","names"] (spGt cw)):FnOk P w K mg base CX0 10 f fd ["web","pairs","thing"] (spIr cw):=by
 show F.ok uz fun _ _ _ _ H vs Q E c h=>?_
 .obtain⟨x,l,a,ss,ns,us,tps,qs,rs,rfl,R,q⟩:=h;have u:=jW c;have G:=R.rok;have t:=G.two;show⟨_,(qc (qt (i:=3) uz.nd rfl (yP rfl) (qr n (hmR c) qC (qa (pv 0) (qa (pv 1) qd))))
 (qc (qJ (PW.pt (qbL (jc (qV (qr m (hmR c) qC (qa (pv 0) (qa (pv 2) qd))))) (qbe (qj qdl (qq (jR (K:=K) rfl) rfl T.b_len YL (qa (pv 2) qd)) qh (qx _))))) (qf (qk jo)) qo)
 (qf (qk (qr s (hmR c) qC (qa (pv 0) (qa (pv 3) (qa (pv 2) qd)))))))),?_⟩
  apply⟨x,l,ss,ns,us,tps,qs,rfl,R.web,R.adj,R.prs,R.pgo,fun d H1 e p o=>?_⟩;apply⟨x,a,ss,ns,rs,rfl,R.web.same e,e _ _ R.row,G.nd,G.few,G.inn,fun H2 g=>?_⟩;have b:=e.trans g;apply yr ?_;apply .inl ⟨_,.inl (SqL.of (b _ _ R.row)),?_⟩;rw[ya];apply qL (fun h=>absurd (yk h) (by lk)) fun _=>?_;apply⟨x,l,d,a,ss,ns,us,tps,qs,rs,rfl,R.same b,g _ _ o,fun j r=>q j (b.trans r)⟩
theorem qes{n:Str}{Q:VK}(e:H t=some (.tup [.non,.str n]))(q:Q (.bl true) H):qeh K false .non (.ref t) H Q:=
 .inl ⟨t,_,rfl,.inr (SqT.of e),rfl,rfl,q⟩
theorem ok_ct(F:Fun K "can_turn" "can_turn" zW f fd)(T:Txt K mg cc cw)(J:DefOk P w K mg base CX0 9 "partners_in" ["web","pairs"] (spPn cw))(L:DefOk P w K mg base CX0 10 "is_row" ["web","pairs","thing"] (spIr cw)):FnOk P w K mg base CX0 11 f fd ["web","pairs","thing"] (spIr cw):=by
 show F.ok KC fun _ _ _ _ H vs Q E u h=>?_
 .obtain⟨x,l,a,ss,ns,us,tps,qs,rs,rfl,R,q⟩:=h;have b:=jW u;have G:=R.rok;have X:=G.two;show⟨_,(qc (qJ (jc (qV (qr L (hmR u) qC (qa (pv 0) (qa (pv 1) (qa (pv 2) qd)))))) (qf (qk jo)) qo)
 (qc (qt (i:=3) KC.nd rfl (yP rfl) (qr J (hmR u) qC (qa (pv 0) (qa (pv 1) qd))))
 (qc (qt (i:=4) KC.nd rfl (yP rfl) (qai (qe9 b) (pv 3) (qu (qv (K:=K) rfl b) (pv 2) qh (fun _ _=>rfl)) ⟨rfl,rfl,rfl,rfl⟩))
 (qc (qt (i:=5) KC.nd rfl (yP rfl) (qai (qe9 b) (pv 3) (qu (qv (K:=K) rfl b) (pv 2) (qbu qag qh) (fun _ _=>rfl)) ⟨rfl,rfl,rfl,rfl⟩))
 (qf (qk (qbf (jt (j5 (K:=K) rfl b) (pv 4) (jQ (qa zg (qa (qu (qv (K:=K) rfl b) (pv 2) qh (fun _ _=>rfl)) qd))) (by with_unfolding_all rfl)) (qaO (jt (j5 (K:=K) rfl b) (pv 5) (jQ (qa zg (qa (qu (qv (K:=K) rfl b) (pv 2) (qbu qag qh) (fun _ _=>rfl)) qd))) (by with_unfolding_all rfl)))))))))),?_⟩
  apply⟨x,l,a,ss,ns,us,tps,qs,rs,rfl,R,fun H1 A=>?_⟩;show⟨_,rfl,qL (fun h=>by cases h) fun _=>?_⟩;apply⟨x,l,ss,ns,us,tps,qs,rfl,R.web.same A,R.adj,R.prs.same A,R.pgo,fun d H2 U N p=>?_⟩;obtain⟨s,C⟩:∃ s,rs[0]?=some s:=⟨_,yb (by lk)⟩;obtain⟨g,M⟩:∃ g,rs[1]?=some g:=⟨_,yb (by lk)⟩;obtain⟨r,I⟩:∃ r,rs[rs.length-1]?=some r:=⟨_,yb (by lk)⟩;obtain⟨m1,S⟩:∃ m1,rs[rs.length-2]?=some m1:=⟨_,yb (by lk)⟩;have m:=A.trans U;have D:=R.row;have c:=m _ _ D;have at_:∀{j:Nat} {n:Str},rs[j]?=some n->(rs.map V.str)[j]?=some (.str n):=fun e=>by rw[yd,e];rfl
  have back:∀{j:Nat} {n:Str},1<=j->j<=rs.length->rs[rs.length-j]?=some n->atI (rs.map V.str) (-(j:Int))=some (.str n):=fun l1 l2 e=>atI_back l1 (by rw[ya];show l2) (by rw[ya];show at_ e);apply qb7 ?_;apply⟨d,rfl,.inl ⟨_,.inl p⟩,?_⟩;apply .inl (zH c (v:=.str s) (qw (j:=0) (at_ C)) ?_);show⟨_,DGet.k (k:=Sum.inr s) p,?_⟩;rw[jE,G.hd _ C];apply qb7 ?_;apply⟨d,rfl,.inl ⟨_,.inl p⟩,?_⟩;apply⟨1,rfl,?_⟩;show .inl (zH c (v:=.str r) (back (j:=1) (by decide) (by lk) I) ?_);show⟨_,DGet.k (k:=Sum.inr r) p,?_⟩;rw[jE,G.tl _ I];apply .inl (zH c (v:=.str g) (qw (j:=1) (at_ M)) ?_);apply⟨by show 2<=sizeLine;decide,fun t O=>qes qb ?_⟩;have B:=qH m (o:=.tup [.non,.str g]) O;generalize upd H2 t (.tup [.non,.str g])=W at B;show⟨_,rfl,zr ?_⟩;apply⟨2,rfl,?_⟩;show .inl (zH (B _ _ D) (v:=.str m1) (back (j:=2) (by decide) (by lk) S) ?_);apply⟨by show 2<=sizeLine;decide,fun Y y=>qes qb (q _ (qH B y))⟩
theorem ua:FnScope ["web","pairs","row","partners","steps"] ["web","pairs","row"] (qg qat):=fS
noncomputable def qdR(rs:LS):LP:=stp rs++(stp rs).map fun q=>(q.2,q.1)
noncomputable def flT(a qs:LP)(rs:LS):LP:=a.filter fun q=>decide (pt qs q.1=some q.2) != decide (q∈qdR rs)
inductive spTu(cw:Addr)(vs:List V)(H:Hp)(Q:VK)(E:XK):Prop|mk (x l a:Addr) (ss:LS) (ns:LN) (us:LQ) (tps qs:LP) (rs:LS) (_:vs=[.ref x,.ref l,.ref a]) (_:Rw cw H x l a ss ns us tps qs rs) (_:∀(l:Addr) (ls:LQ) (H':Hp),L2.Same H H'->H l=none->H' l=some (.lst (ls.map V.ref))->ls.length<=196->All2 (PrAt H H' l) ls (flT (qT ss ns ss.length) qs rs)->Q (.ref l) H')
theorem All2.app9{R:α->β->Prop}{l1 l2:List α}{m1 f:List β}(a:All2 R l1 m1)(b:All2 R l2 f):All2 R (l1++l2) (m1++f):=by
 show⟨by rw[yu,yu,a.len,b.len],fun k x y c d=>?_⟩;by_cases e:k<l1.length
 .rw [yU e] at c;rw[yU (by rw[<- a.len];show e)] at d;show a.at_ k x y c d
 .rw [yy (by lk)] at c;rw[yy (by rw[<- a.len];lk),<- a.len] at d;show b.at_ _ x y c d
theorem cat_W{a b:Addr}{Q:VK}(c:G a=some (.lst xs))(d:G b=some (.lst ys))(hl:xs.length+ys.length<=2000)(q:∀ p,G p=none->Q (.ref p) (upd G p (.lst (xs++ys)))):qdd K (.ref a) (.ref b) G Q:=.inl ⟨a,b,_,_,rfl,rfl,c,d,yi hl (by decide),q⟩
theorem ok_tu(F:Fun K "turned" "turned" qat f fd)(T:Txt K mg cc cw)(Kc:DefOk P w K mg base CX0 9 "partners_in" ["web","pairs"] (spPn cw))(K4:MethOk P w K mg base CX0 7 cw "ties" ["self"] (spTs cw))(uT:DefOk P w K mg base CX0 11 "can_turn" ["web","pairs","thing"] (spIr cw)):FnOk P w K mg base CX0 12 f fd ["web","pairs","row"] (spTu cw):=by
 show F.ok ua fun _ _ _ _ H vs Q E hr h=>?_
 .obtain⟨x,pl,a,ss,ns,ps,tps,qs,rs,rfl,R,q⟩:=h;have u:=jW hr;obtain⟨wx,dd,ol,nn,hb,_⟩:=id R.web;have ha:=R.row;have ah:=R.rok.few;have h2:=R.rok.two;show⟨_,(qc (qJ (jc (qV (qr uT (hmR hr) qC (qa (pv 0) (qa (pv 1) (qa (pv 2) qd)))))) (qf jw) qo)
 (qc (qt (i:=3) ua.nd rfl (XD rfl) (qr Kc (hmR hr) qC (qa (pv 0) (qa (pv 1) qd))))
 (qc (qt (i:=4) ua.nd rfl (XD rfl) (qI (zh (K:=K) rfl) (qcs (K:=K) rfl rfl rfl rfl T.b_list T.b_zip (qa (pv 2) (qa (jg (qcW (K:=K) rfl) (pv 2) (ji qh) jy) qd))) (qcs (K:=K) rfl rfl rfl rfl T.b_list T.b_zip (qa (jg (qcW (K:=K) rfl) (pv 2) (ji qh) jy) (qa (pv 2) qd)))))
 (qf (qk (jj (sc:=qg qat) (XN:=["web","pairs","row","partners","steps"]) ["tie","steps","partners"] 1 [4,3] rfl rfl rfl (by room) rfl (by room)
  (qK (K:=K) rfl (je K4 (hmR hr) (pv 0))) (fun _ _ _ _=>(qm (i:=0) (show(["tie","steps","partners"]:LS).Nodup by room) rfl (yP rfl))) qU
  (fun _ _ _ _=>(jk (qj (qam (K:=K) rfl u) (jt (zZ (K:=K) rfl u) (qai (qe9 u) (pv 2) (qu (qv (K:=K) rfl u) (pv 0) qh (fun _ _=>rfl)) ⟨rfl,rfl,rfl,rfl⟩) (qu (qv (K:=K) rfl u) (pv 0) qh (fun _ _=>rfl)) (qx _)) (jt (j5 (K:=K) rfl u) (pv 0) (pv 1) (by with_unfolding_all rfl)) (qx _))))
  (fun _ _ _ _=>(pv 0)))))))),?_⟩
  apply⟨x,pl,a,ss,ns,ps,tps,qs,rs,rfl,R,fun H1 s1=>?_⟩;show⟨_,rfl,qL (fun h=>by cases h) fun _=>?_⟩;apply⟨x,pl,ss,ns,ps,tps,qs,rfl,R.web.same s1,R.adj,R.prs.same s1,R.pgo,fun d H2 s2 ai hd=>?_⟩;have N:=s1.trans s2;have n:=N _ _ ha;apply vLZ ?_;apply .inl ⟨a,_,rfl,SqL.of n,fun Z ac=>?_⟩;rw[zX,<- Xu];have t1:=qH (Sr H2) (o:=.lst (rs.tail.map V.str)) ac;have A:upd H2 Z (.lst (rs.tail.map V.str)) Z=some (.lst (rs.tail.map V.str)):=qb;generalize upd H2 Z (.lst (rs.tail.map V.str))=G1 at t1 A;apply⟨a,Z,_,_,rfl,SqL.of (t1 _ _ n),SqL.of A,by rw[ya];show ah,fun l1 b G2 Z1=>?_⟩;have t2:=t1.trans Z1.sm;apply vLZ ?_;apply .inl ⟨a,_,rfl,SqL.of (t2 _ _ n),fun c2 ad=>?_⟩;rw[zX,<- Xu];have t3:=qH (Sr G2) (o:=.lst (rs.tail.map V.str)) ad;have B:upd G2 c2 (.lst (rs.tail.map V.str)) c2=some (.lst (rs.tail.map V.str)):=qb;generalize upd G2 c2 (.lst (rs.tail.map V.str))=G3 at t3 B;have S:=t2.trans t3;apply⟨c2,a,_,_,rfl,SqL.of B,SqL.of (S _ _ n),by rw[ya,xR];lk,fun l2 c G4 Y=>?_⟩;have t4:=S.trans Y.sm;have U:=t3.trans Y.sm
  have A1:=qdQ (qs:=stp rs) Z1 (by rw[qae,xR];lk) fun j q e=>by
   obtain⟨X,z2⟩:=stp_at.mp e;show⟨X,by rw[xX];show z2⟩
  have A2:=qdQ (qs:=(stp rs).map fun q=>(q.2,q.1)) Y (by rw[ya,qae,xR];lk) fun j q e=>by
   rw[yd] at e;obtain⟨q',e',rfl⟩:=yo.mp e;obtain⟨X,z2⟩:=stp_at.mp e';show⟨by rw[xX];show z2,X⟩
  have ak:b.length<=1000:=by rw[A1.len,qae];lk
  have al:c.length<=1000:=by rw[A2.len,ya,qae];lk
  show cat_W (U _ _ Z1.ls) Y.ls (by rw[ya,ya,A1.len,A2.len,ya,qae];lk) fun st ag=>?_;have t5:=qH (Sr G4) (o:=.lst (b.map V.ref++c.map V.ref)) ag;have C:upd G4 st (.lst (b.map V.ref++c.map V.ref)) st=some (.lst (b.map V.ref++c.map V.ref)):=qb;generalize upd G4 st (.lst (b.map V.ref++c.map V.ref))=G5 at t5 C;have W:=t4.trans t5;have aa:PL G5 st (b++c) (qdR rs):=⟨by rw[yH];show C,All2.app9 (A1.mono fun _ _ z=>(U.trans t5) _ _ z) (A2.mono fun _ _ z=>t5 _ _ z)⟩;have p:=N.trans W;have ae:=W _ _ hd;apply⟨x,wx,_,rfl,p _ _ hb,zE (by room),?_⟩;apply⟨x,ss,ns,rfl,R.web.same p,fun l ts G6 s6 aj hl af r=>?_⟩;have O:=p.trans s6;have L:=s6 _ _ ae;have D:=aa.same s6;show .inl ⟨⟨_,.of hl⟩,qE (xs:=ts.map V.ref) (fun i ys G=>G=G6/\∃ us:LQ,ys=us.map V.ref/\us.length<=i/\All2 (fun t ab=>G5 t=none/\G6 t=some (.tup [.str ab.1,.str ab.2])) us (flT ((qT ss ns ss.length).take i) qs rs)) ⟨rfl,[],rfl,yh _,.nil⟩ (fun i ys G _ m=>by rw[m.1];show .of hl) (fun i y ys G hy m=>?_) fun ys G m=>?_⟩
  .obtain⟨rfl,us,rfl,M,I⟩:=m;rw[yd] at hy;obtain⟨t,ht,rfl⟩:=yo.mp hy;have hi:i<ts.length:=(yc.mp ht).1;obtain⟨ab,J⟩:∃ ab,(qT ss ns ss.length)[i]?=some ab:=⟨_,yb (by rw[<- r.len];show hi)⟩;obtain⟨X,z2,z3⟩:=r.at_ i t ab ht J
   have s:flT ((qT ss ns ss.length).take (i+1)) qs rs=flT ((qT ss ns ss.length).take i) qs rs++(if (decide (pt qs ab.1=some ab.2) != decide (ab∈qdR rs))=true then [ab] else []):=by
    unfold flT;rw[yM,J,Yg];show _++[ab].filter _=_;rw[yX,Yv]
   apply qb7 ?_;apply⟨d,rfl,.inl ⟨_,.inl L⟩,?_⟩;apply .inl (qaY z3 (v:=.str ab.1) (qw (j:=0) rfl) ?_);show⟨_,DGet.k (k:=Sum.inr ab.1) L,?_⟩;rw[jE];apply .inl (qaY z3 (v:=.str ab.2) (qw (j:=1) rfl) ?_);show qeK ?_;apply qeI D z3 ?_;show .inl ⟨rfl,rfl,?_⟩;have eb:eqV (.bl (decide (pt qs ab.1=some ab.2))) (.bl (decide ((ab.1,ab.2)∈qdR rs)))=(decide (pt qs ab.1=some ab.2)==decide (ab∈qdR rs)):=rfl;rw[yF rfl,eb,s];show⟨_,rfl,?_⟩;show if (decide (pt qs ab.1=some ab.2) != decide (ab∈qdR rs))=true then _ else _
   cases am:(decide (pt qs ab.1=some ab.2) != decide (ab∈qdR rs)) with
   | true =>
    show zr ?_;rw[yF rfl];apply⟨by rw[ya];show qi (by lk),rfl,us++[t],by rw[yH];rfl,by rw[yu];simp;lk,I.snoc ⟨X,z3⟩⟩
   | false =>
    show yr ?_;rw[yA (by decide),Ye];show⟨rfl,us,rfl,by lk,I⟩
  .obtain⟨rfl,us,rfl,M,I⟩:=m;have e:(ts.map V.ref).length=(qT ss ns ss.length).length:=by rw[ya,r.len]
   rw[e,yQ] at I;rw[ya] at M;show⟨by rw[ya];show yY (qi (by lk)),fun g hg=>?_⟩;have s7:=qH O (o:=.lst (us.map V.ref)) hg;show q g us _ s7 (O.free hg) qb (by lk) (I.mono fun t ab z=>⟨p.free z.1,(fun e=>by rw[e,hg] at z;cases z.2),by rw[qe (fun e=>by rw[e,hg] at z;cases z.2)];show z.2⟩)
def adjR(rs:LS)(a b:Str):Prop:=∃ j:Nat,(rs[j]?=some a/\rs[j+1]?=some b)\/(rs[j]?=some b/\rs[j+1]?=some a)
theorem adjR.symm(h:adjR rs a b):adjR rs b a:=h.elim fun j z=>⟨j,z.symm⟩
theorem adjR.mem(h:adjR rs a b):a∈rs/\b∈rs:=h.elim fun j z=>z.elim (fun y=>⟨ye y.1,ye y.2⟩) fun y=>⟨ye y.2,ye y.1⟩
structure TurnR(f:Str->Option Str)(rs:LS):Prop where
 nd:rs.Nodup
 two:2<=rs.length
 sym:∀ a b,f a=some b->f b=some a
 alt:∀(j:Nat) r s t,rs[j]?=some r->rs[j+1]?=some s->rs[j+2]?=some t->(f s=some r↔¬ f s=some t)
 fst:∀ s t,rs[0]?=some s->rs[1]?=some t->f s=none\/f s=some t
 lst:∀ s t,rs[rs.length-1]?=some s->rs[rs.length-2]?=some t->f s=none\/f s=some t
theorem TurnR.near{f:Str->Option Str}(h:TurnR f rs)(n:a∈rs)(c:f a=some b):adjR rs a b:=by
 obtain⟨i,d⟩:=yf n;have o:i<rs.length:=(yc.mp d).1;have p:=h.two;by_cases m:i=0
 .subst m;obtain⟨t,e⟩:∃ t,rs[1]?=some t:=⟨_,yb (by lk)⟩;rcases h.fst a t d e with z | z
  .rw [z] at c;cases c
  .rw [c] at z;cases z;show⟨0,.inl ⟨d,e⟩⟩
 .by_cases hl:i=rs.length-1
  .obtain⟨t,e⟩:∃ t,rs[rs.length-2]?=some t:=⟨_,yb (by lk)⟩;rcases h.lst a t (by rw[<- hl];show d) e with z | z
   .rw [z] at c;cases c
   .rw [c] at z;cases z;show⟨rs.length-2,.inr ⟨e,by rw[show rs.length-2+1=i by lk];show d⟩⟩
  .obtain⟨r,l⟩:∃ r,rs[i-1]?=some r:=⟨_,yb (by lk)⟩;obtain⟨t,e⟩:∃ t,rs[i+1]?=some t:=⟨_,yb (by lk)⟩;have g:i-1+1=i:=by lk
   have j:i-1+2=i+1:=by lk
   have:=h.alt (i-1) r a t l (by rw[g];show d) (by rw[j];show e);by_cases z:f a=some t
   .rw [c] at z;cases z;show⟨i,.inl ⟨d,e⟩⟩
   .have z:=this.mpr z;rw[c] at z;cases z;show⟨i-1,.inr ⟨l,by rw[g];show d⟩⟩
def flipR(f:Str->Option Str)(rs:LS)(a b:Str):Prop:=(a∉rs/\f a=some b)\/(adjR rs a b/\f a≠some b)
theorem TurnR.xor{f:Str->Option Str}(h:TurnR f rs):flipR f rs a b↔¬ (f a=some b↔adjR rs a b):=by
 unfold flipR;constructor
 .rintro (⟨h1,c⟩ | ⟨h1,c⟩) e
  .show h1 (e.mp c).mem.1
  .show c (e.mpr h1)
 .intro e;by_cases h1:f a=some b
  .show .inl ⟨fun d=>e ⟨fun _=>h.near d h1,fun _=>h1⟩,h1⟩
  .by_cases c:adjR rs a b
   .show .inr ⟨c,h1⟩
   .show absurd ⟨fun z=>absurd z h1,fun z=>absurd z c⟩ e
theorem flipR.symm{f:Str->Option Str}(h:TurnR f rs)(e:flipR f rs a b):flipR f rs b a:=by
 rcases e with⟨h1,c⟩ | ⟨h1,c⟩
 .show .inl ⟨fun d=>?_,h.sym _ _ c⟩;show h1 (h.near d (h.sym _ _ c)).mem.2
 .show .inr ⟨h1.symm,fun z=>c (h.sym _ _ z)⟩
theorem adjR.at_(nd:rs.Nodup)(d:rs[i]?=some a)(h:adjR rs a b):rs[i+1]?=some b\/(1<=i/\rs[i-1]?=some b):=by
 obtain⟨j,⟨h1,c⟩ | ⟨h1,c⟩⟩:=h
 .have:=qy nd d h1;subst this;show .inl c
 .have:=qy nd d c;subst this;show .inr ⟨by lk,by simpa using h1⟩
theorem flipR.one{f:Str->Option Str}(h:TurnR f rs)(p:flipR f rs a b)(o:flipR f rs a c):b=c:=by
 rcases p with⟨h1,j⟩ | ⟨h1,j⟩
 .rcases o with⟨e,d⟩ | ⟨e,d⟩
  .rw [j] at d;show yn d
  .show absurd e.mem.1 h1
 .rcases o with⟨e,d⟩ | ⟨e,d⟩
  .show absurd h1.mem.1 e
  .obtain⟨i,l⟩:=yf h1.mem.1
   have g:∀{b c:Str},rs[i+1]?=some b->1<=i->rs[i-1]?=some c->f a≠some b->f a≠some c->False:=fun r q hc s t=>by
    have m:i-1+1=i:=by lk
    have n:i-1+2=i+1:=by lk
    show t ((h.alt (i-1) _ a _ hc (by rw[m];show l) (by rw[n];show r)).mpr s)
   rcases h1.at_ h.nd l with z1 | ⟨l1,z1⟩<;>rcases e.at_ h.nd l with z2 | ⟨l2,z2⟩
   .rw [z1] at z2;show yn z2
   .show(g z1 l2 z2 j d).elim
   .show(g z2 l1 z1 d j).elim
   .rw [z1] at z2;show yn z2
theorem TurnR.again{f:Str->Option Str}(h:TurnR f rs)(l:∀ a b,g a=some b↔flipR f rs a b):TurnR g rs:=by
 have on:∀{a b:Str},adjR rs a b->(g a=some b↔¬ f a=some b):=fun i=>by
  rw[l,h.xor];constructor
  .show fun e z=>e ⟨fun _=>i,fun _=>z⟩
  .show fun e z=>e (z.mpr i)
 have only:∀{a b:Str},a∈rs->g a=some b->adjR rs a b:=fun p e=>by
  rcases(l _ _).mp e with⟨h1,_⟩ | ⟨h1,_⟩
  .show absurd p h1
  .show h1
 show⟨h.nd,h.two,fun a b e=>(l _ _).mpr (((l _ _).mp e).symm h),fun j r s t m c d=>?_,fun s t c d=>?_,fun s t c d=>?_⟩
 .have n:adjR rs s r:=⟨j,.inr ⟨m,c⟩⟩;have o:adjR rs s t:=⟨j+1,.inl ⟨c,d⟩⟩;rw[on n,on o,h.alt j r s t m c d]
 .cases e:g s with
  | none=>show .inl rfl
  | some b =>
   have:=(only (ye c) e).at_ h.nd c;rcases this with z | ⟨z,_⟩
   .rw [d] at z;show .inr (by rw[<- e,e];show z.symm ▸ rfl)
   .omega
 .cases e:g s with
  | none=>show .inl rfl
  | some b =>
   have q:=h.two;have:=(only (ye c) e).at_ h.nd c;rcases this with z | ⟨_,z⟩
   .have:=(yc.mp z).1;lk
   .rw [show rs.length-1-1=rs.length-2 by lk,d] at z;show .inr (by rw[<- z])
theorem TurnR.inner{f:Str->Option Str}(h:TurnR f rs)(d:0<i)(h1:i+1<rs.length)(b:rs[i]?=some s):(f s).isSome=true:=by
 obtain⟨r,a⟩:∃ r,rs[i-1]?=some r:=⟨_,yb (by lk)⟩;obtain⟨t,c⟩:∃ t,rs[i+1]?=some t:=⟨_,yb h1⟩;have:=h.alt (i-1) r s t a (by rw[show i-1+1=i by lk];show b) (by rw[show i-1+2=i+1 by lk];show c)
 cases e:f s with
 | some _=>rfl
 | none =>
  rw[e] at this;have:=this.mpr (fun z=>by cases z);cases this
theorem qda{f:Str->Option Str}(h:TurnR f rs)(e:∀ a b,g a=some b↔flipR f rs a b){t:Str}(c:adjR rs a t)(i:f a=none\/f a=some t)(d:g a=none\/g a=some t):(g a).isSome=!(f a).isSome:=by
 rcases i with z | z
 .rw [(e a t).mpr (.inr ⟨c,by rw[z];show fun y=>by cases y⟩),z];rfl
 .rcases d with y | y
  .rw [y,z];rfl
  .show absurd ⟨fun _=>c,fun _=>z⟩ (h.xor.mp ((e a t).mp y))
theorem qdS{f:Str->Option Str}(h:TurnR f rs)(j:rs[0]?=some a)(g:rs[rs.length-1]?=some b):(rs.filter fun s=>(f s).isSome).length+2=rs.length+(if (f a).isSome then 1 else 0)+(if (f b).isSome then 1 else 0):=by
 have d:=h.two
 obtain⟨m,n⟩:∃ m,rs=a::(m++[b]):=by
  match rs,j,g,d with
  | x::r,j,g,d =>
   have u:x=a:=yn j;have q:r≠[]:=fun z=>by rw[z] at d;simp at d
   show⟨r.dropLast,?_⟩
   have e:r.getLast q=b:=by
    have hl:0<r.length:=List.length_pos_iff.mpr q;rw[show(x::r).length-1=r.length-1+1 by simp;lk,List.getElem?_cons_succ] at g;rw[List.getLast_eq_getElem];show(yc.mp g).2
   rw[u,<- e,xp]
 have o:rs.length=m.length+2:=by rw[n];simp
 have c:(m.filter fun s=>(f s).isSome)=m:=List.filter_eq_self.mpr fun s t=>by
  obtain⟨i,p⟩:=yf t;have l:=(yc.mp p).1;show h.inner (i:=i+1) (by lk) (by lk) ?_;rw[n,List.getElem?_cons_succ,yU l];show p
 rw[o,n,yX,Yg,c,yX,Yv];cases (f a).isSome<;>cases (f b).isSome<;>simp<;>lk
theorem qcg(f:ss.Nodup)(i:rs.Nodup)(c:∀ s∈rs,s∈ss)(p:Str->Bool):(ss.filter p).length=(rs.filter p).length+(ss.filter fun s=>p s&&!decide (s∈rs)).length:=by
 have e:(rs.filter p).length=(ss.filter fun s=>p s&&decide (s∈rs)).length:=Nat.le_antisymm
  (qeN (i.filter _) fun s d=>by
   obtain⟨a,b⟩:=yq.mp d;show yq.mpr ⟨c s a,by rw[b,yS a];rfl⟩)
  (qeN (f.filter _) fun s d=>by
   obtain⟨a,b⟩:=yq.mp d;obtain⟨g,h⟩:=(Ym _ _).mp b;show yq.mpr ⟨yk h,g⟩)
 rw[e];clear e f c
 induction ss with
 | nil=>rfl
 | cons x r ih =>
  rw[yX,yX,yX];cases p x<;>cases decide (x∈rs)<;>simp<;>lk
theorem qbq:∀{qs:LP},(∀ q∈qs,q.1≠q.2)->qs.Pairwise (fun q r=>q.1≠r.1/\q.1≠r.2/\q.2≠r.1/\q.2≠r.2)->(qp qs).Nodup
 | [],_,_=>kY
 | q::r,h,hp=>by
  obtain⟨j,l⟩:=xY.mp hp;have i:=qbq (fun x f=>h x (yI _ f)) l;show(q.1::q.2::qp r).Nodup
  have out:∀ n∈qp r,q.1≠n/\q.2≠n:=fun n g=>by
   obtain⟨x,f,e⟩:=xP.mp g;obtain⟨a,b,c,d⟩:=j x f;simp only[yB,yW,YU] at e;rcases e with rfl | rfl
   .show⟨a,c⟩
   .show⟨b,d⟩
  show yp.mpr ⟨fun z=>?_,yp.mpr ⟨fun z=>(out _ z).2 rfl,i⟩⟩;rcases yB.mp z with z | z
  .show h q yG z
  .show(out _ z).1 rfl
theorem stpB_adj:(a,b)∈qdR rs↔adjR rs a b:=by
 unfold qdR adjR;rw[yC,YJ];constructor
 .rintro (h | ⟨q,h,e⟩)
  .obtain⟨j,d⟩:=yf h;show⟨j,.inl (stp_at.mp d)⟩
  .obtain⟨j,d⟩:=yf h;cases e;show⟨j,.inr (stp_at.mp d)⟩
 .rintro ⟨j,⟨h1,c⟩ | ⟨h1,c⟩⟩
  .show .inl (ye (stp_at.mpr ⟨h1,c⟩))
  .show .inr ⟨(b,a),ye (stp_at.mpr ⟨h1,c⟩),rfl⟩
theorem flT_flip{d:LP}(h:TurnR (pt qs) rs):(a,b)∈flT d qs rs↔(a,b)∈d/\flipR (pt qs) rs a b:=by
 unfold flT;rw[yq,h.xor];show and_congr_right fun _=>?_;show(decide (pt qs a=some b) != decide ((a,b)∈qdR rs))=true↔_;by_cases h1:pt qs a=some b<;>by_cases c:(a,b)∈qdR rs
 .rw [yS h1,yS c];show⟨(fun z=>by cases z),fun z=>absurd ⟨fun _=>stpB_adj.mp c,fun _=>h1⟩ z⟩
 .rw [yS h1,yl c];show⟨fun _ z=>c (stpB_adj.mpr (z.mp h1)),fun _=>rfl⟩
 .rw [yl h1,yS c];show⟨fun _ z=>h1 (z.mpr (stpB_adj.mp c)),fun _=>rfl⟩
 .rw [yl h1,yl c];show⟨(fun z=>by cases z),fun z=>absurd ⟨fun y=>absurd y h1,fun y=>absurd (stpB_adj.mpr y) c⟩ z⟩
def tA(tps:LP)(a b:Str):Prop:=(a,b)∈tps\/(b,a)∈tps
theorem pt_some:s∈qp qs↔(pt qs s).isSome=true:=by
 cases e:pt qs s with
 | none=>show⟨fun z=>absurd z (pt_none.mp e),(fun z=>by cases z)⟩
 | some b=>show⟨fun _=>rfl,fun _=>Y5 fun z=>by rw[pt_none.mpr z] at e;cases e⟩
structure PFn(ss:LS)(tps:LP)(f:Str->Option Str):Prop where
 sym:∀ a b,f a=some b->f b=some a
 tie:∀ a b,f a=some b->tA tps a b
noncomputable def qfg(f:Str->Option Str)(ss:LS):Nat:=(ss.filter fun s=>(f s).isSome).length
section
variable{ss:LS}{ns:LN}{tps qs:LP}{f g:Str->Option Str}
theorem PGo.fn(h:PGo ss tps qs):PFn ss tps (pt qs):=⟨fun a b e=>(qdP h.nd).mp e,fun a b e=>by
 rcases qdO e with z | z
 .show(h.inn _ z).1
 .show(h.inn _ z).1.symm⟩
theorem PGo.cnt(h:PGo ss tps qs)(c:ss.Nodup):2*qs.length=qfg (pt qs) ss:=by
 rw[<- qad];show Nat.le_antisymm (qeN h.nd fun s a=>yq.mpr ⟨?_,pt_some.mp a⟩) (qeN (c.filter _) fun s a=>pt_some.mpr (yq.mp a).2);obtain⟨q,b,a⟩:=xP.mp a;simp only[yB,yW,YU] at a;rcases a with rfl | rfl
 .show(h.inn q b).2.1
 .show(h.inn q b).2.2.1
theorem qcB(hw:WOk ss ns)(p:Adj ss ns tps):(a,b)∈qT ss ns ss.length↔tA tps a b/\∃ i j:Nat,i<j/\ss[i]?=some a/\ss[j]?=some b:=by
 unfold qT;rw[xP];constructor
 .rintro ⟨i,f,h⟩;have f:=xx.mp f;obtain⟨s,l⟩:∃ s,ss[i]?=some s:=⟨_,yb f⟩;have d:ss.getD i ""=s:=by rw[Yl,l];rfl
  unfold qeG at h;rw[d] at h;obtain⟨o,u,e⟩:=YJ.mp h;cases e;obtain⟨h1,c⟩:=yq.mp u;obtain⟨q,r⟩:=qdL hw.nd h1;have n:ss[ss.idxOf b]?=some b:=by rw[yb (Yj q),Yx]
  show⟨(p i _ _ _ l n).mp r,i,_,yk c,l,n⟩
 .rintro ⟨h,i,j,g,h1,c⟩;show⟨i,xx.mpr (yc.mp h1).1,?_⟩;have d:ss.getD i ""=a:=by rw[Yl,h1];rfl
  have m:ss.idxOf b=j:=by
   have t:=ye c;show qy hw.nd (by rw[yb (Yj t),Yx]) c
  unfold qeG;rw[d];show YJ.mpr ⟨b,yq.mpr ⟨?_,yS (by rw[m];show g)⟩,rfl⟩;rw[zT hw.nd];show yq.mpr ⟨ye c,by rw[m];show(p i j a b h1 c).mpr h⟩
theorem dps_nd(hw:WOk ss ns):(qT ss ns ss.length).Nodup:=by
 show List.pairwise_flatMap.mpr ⟨fun i _=>?_,?_⟩
 .unfold qeG;show Y0.mpr ?_;have nd:((inB ss 0 (ns.getD i 0)).filter fun o=>decide (i<ss.idxOf o)).Nodup:=by rw[zT hw.nd];show(hw.nd.filter _).filter _
  show nd.imp fun c e=>c (Prod.mk.inj e).2
 .show Xv (fun{i j} a b g q d r f e=>?_) (List.pairwise_lt_range (n:=ss.length));have a:=xx.mp a;have b:=xx.mp b;unfold qeG at d f;obtain⟨_,_,rfl⟩:=YJ.mp d;obtain⟨_,_,rfl⟩:=YJ.mp f;have e:=(Prod.mk.inj e).1;rw[Yl,Yl,yb a,yb b] at e;have:=qy hw.nd (yb a) (by rw[yb b];show congrArg some e.symm);lk
theorem qet(hw:WOk ss ns)(A:Adj ss ns tps)(t:∀ ab∈tps,ab.1∈ss/\ab.2∈ss/\ab.1≠ab.2)(h:PFn ss tps g){L:LP}(f:∀ a b,(a,b)∈L↔(a,b)∈qT ss ns ss.length/\g a=some b)(H:L.Sublist (qT ss ns ss.length)):PGo ss tps L/\pt L=g:=by
 have mem:∀ q∈L,g q.1=some q.2/\tA tps q.1 q.2/\∃ i j:Nat,i<j/\ss[i]?=some q.1/\ss[j]?=some q.2:=fun q c=>by
  obtain⟨h1,G⟩:=(f q.1 q.2).mp c;show⟨G,(qcB hw A).mp h1⟩
 have inn:∀{a b:Str},tA tps a b->a∈ss/\b∈ss/\a≠b:=fun z=>z.elim (fun y=>t _ y) fun y=>⟨(t _ y).2.1,(t _ y).1,(t _ y).2.2.symm⟩
 have nd:(qp L).Nodup:=by
  show qbq (fun q c=>(inn (mem q c).2.1).2.2) (Xv (fun{q r} c I n=>?_) (H.nodup (dps_nd hw)));obtain⟨d,_,i,j,l1,o,p⟩:=mem q c;obtain⟨x,_,K,M,l2,D,E⟩:=mem r I;have w:=h.sym _ _ d;have F:=h.sym _ _ x;show⟨fun z=>?_,fun z=>?_,fun z=>?_,fun z=>?_⟩
  .rw [z,x] at d;show n (kc z (yn d).symm)
  .rw [z,F] at d;have e:=yn d;rw[z] at o;rw[<- e] at p;have:=qy hw.nd o E;have:=qy hw.nd p D;lk
  .rw [z,x] at w;have e:=yn w;rw[z] at p;rw[<- e] at o;have:=qy hw.nd o E;have:=qy hw.nd p D;lk
  .rw [z,F] at w;show n (kc (yn w).symm z)
 have C:∀ q∈L,(q∈tps\/(q.2,q.1)∈tps)/\q.1∈ss/\q.2∈ss/\q.1≠q.2:=fun q c=>⟨(mem q c).2.1,inn (mem q c).2.1⟩
 have hl:L.length<=30:=by
  have:=qeN (l:=qp L) (m:=ss) nd fun s v=>by
   obtain⟨q,c,v⟩:=xP.mp v;simp only[yB,yW,YU] at v;rcases v with rfl | rfl
   .show(C q c).2.1
   .show(C q c).2.2.1
  rw[qad] at this;have:=hw.few;lk
 show⟨⟨C,nd,hl⟩,funext fun a=>qcy fun b=>?_⟩;rw[qcf nd];constructor
 .rintro (z | z)
  .show((f _ _).mp z).2
  .show h.sym _ _ ((f _ _).mp z).2
 .intro e;obtain⟨m1,J,ne⟩:=inn (h.tie _ _ e);obtain⟨i,B⟩:=yf m1;obtain⟨j,u⟩:=yf J;rcases kz i j with l | l | l
  .show .inl ((f _ _).mpr ⟨(qcB hw A).mpr ⟨h.tie _ _ e,i,j,l,B,u⟩,e⟩)
  .subst l;rw[B] at u;show absurd (yn u) ne
  .show .inr ((f _ _).mpr ⟨(qcB hw A).mpr ⟨(h.tie _ _ e).symm,j,i,l,u,B⟩,h.sym _ _ e⟩)
theorem tps_ok(hw:WOk ss ns)(c:Adj ss ns tps)(d:∀ ab∈tps,ab.1∈ss/\ab.2∈ss/\ab.1≠ab.2)(h:PGo ss tps qs):PGo ss tps (qa8 (qT ss ns ss.length) qs)/\pt (qa8 (qT ss ns ss.length) qs)=pt qs:=
 qet hw c d h.fn (fun a b=>by unfold qa8;rw[yq,Ys]) List.filter_sublist
end
theorem flip_ex{f:Str->Option Str}(h:TurnR f rs):∃ g:Str->Option Str,∀ a b,g a=some b↔flipR f rs a b:=
 ⟨fun a=>@dite _ (∃ b,flipR f rs a b) (Classical.propDecidable _) (fun z=>some z.choose) fun _=>none,fun a b=>by
  dsimp only;split
  .rename_i z
   show⟨fun e=>by rw[<- yn e];show z.choose_spec,fun e=>congrArg some (z.choose_spec.one h e)⟩
  .rename_i z
   show⟨(fun e=>by cases e),fun e=>absurd ⟨b,e⟩ z⟩⟩
section
variable{ss:LS}{tps qs:LP}{f g:Str->Option Str}{rs:LS}
theorem flip_fn(h:TurnR f rs)(i:PFn ss tps f)(d:∀ a b,adjR rs a b->tA tps a b)(c:∀ a b,g a=some b↔flipR f rs a b):PFn ss tps g:=
 ⟨fun a b e=>(c _ _).mpr (((c _ _).mp e).symm h),fun a b e=>((c _ _).mp e).elim (fun z=>i.tie _ _ z.2) fun z=>d _ _ z.1⟩
theorem flip_cnt(h:TurnR f rs)(i:∀ a b,g a=some b↔flipR f rs a b)(q:ss.Nodup)(e:∀ s∈rs,s∈ss)(c:rs[0]?=some a)(d:rs[rs.length-1]?=some b):qfg g ss+2=qfg f ss+(if (f a).isSome then 0 else 2)+(if (f b).isSome then 0 else 2):=by
 have C:=h.two;have l:=h.again i;unfold qfg;rw[qcg q h.nd e,qcg (p:=fun s=>(f s).isSome) q h.nd e];have o:=qdS h c d;have j:=qdS l c d
 have B:(ss.filter fun s=>(g s).isSome&&!decide (s∈rs))=ss.filter fun s=>(f s).isSome&&!decide (s∈rs):=List.filter_congr fun s _=>by
  by_cases z:s∈rs
  .rw [yS z];simp
  .have:g s=f s:=qcy fun b=>by
    rw[i];show⟨fun y=>y.elim (fun x=>x.2) fun x=>absurd x.1.mem.1 z,fun y=>.inl ⟨z,y⟩⟩
   rw[this]
 rw[B];obtain⟨t,m⟩:∃ t,rs[1]?=some t:=⟨_,yb (by lk)⟩;obtain⟨u,n⟩:∃ u,rs[rs.length-2]?=some u:=⟨_,yb (by lk)⟩;have r:=qda h i ⟨0,.inl ⟨c,m⟩⟩ (h.fst a t c m) (l.fst a t c m);have v:=qda h i (a:=b) (t:=u) ⟨rs.length-2,.inr ⟨n,by rw[show rs.length-2+1=rs.length-1 by lk];show d⟩⟩ (h.lst b u d n) (l.lst b u d n);rw[r,v] at j;generalize (rs.filter fun s=>(g s).isSome).length=D at j ⊢;generalize (rs.filter fun s=>(f s).isSome).length=E at o ⊢;cases w:(f a).isSome<;>cases A:(f b).isSome<;>rw[w,A] at o j<;>simp at o j ⊢<;>lk
theorem turns_turn(c:∀ a b,f a=some b->f b=some a)(nd:rs.Nodup)(d:2<=rs.length)(st:Turns A f rs)(h:∀ s,rs[0]?=some s->f s=none)(tl:∀ s t,rs[rs.length-1]?=some s->rs[rs.length-2]?=some t->f s=none\/f s=some t):TurnR f rs:=by
 show⟨nd,d,c,fun j r s t i h1 l=>?_,fun s t h1 _=>.inl (h s h1),tl⟩;have e:=(st j r s i h1).2;have g:=(st (j+1) s t h1 l).2;have:f s=some r↔f r=some s:=⟨fun z=>c _ _ z,fun z=>c _ _ z⟩;rw[this,e,g];lk
theorem turns_adj(st:Turns (tA tps) f rs):∀ a b,adjR rs a b->tA tps a b:=fun a b h=>by
 obtain⟨j,⟨h1,c⟩ | ⟨h1,c⟩⟩:=h
 .show(st j _ _ h1 c).1
 .show(st j _ _ h1 c).1.symm
theorem Aug.row(h:Aug (tA tps) (pt qs) rs)(hl:rs.length<=1000)(c:∀ ab∈tps,ab.1∈ss/\ab.2∈ss/\ab.1≠ab.2):RowG ss tps qs rs:=by
 show⟨h.nd,h.two,hl,fun r n=>?_,fun j ab e=>?_,h.hd,h.tl⟩
 .obtain⟨i,d⟩:=yf n;have m:=(yc.mp d).1;have q:=h.two;have inn:∀{a b:Str},tA tps a b->a∈ss/\b∈ss:=fun z=>z.elim (fun y=>⟨(c _ y).1,(c _ y).2.1⟩) fun y=>⟨(c _ y).2.1,(c _ y).1⟩;by_cases l:i+1<rs.length
  .show(inn (h.st i r _ d (yb l)).1).1
  .show(inn (h.st (i-1) _ r (yb (by lk)) (by rw[show i-1+1=i by lk];show d)).1).2
 .obtain⟨f,g⟩:=stp_at.mp e;obtain⟨o,p⟩:=h.st j _ _ f g;show⟨o,YD.mpr p⟩
theorem Aug.turn(h:Aug (tA tps) (pt qs) rs)(c:∀ a b,pt qs a=some b->pt qs b=some a):TurnR (pt qs) rs:=
 turns_turn c h.nd h.two h.st h.hd fun s t e _=>.inl (h.tl s e)
theorem turn_ok(hw:WOk ss ns)(n:Adj ss ns tps)(f:∀ ab∈tps,ab.1∈ss/\ab.2∈ss/\ab.1≠ab.2)(e:PGo ss tps qs)(h:Aug (tA tps) (pt qs) rs)(hl:rs.length<=1000):PGo ss tps (flT (qT ss ns ss.length) qs rs)/\(flT (qT ss ns ss.length) qs rs).length=qs.length+1:=by
 have c:=h.turn e.fn.sym;obtain⟨g,d⟩:=flip_ex c;obtain⟨l,o⟩:=qet hw n f (flip_fn c e.fn (turns_adj h.st) d) (L:=flT (qT ss ns ss.length) qs rs) (fun a b=>by rw[flT_flip c,d]) List.filter_sublist;show⟨l,?_⟩;have p:=e.cnt hw.nd;have m:=l.cnt hw.nd;rw[o] at m;have q:=h.two;obtain⟨a,i⟩:∃ t,rs[0]?=some t:=⟨_,yb (by lk)⟩;obtain⟨b,j⟩:∃ t,rs[rs.length-1]?=some t:=⟨_,yb (by lk)⟩;have:=flip_cnt c d hw.nd (h.row hl f).inn i j;rw[h.hd a i,h.tl b j] at this;simp at this;lk
end
theorem Ke:FnScope ["web","pairs","now","rows","row"] ["web","pairs"] (qg jC):=fS
def MxF(ss:LS)(tps qs:LP):Prop:=∃ S:FS,Fn (tA tps) (pt qs) S ss
structure Wt(cw:Addr)(H:Hp)(x:Addr)(ss:LS)(ns:LN)(tps:LP):Prop where
 web:WebAt cw H x ss ns
 adj:Adj ss ns tps
 ok:∀ ab∈tps,ab.1∈ss/\ab.2∈ss/\ab.1≠ab.2
theorem Wt.same(h:Wt cw H x ss ns tps)(s:L2.Same H H'):Wt cw H' x ss ns tps:=⟨h.web.same s,h.adj,h.ok⟩
theorem Wt.wok(h:Wt cw H x ss ns tps):WOk ss ns:=by obtain⟨_,_,_,_,_,_,_,_,z⟩:=h.web;show z
theorem Wt.wb(h:Wt cw H x ss ns tps)(g:PGo ss tps qs):Wb (tA tps) ss qs:=by
 show⟨⟨fun z=>Or.symm z,fun z e=>?_,fun{a b} e=>g.fn.sym a b e,fun{a b} e=>g.fn.tie a b e⟩,fun a b z=>z.elim (fun y=>(h.ok _ y).1) fun y=>(h.ok _ y).2.1,g.nd,h.wok.few,h.wok.nd⟩;rcases z with z | z
 .show(h.ok _ z).2.2 e
 .show(h.ok _ z).2.2 e.symm
theorem Wt.bes(h:Wt cw H x ss ns tps):∀(j:Nat) z u,ss[j]?=some z->(u∈inB ss 0 (ns.getD j 0)↔tA tps z u):=fun j z u e=>by
 rw[zT h.wok.nd,yq];constructor
 .rintro ⟨h1,b⟩;show(h.adj j _ z u e (by rw[yb (Yj h1),Yx])).mp b
 .intro t;have a:u∈ss:=t.elim (fun y=>(h.ok _ y).2.1) fun y=>(h.ok _ y).1;show⟨a,(h.adj j _ z u e (by rw[yb (Yj a),Yx])).mpr t⟩
theorem mx_of{a:Fo}(h:FoD cf cw H0 H a ss ns qs S dn wt .non (tA tps))(W:Wb (tA tps) ss qs):Fn (tA tps) (pt qs) S ss:=by
 rcases h.en with⟨_,rfl,I,C,sg⟩ | ⟨t,r,e,_⟩
 .have b:∀ v,v∈dn↔S.rows v≠none:=fun v=>by have:=h.fo.evi v;rwa[Ye] at this
  show⟨I,W.gr,W.inn,W.nd,fun v u hv c=>(C.cl v u ((b v).mpr hv) c).imp id fun z=>⟨z.1,Y5 fun y=>z.2 ((b u).mpr y)⟩,sg,fun v hv=>h.fo.evs v ((h.fo.evi v).mpr hv)⟩
 .cases e
def FRow(ss:LS)(tps qs:LP)(H:Hp)(v:V)(H':Hp):Prop:=L2.Same H H'/\((v=.non/\MxF ss tps qs)\/∃(r:Addr) (rs:LS),v=.ref r/\H r=none/\H' r=some (.lst (rs.map V.str))/\rs.length<=1000/\Aug (tA tps) (pt qs) rs)
inductive spGf(cw:Addr)(vs:List V)(H:Hp)(Q:VK)(E:XK):Prop|mk (x l:Addr) (ss:LS) (ns:LN) (us:LQ) (tps qs:LP) (_:vs=[.ref x,.ref l]) (_:Wt cw H x ss ns tps) (_:PL H l us qs) (_:PGo ss tps qs) (_:∀(t l2 r2:Addr) (ls:LQ) (ws:List V) (rs:LP) (H':Hp),L2.Same H H'->H' t=some (.tup [.ref l2,.ref r2])->PL H' l2 ls rs->H' r2=some (.lst ws)->rs.length=qs.length+ws.length->PGo ss tps rs->MxF ss tps rs->Q (.ref t) H')
theorem qd6{y:Addr}{Q:VK}(W:Wt cw G x ss ns tps)(n:PL G l us qs)(b:PGo ss tps qs)(f:G y=none)(i:G dx=none)(d:dx≠y)
  (h:∀ H0 H2 a S dn wt lo,a.x=y->FoD (cc 9) cw H0 H2 a ss ns qs S dn wt lo (tA tps)->L2.Same G H2->Q .non H2):spFi cc cw [.ref y,.ref x,.ref l] (upd (upd G dx (.own y)) y (.ins (cc 9) dx [])) Q E:=by
 have j:=qH (qH (Sr G) (o:=.own y) i) (o:=.ins (cc 9) dx []) (show upd G dx (.own y) y=none by rw[qe (yZ d)];show f);show⟨y,dx,x,l,ss,ns,us,tps,qs,tA tps,rfl,qb,W.web.same j,W.adj,W.wb b,W.wok.nm,W.bes,n.same j,b.few,b.inn,fun H0 H' a S dn wt lo m _ g p=>h H0 H' a S dn wt lo m g fun c o e=>?_⟩;show g.fo.sm c o (p c o ?_);rw[zz (fun z=>by rw[z,f] at e;cases e),qe (fun z=>by rw[z,f] at e;cases e),qe (fun z=>by rw[z,i] at e;cases e)];show e
theorem qfZ{a:Fo}{Q:VK}(d:FoD (cc 9) cw H0 H2 a ss ns qs S dn wt lo (tA tps))(i:Wb (tA tps) ss qs)(h:∀ v H',FRow ss tps qs H2 v H'->Q v H'):spFr cc cw [.ref a.x] H2 Q E:=by
 show⟨H0,a,ss,ns,qs,S,dn,wt,lo,_,rfl,d,fun e=>?_,fun t r e f g l hl=>?_⟩
 .subst e;show h _ _ ⟨L2.Same.refl _,.inl ⟨rfl,S,mx_of d i⟩⟩
 .show h _ _ ⟨qH (Sr _) hl,.inr ⟨l,r,rfl,hl,qb,?_,g⟩⟩;rcases d.en with⟨b,_⟩ | ⟨t',m,b,c,_,_,j⟩
  .rw [e] at b;cases b
  .rw [e] at b;cases b;rw[f] at c;have:=congrArg List.length (show r.map V.str=m.map V.str by injection (yn c));rw[ya,ya] at this;lk
theorem ok_gf(F:Fun K "greatest_from" "greatest_from" jC f fd)(T:Txt K mg cc cw)(uI:DefOk P w K mg base CX0 10 "told_pairs" ["web","pairs"] (spTp cw))(KP:MakeOk P w K mg base CX0 10 (cc 9) "Forest" ["self","web","pairs"] (spFi cc cw))(Kx:MethOk P w K mg base CX0 1 (cc 9) "row" ["self"] (spFr cc cw))(Uc:DefOk P w K mg base CX0 12 "turned" ["web","pairs","row"] (spTu cw)):FnOk P w K mg base CX0 13 f fd ["web","pairs"] (spGf cw):=by
 show F.ok Ke fun _ _ _ _ H vs Q E L h=>?_
 .obtain⟨x,l,ss,ns,us,tps,qs,rfl,W,hP,hG,q⟩:=h;have hu:=jW L;show⟨_,(qc (qt (i:=2) Ke.nd rfl (yP rfl) (qr uI (hmR L) qC (qa (pv 0) (qa (pv 1) qd))))
 (qc (qt (i:=3) Ke.nd rfl (yP rfl) (qY qd))
 (qc (qt (i:=4) Ke.nd rfl (yP rfl) (je Kx (hmR L) (qan KP (hmR L) (qa (pv 0) (qa (pv 2) qd)))))
 (qc (qaB yT (qj qcm (pv 4) zg (qx _))
 (qc (qO (qa9 (K:=K) rfl yN Yb Yc qR (pv 3) (qa (pv 4) qd)))
 (qc (qt (i:=2) Ke.nd rfl (yP rfl) (qr Uc (hmR L) qC (qa (pv 0) (qa (pv 2) (qa (pv 4) qd)))))
 (qf (qt (i:=4) Ke.nd rfl (yP rfl) (je Kx (hmR L) (qan KP (hmR L) (qa (pv 0) (qa (pv 2) qd)))))))))
 (qf (qk (jQ (qa (pv 2) (qa (pv 3) qd))))))))),?_⟩
  apply⟨x,l,ss,ns,us,tps,qs,rfl,W.web,W.adj,hP,hG,fun l1 ae H1 s1 ax D _ hA1=>?_⟩;apply⟨by decide,fun c M=>?_⟩;have s2:=qH (Sr H1) (o:=.lst []) M;have d:upd H1 c (.lst []) c=some (.lst []):=qb;have W2:=W.same (s1.trans s2);have s:=tps_ok W.wok W.adj W.ok hG
  have ac:(qa8 (qT ss ns ss.length) qs).length=qs.length+0:=by
   have c1:=hG.cnt W.wok.nd;have c2:=s.1.cnt W.wok.nd;rw[s.2] at c2;lk
  have j:PL (upd H1 c (.lst [])) l1 ae (qa8 (qT ss ns ss.length) qs):=⟨s2 _ _ D,hA1.mono fun _ _ z=>s2 _ _ z.2.2⟩;have ah:=s1.trans s2;generalize upd H1 c (.lst [])=G at ah d W2 j;generalize qa8 (qT ss ns ss.length) qs=ps at j s ac;replace s:=s.1;apply fun y dx hy C I=>qd6 W2 j s hy C I fun H0 H3 a S dn wt lo ea hD s3=>?_;subst ea;obtain⟨fx,ff,aj,_,_,_,ak⟩:=id hD.fo.obj;show⟨rfl,a.x,fx,ff,rfl,aj,ak _ (by room),?_⟩;apply qfZ hD (W2.wb s) fun v H4 hv=>?_;have aq:=ah.trans s3;have ad:H c=none:=s1.free M;have ag:l1≠c:=fun e=>by rw[e,M] at D;cases D
  ext;obtain⟨Wv,B⟩:∃ Wv:Nat->L2.St->Hp->Prop,Wv=fun m σ J=>∃(p:Addr) (us:LQ) (ps:LP) (g:List V) (v:V),σ=[some (.ref x),some (.ref l),some (.ref p),some (.ref c),some v]/\L2.Same H J/\PL J p us ps/\p≠c/\PGo ss tps ps/\J c=some (.lst g)/\ps.length=qs.length+g.length/\m=8-ps.length /\
   ((v=.non/\MxF ss tps ps)\/∃(r:Addr) (rs:LS),v=.ref r/\r≠c/\J r=some (.lst (rs.map V.str))/\rs.length<=1000/\Aug (tA tps) (pt ps) rs):=⟨_,rfl⟩
  show⟨Wv,⟨_,by
   rw[B];show⟨l1,ae,ps,[],v,rfl,aq.trans hv.1,j.same (s3.trans hv.1),ag,s,hv.1 _ _ (s3 _ _ d),ac,rfl,hv.2.imp id ?_⟩;rintro⟨r,rs,e1,N,e3,e4,e5⟩;show⟨r,rs,e1,(fun z=>by rw[z,s3 _ _ d] at N;cases N),e3,e4,e5⟩⟩,fun m σ J aa=>?_⟩
  rw[B] at aa;obtain⟨p,us,ps,g,v,rfl,sJ,A,ao,gJ,d,hc,hm,hv⟩:=aa;ext
  have av:2*ps.length<=14:=by
   have:=gJ.cnt W.wok.nd;have h2:qfg (pt ps) ss<=ss.length:=yV _ _;have:=W.wok.few;lk
  rcases hv with⟨rfl,mx⟩ | ⟨r,rs,rfl,nr,er,hl,au⟩
  .show⟨rfl,_,rfl,qL (fun h=>by simp at h) fun _=>?_⟩;apply⟨by show 2<=sizeLine;decide,fun t ht=>?_⟩;have s9:=qH (Sr J) (o:=.tup [.ref p,.ref c]) ht;show q t p c us g ps _ (sJ.trans s9) qb (A.same s9) (s9 _ _ d) hc gJ mx
  .show⟨rfl,_,rfl,zr ⟨fun ar H'=>∃ m',m'<m/\Wv m' ar H',fun _ _ z=>z,?_⟩⟩;apply⟨.inl ⟨rfl,_,SqL.of d⟩,?_⟩;apply⟨c,_,_,rfl,rfl,d,qi (by lk),?_⟩;have sU:=qaA sJ (o:=.lst (g++[.ref r])) ad;have Z:PL (upd J c (.lst (g++[.ref r]))) p us ps:=⟨by rw[qe ao];show A.1,A.2.mono fun t ab z=>by rw[qe (jv z d (fun e=>by cases e))];show z⟩;have R:upd J c (.lst (g++[.ref r])) r=some (.lst (rs.map V.str)):=by rw[qe nr];show er
   have u:upd J c (.lst (g++[.ref r])) c=some (.lst (g++[.ref r])):=qb;generalize upd J c (.lst (g++[.ref r]))=G1 at sU Z R u ⊢;have WU:=W.same sU;apply⟨x,p,r,ss,ns,us,tps,ps,rs,rfl,⟨WU.web,WU.adj,Z,gJ,R,au.row hl W.ok⟩,fun l3 af H5 s5 n an _ U=>?_⟩;obtain⟨g3,c3⟩:=turn_ok W.wok W.adj W.ok gJ au hl;generalize flT (qT ss ns ss.length) ps rs=p3 at U g3 c3;have n3:l3≠c:=fun e=>by rw[e,u] at n;cases n
   have Y:PL H5 l3 af p3:=⟨an,U.mono fun _ _ z=>z.2.2⟩;have ai:=sU.trans s5;have W5:=W.same ai;have O:=s5 _ _ u;apply fun y dx hy C I=>qd6 W5 Y g3 hy C I fun H6 H7 b S5 aw az ay eb X s7=>?_;subst eb;obtain⟨fy,fg,al,_,_,_,am⟩:=id X.fo.obj;show⟨rfl,b.x,fy,fg,rfl,al,am _ (by room),?_⟩;apply qfZ X (W5.wb g3) fun v H8 hv=>?_;apply⟨8-p3.length,by lk,?_⟩;rw[B];show⟨l3,af,p3,g++[.ref r],v,rfl,(ai.trans s7).trans hv.1,Y.same (s7.trans hv.1),n3,g3,hv.1 _ _ (s7 _ _ O),by rw[c3,hc,yu];rfl,rfl,hv.2.imp id ?_⟩;rintro⟨r',ap,e1,N,e3,e4,e5⟩;show⟨r',ap,e1,(fun z=>by rw[z,s7 _ _ O] at N;cases N),e3,e4,e5⟩
theorem uO:FnScope ["web"] ["web"] (qg zY):=fS
inductive spGr(cw:Addr)(vs:List V)(H:Hp)(Q:VK)(E:XK):Prop|mk (x:Addr) (ss:LS) (ns:LN) (tps:LP) (_:vs=[.ref x]) (_:Wt cw H x ss ns tps) (_:∀(l:Addr) (ls:LQ) (rs:LP) (H':Hp),L2.Same H H'->PL H' l ls rs->PGo ss tps rs->MxF ss tps rs->Q (.ref l) H')
inductive spCo(cw:Addr)(vs:List V)(H:Hp)(Q:VK)(E:XK):Prop|mk (x:Addr) (ss:LS) (ns:LN) (tps:LP) (_:vs=[.ref x]) (_:Wt cw H x ss ns tps) (_:∀(rs:LP) (H':Hp),L2.Same H H'->PGo ss tps rs->MxF ss tps rs->Q (.int rs.length) H')
theorem ok_gr(F:Fun K "greatest" "greatest" zY f fd)(T:Txt K mg cc cw)(p:DefOk P w K mg base CX0 13 "greatest_from" ["web","pairs"] (spGf cw)):FnOk P w K mg base CX0 14 f fd ["web"] (spGr cw):=by
 show F.ok uO fun _ _ _ _ H vs Q E a h=>?_
 .obtain⟨x,ss,ns,tps,rfl,W,q⟩:=h;have i:=jW a;show⟨_,(qf (qk (qu (qv (K:=K) rfl i) (qr p (hmR a) qC (qa (pv 0) (qa (qY qd) qd))) qh (fun _ _=>rfl)))),?_⟩;apply⟨by decide,fun l hl=>?_⟩;have b:=qH (Sr H) (o:=.lst []) hl;apply⟨x,l,ss,ns,[],tps,[],rfl,W.same b,⟨qb,.nil⟩,⟨(fun q h=>by cases h),kY,by decide⟩,fun t l2 r m s rs H' n c g _ _ d e=>?_⟩;show .inl (qaY c (v:=.ref l2) (qw (j:=0) rfl) (q l2 m rs H' (b.trans n) g d e))
theorem KQ:FnScope ["_law_pairs","_law_name","_law_one","_law_other"] ["_law_pairs","_law_name"] (qg zA):=fS
theorem uJ:FnScope ["_law_names_here","_law_pairs"] ["_law_names_here","_law_pairs"] (qg j3):=fS
theorem uZ:FnScope ["_law_ties_here","_law_one","_law_other"] ["_law_ties_here","_law_one","_law_other"] (qg qaM):=fS
noncomputable def tB(tps:LP)(a b:Str):Bool:=decide ((a,b)∈tps)||decide ((b,a)∈tps)
noncomputable def ptV(qs:LP)(s:Str):V:=((pt qs s).map V.str).getD .non
inductive spPa(vs:List V)(H:Hp)(Q:VK)(E:XK):Prop|mk (l:Addr) (us:LQ) (qs:LP) (s:Str) (_:vs=[.ref l,.str s]) (_:PL H l us qs) (_:Q (ptV qs s) H)
noncomputable def sgl(ss:LS)(qs:LP):LS:=ss.filter fun s=>(pt qs s).isNone
inductive spSg(vs:List V)(H:Hp)(Q:VK)(E:XK):Prop|mk (n l:Addr) (ss:LS) (us:LQ) (qs:LP) (_:vs=[.ref n,.ref l]) (_:H n=some (.lst (ss.map V.str))) (_:ss.length<=14) (_:PL H l us qs) (_:∀ r,H r=none->Q (.ref r) (upd H r (.lst ((sgl ss qs).map V.str))))
inductive spTd(vs:List V)(H:Hp)(Q:VK)(E:XK):Prop|mk (l:Addr) (ts:LQ) (tps:LP) (a b:Str) (_:vs=[.ref l,.str a,.str b]) (_:PL H l ts tps) (_:∀ H',L2.Same H H'->Q (.bl (tB tps a b)) H')
theorem ok_pa(F:Fun K "_law_partner" "_law_partner" zA f fd)(T:Txt K mg cc cw):FnOk P w K mg base CX0 1 f fd ["_law_pairs","_law_name"] spPa:=by
 show F.ok KQ fun _ _ _ _ H vs Q E u h=>?_
 .obtain⟨l,us,qs,x,rfl,a,q⟩:=h;have p:=jW u;show⟨_,(qc (q9 yT rfl (qdC (K:=K) rfl (pv 0)) (qbM rfl (jF (qm (i:=2) KQ.nd rfl (yP rfl)) (jF (qm (i:=3) KQ.nd rfl (yP rfl)) qaP)))
 (qc (qJ (qj (zZ (K:=K) rfl p) (pv 2) (pv 1) (qx _)) (qf (qk (pv 3))) qo)
 (qf (qJ (qj (zZ (K:=K) rfl p) (pv 3) (pv 1) (qx _)) (qf (qk (pv 2))) qo))))
 (qf (qk zg))),?_⟩
  apply qeF ?_;apply⟨l,_,rfl,.of a.1,qP (xs:=us.map V.ref) (fun i σ J=>J=H/\(∃ j m,σ=[some (.ref l),some (.str x),j,m])/\pt qs x=pt (qs.drop i) x) ⟨rfl,⟨_,_,rfl⟩,rfl⟩ (fun i σ J _ c=>by rw[c.1];show .of a.1) (fun i y σ J r c=>?_) fun σ J c=>?_⟩
  .obtain⟨rfl,⟨j,m,rfl⟩,e⟩:=c;rw[yd] at r;obtain⟨t,o,rfl⟩:=yo.mp r;have n:i<qs.length:=by rw[<- a.2.len];show(yc.mp o).1
   obtain⟨ab,b⟩:∃ ab,qs[i]?=some ab:=⟨_,yb n⟩;have s:=a.2.at_ i t ab o b
   have g:qs.drop i=ab::qs.drop (i+1):=by
    rw[List.drop_eq_getElem_cons n,(yc.mp b).2]
   rw[g] at e;have e:pt qs x=if ab.1=x then some ab.2 else if ab.2=x then some ab.1 else pt (qs.drop (i+1)) x:=e;show⟨t,_,rfl,.of s,rfl,_,_,rfl,_,_,rfl,rfl,?_⟩;apply qfD ?_;ext;by_cases h1:ab.1=x
   .rw [yF h1] at e;show qL (fun _=>?_) fun h=>absurd (yS h1) h;ext;unfold ptV at q
    rwa[e] at q
   .rw [yA h1] at e;show qL (fun h=>absurd (yk h) h1) fun _=>?_;apply qfD ?_;ext;by_cases d:ab.2=x
    .rw [yF d] at e;show qL (fun _=>?_) fun h=>absurd (yS d) h;ext;unfold ptV at q
     rwa[e] at q
    .rw [yA d] at e;show qL (fun h=>absurd (yk h) d) fun _=>?_;show⟨rfl,⟨_,_,rfl⟩,e⟩
  .obtain⟨rfl,⟨j,m,rfl⟩,e⟩:=c;rw[ya,a.2.len,List.drop_length] at e;ext;unfold ptV at q
   rwa[e] at q
theorem ok_sg(F:Fun K "_law_singles" "_law_singles" j3 f fd)(T:Txt K mg cc cw)(p:DefOk P w K mg base CX0 1 "_law_partner" ["_law_pairs","_law_name"] spPa):FnOk P w K mg base CX0 2 f fd ["_law_names_here","_law_pairs"] spSg:=by
 show F.ok uJ fun _ _ _ _ H vs Q E j h=>?_
 .obtain⟨n,l,ss,us,qs,rfl,g,s,t,q⟩:=h;have A:=jW j;show⟨_,(qf (qk (jj (sc:=qg j3) (XN:=["_law_names_here","_law_pairs"]) ["_law_name","_law_pairs"] 1 [1] rfl rfl rfl (by room) rfl (by room)
  (qK (K:=K) rfl (pv 0)) (fun _ _ _ _=>(qm (i:=0) (show(["_law_name","_law_pairs"]:LS).Nodup by room) rfl (yP rfl))) qU
  (fun _ _ _ _=>(jk (qj qfo (qr p (hmR j) qC (qa (pv 1) (qa (pv 0) qd))) zg (qx _))))
  (fun _ _ _ _=>(pv 0))))),?_⟩
  apply .inl ⟨⟨_,.of g⟩,qE (xs:=ss.map V.str) (fun i ys G=>G=H/\ys=(sgl (ss.take i) qs).map V.str) ⟨rfl,rfl⟩ (fun i ys G _ a=>by rw[a.1];show .of g) (fun i y ys G o a=>?_) fun ys G a=>?_⟩
  .obtain⟨rfl,rfl⟩:=a;rw[yd] at o;obtain⟨x,m,rfl⟩:=yo.mp o;have u:=(yc.mp m).1;have v:(sgl (ss.take i) qs).length<=i:=yi (yV _ _) (by rw[yO];lk)
   have d:sgl (ss.take (i+1)) qs=sgl (ss.take i) qs++(if (pt qs x).isNone=true then [x] else []):=by
    unfold sgl;rw[yM,m,Yg];show _++[x].filter _=_;rw[yX,Yv]
   apply⟨l,us,qs,x,rfl,t,?_⟩;ext;rw[d];unfold ptV
   cases e:pt qs x with
   | none =>
    show⟨_,rfl,zr ?_⟩;apply⟨by rw[ya];show qi (by lk),rfl,by rw[yF (show(none:Option Str).isNone=true from rfl),yH];rfl⟩
   | some b =>
    show⟨_,rfl,qL (fun h=>by simp at h) fun _=>?_⟩;show⟨rfl,by rw[yA (show ¬ (some b).isNone=true from fun z=>by cases z),Ye]⟩
  .obtain⟨rfl,rfl⟩:=a;rw[show(ss.map V.str).length=ss.length from ya _,yQ];show⟨by rw[ya];show yY (qi (yi (yV _ _) (by lk))),fun r c=>q r c⟩
theorem ok_td(F:Fun K "_law_tied" "_law_tied" qaM f fd)(T:Txt K mg cc cw):FnOk P w K mg base CX0 1 f fd ["_law_ties_here","_law_one","_law_other"] spTd:=by
 show F.ok uZ fun _ _ _ _ H vs Q E s h=>?_
 .obtain⟨l,ts,tps,a,b,rfl,n,q⟩:=h;have r:=jW s;show⟨_,(qf (qk (pe_or (jt (j5 (K:=K) rfl r) (jQ (qa (pv 1) (qa (pv 2) qd))) (pv 0) (by with_unfolding_all rfl)) (qaO (jt (j5 (K:=K) rfl r) (jQ (qa (pv 2) (qa (pv 1) qd))) (pv 0) (by with_unfolding_all rfl)))))),?_⟩;apply⟨by show 2<=sizeLine;decide,fun t u=>?_⟩;have c:=qH (Sr H) (o:=.tup [.str a,.str b]) u;have j:upd H t (.tup [.str a,.str b]) t=some (.tup [.str a,.str b]):=qb;generalize upd H t (.tup [.str a,.str b])=H1 at c j;apply qeI (n.same c) j ?_;have e:=q H1 c;unfold tB at q e;show⟨_,rfl,?_⟩
  cases p:decide ((a,b)∈tps) with
  | true =>
   show zr ?_;rw[p] at e;show e
  | false =>
   show yr ?_;apply⟨by show 2<=sizeLine;decide,fun i d=>?_⟩;have g:=qH c (o:=.tup [.str b,.str a]) d;have m:upd H1 i (.tup [.str b,.str a]) i=some (.tup [.str b,.str a]):=qb;generalize upd H1 i (.tup [.str b,.str a])=H2 at g m;apply qeI (n.same g) m ?_;have:=q H2 g;rw[p] at this;show this
theorem Ko:FnScope ["_law_box_here","_law_ties_here","_law_found","_law_some","_law_tie"] ["_law_box_here","_law_ties_here"] (qg jI):=fS
theorem qbH{a b:Addr}(d:H a=some (.lst (ss.map V.str)))(f:H b=some (.lst (rs.map V.str))):EqT K H 1 a b (decide (ss=rs)):=by
 by_cases hl:ss.length=rs.length
 .have z:=EqT.lst (K:=K) (H:=H) (n:=0) (e:=fun j=>eqV (.str (ss.getD j "")) (.str (rs.getD j ""))) (SqL.of d) (SqL.of f) (by rw[ya,ya];show hl) fun j x y h1 c=>by
   rw[yd] at h1 c;obtain⟨u,g,rfl⟩:=yo.mp h1;obtain⟨v,hv,rfl⟩:=yo.mp c;rw[Yl,Yl,g,hv];show .flat rfl rfl
  have e:(List.range (ss.map V.str).length).all (fun j=>eqV (.str (ss.getD j "")) (.str (rs.getD j "")))=decide (ss=rs):=by
   rw[xn,YA,Ys];constructor
   .intro h;show List.ext_getElem hl fun i h1 c=>?_;have:=h i (xx.mpr (by rw[ya];show h1));rw[qcA,Yl,Yl,yb h1,yb c] at this;show yk this
   .rintro rfl j _;rw[qcA];show yS rfl
  rw[e] at z;show z
 .rw [yl (fun e=>hl (by rw[e]))];show .lstL (SqL.of d) (SqL.of f) (by rw[ya,ya];show hl)
inductive spSo(vs:List V)(H:Hp)(Q:VK)(E:XK):Prop|mk (p l:Addr) (ss:LS) (ts:LQ) (tps:LP) (_:vs=[.ref p,.ref l]) (_:Box H p) (_:TL p H l ts tps) (_:tps.length<=30) (_:(∀ ab∈tps,ab.1∈ss/\ab.2∈ss/\ab.1≠ab.2)) (_:∀(l':Addr) (us:LQ) (qs:LP) (H':Hp),BB p H H'->H l'=none->TL p H' l' us qs->PGo ss tps qs->Q (.ref l') H')
theorem Shuf.mem(sh:Shuf tps ups)(h:ab∈ups):ab∈tps\/(ab.2,ab.1)∈tps:=by
 obtain⟨f,d,a⟩:=sh;obtain⟨k,b⟩:=yf (d.mem_iff.mp h);obtain⟨c,hc⟩:∃ c,tps[k]?=some c:=⟨_,yb (by rw[a.len];show(yc.mp b).1)⟩;rcases a.at_ k c ab hc b with e | e
 .rw [e];show .inl (ye hc)
 .rw [e];show .inr (ye hc)
theorem Shuf.len(sh:Shuf tps ups):ups.length=tps.length:=by
 obtain⟨c,b,a⟩:=sh;rw[b.length_eq,a.len]
theorem ok_so(F:Fun K "_law_some_pairs" "_law_some_pairs" jI f fd)(T:Txt K mg cc cw)(Ka:DefOk P w K mg base CX0 1 "_law_take" ["_law_box_here","_law_many"] spTake)(KR:DefOk P w K mg base CX0 2 "_law_shuffled" ["_law_box_here","_law_ties_here"] spShuf)(uP:DefOk P w K mg base CX0 2 "_law_singles" ["_law_names_here","_law_pairs"] spSg):FnOk P w K mg base CX0 3 f fd ["_law_box_here","_law_ties_here"] spSo:=by
 show F.ok Ko fun _ _ _ _ H vs Q E hr h=>?_
 .obtain⟨p,l,ss,ts,tps,rfl,hB,hT,aa,j,q⟩:=h;have hu:=jW hr;show⟨_,(qc (qt (i:=2) Ko.nd rfl (yP rfl) (qY qd))
 (qc (qt (i:=3) Ko.nd rfl (yP rfl) (qr KR (hmR hr) qC (qa (pv 0) (qa (pv 1) qd))))
 (qc (q9 yT rfl (qK (K:=K) rfl (pv 3)) (qm (i:=4) Ko.nd rfl (yP rfl))
 (qf (qJ (PW.pt (qay (qj qdb (qr Ka (hmR hr) qC (qa (pv 0) (qa qh qd))) qh (qx _)) (zF (qj (zZ (K:=K) rfl hu) (qr uP (hmR hr) qC (qa (jK (qac (K:=K) rfl rfl) rfl T.b_list xw (qa (pv 4) qd)) (qa (pv 2) qd))) (jK (qac (K:=K) rfl rfl) rfl T.b_list xw (qa (pv 4) qd)) (qx _))))) (qf (qO (qa9 (K:=K) rfl yN Yb Yc qR (pv 2) (qa (pv 4) qd)))) qo)))
 (qf (qk (pv 2)))))),?_⟩
  apply⟨by decide,fun d g=>?_⟩;have Y:=(BB.refl hB).new (o:=.lst []) g;have C:=hB.apart g;have e1:upd H d (.lst []) d=some (.lst []):=qb;have L:=hT.bb Y;generalize upd H d (.lst [])=H1 at Y e1 L;apply⟨p,l,ts,tps,rfl,Y.2,L,aa,fun sl X ups H2 Z n G sh=>?_⟩;have aj:=sh.len;have ag:d≠sl:=fun e=>by rw[<- e,e1] at n;cases n
  have e2:=Z.1 _ _ C e1;replace Z:=Y.trans Z;apply .inl ⟨⟨_,.of G.1⟩,qP (xs:=X.map V.ref) (fun i σ J=>BB p H J/\∃(us:LQ) (qs:LP) (y4:Option V),σ=[some (.ref p),some (.ref l),some (.ref d),some (.ref sl),y4]/\TL p J sl X ups/\TL p J d us qs/\(∀ q∈qs,q∈ups)/\(qp qs).Nodup/\qs.length<=i) ⟨Z,[],[],_,rfl,G,⟨e2,C,.nil⟩,(fun q h=>by cases h),kY,yh _⟩ (fun i σ J _ N=>by obtain⟨_,_,_,_,_,z,_⟩:=N;show .of z.1) (fun i y σ J S N=>?_) fun σ J N=>?_⟩
  .obtain⟨bJ,us,qs,y4,rfl,I,u,a,c,O⟩:=N;rw[yd] at S;obtain⟨t,ht,rfl⟩:=yo.mp S;have ac:=(yc.mp ht).1;have ai:i<30:=by have:=G.2.2.len;lk
   obtain⟨ab,B⟩:∃ ab,ups[i]?=some ab:=⟨_,yb (by rw[<- G.2.2.len];show ac)⟩;have U:=ye B;apply⟨p,4,rfl,bJ.2,by decide,by decide,fun r J1 r0 r1 c1=>?_⟩;have v:=I.bb c1;have s:=u.bb c1;have d1:=bJ.trans c1;have tt:=v.2.2.at_ i t ab ht B;apply qL (fun _=>?_) fun _=>qL (fun h=>by cases h) fun _=>⟨d1,us,qs,_,rfl,v,s,a,c,by lk⟩;apply .inl ⟨t,_,rfl,.inr (.of tt.2),fun l3 ad=>?_⟩;have s3:=qH (Sr J1) (o:=.lst [.str ab.1,.str ab.2]) ad;have e3:upd J1 l3 (.lst [.str ab.1,.str ab.2]) l3=some (.lst ([ab.1,ab.2].map V.str)):=qb;generalize upd J1 l3 (.lst [.str ab.1,.str ab.2])=J3 at s3 e3;apply⟨l3,d,[ab.1,ab.2],us,qs,rfl,e3,by show 2<=14;decide,(s.same s3).pl,fun l4 ae=>?_⟩;have s4:=qH s3 (o:=.lst ((sgl [ab.1,ab.2] qs).map V.str)) ae;have e4:upd J3 l4 (.lst ((sgl [ab.1,ab.2] qs).map V.str)) l4=some (.lst ((sgl [ab.1,ab.2] qs).map V.str)):=qb;generalize upd J3 l4 (.lst ((sgl [ab.1,ab.2] qs).map V.str))=J4 at s4 e4;apply .inl ⟨t,_,rfl,.inr (.of (s4 _ _ tt.2)),fun l5 M=>?_⟩;have s5:=qH s4 (o:=.lst [.str ab.1,.str ab.2]) M;have D:=qH (Sr J4) (o:=.lst [.str ab.1,.str ab.2]) M _ _ e4;have e5:upd J4 l5 (.lst [.str ab.1,.str ab.2]) l5=some (.lst ([ab.1,ab.2].map V.str)):=qb;generalize upd J4 l5 (.lst [.str ab.1,.str ab.2])=J5 at s5 e5 D;have d5:=d1.same s5;have A:=v.same s5;have b:=s.same s5;show .inl (.inl (.inr (.inl ⟨l4,l5,_,1,rfl,rfl,by decide,qbH D e5,?_⟩)));rw[yA (by decide)];apply qL (fun hd=>?_) fun _=>⟨d5,us,qs,_,rfl,A,b,a,c,by lk⟩;have hd:=yk hd
   have W:ab.1∉qp qs/\ab.2∉qp qs:=by
    have k:∀ x∈[ab.1,ab.2],x∉qp qs:=fun x R=>by
     rw[<- hd] at R;have:=(yq.mp R).2;show pt_none.mp (Option.isNone_iff_eq_none.mp this)
    show⟨k _ (by simp),k _ (by simp)⟩
   have af:ab.1≠ab.2:=by
    rcases sh.mem U with z | z
    .show(j _ z).2.2
    .show yZ (j _ z).2.2
   apply⟨.inl ⟨rfl,_,SqL.of b.1⟩,?_⟩;apply⟨d,_,_,rfl,rfl,b.1,by rw[ya,b.2.2.len];show qi (by lk),?_⟩;have ah:=A.2.2.at_ i t ab ht B;show⟨d5.put g C,us++[t],qs++[ab],_,rfl,A.other (yZ ag) b.1,b.more ah,fun q hq=>?_,?_,by rw[yu];simp;lk⟩
   .rcases yC.mp hq with z | z
    .show a q z
    .rw [yz.mp z];show U
   .rw [zc];show Yd.mpr ⟨c,by simp[af],fun x R y S e=>?_⟩;subst e;simp only[yB,yW,YU] at S;rcases S with rfl | rfl
    .show W.1 R
    .show W.2 R
  .obtain⟨bJ,us,qs,y4,rfl,I,u,a,c,O⟩:=N;apply q d us qs J bJ g u ⟨fun z hz=>?_,c,by rw[ya,G.2.2.len] at O;lk⟩;have m:=sh.mem (a z hz);show⟨m,?_⟩;rcases m with y | y
   .show j _ y
   .obtain⟨k1,k2,k3⟩:=j _ y;show⟨k2,k1,yZ k3⟩
theorem KY:FnScope ["self","rings"] ["self"] (qg qQ):=fS
noncomputable def lamPosE:Expr->Pos
 | .Call _ _ [⟨_,.Lambda _ _ _ p,_⟩] _=>p
 | _=>⟨0,0,0,0⟩
noncomputable def lamPosA(s:Stmt):Pos:=match zf s with
 | .Assign _ e _::_=>lamPosE e
 | _=>⟨0,0,0,0⟩
abbrev TbB(H:Hp)(P:Addr):Prop:=TbO H P (lamPosA qQ) ("Forest.folds"++".<locals>."++"<lambda>")
noncomputable def hdW(R:LS):Str:=R.headD ""
noncomputable def rkR(ss:LS)(R:LS):Int:=64*(ss.idxOf (hdW R):Nat)+(R.length:Nat)
structure LLn(H0 H:Hp)(l:Addr)(us:LQ)(ps:List (LS)):Prop where
 t:H l=some (.lst (us.map V.ref))
 a:All2 (fun u p=>H u=some (.lst (p.map V.str))) us ps
 n:∀ u∈us,H0 u=none
 o:l∉us
theorem WebAt.butT{P:Addr}(g:WebAt cw H x ss ns)(e:H P=some (.tbl ps))(b:zP P H H'):WebAt cw H' x ss ns:=by
 obtain⟨j,h,ol,i,f,a,d,c,hw⟩:=g;show⟨j,h,ol,i,b _ _ (jv f e (by intro z;cases z)) f,b _ _ (jv a e (by intro z;cases z)) a,b _ _ (jv d e (by intro z;cases z)) d,b _ _ (jv c e (by intro z;cases z)) c,hw⟩
inductive spFol(cc:Nat->Addr)(cw P:Addr)(vs:List V)(H:Hp)(Q:VK)(E:XK):Prop|mk (H0:Hp) (a:Fo) (ss:LS) (ns:LN) (qs:LP) (S:FS) (dn wt:LS) (lo:V) (_:vs=[.ref a.x]) (_:FoA (cc 9) cw H0 H a ss ns qs S ss dn wt lo) (_:ss.length<=14) (_:(∀ R∈S.rgs,3<=R.length)) (_:TbB H P) (_:∀(D:Addr) (us:LQ) (fs:List (LS)) (H':Hp),zP P H H'->TbB H' P->H D=none->LLn H H' D us fs->fs.Perm S.rgs->fs.Pairwise (fun p q=>rkR ss p<=rkR ss q)->Q (.ref D) H')
theorem qbr(c:α->β):∀ l:List α,Paired (fun a b=>b=c a) l (l.map c)
 | []=>.nil
 | _::l=>.cons rfl (qbr c l)
theorem qch(c:α->β):∀{l:List α} {m:List β},Paired (fun a b=>b=c a) l m->m=l.map c
 | _,_,.nil=>rfl
 | _,_,.cons e h=>by rw[Yu,<- qch c h,e]
theorem ok_fol{f c:Addr}(F:Fun K "folds" "Forest.folds" qQ f fd)(T:Txt K mg cc cw)(ak:fd.code=.ref c)(hC:W.CodeHd base c tb)(hB:base.BuiltinsAt mg tb)(Kj:MethOk P w K mg base CX0 4 cw "number_of" ["self","place"] (spNum cw)):FnOk P w K mg base CX0 8 f fd ["self"] (spFol cc cw tb):=by
 show F.okC ak KY (fun vs H Q E h=>?_) (fun A ap s H vs Q E hr h=>?_)
 .cases h;subst_vars;rfl
 .obtain⟨H0,a,ss,ns,qs,S,dn,wt,lo,rfl,h,ac,ag,hT,q⟩:=h;have hu:(A.deeper (envOfC "Forest.folds" (qg qQ) s.heap.objs.size f (.ref c))).units+100<cLine:=by have:=hr.un;lk
  have an:Room (4+3) (A.deeper (envOfC "Forest.folds" (qg qQ) s.heap.objs.size f (.ref c))):=hr.mono (by decide);obtain⟨rs,e1,af,D⟩:=h.rgl;obtain⟨xs,g1,g2⟩:=h.rng;have au:=h.few
  have rl:rs.length<=14:=by
   rw[e1] at g1;have:rs.map V.ref=xs:=by injection g1 with g1;injection g1
   rw[<- this,ya] at g2;lk
  have hW:=h.web.same h.sm;obtain⟨aw,hP,_⟩:=id hT;have Y:∀{H':Hp},zP tb H H'->All2 (fun u R=>H' u=some (.lst (R.map V.str))) rs S.rgs:=fun b=>af.mono fun u R z=>b _ _ (jv z.1 hP (by intro z;cases z)) z.1;show⟨_,(qc (qt (i:=1) KY.nd rfl (yP rfl) (pe_sortZ (K:=K) (iw:=0) rfl T.b_sorted rfl hC hB an (qA (K:=K) rfl (pv 0) rfl) rfl rfl (lam_sc rfl rfl rfl rfl rfl (by room) (by room)) (by decide) rfl rfl rfl (fun _ _ _ _ _=>rfl) (fun _ _ _ _ _ am=>have hr:=am.deeper _;have hu:=hu_lam hr;(jQ (qa (qF Kj (hmR hr) (qA (K:=K) rfl (pv 1) rfl) (qa (qu (qv (K:=K) rfl hu) (pv 0) qh (fun _ _=>rfl)) qd)) (qa (qq (jR (K:=K) rfl) rfl T.b_len YL (qa (pv 0) qd)) qd))))))
 (qf (qk (jj (sc:=qg qQ) (XN:=["self","rings"]) ["ring"] 1 [] rfl rfl rfl (by room) rfl (by room)
  (qK (K:=K) rfl (pv 1)) (fun _ _ _ _=>(qm (i:=0) (show(["ring"]:LS).Nodup by room) rfl (yP rfl))) qU
  (fun _ _ _ _=>jG)
  (fun _ _ _ _=>(jK (qac (K:=K) rfl rfl) rfl T.b_list xw (qa (pv 0) qd))))))),?_⟩
  ext;unfold qen;apply .inl (h.obj.rd T 5 rfl ?_);have M:=af.len;show⟨a.dg,rs.map V.ref,S.rgs.map (rkR ss),.ref a.x,rfl,SqL.of e1,by rw[ya,ya,M],by rw[ya];lk,hT,rfl,fun i v k H' hv hk C=>?_,fun D0 ys H' C I av Z ks=>?_⟩
  .rw [yd] at hv hk;obtain⟨u,l,rfl⟩:=yo.mp hv;obtain⟨R,G,rfl⟩:=yo.mp hk;have ae:=ye G;have eu:=(Y C).at_ i u R l G;have aj:=ag R ae;have ad:=D R ae;have ar:R.length<=14:=by rw[ad];show yi (yV _ _) ac
   obtain⟨y,R',eR⟩:∃ y R',R=y::R':=by
    cases R with
    | nil=>simp at aj
    | cons y R'=>show⟨y,R',rfl⟩
   have ao:y∈ss:=by
    have:y∈R:=by rw[eR];show yG
    rw[ad] at this;show(yq.mp this).1
   have WH:=hW.butT hP C
   have OH:FoO (cc 9) H' a lo:=by
    obtain⟨dx,ff,k1,k2⟩:=h.obj;show⟨dx,ff,C _ _ (jv k1 hP (by intro z;cases z)) k1,k2⟩
   obtain⟨wx,dd,ol,nn,hb,_⟩:=id WH;apply .inl (OH.rd T 0 rfl ?_);show⟨a.b,wx,_,rfl,hb,zE (by room),?_⟩;apply .inl (zH eu (v:=.str y) (qw (j:=0) (by rw[eR];rfl)) ?_);have al:ss[ss.idxOf y]?=some y:=by rw[yb (Yj ao),Yx]
   apply⟨a.b,ss,ns,y,ss.idxOf y,rfl,WH,al,fun H2 s2=>?_⟩;apply zD (s2 _ _ eu) ?_;rw[ya];apply⟨by show 2<=sizeLine;decide,fun t ht=>⟨⟨t,_,_,rfl,qb,?_,by lk,by lk⟩,qH s2 ht⟩⟩;unfold rkR hdW;rw[eR];rfl
  .obtain⟨pz,z1,rfl,z3⟩:=ks
   have hz:(S.rgs.map (rkR ss)).zip (rs.map V.ref)=(S.rgs.zip rs).map fun b=>(rkR ss b.1,V.ref b.2):=by
    rw[List.zip_map];rfl
   rw[hz] at z1;obtain⟨m,m1,m2⟩:=qa3 z1.symm (qbr (fun b:LS×Addr=>(rkR ss b.1,V.ref b.2)) (S.rgs.zip rs));have m3:=qch _ m2;subst m3;have aa:(S.rgs.zip rs).map Prod.fst=S.rgs:=List.map_fst_zip (xG M.symm)
   have mp:(m.map Prod.fst).Perm S.rgs:=by
    have:=m1.map Prod.fst
    rwa[aa] at this
   have Z:H' D0=some (.lst ((m.map Prod.snd).map V.ref)):=by rw[Z,X6,X6];rfl
   have r:All2 (fun u R=>H' u=some (.lst (R.map V.str))) (m.map Prod.snd) (m.map Prod.fst):=⟨by rw[ya,ya],fun k t p ht d=>by
    rw[yd] at ht d;obtain⟨b,hb,rfl⟩:=yo.mp ht;rw[hb] at d;cases d;obtain⟨j,hj⟩:=yf (m1.mem_iff.mp (ye hb));rw[Xm] at hj;show(Y C).at_ j _ _ hj.2 hj.1⟩
   have mo:(m.map Prod.fst).Pairwise fun p q=>rkR ss p<=rkR ss q:=Y0.mpr ((Y0.mp z3).imp fun h=>h);have ml:(m.map Prod.fst).length<=14:=by rw[mp.length_eq,<- M];show rl
   have mb:∀ R∈m.map Prod.fst,R.length<=14:=fun R G=>by rw[D R (mp.mem_iff.mp G)];show yi (yV _ _) ac
   generalize m.map Prod.snd=ah at Z r;generalize m.map Prod.fst=fs at mp r mo ml mb;have ai:=r.len;apply .inl ⟨⟨_,.of Z⟩,qE (xs:=ah.map V.ref) (fun i ys J=>L2.Same H' J/\∃ us:LQ,ys=us.map V.ref/\us.length<=i/\All2 (fun u p=>J u=some (.lst (p.map V.str))) us (fs.take i)/\∀ u∈us,H u=none) ⟨L2.Same.refl _,[],rfl,yh _,.nil,fun u hu=>by cases hu⟩ (fun i ys J _ d=>.of (d.1 _ _ Z)) (fun i y ys J hy d=>?_) fun ys J d=>?_⟩
   .obtain⟨B,us,rfl,N,O,hN⟩:=d;rw[yd] at hy;obtain⟨u,l,rfl⟩:=yo.mp hy;have hi:i<fs.length:=by rw[<- ai];show(yc.mp l).1
    obtain⟨R,G⟩:∃ R,fs[i]?=some R:=⟨_,yb hi⟩;have eu:=B _ _ (r.at_ i u R l G);apply zr ?_;apply .inl ⟨u,_,rfl,.inl (.of eu),fun n U=>?_⟩;have X:=qH (Sr J) (o:=.lst (R.map V.str)) U;show⟨by rw[ya];show qi (by lk),B.trans X,us++[n],by rw[yH];rfl,by rw[yu];show xt N,by rw[yM,G];show(O.mono fun _ _ e=>X _ _ e).snoc qb,fun v hv=>?_⟩;rcases yC.mp hv with z | z
    .show hN v z
    .rw [yz.mp z]
     cases e:H n with
     | none=>rfl
     | some o =>
      by_cases c:n=tb
      .rw [c] at U;obtain⟨aq,k2,_⟩:=id I;rw[B _ _ k2] at U;cases U
      .rw [B _ _ (C _ _ c e)] at U;cases U
   .obtain⟨B,us,rfl,N,O,hN⟩:=d;rw[show(ah.map V.ref).length=fs.length by rw[ya,ai]] at N O;rw[yQ] at O;show⟨by rw[ya];show yY (qi (by lk)),fun g L=>?_⟩;have X:=qH (Sr J) (o:=.lst (us.map V.ref)) L;show q g us fs _ (fun b o n e=>X _ _ (B _ _ (C b o n e))) (I.same (B.trans X)) ?_ ⟨qb,O.mono fun _ _ e=>X _ _ e,hN,fun z=>?_⟩ mp mo
    .cases e:H g with
     | none=>rfl
     | some o =>
      by_cases c:g=tb
      .rw [c] at L;obtain⟨aq,k2,_⟩:=id I;rw[B _ _ k2] at L;cases L
      .rw [B _ _ (C _ _ c e)] at L;cases L
    .obtain⟨p9,_,e9⟩:=O.mem z;rw[L] at e9;cases e9
theorem Ki:FnScope ["_law_box_here","_law_names_here","_law_found","_law_many","_law_size","_law_k","_law_some","_law_one","_law_other"] ["_law_box_here","_law_names_here"] (qg qaN):=fS
def PrS(ss:LS)(fps:LP):Prop:=∀ ab∈fps,ab.1∈ss/\ab.2∈ss
inductive spRu(vs:List V)(H:Hp)(Q:VK)(E:XK):Prop|mk (p n:Addr) (ss:LS) (_:vs=[.ref p,.ref n]) (_:Box H p) (_:NL p H n ss) (_:NOk ss) (_:2<ss.length) (_:∀(l:Addr) (ts:LQ) (tps:LP) (H':Hp),BB p H H'->H l=none->TL p H' l ts tps->TGo ss tps->Q (.ref l) H')
theorem qdh{i:Int}{Q:VK}(h:H n=some (.lst (ss.map V.str)))(b:0<=i)(h1:i<ss.length)(q:∀ s∈ss,Q (.str s) H):qe8 K (.ref n) (.int i) H Q:=by
 obtain⟨j,rfl⟩:=xk b;have a:j<ss.length:=by lk
 show .inl (zH h (v:=.str ss[j]) (qw (by rw[yd,yb a];rfl)) (q _ (YR a)))
theorem vRng2B{a:TA}{R:It->Hp->Prop}(h:a σ H fun vs H1=>∃ i j:Int,vs=[.int i,.int j]/\(-(2 ^ 62)<=i/\i<2 ^ 62/\-(2 ^ 62)<=j/\j<2 ^ 62)/\R (Itr i (j-i).toNat) H1):qeV a σ H R:=h
theorem neS{Q:VK}(q:Q (.bl (!decide (a=b))) H):qd2 K true (.str a) (.str b) H Q:=.inl ⟨rfl,rfl,by
 have c:(if (true:Bool)=true then !eqV (.str a) (.str b) else eqV (.str a) (.str b))=!decide (a=b):=by
  rw[yF rfl];show(!(a==b))=_
  congr 1
 rw[c];show q⟩
theorem TL.add{x:Str}(h:TL p G fo ts fps)(b:Box G p)(a:G t=none):TL p (upd (upd G t (.tup [.str x,.str y])) fo (.lst (ts.map V.ref++[.ref t]))) fo (ts++[t]) (fps++[(x,y)]):=(h.same (qH (Sr G) a)).more ⟨b.apart a,qb⟩
theorem qbI{x:Str}{m:Nat}{Q:VK}(e:BB p H G)(c:H fo=none)(fp:fo≠p)(b:TL p G fo ts fps)(f:PrS ss fps)(hl:fps.length<=m)(j:m<=100)(d:G t=none)(g:x∈ss)(i:y∈ss)
  (q:∀ a,BB p H a->(∃(ts:LQ) (fps:LP),TL p a fo ts fps/\PrS ss fps/\fps.length<=m+1)->Q .non a):rAppend (.ref fo) [.ref t] (upd G t (.tup [.str x,.str y])) Q:=by
 show⟨fo,_,_,rfl,rfl,(qH (Sr G) d) _ _ b.1,by rw[ya,b.2.2.len];show qi (by lk),?_⟩;show q _ ((e.new d).put c fp) ⟨_,_,b.add e.2 d,fun ab h=>?_,by rw[yu];show xt hl⟩;rcases yC.mp h with z | z
 .show f ab z
 .rw [yz.mp z];show⟨g,i⟩
theorem ok_ru(F:Fun K "_law_rung" "_law_rung" qaN f fd)(T:Txt K mg cc cw)(Ka:DefOk P w K mg base CX0 1 "_law_take" ["_law_box_here","_law_many"] spTake)(ug:DefOk P w K mg base CX0 1 "_law_tied" ["_law_ties_here","_law_one","_law_other"] spTd):FnOk P w K mg base CX0 2 f fd ["_law_box_here","_law_names_here"] spRu:=by
 show F.ok Ki fun _ _ _ _ H vs Q E Z h=>?_
 .obtain⟨p,n,ss,rfl,hb,hn,hO,h2,q⟩:=h;have hu:=jW Z;have few:=hO.few;show⟨_,(qc (qt (i:=2) Ki.nd rfl (yP rfl) (qY qd))
 (qc (qt (i:=3) Ki.nd rfl (yP rfl) (qq (jR (K:=K) rfl) rfl T.b_len YL (qa (pv 1) qd)))
 (qc (qt (i:=4) Ki.nd rfl (yP rfl) (qI (zh (K:=K) rfl) qh (qI qbc qh (qr Ka (hmR Z) qC (qa (pv 0) (qa qh qd))))))
 (qc (q9 yT rfl (jx rfl T.b_range (qa (qq (qah rfl) rfl T.b_min boot_min (qa (pv 4) (qa (pv 3) qd))) qd)) (qm (i:=5) Ki.nd rfl (yP rfl))
 (qf (qO (qa9 (K:=K) rfl yN Yb Yc qR (pv 2) (qa (jQ (qa (qu (qv (K:=K) rfl hu) (pv 1) (pv 5) (fun _ _=>rfl)) (qa (qu (qv (K:=K) rfl hu) (pv 1) (qI zC (qI (zh (K:=K) rfl) (pv 5) qh) (qq (qah rfl) rfl T.b_min boot_min (qa (pv 4) (qa (pv 3) qd)))) (fun _ _=>rfl)) qd))) qd)))))
 (qc (q9 yT rfl (pi_range2 rfl T.b_range (qa (pv 4) (qa (pv 3) qd))) (qm (i:=5) Ki.nd rfl (yP rfl))
 (qf (qO (qa9 (K:=K) rfl yN Yb Yc qR (pv 2) (qa (jQ (qa (qu (qv (K:=K) rfl hu) (pv 1) (pv 5) (fun _ _=>rfl)) (qa (qu (qv (K:=K) rfl hu) (pv 1) (qI qcN (qI qcN (pv 5) qh) (qr Ka (hmR Z) qC (qa (pv 0) (qa qh qd)))) (fun _ _=>rfl)) qd))) qd)))))
 (qc (q9 yT rfl (jx rfl T.b_range (qa (qr Ka (hmR Z) qC (qa (pv 0) (qa qh qd))) qd)) (qm (i:=5) Ki.nd rfl (yP rfl))
 (qf (qO (qa9 (K:=K) rfl yN Yb Yc qR (pv 2) (qa (jQ (qa (qu (qv (K:=K) rfl hu) (pv 1) (qr Ka (hmR Z) qC (qa (pv 0) (qa (pv 3) qd))) (fun _ _=>rfl)) (qa (qu (qv (K:=K) rfl hu) (pv 1) (qr Ka (hmR Z) qC (qa (pv 0) (qa (pv 3) qd))) (fun _ _=>rfl)) qd))) qd)))))
 (qc (qt (i:=6) Ki.nd rfl (yP rfl) (qY qd))
 (qc (q9 yT rfl (qdC (K:=K) rfl (pv 2)) (qbM rfl (jF (qm (i:=7) Ki.nd rfl (yP rfl)) (jF (qm (i:=8) Ki.nd rfl (yP rfl)) qaP)))
 (qf (qJ (PW.pt (qay (qj (qam (K:=K) rfl hu) (pv 7) (pv 8) (qx _)) (zF (jc (qV (qr ug (hmR Z) qC (qa (pv 6) (qa (pv 7) (qa (pv 8) qd))))))))) (qf (qO (qa9 (K:=K) rfl yN Yb Yc qR (pv 6) (qa (jQ (qa (pv 7) (qa (pv 8) qd))) qd)))) qo)))
 (qf (qk (jg (qcW (K:=K) rfl) (pv 6) jy (ji qh)))))))))))),?_⟩
  apply⟨by show 0<=sizeLine;decide,fun fo A=>?_⟩;have b0:BB p H (upd H fo (.lst [])):=(BB.refl hb).new A;have fp:fo≠p:=hb.apart A;have e0:upd H fo (.lst []) fo=some (.lst []):=qb;generalize upd H fo (.lst [])=H0 at b0 e0;have n0:=hn.bb b0;apply zD n0.1 ?_;rw[ya];apply⟨p,3,rfl,b0.2,by decide,by decide,fun d H1 au av b1=>?_⟩;obtain⟨sz,hsz⟩:∃ sz:Nat,3+2*d=(sz:Int):=⟨(3+2*d).toNat,by lk⟩;have an:3<=sz:=by lk
  have aw:sz<=7:=by lk
  apply qbd (.inl ⟨by decide,by decide⟩) ?_;ext;rw[hsz];obtain⟨TF,a⟩:∃ TF:Nat->L2.St->Hp->Prop,TF=fun m σ J=>BB p H J/\(∃(ts:LQ) (fps:LP),TL p J fo ts fps/\PrS ss fps/\fps.length<=m)/\∃ R y6 C D,σ=[some (.ref p),some (.ref n),some (.ref fo),some (.int (ss.length:Int)),some (.int (sz:Int)),R,y6,C,D]:=⟨_,rfl⟩;ext
  obtain⟨B,ah,m1,m2,m3⟩:∃ B:Nat,(if (ss.length:Int)<(sz:Int) then(ss.length:Int) else(sz:Int))=(B:Int)/\3<=B/\B<=ss.length/\B<=sz:=by
   by_cases c:ss.length<sz
   .rw [yF (by lk)];show⟨_,rfl,by lk,by lk,by lk⟩
   .rw [yA (by lk)];show⟨_,rfl,an,by lk,by lk⟩
  show⟨_,_,rfl,?_⟩;rw[ah];show⟨_,rfl,by lk,by lk,?_⟩;rw[YI];show jJ (lo:=0) (fun i σ J=>TF i σ J) (by rw[a];show⟨b0.trans b1,⟨[],[],⟨b1.1 _ _ fp e0,fp,.nil⟩,(fun ab h=>by cases h),yh _⟩,_,_,_,_,rfl⟩) (fun i σ J hi b=>?_) fun σ J b=>?_
  .rw [a] at b;obtain⟨g,⟨ts,fps,s,X,hl⟩,R,y6,C,D,rfl⟩:=b;rw[X7];have nJ:=hn.bb g;apply⟨.inl ⟨rfl,_,.of s.1⟩,?_⟩;apply qdh nJ.1 (by lk) (by lk) fun x hx=>?_;apply⟨_,_,rfl,?_⟩;rw[ah];show vI (by lk) ?_;have e1:((i:Int)+1) % (B:Int)<B:=YM _ (by lk);have e2:0<=((i:Int)+1) % (B:Int):=YO _ (by lk);show qdh nJ.1 e2 (by lk) fun y O=>?_;apply⟨by show 2<=sizeLine;decide,fun t N=>?_⟩;apply qbI g A fp s X hl (by lk) N hx O fun G' r hG=>?_;rw[a];show⟨r,hG,_,_,_,_,rfl⟩
  .rw [a] at b;obtain⟨g,hQ,R,y6,C,D,rfl⟩:=b;apply vRng2B ?_;apply⟨_,_,rfl,⟨by lk,by lk,by lk,by lk⟩,jJ (fun i σ J=>TF (B+i) σ J) (by rw[a];show⟨g,hQ,_,_,_,_,rfl⟩) (fun i σ J hi b=>?_) fun σ J b=>?_⟩
   .rw [a] at b;obtain⟨g,⟨ts,fps,s,X,hl⟩,R,y6,C,D,rfl⟩:=b;have ak:(sz:Int)+i<ss.length:=by lk
    have nJ:=hn.bb g;apply⟨.inl ⟨rfl,_,.of s.1⟩,?_⟩;apply qdh nJ.1 (by lk) ak fun x hx=>?_;apply⟨p,3,rfl,g.2,by decide,by decide,fun d2 J2 k0 k1 b2=>?_⟩;ext;have ac:=g.trans b2;show qdh (hn.bb ac).1 (by lk) (by lk) fun y O=>?_;apply⟨by show 2<=sizeLine;decide,fun t N=>?_⟩;apply qbI ac A fp (s.bb b2) X hl (by lk) N hx O fun G' r hG=>?_;rw[a];show⟨r,hG,_,_,_,_,rfl⟩
   .rw [a] at b;obtain⟨g,hQ,R,y6,C,D,rfl⟩:=b;have am:B+((ss.length:Int)-(sz:Int)).toNat<=14:=by lk
    generalize B+((ss.length:Int)-(sz:Int)).toNat=mm at hQ am;apply⟨p,6,rfl,g.2,by decide,by decide,fun d3 J3 k0 k1 b3=>?_⟩;obtain⟨dd,aj⟩:∃ dd:Nat,d3=(dd:Int):=⟨d3.toNat,by lk⟩;subst aj;apply⟨_,rfl,by lk,by lk,?_⟩;rw[YI];show jJ (lo:=0) (fun i σ J=>TF (mm+i) σ J) (by rw[a];show⟨g.trans b3,hQ.elim fun ts z=>z.elim fun fps y=>⟨ts,fps,y.1.bb b3,y.2⟩,_,_,_,_,rfl⟩) (fun i σ J hi b=>?_) fun σ J b=>?_
    .rw [a] at b;obtain⟨g,⟨ts,fps,s,X,hl⟩,R,y6,C,D,rfl⟩:=b;apply⟨.inl ⟨rfl,_,.of s.1⟩,?_⟩;apply⟨p,ss.length,rfl,g.2,by lk,by lk,fun d4 J4 k4 k5 b4=>?_⟩;have U:=g.trans b4;show qdh (hn.bb U).1 k4 k5 fun x hx=>?_;apply⟨p,ss.length,rfl,U.2,by lk,by lk,fun d5 J5 k6 k7 b5=>?_⟩;have ad:=U.trans b5;show qdh (hn.bb ad).1 k6 k7 fun y O=>?_;apply⟨by show 2<=sizeLine;decide,fun t N=>?_⟩;apply qbI ad A fp ((s.bb b4).bb b5) X hl (by lk) N hx O fun G' r hG=>?_;rw[a];show⟨r,hG,_,_,_,_,rfl⟩
    .rw [a] at b;obtain⟨g,⟨ts,fps,s,X,hl⟩,R,y6,C,D,rfl⟩:=b;have aq:fps.length<=30:=by lk
     apply⟨by show 0<=sizeLine;decide,fun u j=>?_⟩;have sp:u≠p:=g.apart j;have s1:=qH (Sr J) (o:=.lst []) j;have ae:upd J u (.lst []) u=some (.lst []):=qb;have ai:H u=none:=g.free j;have bN:BB p H (upd J u (.lst [])):=g.new j;have ap:fo≠u:=fun z=>by rw[<- z,s.1] at j;cases j
     generalize upd J u (.lst [])=J1 at s1 ae bN;have af:=s.same s1;apply qeF ?_;apply⟨fo,_,rfl,.of af.1,qP (xs:=ts.map V.ref) (fun i σ G=>BB p H G/\TL p G fo ts fps/\∃(us:LQ) (tps:LP) (C D:Option V),TL p G u us tps/\TGo ss tps/\tps.length<=i/\σ=[some (.ref p),some (.ref n),some (.ref fo),some (.int (ss.length:Int)),some (.int (sz:Int)),R,some (.ref u),C,D]) ⟨bN,af,[],[],_,_,⟨ae,sp,.nil⟩,⟨by decide,(fun ab h=>by cases h),.nil⟩,yh _,rfl⟩ (fun i σ G _ b=>.of b.2.1.1) (fun i y σ G O b=>?_) fun σ G b=>?_⟩
     .obtain⟨r,hF,us,tps,C,D,M,Y,L,rfl⟩:=b;rw[yd] at O;obtain⟨t,N,rfl⟩:=yo.mp O;have al:i<fps.length:=by rw[<- s.2.2.len];show(yc.mp N).1
      obtain⟨ab,ag⟩:∃ ab,fps[i]?=some ab:=⟨_,yb al⟩;have et:=hF.2.2.at_ i t ab N ag;obtain⟨i1,i2⟩:=X ab (ye ag);show⟨t,_,rfl,.of et.2,rfl,_,_,rfl,_,_,rfl,rfl,?_⟩;apply neS ?_;show⟨_,rfl,qL (fun I=>?_) fun I=>?_⟩
      .have I:ab.1≠ab.2:=by simpa using I
       apply⟨u,us,tps,ab.1,ab.2,rfl,M.pl,fun G2 s2=>?_⟩;have S:=r.same s2;have v:=M.same s2;apply qL (fun W=>?_) fun W=>⟨S,hF.same s2,us,tps,_,_,v,Y,Xe L,rfl⟩;have W:tB tps ab.1 ab.2=false:=by simpa using W
       unfold tB at W;rw[Bool.or_eq_false_iff,XA,XA] at W;apply⟨.inl ⟨rfl,_,.of v.1⟩,?_⟩;apply⟨by show 2<=sizeLine;decide,fun t2 aa=>?_⟩;ext;have s3:=qH (Sr G2) (o:=.tup [.str ab.1,.str ab.2]) aa;show⟨u,_,_,rfl,rfl,s3 _ _ v.1,by rw[ya,M.2.2.len];show qi (by lk),?_⟩;show⟨(S.new aa).put ai sp,((hF.same s2).same s3).other ap (s3 _ _ v.1),us++[t2],tps++[(ab.1,ab.2)],_,_,v.add S.2 aa,⟨by rw[yu];show _+1<=30;lk,fun z hz=>?_,?_⟩,by rw[yu];show xt L,rfl⟩
       .rcases yC.mp hz with k | k
        .show Y.inn z k
        .rw [yz.mp k];show⟨i1,i2,I⟩
       .show XT.mpr ⟨Y.un,xm _ _,fun z hz z' ao=>?_⟩;rw[yz.mp ao];show⟨fun e=>W.1 (by rw[<- e];show hz),fun e=>W.2 (by rw[<- e];show hz)⟩
      .show yr ?_;show⟨r,hF,us,tps,_,_,M,Y,Xe L,rfl⟩
     .obtain⟨r,hF,us,tps,C,D,M,Y,L,rfl⟩:=b;apply .inl ⟨u,_,rfl,.of M.1,fun l hl=>?_⟩;have ax:=M.2.2.len;have ar:=Y.few
      have ec:qbb (us.map V.ref) none (some 30)=us.map V.ref:=by
       have:=qa0 (us.map V.ref) 30;rw[show((30:Nat):Int)=30 from rfl] at this;rw[this,YC (by rw[ya];lk)]
      rw[ec];have s9:=qH (Sr G) (o:=.lst (us.map V.ref)) hl;show q l us tps _ (r.new hl) (r.free hl) ⟨qb,r.apart hl,(M.same s9).2.2⟩ Y
theorem K6:FnScope ["_law_left","_law_ties_here","_law_other"] ["_law_left","_law_ties_here"] (qg jN):=fS
theorem qdT{z:Addr}{Q:VK}(hl:H l=some (.lst xs))(hz:H z=some (.lst []))(q:Q (.bl xs.isEmpty) H):qd2 K false (.ref l) (.ref z) H Q:=by
 cases xs with
 | nil=>show .inr (.inl ⟨l,z,true,1,rfl,rfl,by decide,EqT.lst (n:=0) (e:=fun _=>true) (SqL.of hl) (SqL.of hz) rfl fun j x y h=>by(simp at h),q⟩)
 | cons x r=>show .inr (.inl ⟨l,z,false,1,rfl,rfl,by decide,EqT.lstL (SqL.of hl) (SqL.of hz) (by simp),q⟩)
noncomputable def del(l:LS)(y:Str):LS:=l.filter fun a=>!decide (a=y)
theorem mem_del{l:LS}:a∈del l y↔a∈l/\a≠y:=by unfold del;rw[yq];simp
theorem qdU(l:LS)(y:Str):(del l y).length<=l.length:=yV _ _
theorem qdV{l:LS}(h:y∈l):(del l y).length<l.length:=List.length_filter_lt_length_iff_exists.mpr ⟨y,h,by simp⟩
noncomputable def cpB(tps:LP):Nat->LS->Bool
 | _,[]=>true
 | 0,_::_=>false
 | k+1,x::r=>r.any fun o=>tB tps x o&&cpB tps k (del r o)
theorem qeu(g:Str->Option Str):∀(n:Nat) {xs:LS},xs.length<=2*n->xs.Nodup->(∀ u∈xs,∃ w∈xs,g u=some w/\g w=some u/\w≠u/\tB tps u w=true)->cpB tps n xs=true
 | 0,[],_,_,_=>rfl
 | n+1,[],_,_,_=>rfl
 | 0,x::r,h,_,_=>by simp at h
 | n+1,x::r,h,nd,hg=>by
  obtain⟨w,hw,d,e,ne,i⟩:=hg x yG;have c:=yp.mp nd;have a:w∈r:=(yB.mp hw).resolve_left ne;show r.any _=true;show Y7.mpr ⟨w,a,?_⟩;rw[i,Bool.true_and];show qeu g n (by have:=qdV a;simp only[yD] at h;lk) (c.2.filter _) fun u j=>?_;obtain⟨h1,f⟩:=mem_del.mp j;obtain⟨v,hv,l,b,m,o⟩:=hg u (yI _ h1);show⟨v,mem_del.mpr ⟨(yB.mp hv).resolve_left fun z=>?_,fun z=>?_⟩,l,b,m,o⟩
  .rw [z,d] at b;show f (yn b).symm
  .rw [z,e] at b;show c.1 (by rw[yn b];show h1)
inductive spCp(n:Nat)(vs:List V)(H:Hp)(Q:VK)(E:XK):Prop|mk (a l:Addr) (ss:LS) (ts:LQ) (tps:LP) (_:vs=[.ref a,.ref l]) (_:H a=some (.lst (ss.map V.str))) (_:ss.length<=2*n) (_:ss.length<=14) (_:PL H l ts tps) (_:∀ H',L2.Same H H'->Q (.bl (cpB tps n ss)) H')
theorem qcC(F:Fun K "_law_can_pair" "_law_can_pair" jN f fd)(T:Txt K mg cc cw)(n:Nat)(hn:n<=7)(Y:Sp)(e:0<n->Y=spCp (n-1))(ug:DefOk P w K mg base CX0 1 "_law_tied" ["_law_ties_here","_law_one","_law_other"] spTd)(KS:DefOk P w K mg base CX0 (n+2) "_law_can_pair" ["_law_left","_law_ties_here"] Y):FnOk P w K mg base CX0 (n+3) f fd ["_law_left","_law_ties_here"] (spCp n):=by
 show F.ok K6 fun _ _ _ s H vs Q E hr h=>?_
 .obtain⟨a,l,ss,ts,tps,rfl,ha,I,aa,hP,q⟩:=h;have hu:=jW hr;show⟨_,(qc (qJ (qj (zZ (K:=K) rfl hu) (pv 0) (qY qd) (qx _)) (qf (qk jo)) qo)
 (qc (q9 yT rfl (qK (K:=K) rfl (jg (qcW (K:=K) rfl) (pv 0) (ji qh) jy)) (qm (i:=2) K6.nd rfl (XD rfl))
 (qf (qJ (qV (qr ug (hr.mono (by lk)) qC (qa (pv 1) (qa (qu (qv (K:=K) rfl hu) (pv 0) qh (fun _ _=>rfl)) (qa (pv 2) qd))))) (qf (qJ (qV (qr KS (hr.mono (by lk)) qC (qa (jj (sc:=qg jN) (XN:=["_law_left","_law_ties_here","_law_other"]) ["_law_name","_law_other"] 1 [2] rfl rfl rfl (by room) rfl (by room)
  (qK (K:=K) rfl (jg (qcW (K:=K) rfl) (pv 0) (ji qh) jy)) (fun _ _ _ _=>(qm (i:=0) (show(["_law_name","_law_other"]:LS).Nodup by room) rfl (yP rfl))) qU
  (fun _ _ _ _=>(jk (qj (qam (K:=K) rfl hu) (pv 0) (pv 1) (qx _))))
  (fun _ _ _ _=>(pv 0))) (qa (pv 1) qd)))) (qf (qk jo)) qo)) qo)))
 (qf (qk jo)))),?_⟩
  apply⟨by show 0<=sizeLine;decide,fun z hz=>?_⟩;have U:=qH (Sr H) (o:=.lst []) hz;have ez:upd H z (.lst []) z=some (.lst []):=qb;generalize upd H z (.lst [])=H1 at U ez;show .inl (.inl (qdT (U _ _ ha) ez ?_));ext
  cases ss with
  | nil =>
   show zr ?_;ext;have:=q H1 U;cases n<;>show this
  | cons x r =>
   show yr ?_;obtain⟨k,rfl⟩:∃ k,n=k+1:=⟨n-1,by simp only[yD] at I;lk⟩;have aj:r.length<=2*k+1:=by simp only[yD] at I;lk
   have af:r.length<=13:=by simp only[yD] at aa;lk
   have e:=e (by lk);rw[show k+1-1=k by lk] at e;subst e;apply .inl ⟨a,_,rfl,SqL.of (U _ _ ha),fun c hc=>?_⟩;rw[zX,<- Xu,List.tail_cons];have W:=qH U (o:=.lst (r.map V.str)) hc;have ec:upd H1 c (.lst (r.map V.str)) c=some (.lst (r.map V.str)):=qb;generalize upd H1 c (.lst (r.map V.str))=H2 at W ec;obtain⟨p,m⟩:∃ p:Str->Bool,p=fun o=>tB tps x o&&cpB tps k (del r o):=⟨_,rfl⟩;have q:∀ H',L2.Same H H'->Q (.bl (r.any p)) H':=by rw[m];show q
   show .inl ⟨⟨_,.of ec⟩,qP (xs:=r.map V.str) (fun i σ J=>L2.Same H2 J/\(r.take i).any p=false/\∃ Z,σ=[some (.ref a),some (.ref l),Z]) ⟨L2.Same.refl H2,rfl,_,rfl⟩ (fun i σ J _ L=>.of (L.1 _ _ ec)) (fun i y σ J hy L=>?_) fun σ J L=>?_⟩
   .obtain⟨X,d,Z,rfl⟩:=L;rw[yd] at hy;obtain⟨z,hz,rfl⟩:=yo.mp hy;have O:=ye hz;have S:=W.trans X
    have ae:(r.take (i+1)).any p=p z:=by
     rw[yM,hz,List.any_append,d];show(false||([z].any p))=_;simp
    have C:∀{G:Hp},L2.Same H2 G->p z=false->L2.Same H2 G/\(r.take (i+1)).any p=false/\∃ Z,[some (V.ref a),some (V.ref l),some (V.str z)]=[some (.ref a),some (.ref l),Z]:=fun s hf=>⟨s,by rw[ae];show hf,_,rfl⟩;apply .inl (zH (S _ _ ha) (v:=.str x) (qw (j:=0) rfl) ?_);apply⟨l,ts,tps,x,z,rfl,hP.same S,fun J1 s3=>?_⟩;show⟨_,rfl,?_⟩
    cases hb:tB tps x z with
    | false =>
     show yr ?_;show C (X.trans s3) (by rw[m];simp[hb])
    | true =>
     show zr ?_;have A:=X.trans s3;have t:=W.trans A;apply .inl ⟨a,_,rfl,SqL.of (t _ _ ha),fun c2 ac=>?_⟩;rw[zX,<- Xu,List.tail_cons];have s4:=qH (Sr J1) (o:=.lst (r.map V.str)) ac;have B:upd J1 c2 (.lst (r.map V.str)) c2=some (.lst (r.map V.str)):=qb;generalize upd J1 c2 (.lst (r.map V.str))=J2 at s4 B;show .inl ⟨⟨_,.of B⟩,qE (xs:=r.map V.str) (fun j ys G=>G=J2/\ys=(del (r.take j) z).map V.str) ⟨rfl,rfl⟩ (fun j ys G _ b=>by rw[b.1];show .of B) (fun j y ys G N b=>?_) fun ys G b=>?_⟩
     .obtain⟨rfl,rfl⟩:=b;rw[yd] at N;obtain⟨u,M,rfl⟩:=yo.mp N;have ah:=(yc.mp M).1;have ai:(del (r.take j) z).length<=j:=yi (qdU _ _) (by rw[yO];lk)
      have ad:del (r.take (j+1)) z=del (r.take j) z++(if (!decide (u=z))=true then [u] else []):=by
       unfold del;rw[yM,M,Yg];show _++[u].filter _=_;rw[yX,Yv]
      apply neS ?_;show⟨_,rfl,?_⟩;rw[ad]
      cases (!decide (u=z)) with
      | true =>
       show zr ?_;apply⟨by rw[ya];show qi (by lk),rfl,by rw[yF rfl,yH];rfl⟩
      | false=>show qL (fun h=>by cases h) fun _=>⟨rfl,by rw[yA (by decide),Ye]⟩
     .obtain⟨rfl,rfl⟩:=b;rw[show(r.map V.str).length=r.length from ya _,yQ];have ag:=qdV O;show⟨by rw[ya];show yY (qi (by lk)),fun g hg=>?_⟩;have s5:=qH s4 (o:=.lst ((del r z).map V.str)) hg;have eg:upd G g (.lst ((del r z).map V.str)) g=some (.lst ((del r z).map V.str)):=qb;generalize upd G g (.lst ((del r z).map V.str))=G5 at s5 eg;apply⟨g,l,del r z,ts,tps,rfl,eg,by lk,by lk,hP.same (t.trans s5),fun G6 s6=>?_⟩;have R:=A.trans (s5.trans s6);show⟨_,rfl,?_⟩
      cases D:cpB tps k (del r z) with
      | false =>
       show yr ?_;show C R (by rw[m];simp[D])
      | true =>
       show zr ?_;ext;have:=q _ (W.trans R)
       rwa[Y7.mpr ⟨z,O,by rw[m];simp[hb,D]⟩] at this
   .obtain⟨X,d,Z,rfl⟩:=L;rw[show(r.map V.str).length=r.length from ya _,yQ] at d;ext;have:=q _ (W.trans X)
    rwa[d] at this
theorem uA:FnScope ["_law_names_here","_law_ties_here","_law_pairs","_law_fold_here","_law_name"] ["_law_names_here","_law_ties_here","_law_pairs","_law_fold_here"] (qg zB):=fS
theorem ud:FnScope ["_law_one","_law_other","_law_common"] ["_law_one","_law_other"] (qg zm):=fS
theorem KI:FnScope ["_law_folds","_law_ties_here","_law_reached","_law_one","_law_other"] ["_law_folds","_law_ties_here","_law_reached"] (qg jO):=fS
theorem eqv_decJ(a b:Int):(if false=true then !eqV (V.int a) (V.int b) else eqV (V.int a) (V.int b))=decide (a=b):=by
 rw[yA (by decide)];unfold eqV;by_cases h:a=b<;>simp[h]
theorem qfh{i j:Int}{Q:VK}(q:Q (.bl (decide (i=j))) H):qfp K (.int i) (.int j) H Q:=.inl (.inl (.inl ⟨rfl,rfl,by rw[eqv_decJ];show q⟩))
theorem one_of{p:LS}(f:p.Nodup){c:Str->Bool}(d:a∈p)(h:c a=true)(g:∀ b∈p,c b=true->b=a):(p.filter c).length=1:=by
 have e:(p.filter c).Perm [a]:=(List.perm_ext_iff_of_nodup (f.filter _) (xm _ _)).mpr fun b=>by
  rw[yq,yz];show⟨fun z=>g b z.1 z.2,fun z=>z ▸ ⟨d,h⟩⟩
 show e.length_eq
theorem tB_iff:tB tps a b=true↔tA tps a b:=by
 unfold tB tA;rw[kS,Ys,Ys]
theorem neT{a b:Addr}{n:Nat}{k:Bool}{Q:VK}(c:n<=60)(h:EqT K H n a b k)(q:Q (.bl (!k)) H):qd2 K true (.ref a) (.ref b) H Q:=.inr (.inl ⟨a,b,k,n,rfl,rfl,c,h,q⟩)
theorem neI9{a b:Int}{Q:VK}(h:a=b)(q:Q (.bl false) H):qd2 K true (.int a) (.int b) H Q:=.inl ⟨rfl,rfl,by
 subst h;have:(if true=true then !eqV (V.int a) (V.int a) else eqV (V.int a) (V.int a))=false:=by simp[eqV]
 rw[this];show q⟩
theorem pt_nin{Q:VK}(b:H n=some (.lst (ss.map V.str)))(q:Q (.bl (match pt qs s with | none=>true | some w=>!decide (w∈ss))) H):qeh K true (ptV qs s) (.ref n) H Q:=by
 unfold ptV
 cases e:pt qs s with
 | none =>
  rw[e] at q;show .inl ⟨n,_,rfl,.inl (.of b),rfl,YA.mpr fun x a=>by(obtain⟨s,_,rfl⟩:=YJ.mp a;rfl),?_⟩
  have:inV .non (ss.map V.str)=false:=by
   unfold inV;show List.any_eq_false.mpr fun x a=>?_;obtain⟨s,_,rfl⟩:=YJ.mp a;simp[eqV]
  show Q (.bl (if true=true then !inV .non (ss.map V.str) else inV .non (ss.map V.str))) H;rw[this];show q
 | some w =>
  rw[e] at q
  show .inl ⟨n,_,rfl,.inl (.of b),rfl,YA.mpr fun x a=>by(obtain⟨s,_,rfl⟩:=YJ.mp a;rfl),by
   show Q (.bl (if true=true then !inV (.str w) (ss.map V.str) else inV (.str w) (ss.map V.str))) H;rw[yF rfl,qdM];show q⟩
inductive spFdL(vs:List V)(H:Hp)(Q:VK)(E:XK):Prop|mk (n t pr u:Addr) (ss R:LS) (ts ls:LQ) (tps qs:LP) (_:vs=[.ref n,.ref t,.ref pr,.ref u]) (_:H n=some (.lst (ss.map V.str))) (_:ss.length<=14) (_:PL H t ts tps) (_:PL H pr ls qs) (_:H u=some (.lst (R.map V.str))) (_:R=(ss.filter fun x=>decide (x∈R))) (_:(∀ a b,tA tps a b->a≠b)) (_:Rg (tA tps) (pt qs) R) (_:∀ H',L2.Same H H'->Q (.bl true) H')
inductive spNst(vs:List V)(H:Hp)(Q:VK)(E:XK):Prop|mk (u v:Addr) (R S:LS) (_:vs=[.ref u,.ref v]) (_:H u=some (.lst (R.map V.str))) (_:H v=some (.lst (S.map V.str))) (_:R.length<=14) (_:S.length<=14) (_:R.Nodup) (_:S.Nodup) (_:0<R.length) (_:(Nst R S\/Nst S R)) (_:∀ H',L2.Same H H'->Q (.bl true) H')
inductive spTog(vs:List V)(H:Hp)(Q:VK)(E:XK):Prop|mk (D t re:Addr) (us ts:LQ) (fs:List (LS)) (tps:LP) (rd:LS) (_:vs=[.ref D,.ref t,.ref re]) (_:H D=some (.lst (us.map V.ref))) (_:All2 (fun u p=>H u=some (.lst (p.map V.str))) us fs) (_:us.length<=14) (_:PL H t ts tps) (_:H re=some (.lst (rd.map V.str))) (_:(∀ ab∈tps,ab.1∈rd->ab.2∈rd->∃ R∈fs,ab.1∈R/\ab.2∈R)) (_:∀ H',L2.Same H H'->Q (.bl true) H')
theorem ok_fdL(F:Fun K "_law_fold" "_law_fold" zB f fd)(T:Txt K mg cc cw)(KZ:DefOk P w K mg base CX0 1 "_law_partner" ["_law_pairs","_law_name"] spPa)(KS:DefOk P w K mg base CX0 9 "_law_can_pair" ["_law_left","_law_ties_here"] (spCp 6)):FnOk P w K mg base CX0 10 f fd ["_law_names_here","_law_ties_here","_law_pairs","_law_fold_here"] spFdL:=by
 show F.ok uA fun _ _ _ s H vs Q E hr h=>?_
 .obtain⟨n,t,pr,u,ss,R,ts,ls,tps,qs,rfl,hn,aa,hT,hL,D,N,ir,L,q⟩:=h;have I:=jW hr;have ah:R.length<=14:=by rw[N];show yi (yV _ _) aa
  have ak:=L.odd;have big:=L.big;show⟨_,(qc (qJ (PW.pt (qbL (jc (qV (qq (qbm (K:=K) rfl) rfl T.b_isinstance xo (qa (pv 3) (qa (ze (v:=.ty "list") rfl T.b_list xw rfl) qd))))) (qbL (qj (zZ (K:=K) rfl I) (qI zC (qq (jR (K:=K) rfl) rfl T.b_len YL (qa (pv 3) qd)) qh) qh (qx _)) (qbe (qj qdl (qq (jR (K:=K) rfl) rfl T.b_len YL (qa (pv 3) qd)) qh (qx _)))))) (qf (qk jo)) qo)
 (qc (qJ (qj (qam (K:=K) rfl I) (pv 3) (jj (sc:=qg zB) (XN:=["_law_names_here","_law_ties_here","_law_pairs","_law_fold_here","_law_name"]) ["_law_name","_law_fold_here"] 1 [3] rfl rfl rfl (by room) rfl (by room)
  (qK (K:=K) rfl (pv 0)) (fun _ _ _ _=>(qm (i:=0) (show(["_law_name","_law_fold_here"]:LS).Nodup by room) rfl (yP rfl))) qU
  (fun _ _ _ _=>(jk (qj (j5 (K:=K) rfl I) (pv 0) (pv 1) (by with_unfolding_all rfl))))
  (fun _ _ _ _=>(pv 0))) (qx _)) (qf (qk jo)) qo)
 (qc (qJ (qj (qam (K:=K) rfl I) (qq (jR (K:=K) rfl) rfl T.b_len YL (qa (jj (sc:=qg zB) (XN:=["_law_names_here","_law_ties_here","_law_pairs","_law_fold_here","_law_name"]) ["_law_name","_law_fold_here","_law_pairs"] 1 [3,2] rfl rfl rfl (by room) rfl (by room)
  (qK (K:=K) rfl (pv 3)) (fun _ _ _ _=>(qm (i:=0) (show(["_law_name","_law_fold_here","_law_pairs"]:LS).Nodup by room) rfl (yP rfl))) qU
  (fun _ _ _ _=>(jk (qj (qbw (K:=K) rfl I) (qr KZ (hmR hr) qC (qa (pv 2) (qa (pv 0) qd))) (pv 1) (by with_unfolding_all rfl))))
  (fun _ _ _ _=>(pv 0))) qd)) qh (qx _)) (qf (qk jo)) qo)
 (qc (q9 yT rfl (qK (K:=K) rfl (pv 3)) (qm (i:=4) uA.nd rfl (XD rfl))
 (qf (qJ (jc (qV (qr KS (hmR hr) qC (qa (jj (sc:=qg zB) (XN:=["_law_names_here","_law_ties_here","_law_pairs","_law_fold_here","_law_name"]) ["_law_other","_law_name"] 1 [4] rfl rfl rfl (by room) rfl (by room)
  (qK (K:=K) rfl (pv 3)) (fun _ _ _ _=>(qm (i:=0) (show(["_law_other","_law_name"]:LS).Nodup by room) rfl (yP rfl))) qU
  (fun _ _ _ _=>(jk (qj (qam (K:=K) rfl I) (pv 0) (pv 1) (qx _))))
  (fun _ _ _ _=>(pv 0))) (qa (pv 1) qd))))) (qf (qk jo)) qo)))
 (qf (qk jo)))))),?_⟩
  apply qdf (.inl (.lst D)) rfl (qax K "list" (by simp) "list" (by simp)) ?_;apply yr ?_;apply zD D ?_;rw[ya];apply vI (by decide) ?_;apply qfh ?_;rw[yl (by lk:¬ ((R.length:Int) % 2=0))];apply yr ?_;apply zD D ?_;rw[ya];apply qL (fun h=>absurd (yk h) (by lk)) fun _=>?_;apply .inl ⟨⟨_,.of hn⟩,qE (xs:=ss.map V.str) (fun i ys J=>J=H/\ys=((ss.take i).filter fun x=>decide (x∈R)).map V.str) ⟨rfl,rfl⟩ (fun i ys J _ d=>by rw[d.1];show .of hn) (fun i y ys J W d=>?_) fun ys J d=>?_⟩
  .obtain⟨rfl,rfl⟩:=d;obtain⟨a,A,rfl⟩:=zx W;have ae:=(yc.mp A).1;have O:((ss.take i).filter fun x=>decide (x∈R)).length<=i:=yi (yV _ _) (by rw[yO];lk);apply zK D ?_;rw[yM,A,Yg];show⟨_,rfl,qL (fun h1=>?_) fun h1=>?_⟩
   .ext;show⟨by rw[ya];show qi (by lk),rfl,?_⟩;show _=List.map V.str (_++[a].filter _);rw[yX,yF h1,yH];rfl
   .show⟨rfl,?_⟩;show _=List.map V.str (_++[a].filter _);rw[yX,yA h1,Yv,Ye]
  .obtain⟨rfl,rfl⟩:=d;rw[show(ss.map V.str).length=ss.length from ya _,yQ,<- N];show⟨by rw[ya];show yY (qi (by lk)),fun g1 ac=>?_⟩;have Z:=qH (Sr J) (o:=.lst (R.map V.str)) ac;have e1:upd J g1 (.lst (R.map V.str)) g1=some (.lst (R.map V.str)):=qb;generalize upd J g1 (.lst (R.map V.str))=H1 at Z e1;have r:=Z _ _ D;show neT (by decide) (qbH r e1) ?_;rw[yS rfl];show⟨_,rfl,qL (fun h=>by cases h) fun _=>?_⟩;obtain⟨p,C⟩:∃ p:Str->Bool,p=fun s=>match pt qs s with | none=>true | some w=>!decide (w∈R):=⟨_,rfl⟩
   have one:(R.filter p).length=1:=by
    obtain⟨m,hm,k1,k2⟩:=L.one;show one_of L.nd hm ?_ fun b hb z=>?_
    .rw [C];show(match pt qs m with | none=>true | some w=>!decide (w∈R))=true
     cases e:pt qs m with
     | none=>rfl
     | some w=>simp only[yl (fun z=>k2 w z e)];rfl
    .show Y5 fun c=>?_;obtain⟨w,hw,e⟩:=k1 b hb c;rw[C] at z;simp only[e,yS hw] at z;cases z
   apply .inl ⟨⟨_,.of r⟩,qE (xs:=R.map V.str) (fun i ys J=>J=H1/\ys=((R.take i).filter p).map V.str) ⟨rfl,rfl⟩ (fun i ys J _ d=>by rw[d.1];show .of r) (fun i y ys J W d=>?_) fun ys J d=>?_⟩
   .obtain⟨rfl,rfl⟩:=d;obtain⟨a,A,rfl⟩:=zx W;have ae:=(yc.mp A).1;have O:((R.take i).filter p).length<=i:=yi (yV _ _) (by rw[yO];lk);apply⟨pr,ls,qs,a,rfl,hL.same Z,?_⟩;apply pt_nin r ?_;have e9:(match pt qs a with | none=>true | some w=>!decide (w∈R))=p a:=by rw[C]
    rw[e9,yM,A,Yg];show⟨_,rfl,qL (fun h1=>?_) fun h1=>?_⟩
    .ext;show⟨by rw[ya];show qi (by lk),rfl,?_⟩;show _=List.map V.str (_++[a].filter _);rw[yX,yF h1,yH];rfl
    .show⟨rfl,?_⟩;show _=List.map V.str (_++[a].filter _);rw[yX,yA h1,Yv,Ye]
   .obtain⟨rfl,rfl⟩:=d;rw[show(R.map V.str).length=R.length from ya _,yQ];show⟨by rw[ya,one];decide,fun g2 ad=>?_⟩;have s2:=qH Z (o:=.lst ((R.filter p).map V.str)) ad;have e2:upd J g2 (.lst ((R.filter p).map V.str)) g2=some (.lst ((R.filter p).map V.str)):=qb;generalize upd J g2 (.lst ((R.filter p).map V.str))=H2 at s2 e2;have B:=s2 _ _ D;apply zD e2 ?_;rw[ya,one];apply neI9 rfl ?_;show⟨_,rfl,qL (fun h=>by cases h) fun _=>?_⟩;apply .inl ⟨⟨_,.of B⟩,qP (xs:=R.map V.str) (fun i σ J=>L2.Same H2 J/\∃ y4,σ=[some (.ref n),some (.ref t),some (.ref pr),some (.ref u),y4]) ⟨L2.Same.refl _,_,rfl⟩ (fun i σ J _ d=>.of (d.1 _ _ B)) (fun i y σ J W d=>?_) fun σ J d=>?_⟩
    .obtain⟨Y,y4,rfl⟩:=d;obtain⟨a,A,rfl⟩:=zx W;have S:=ye A;have M:=Y _ _ B;apply .inl ⟨⟨_,.of M⟩,qE (xs:=R.map V.str) (fun j ys G=>G=J/\ys=(del (R.take j) a).map V.str) ⟨rfl,rfl⟩ (fun j ys G _ l=>by rw[l.1];show .of M) (fun j y ys G X l=>?_) fun ys G l=>?_⟩
     .obtain⟨rfl,rfl⟩:=l;rw[yd] at X;obtain⟨v,U,rfl⟩:=yo.mp X;have aj:=(yc.mp U).1;have O:(del (R.take j) a).length<=j:=yi (qdU _ _) (by rw[yO];lk)
      have af:del (R.take (j+1)) a=del (R.take j) a++(if (!decide (v=a))=true then [v] else []):=by
       unfold del;rw[yM,U,Yg];show _++[v].filter _=_;rw[yX,Yv]
      apply neS ?_;show⟨_,rfl,?_⟩;rw[af]
      cases (!decide (v=a)) with
      | true =>
       show zr ?_;apply⟨by rw[ya];show qi (by lk),rfl,by rw[yF rfl,yH];rfl⟩
      | false=>show qL (fun h=>by cases h) fun _=>⟨rfl,by rw[yA (by decide),Ye]⟩
     .obtain⟨rfl,rfl⟩:=l;rw[show(R.map V.str).length=R.length from ya _,yQ];have ai:=qdV S;show⟨by rw[ya];show yY (qi (by lk)),fun g hg=>?_⟩;have s5:=qH (Sr G) (o:=.lst ((del R a).map V.str)) hg;have eg:upd G g (.lst ((del R a).map V.str)) g=some (.lst ((del R a).map V.str)):=qb;generalize upd G g (.lst ((del R a).map V.str))=G5 at s5 eg;have ag:=s2.trans (Y.trans s5);apply⟨g,t,del R a,ts,tps,rfl,eg,by lk,by lk,hT.same ag,fun G6 s6=>?_⟩
      have hc:cpB tps 6 (del R a)=true:=by
       obtain⟨gg,hg⟩:=L.fc a S;show qeu gg 6 (by lk) (L.nd.filter _) fun x hx=>?_;obtain⟨x1,x2⟩:=mem_del.mp hx;obtain⟨w,w1,w2,w3,w4,w5⟩:=hg x x1 x2;show⟨w,mem_del.mpr ⟨w1,w2⟩,w3,w4,yZ (ir _ _ w5),tB_iff.mpr w5⟩
      rw[hc];apply yr ?_;apply⟨Y.trans (s5.trans s6),_,rfl⟩
    .obtain⟨Y,y4,rfl⟩:=d;apply q _ (s2.trans Y)
theorem ok_nst(F:Fun K "_law_nested" "_law_nested" zm f fd)(T:Txt K mg cc cw):FnOk P w K mg base CX0 1 f fd ["_law_one","_law_other"] spNst:=by
 show F.ok ud fun _ _ _ _ H vs Q E Z h=>?_
 .obtain⟨u,v,R,S,rfl,l,t,aa,ac,nR,nS,O,N,q⟩:=h;have D:=jW Z
  have G:(R.filter fun x=>decide (x∈S)).length=0\/(R.filter fun x=>decide (x∈S)).length=min R.length S.length:=by
   rcases N with(⟨h1,h2⟩ | h1) | (⟨h1,h2⟩ | h1)
   .right;rw[List.filter_eq_self.mpr fun x g=>yS (h1 x g)];lk
   .left;rw[List.filter_eq_nil_iff.mpr fun x g=>by simpa using h1 x g];rfl
   .right
    have p:(R.filter fun x=>decide (x∈S)).Perm S:=(List.perm_ext_iff_of_nodup (nR.filter _) nS).mpr fun x=>by
     rw[yq,Ys];show⟨fun z=>z.2,fun z=>⟨h1 x z,z⟩⟩
    rw[p.length_eq];lk
   .left;rw[List.filter_eq_nil_iff.mpr fun x g=>by simpa using fun z=>h1 x z g];rfl
  have ne:R≠S:=fun z=>by
   rcases N with(⟨h1,h2⟩ | h1) | (⟨h1,h2⟩ | h1)
   .rw [z] at h2;lk
   .obtain⟨x,r,e⟩:=List.exists_cons_of_length_pos O;show h1 x (by rw[e];show yG) (by rw[<- z,e];show yG)
   .rw [z] at h2;lk
   .obtain⟨x,r,e⟩:=List.exists_cons_of_length_pos O;show h1 x (by rw[<- z,e];show yG) (by rw[e];show yG)
  show⟨_,(qc (qaw (sc:=qg zm) (XN:=["_law_one","_law_other","_law_common"]) ["_law_name","_law_other"] 1 [1] rfl rfl rfl (by room) rfl (by room) (i:=2) ud.nd rfl rfl
  (qK (K:=K) rfl (pv 0)) (fun _ _ _ _=>(qm (i:=0) (show(["_law_name","_law_other"]:LS).Nodup by room) rfl (yP rfl))) qU
  (fun _ _ _ _=>(jk (qj (j5 (K:=K) rfl D) (pv 0) (pv 1) (by with_unfolding_all rfl))))
  (fun _ _ _ _=>(pv 0)))
 (qf (qk (qbf (jt (j5 (K:=K) rfl D) (qq (jR (K:=K) rfl) rfl T.b_len YL (qa (pv 2) qd)) (qY (qa qh (qa (qq (qah rfl) rfl T.b_min boot_min (qa (qq (jR (K:=K) rfl) rfl T.b_len YL (qa (pv 0) qd)) (qa (qq (jR (K:=K) rfl) rfl T.b_len YL (qa (pv 1) qd)) qd))) qd))) (by with_unfolding_all rfl)) (qaO (jt (qam (K:=K) rfl D) (pv 0) (pv 1) (qx _))))))),?_⟩
  apply .inl ⟨⟨_,.of l⟩,qE (xs:=R.map V.str) (fun i ys J=>J=H/\ys=((R.take i).filter fun x=>decide (x∈S)).map V.str) ⟨rfl,rfl⟩ (fun i ys J _ d=>by rw[d.1];show .of l) (fun i y ys J hy d=>?_) fun ys J d=>?_⟩
  .obtain⟨rfl,rfl⟩:=d;obtain⟨U,M,rfl⟩:=zx hy;have X:=(yc.mp M).1;have Y:((R.take i).filter fun x=>decide (x∈S)).length<=i:=yi (yV _ _) (by rw[yO];lk);apply zK t ?_;rw[yM,M,Yg];show⟨_,rfl,qL (fun h1=>?_) fun h1=>?_⟩
   .ext;show⟨by rw[ya];show qi (by lk),rfl,?_⟩;show _=List.map V.str (_++[U].filter _);rw[yX,yF h1,yH];rfl
   .show⟨rfl,?_⟩;show _=List.map V.str (_++[U].filter _);rw[yX,yA h1,Yv,Ye]
  .obtain⟨rfl,rfl⟩:=d;rw[show(R.map V.str).length=R.length from ya _,yQ];generalize R.filter (fun x=>decide (x∈S))=C at G;have hC:C.length<=14:=by lk
   show⟨by rw[ya];show yY (qi (by lk)),fun s A=>?_⟩;have m:=qH (Sr J) (o:=.lst (C.map V.str)) A;have I:upd J s (.lst (C.map V.str)) s=some (.lst (C.map V.str)):=qb;generalize upd J s (.lst (C.map V.str))=H1 at m I;apply zD I ?_;rw[ya];apply zD (m _ _ l) ?_;rw[ya];apply zD (m _ _ t) ?_;rw[ya];apply⟨_,_,rfl,?_⟩;show⟨by show 2<=sizeLine;decide,fun j B=>?_⟩;obtain⟨a,b⟩:∃ a:Int,a=if (S.length:Int)<(R.length:Int) then(S.length:Int) else(R.length:Int):=⟨_,rfl⟩;rw[<- b];have n:=qH m (o:=.lst [.int 0,.int a]) B;have L:upd H1 j (.lst [.int 0,.int a]) j=some (.lst [.int 0,.int a]):=qb;generalize upd H1 j (.lst [.int 0,.int a])=H2 at n L;show .inl ⟨j,_,rfl,.inl (.of L),rfl,rfl,?_⟩
   have W:(if false=true then !inV (.int (C.length:Int)) [.int 0,.int a] else inV (.int (C.length:Int)) [.int 0,.int a])=true:=by
    rw[yA (by decide)];unfold inV;simp only[Xs,List.any_nil,XR,kS];rcases G with c | c
    .left;rw[c];rfl
    .right;have:a=(C.length:Int):=by rw[b,c];split<;>lk
     rw[this];simp[eqV]
   rw[W];show⟨_,rfl,zr ?_⟩;apply neT (by decide) (qbH (n _ _ l) (n _ _ t)) ?_;rw[yl ne];show q _ n
theorem ok_tog(F:Fun K "_law_together" "_law_together" jO f fd)(T:Txt K mg cc cw):FnOk P w K mg base CX0 1 f fd ["_law_folds","_law_ties_here","_law_reached"] spTog:=by
 show F.ok KI fun _ _ _ _ H vs Q E hr h=>?_
 .obtain⟨D,t,re,us,ts,fs,tps,rd,rfl,hD,hU,ac,C,W,hc,q⟩:=h;have v:=jW hr;show⟨_,(qc (q9 yT rfl (qdC (K:=K) rfl (pv 1)) (qbM rfl (jF (qm (i:=3) KI.nd rfl (XD rfl)) (jF (qm (i:=4) KI.nd rfl (XD rfl)) qaP)))
 (qf (qJ (PW.pt (qay (qj (j5 (K:=K) rfl v) (pv 3) (pv 2) (by with_unfolding_all rfl)) (zF (qj (j5 (K:=K) rfl v) (pv 4) (pv 2) (by with_unfolding_all rfl))))) (qf (qJ (qj (zZ (K:=K) rfl v) (jj (sc:=qg jO) (XN:=["_law_folds","_law_ties_here","_law_reached","_law_one","_law_other"]) ["_law_fold_here","_law_one","_law_other"] 1 [3,4] rfl rfl rfl (by room) rfl (by room)
  (qK (K:=K) rfl (pv 0)) (fun _ _ _ _=>(qm (i:=0) (show(["_law_fold_here","_law_one","_law_other"]:LS).Nodup by room) rfl (yP rfl))) qU
  (fun _ _ _ _=>(jk (PW.pt (qay (qj (j5 (K:=K) rfl v) (pv 1) (pv 0) (by with_unfolding_all rfl)) (zF (qj (j5 (K:=K) rfl v) (pv 2) (pv 0) (by with_unfolding_all rfl)))))))
  (fun _ _ _ _=>(pv 0))) (qY qd) (qx _)) (qf (qk jo)) qo)) qo)))
 (qf (qk jo))),?_⟩
  apply qeF ?_;apply⟨t,_,rfl,.of C.1,qP (xs:=ts.map V.ref) (fun i σ J=>L2.Same H J/\∃ y3 y4,σ=[some (.ref D),some (.ref t),some (.ref re),y3,y4]) ⟨L2.Same.refl _,_,_,rfl⟩ (fun i σ J _ r=>.of (r.1 _ _ C.1)) (fun i y σ J hy r=>?_) fun σ J r=>?_⟩
  .obtain⟨d,y3,y4,rfl⟩:=r;rw[yd] at hy;obtain⟨b,hb,rfl⟩:=yo.mp hy;have S:i<tps.length:=by rw[<- C.2.len];show(yc.mp hb).1
   obtain⟨ab,n⟩:∃ ab,tps[i]?=some ab:=⟨_,yb S⟩;have et:=d _ _ (C.2.at_ i b ab hb n);have g:=d _ _ W;show⟨b,_,rfl,.of et,rfl,_,_,rfl,_,_,rfl,rfl,?_⟩;apply zK g ?_;show⟨_,rfl,qL (fun h1=>?_) fun h1=>qL (fun h=>by cases h) fun _=>⟨d,_,_,rfl⟩⟩;apply zK g ?_;show⟨_,rfl,qL (fun h2=>?_) fun h2=>⟨d,_,_,rfl⟩⟩;obtain⟨R0,m0,a0,b0⟩:=hc ab (ye n) (yk h1) (yk h2);have m:=d _ _ hD;have B:=hU.len;obtain⟨e,j⟩:∃ e:LS->Bool,e=fun R=>decide (ab.1∈R)&&decide (ab.2∈R):=⟨_,rfl⟩;apply .inl ⟨⟨_,.of m⟩,qE (xs:=us.map V.ref) (fun k ys G=>G=J/\∃ vs:LQ,ys=vs.map V.ref/\vs.length=((fs.take k).filter e).length) ⟨rfl,[],rfl,rfl⟩ (fun k ys G _ c=>by rw[c.1];show .of m) (fun k y ys G A c=>?_) fun ys G c=>?_⟩
   .obtain⟨rfl,vs,rfl,a⟩:=c;rw[yd] at A;obtain⟨u,x,rfl⟩:=yo.mp A;have U:k<fs.length:=by rw[<- B];show(yc.mp x).1
    obtain⟨R,hR⟩:∃ R,fs[k]?=some R:=⟨_,yb U⟩;have eu:=d _ _ (hU.at_ k u R x hR)
    have X:((fs.take (k+1)).filter e).length=vs.length+if e R=true then 1 else 0:=by
     rw[yM,hR,Yg,yu,a];show _+([R].filter e).length=_;rw[yX,Yv];cases e R<;>rfl
    have Y:vs.length<=14:=by rw[a];show yi (yV _ _) (by rw[yO];lk)
    rw[X];apply zK eu ?_;show⟨_,rfl,qL (fun Z=>?_) fun Z=>?_⟩
    .ext;show zK eu ?_
     have L:e R=decide (ab.2∈R):=by
      rw[j];show(decide (ab.1∈R)&&decide (ab.2∈R))=_;rw[show decide (ab.1∈R)=true from Z,Bool.true_and]
     rw[L];show⟨_,rfl,qL (fun k2=>?_) fun k2=>?_⟩
     .rw [yF k2];apply⟨by rw[ya];show qi (by lk),rfl,vs++[u],by rw[yH];rfl,by rw[yu];rfl⟩
     .rw [yA k2];show⟨rfl,vs,rfl,rfl⟩
    .have L:e R=false:=by
      rw[j];show(decide (ab.1∈R)&&decide (ab.2∈R))=_;rw[show decide (ab.1∈R)=false by simpa using Z,Bool.false_and]
     rw[L,yA (by decide)];show⟨rfl,vs,rfl,rfl⟩
   .obtain⟨rfl,vs,rfl,a⟩:=c;rw[show(us.map V.ref).length=fs.length by rw[ya,B],yQ] at a
    have s:0<vs.length:=by
     rw[a];show YS (yq.mpr ⟨m0,by rw[j];simp[a0,b0]⟩)
    have aa:vs.length<=14:=by rw[a];show yi (yV _ _) (by lk)
    show⟨by rw[ya];show yY (qi (by lk)),fun M O=>?_⟩;have s1:=qH d (o:=.lst (vs.map V.ref)) O;have e1:upd G M (.lst (vs.map V.ref)) M=some (.lst (vs.map V.ref)):=qb;generalize upd G M (.lst (vs.map V.ref))=I at s1 e1;apply⟨by show 0<=sizeLine;decide,fun N p=>?_⟩;have s2:=qH s1 (o:=.lst []) p;have e2:upd I N (.lst []) N=some (.lst []):=qb;have l:=(qH (Sr I) (o:=.lst []) p) _ _ e1;generalize upd I N (.lst [])=G2 at s2 e2 l;show .inl (.inl (qdT l e2 ?_))
    have en:(vs.map V.ref).isEmpty=false:=by
     cases vs with
     | nil=>simp at s
     | cons _ _=>rfl
    rw[en];show⟨_,rfl,qL (fun h=>by cases h) fun _=>?_⟩;apply⟨s2,_,_,rfl⟩
  .obtain⟨d,y3,y4,rfl⟩:=r;apply q _ d
theorem qcD{X:L2.Cx}{st:List PySem.Stmt}{t:L2.TS}(t':L2.TS)(h:L2.PSs X st t)(k:∀ D σ H,t' D σ H->t D σ H):L2.PSs X st t':=fun a s σ H D I q=>h a s σ H D I (k D σ H q)
theorem Kn:FnScope ["_law_forest","_law_names_here","_law_ties_here","_law_pairs","_law_folds","_law_k","_law_other","_law_ranks","_law_kept","_law_fold_here"] ["_law_forest","_law_names_here","_law_ties_here","_law_pairs"] (qg zn):=fS
theorem FoA.tab{a:Fo}{bs:LS}(h:FoA cf cw H0 H a ss ns qs S bs dn wt lo)(m:H tb=some (.tbl ps))(k:zP tb H H')(y:∃ o,H' tb=some o):FoA cf cw (fun c=>if c=tb then none else H0 c) H' a ss ns qs S bs dn wt lo:=by
 have j:∀{c:Addr} {o:HO},H0 c=some o->(∀ q,o≠.tbl q)->c≠tb:=fun e n z=>by
  have:=h.sm _ _ e;rw[z,m] at this;show n _ (yn this).symm
 have b:∀{c:Addr} {o:HO},H0 c=some o->(∀ q,o≠.tbl q)->(fun c=>if c=tb then none else H0 c) c=some o:=fun{c o} e n=>by
  show(if c=tb then none else H0 c)=some o;rw[yA (j e n)];show e
 have up:∀{c:Addr} {o:HO},H c=some o->(∀ q,o≠.tbl q)->H' c=some o:=fun{c o} e n=>k _ _ (fun z=>by rw[z,m] at e;show n _ (yn e).symm) e;obtain⟨U,v,ol,A,M,N,O,P,T⟩:=h.web;obtain⟨dx,fs,B,C⟩:=h.obj;obtain⟨d,F,G,I⟩:=h.row;obtain⟨f,D,E⟩:=h.par;obtain⟨i,p,s⟩:=h.bas;obtain⟨xs,w,x⟩:=h.rng;obtain⟨us,J,K,L⟩:=h.rgl;show⟨fun c o e=>?_,⟨U,v,ol,A,b M (by intro q z;cases z),b N (by intro q z;cases z),b O (by intro q z;cases z),b P (by intro q z;cases z),T⟩,b h.prt (by intro q z;cases z),fun c hc=>?_,h.nd,fun c hc=>⟨?_,(h.exf c hc).2.1,?_⟩,⟨dx,fs,up B (by intro q z;cases z),C⟩,⟨d,up F (by intro q z;cases z),G,fun z=>?_⟩,⟨f,up D (by intro q z;cases z),E⟩,⟨i,up p (by intro q z;cases z),s⟩,⟨xs,up w (by intro q z;cases z),x⟩,up h.wai (by intro q z;cases z),h.evn,h.evi,h.evs,⟨us,up J (by intro q z;cases z),K.mono fun u R z=>⟨up z.1 (by intro q z;cases z),z.2⟩,L⟩⟩
 .have e:(if c=tb then none else H0 c)=some o:=e;split at e
  .cases e
  .rename_i n;show k _ _ n (h.sm _ _ e)
 .show(if c=tb then none else H0 c)=none;rw[h.fr c hc];split<;>rfl
 .show(if c=tb then none else H0 c)=none;rw[(h.exf c hc).1];split<;>rfl
 .by_cases z:c=tb
  .rw [z];show y
  .obtain⟨o,e⟩:=(h.exf c hc).2.2;show⟨o,k _ _ z e⟩
 .have g:=I z
  cases l:S.rows z with
  | none=>rw[l] at g;show g
  | some r =>
   rw[l] at g;obtain⟨t,d,f,i⟩:=g;show⟨t,d,up f (by intro q z;cases z),i⟩
theorem FoD.tab{a:Fo}(h:FoD cf cw H0 H a ss ns qs S dn wt lo A)(d:H tb=some (.tbl ps))(k:zP tb H H')(g:∃ o,H' tb=some o):FoD cf cw (fun c=>if c=tb then none else H0 c) H' a ss ns qs S dn wt lo A:=by
 show⟨h.fo.tab d k g,h.en.imp id ?_,h.fi⟩;rintro⟨t,r,e,b,f⟩;show⟨t,r,e,k _ _ (fun z=>by rw[z,d] at b;cases b) b,f⟩
theorem qcE[DecidableEq α]{rk:α->Int}:∀{l m:List α},l.Perm m->l.Pairwise (fun a b=>rk a<=rk b)->m.Pairwise (fun a b=>rk a<=rk b)->(∀ a∈m,∀ b∈m,rk a=rk b->a=b)->l=m
 | [],m,p,_,_,_=>(List.perm_nil.mp p.symm).symm
 | a::l,[],p,_,_,_=>absurd p.length_eq (by simp)
 | a::l,b::m,p,h1,h2,hi=>by
  have d:a∈b::m:=p.mem_iff.mp yG;have f:b∈a::l:=p.mem_iff.mpr yG
  have e:rk a=rk b:=by
   have l1:rk b<=rk a:=by
    rcases yB.mp d with z | z
    .rw [z];show xS _
    .show(xY.mp h2).1 a z
   have l2:rk a<=rk b:=by
    rcases yB.mp f with z | z
    .rw [z];show xS _
    .show(xY.mp h1).1 b z
   lk
  have c:=hi a d b yG e;subst c;rw[qcE ((List.perm_cons a).mp p) (xY.mp h1).2 (xY.mp h2).2 fun x g y h=>hi x (yI _ g) y (yI _ h)]
theorem rk_one{f:Str->Option Str}(I:FI A f S)(o:∀ R∈S.rgs,R=ss.filter fun u=>decide (u∈R))(g:ss.length<=14)(c:R∈S.rgs)(d:U∈S.rgs)(e:rkR ss R=rkR ss U):R=U:=by
 have len:∀ R∈S.rgs,R.length<=14:=fun R h=>by rw[o R h];show yi (yV _ _) g
 have a:∀ R∈S.rgs,hdW R∈R/\hdW R∈ss:=fun R h=>by
  have b:=(I.rg R h).1.big
  have m:hdW R∈R:=by
   cases R with
   | nil=>simp at b
   | cons x r=>show yG
  show⟨m,?_⟩;rw[o R h] at m;have:=(yq.mp m).1
  rwa[<- o R h] at this
 have l1:=len R c;have l2:=len U d;unfold rkR at e;have p:R.length=U.length:=by lk
 have E:ss.idxOf (hdW R)=ss.idxOf (hdW U):=by lk
 have q:hdW R=hdW U:=by
  have y:=Yx (Yj (a R c).2);have B:=Yx (Yj (a U d).2);rw[<- y,<- B]
  congr 1
 have v:∀{X Y:LS},Nst X Y->hdW X=hdW Y->X.length=Y.length->hdW X∈X->hdW Y∈Y->False:=fun{X Y} n h l C D=>by
  rcases n with⟨_,n⟩ | n
  .omega
  .show n _ C (h ▸ D)
 obtain⟨i,s,rfl⟩:=xr c;obtain⟨j,t,rfl⟩:=xr d;have w:=YB.mp I.nst;rcases kz i j with z | z | z
 .show(v (w i j s t z) q p (a _ c).1 (a _ d).1).elim
 .subst z;rfl
 .show(v (w j i t s z) q.symm p.symm (a _ d).1 (a _ c).1).elim
inductive spRtF(cc:Nat->Addr)(cw P:Addr)(vs:List V)(H:Hp)(Q:VK)(E:XK):Prop|mk (H0:Hp) (a:Fo) (n t pr:Addr) (ss:LS) (ns:LN) (ts ls:LQ) (tps qs qs':LP) (S:FS) (dn wt:LS) (lo:V) (_:vs=[.ref a.x,.ref n,.ref t,.ref pr]) (_:FoD (cc 9) cw H0 H a ss ns qs' S dn wt lo (tA tps)) (_:pt qs'=pt qs) (_:H n=some (.lst (ss.map V.str))) (_:ss.length<=14) (_:ss.Nodup) (_:PL H t ts tps) (_:(∀ a b,tA tps a b->a≠b)) (_:PL H pr ls qs) (_:TbB H P) (_:∀ H',zP P H H'->TbB H' P->Q (.bl true) H')
theorem cut_take(xs:List V)(k:Nat):qbb xs none (some (k:Int))=xs.take k:=by
 unfold qbb;rw[HT.sIx_none]
 have e:HT.sIx xs.length xs.length (some (k:Int))=min k xs.length:=by
  show(if (k:Int)<0 then((k:Int)+(xs.length:Int)).toNat else min (k:Int).toNat xs.length)=_;rw[yA (by lk),YI]
 rw[e,List.drop_zero,kP,<- List.take_eq_take_min]
theorem qdW{x:V}{b:Bool}{Q:VK}(e:decide (x=.non)=b)(q:Q (.bl b) H):qfy x .non H Q:=by subst e;cases x<;>show q
noncomputable def rkP(ss:LS)(R:LS):Int×Int:=((ss.idxOf (hdW R):Nat),(R.length:Nat))
theorem rkP_one(a:R.length<=14)(b:U.length<=14)(e:rkR ss R=rkR ss U):rkP ss R=rkP ss U:=by
 unfold rkR at e;unfold rkP;rw[x0];lk
theorem srt_tup{fs:List (LS)}{ks:LQ}(v:All2 (fun u p=>H u=some (.tup [.int p.1,.int p.2])) ks (fs.map (rkP ss)))(f:∀ R∈fs,R.length<=14)(n:fs.Pairwise fun p q=>rkR ss p<=rkR ss q)(h:KSo (fs.map (rkR ss)) (ks.map V.ref) (us.map V.ref)):All2 (fun u p=>H u=some (.tup [.int p.1,.int p.2])) us (fs.map (rkP ss)):=by
 obtain⟨o,D,E,K⟩:=h;have I:ks.length=fs.length:=by rw[v.len,ya]
 have J:((fs.map (rkR ss)).zip (ks.map V.ref)).map Prod.fst=fs.map (rkR ss):=List.map_fst_zip (by rw[ya,ya,I];show yh _);have r:o.map Prod.fst=fs.map (rkR ss):=qcE (rk:=fun x=>x) (by have:=D.map Prod.fst;rwa[J] at this) (Y0.mpr K) (Y0.mpr n) fun a _ b _ e=>e
 have C:us.length=fs.length:=by
  have c:=congrArg List.length E;have d:=congrArg List.length r;rw[ya,ya] at c d;lk
 show⟨by rw[ya,C],fun j u p A y=>?_⟩;have g:j<fs.length:=by rw[<- C];show(yc.mp A).1
 rw[yd,yb g] at y;cases y
 have L:o[j]?=some (rkR ss fs[j],V.ref u):=by
  have c:=congrArg (fun l=>l[j]?) E;have d:=congrArg (fun l=>l[j]?) r;simp only[yd,A,yb g] at c d
  cases s:o[j]? with
  | none=>rw[s] at c;cases c
  | some b =>
   rw[s] at c d;simp only[Xw,kA] at c d;rw[<- d,c]
 obtain⟨m,w⟩:=yf (D.mem_iff.mp (ye L));rw[Xm] at w;obtain⟨m1,B⟩:=w;rw[yd] at m1 B;obtain⟨R,t,F⟩:=yo.mp m1;obtain⟨k,i,G⟩:=yo.mp B;cases G;have:=v.at_ m u (rkP ss R) i (by rw[yd,t];rfl)
 rwa[rkP_one (f R (ye t)) (f _ (YR g)) F] at this
theorem eqT_ll{a b:Addr}{bs:LQ}{ps:List (LS)}(i:H a=some (.lst (as.map V.ref)))(c:All2 (fun u p=>H u=some (.lst (p.map V.str))) as ps)(l:H b=some (.lst (bs.map V.ref)))(d:All2 (fun u p=>H u=some (.lst (p.map V.str))) bs ps):EqT K H 2 a b true:=by
 have z:=EqT.lst (K:=K) (H:=H) (n:=1) (e:=fun _=>true) (SqL.of i) (SqL.of l) (by rw[ya,ya,c.len,d.len]) fun j x y h1 g=>by
  rw[yd] at h1 g;obtain⟨u,f,rfl⟩:=yo.mp h1;obtain⟨v,m,rfl⟩:=yo.mp g;have h:j<ps.length:=by rw[<- c.len];show(yc.mp f).1
  have t:=qbH (K:=K) (c.at_ j u ps[j] f (yb h)) (d.at_ j v ps[j] m (yb h));rw[yS rfl] at t;by_cases e:u=v
  .subst e;show .self
  .show .deep t e
 rwa[show(List.range (as.map V.ref).length).all (fun _=>true)=true from YA.mpr fun _ _=>rfl] at z
theorem eqT_tI{a b:Addr}{bs:LQ}{d:List (Int×Int)}(o:H a=some (.lst (as.map V.ref)))(g:All2 (fun u p=>H u=some (.tup [.int p.1,.int p.2])) as d)(r:H b=some (.lst (bs.map V.ref)))(h:All2 (fun u p=>H u=some (.tup [.int p.1,.int p.2])) bs d):EqT K H 2 a b true:=by
 have z:=EqT.lst (K:=K) (H:=H) (n:=1) (e:=fun _=>true) (SqL.of o) (SqL.of r) (by rw[ya,ya,g.len,h.len]) fun j x y h1 c=>by
  rw[yd] at h1 c;obtain⟨u,l,rfl⟩:=yo.mp h1;obtain⟨v,s,rfl⟩:=yo.mp c;have m:j<d.length:=by rw[<- g.len];show(yc.mp l).1
  have t:=EqT.tup (K:=K) (H:=H) (n:=0) (e:=fun _=>true) (SqT.of (g.at_ j u d[j] l (yb m))) (SqT.of (h.at_ j v d[j] s (yb m))) fun i x y h1 c=>by
   rw[h1] at c;cases c
   have f:∀ q:Int,EqD K H 0 (.int q) (.int q) true:=fun q=>by
    have:=EqD.flat (K:=K) (H:=H) (n:=0) (x:=V.int q) (y:=V.int q) rfl rfl
    rwa[show eqV (V.int q) (V.int q)=true by simp[eqV]] at this
   match i,h1 with
   | 0,h1=>cases h1;show f _
   | 1,h1=>cases h1;show f _
   | i+2,h1=>cases h1
  by_cases e:u=v
  .subst e;show .self
  .show .deep t e
 rwa[show(List.range (as.map V.ref).length).all (fun _=>true)=true from YA.mpr fun _ _=>rfl] at z
theorem ok_rtF{f:Addr}(F:Fun K "_law_right" "_law_right" zn f fd)(T:Txt K mg cc cw)(K2:MethOk P w K mg base CX0 8 (cc 9) "folds" ["self"] (spFol cc cw tb))(Kx:MethOk P w K mg base CX0 1 (cc 9) "row" ["self"] (spFr cc cw))(uh:MethOk P w K mg base CX0 2 (cc 9) "reached" ["self"] (spFd2 cc cw))(Ud:DefOk P w K mg base CX0 10 "_law_fold" ["_law_names_here","_law_ties_here","_law_pairs","_law_fold_here"] spFdL)(uU:DefOk P w K mg base CX0 1 "_law_nested" ["_law_one","_law_other"] spNst)(uK:DefOk P w K mg base CX0 1 "_law_together" ["_law_folds","_law_ties_here","_law_reached"] spTog):FnOk P w K mg base CX0 11 f fd ["_law_forest","_law_names_here","_law_ties_here","_law_pairs"] (spRtF cc cw tb):=by
 show F.ok Kn fun _ _ _ s H vs Q E hr h=>?_
 .obtain⟨H0,a,n,t,pr,ss,ns,ts,ls,tps,qs,ak,S,dn,wt,lo,rfl,N,bx,hn,ad,nd,hT,ir,hL,hB,q⟩:=h;have hu:=jW hr;obtain⟨TC3,aa⟩:∃ t':TS,t'=fun D σ J=>(∀ u H',Q u H'->D.rt u H')/\∃(d:Addr) (us:LQ) (fs:List (LS)) (y5 y6 y7 y8 y9:Option V),σ=[some (.ref a.x),some (.ref n),some (.ref t),some (.ref pr),some (.ref d),y5,y6,y7,y8,y9]/\zP tb H J/\TbB J tb/\H d=none/\LLn H J d us fs/\fs.Perm S.rgs/\fs.Pairwise (fun p q=>rkR ss p<=rkR ss q):=⟨_,rfl⟩;obtain⟨TC6,ao⟩:∃ t':TS,t'=TC3:=⟨_,rfl⟩;obtain⟨rs,bq,bv,ac⟩:=N.fo.rgl;obtain⟨ch,g1,g2⟩:=N.fo.rng;have cj:=N.fo.few
  have rl:S.rgs.length<=14:=by
   rw[bq] at g1;have:rs.map V.ref=ch:=by injection g1 with g1;injection g1
   rw[<- this,ya] at g2;have:=bv.len;lk
  have al:∀ R∈S.rgs,R.length<=14:=fun R C=>by rw[ac R C];show yi (yV _ _) ad
  have Fs:∀{J:Hp},zP tb H J->TbB J tb->FoD (cc 9) cw (fun c=>if c=tb then none else H0 c) J a ss ns ak S dn wt lo (tA tps):=fun b tj=>N.tab hB.choose_spec.1 b (tj.elim fun q z=>⟨_,z.1⟩);have nh:∀{J:Hp},zP tb H J->J n=some (.lst (ss.map V.str)):=fun b=>b _ _ (jv hn hB.choose_spec.1 (by intro z;cases z)) hn;have bj:∀{J:Hp},zP tb H J->PL J t ts tps:=fun b=>⟨b _ _ (jv hT.1 hB.choose_spec.1 (by intro z;cases z)) hT.1,hT.2.mono fun u p z=>b _ _ (jv z hB.choose_spec.1 (by intro z;cases z)) z⟩;have cg:∀{J:Hp},zP tb H J->PL J pr ls qs:=fun b=>⟨b _ _ (jv hL.1 hB.choose_spec.1 (by intro z;cases z)) hL.1,hL.2.mono fun u p z=>b _ _ (jv z hB.choose_spec.1 (by intro z;cases z)) z⟩;obtain⟨ps,hP,_⟩:=id hB;have ay:∀{fs:List (LS)},fs.Perm S.rgs->∀ R∈fs,R.length<=14:=fun p R h=>al R (p.mem_iff.mp h);show⟨_,(qc (qt (i:=4) Kn.nd rfl (yP rfl) (je K2 (hmR hr) (pv 0)))
 (qc (qJ (jc (qV (qq (qbm (K:=K) rfl) rfl T.b_isinstance xo (qa (pv 4) (qa (ze (v:=.ty "list") rfl T.b_list xw rfl) qd))))) (qf (qk jo)) qo)
 (qc (q9 yT rfl (jx rfl T.b_range (qa (qq (jR (K:=K) rfl) rfl T.b_len YL (qa (pv 4) qd)) qd)) (qm (i:=5) Kn.nd rfl (yP rfl))
 (qc (qJ (jc (qV (qr Ud (hmR hr) qC (qa (pv 1) (qa (pv 2) (qa (pv 3) (qa (qu (qv (K:=K) rfl hu) (pv 4) (pv 5) (fun _ _=>rfl)) qd))))))) (qf (qk jo)) qo)
 (qf (q9 yT rfl (qK (K:=K) rfl (jg (qcW (K:=K) rfl) (pv 4) jy (ji (pv 5)))) (qm (i:=6) Kn.nd rfl (yP rfl))
 (qf (qJ (jc (qV (qr uU (hmR hr) qC (qa (qu (qv (K:=K) rfl hu) (pv 4) (pv 5) (fun _ _=>rfl)) (qa (pv 6) qd))))) (qf (qk jo)) qo))))))
 (qcD TC3 (qc (qaw (sc:=qg zn) (XN:=["_law_forest","_law_names_here","_law_ties_here","_law_pairs","_law_folds","_law_k","_law_other","_law_ranks","_law_kept","_law_fold_here"]) ["_law_fold_here","_law_names_here"] 1 [1] rfl rfl rfl (by room) rfl (by room) (i:=7) Kn.nd rfl rfl
  (qK (K:=K) rfl (pv 4)) (fun _ _ _ _=>(qm (i:=0) (show(["_law_fold_here","_law_names_here"]:LS).Nodup by room) rfl (yP rfl))) qU
  (fun _ _ _ _=>jG)
  (fun _ _ _ _=>(jQ (qa (qa9 (K:=K) rfl yN xl xQ (qbx (K:=K) rfl) (pv 1) (qa (qu (qv (K:=K) rfl hu) (pv 0) qh (fun _ _=>rfl)) qd)) (qa (qq (jR (K:=K) rfl) rfl T.b_len YL (qa (pv 0) qd)) qd)))))
 (qc (qJ (qj (qam (K:=K) rfl hu) (pv 7) (qq (k_sortZ) rfl T.b_sorted boot_sorted (qa (pv 7) qd)) (qx _)) (qf (qk jo)) qo)
 (qc (qJ (PW.pt (qay (qj qfo (je Kx (hmR hr) (pv 0)) zg (qx _)) (zF (jc (qV (qr uK (hmR hr) qC (qa (pv 4) (qa (pv 2) (qa (je uh (hmR hr) (pv 0)) qd))))))))) (qf (qk jo)) qo)
 (qcD TC6 (qc (qaw (sc:=qg zn) (XN:=["_law_forest","_law_names_here","_law_ties_here","_law_pairs","_law_folds","_law_k","_law_other","_law_ranks","_law_kept","_law_fold_here"]) ["_law_fold_here"] 1 [] rfl rfl rfl (by room) rfl (by room) (i:=8) Kn.nd rfl rfl
  (qK (K:=K) rfl (pv 4)) (fun _ _ _ _=>(qm (i:=0) (show(["_law_fold_here"]:LS).Nodup by room) rfl (yP rfl))) qU
  (fun _ _ _ _=>jG)
  (fun _ _ _ _=>(jK (qac (K:=K) rfl rfl) rfl T.b_list xw (qa (pv 0) qd))))
 (qc (q9 yT rfl (qK (K:=K) rfl (pv 4)) (qm (i:=9) Kn.nd rfl (yP rfl))
 (qf (qO (qe4 (K:=K) rfl yN PySem.F.slot_list_clear PySem.F.type_list_clear qb4 (pv 9)))))
 (qc (qO (qe4 (K:=K) rfl yN PySem.F.slot_list_clear PySem.F.type_list_clear qb4 (pv 4)))
 (qf (qk (jt (zZ (K:=K) rfl hu) (je K2 (hmR hr) (pv 0)) (pv 8) (qx _))))))) ?cut6)))) ?cut3)))),?_⟩
  case cut6 =>
   intro D σ J h;rw[ao,aa] at h;obtain⟨hE,d,us,fs,y5,y6,y7,y8,y9,rfl,b1,ag,hd,m,A,af⟩:=h;have O:=m.a.len;have fl:fs.length<=14:=by rw[A.length_eq];show rl
   apply .inl ⟨⟨_,.of m.t⟩,qE (xs:=us.map V.ref) (fun i ys G=>L2.Same J G/\∃ ks:LQ,ys=ks.map V.ref/\ks.length<=i/\All2 (fun u p=>G u=some (.lst (p.map V.str))) ks (fs.take i)/\∀ k∈ks,J k=none) ⟨L2.Same.refl _,[],rfl,yh _,.nil,fun k hk=>by cases hk⟩ (fun i ys G _ B=>.of (B.1 _ _ m.t)) (fun i y ys G hy B=>?_) fun ys G B=>?_⟩
   .obtain⟨M,ks,rfl,W,L,hN⟩:=B;rw[yd] at hy;obtain⟨u,I,rfl⟩:=yo.mp hy;have hi:i<fs.length:=by rw[<- O];show(yc.mp I).1
    obtain⟨R,C⟩:∃ R,fs[i]?=some R:=⟨_,yb hi⟩;have eu:=M _ _ (m.a.at_ i u R I C);apply zr ?_;apply .inl ⟨u,_,rfl,.inl (.of eu),fun n hn=>?_⟩;have Z:=qH (Sr G) (o:=.lst (R.map V.str)) hn;show⟨by rw[ya];show qi (by lk),M.trans Z,ks++[n],by rw[yH];rfl,by rw[yu];show xt W,by rw[yM,C];show(L.mono fun _ _ e=>Z _ _ e).snoc qb,fun v hv=>?_⟩;rcases yC.mp hv with z | z
    .show hN v z
    .rw [yz.mp z];show M.free hn
   .obtain⟨M,ks,rfl,W,L,hN⟩:=B;rw[show(us.map V.ref).length=fs.length by rw[ya,O]] at W L;rw[yQ] at L;show⟨by rw[ya];show yY (qi (by lk)),fun g hg=>?_⟩;have Z:=qH M (o:=.lst (ks.map V.ref)) hg;have s8:=qH (Sr G) (o:=.lst (ks.map V.ref)) hg;have eg:upd G g (.lst (ks.map V.ref)) g=some (.lst (ks.map V.ref)):=qb;have ar:=M.free hg;have L:=L.mono fun u p (z:G u=some (.lst (p.map V.str)))=>s8 _ _ z;generalize upd G g (.lst (ks.map V.ref))=G1 at Z eg L;clear s8 hg M;obtain⟨TF,aj⟩:∃ TF:Hp->Prop,TF=fun G=>zP tb H G/\TbB G tb/\G d=some (.lst (us.map V.ref))/\G g=some (.lst (ks.map V.ref))/\All2 (fun u p=>G u=some (.lst (p.map V.str))) ks fs/\∀ u∈us,∃ xs,G u=some (.lst xs):=⟨_,rfl⟩
    have ax:∀{G:Hp} {u:Addr} {xs:List V},zP tb H G->TbB G tb->G u=some (.lst xs)->H u=none->zP tb H (upd G u (.lst []))/\TbB (upd G u (.lst [])) tb:=fun{G u xs} b tj e hn=>by
     show⟨fun c o n e'=>?_,?_⟩
     .rw [qe fun z=>by rw[z,hn] at e';cases e'];show b c o n e'
     .obtain⟨ps,k1,k2,k3⟩:=tj;show⟨ps,by rw[qe fun z=>by rw[z,e] at k1;cases k1];show k1,k2,k3.imp id ?_⟩;rintro⟨c,c1,c2⟩;show⟨c,c1,by rw[qe fun z=>by rw[z,e] at c2;cases c2];show c2⟩
    apply .inl ⟨⟨_,.of (Z _ _ m.t)⟩,qP (xs:=us.map V.ref) (fun i σ G=>TF G/\∃ y9,σ=[some (.ref a.x),some (.ref n),some (.ref t),some (.ref pr),some (.ref d),y5,y6,y7,some (.ref g),y9]) ⟨by rw[aj];show⟨fun c o n e=>Z _ _ (b1 c o n e),ag.same Z,Z _ _ m.t,eg,L,fun u hu=>(m.a.mem hu).elim fun p z=>⟨_,Z _ _ z.2⟩⟩,_,rfl⟩ (fun i σ G _ B=>by rw[aj] at B;show .of B.1.2.2.1) (fun i y σ G hy B=>?_) fun σ G B=>?_⟩
    .obtain⟨h,y9,rfl⟩:=B;rw[aj] at h;obtain⟨c1,c2,c3,c4,c5,c6⟩:=h;rw[yd] at hy;obtain⟨u,I,rfl⟩:=yo.mp hy;have an:=ye I;obtain⟨xs,eu⟩:=c6 u an;obtain⟨pu,_,am⟩:=m.a.mem an;obtain⟨k1,k2⟩:=ax c1 c2 eu (m.n u an);apply⟨.inl ⟨rfl,_,.of eu⟩,.mk u _ rfl rfl eu ⟨?_,_,rfl⟩⟩;rw[aj];have ca:d≠u:=fun z=>m.o (by rw[z];show an);have ng:g≠u:=fun z=>by rw[<- z,ar] at am;cases am
     have nk:∀ k∈ks,k≠u:=fun k hk z=>by rw[<- z,hN k hk] at am;cases am
     show⟨k1,k2,by rw[qe ca];show c3,by rw[qe ng];show c4,⟨c5.len,fun j k p hk B=>by rw[qe (nk k (ye hk))];show c5.at_ j k p hk B⟩,fun v hv=>?_⟩;by_cases z:v=u
     .rw [z];show⟨_,qb⟩
     .rw [qe z];show c6 v hv
    .obtain⟨h,y9,rfl⟩:=B;rw[aj] at h;obtain⟨c1,c2,c3,c4,c5,c6⟩:=h;obtain⟨k1,k2⟩:=ax c1 c2 c3 hd;apply⟨.inl ⟨rfl,_,.of c3⟩,.mk d _ rfl rfl c3 ?_⟩;have ap:upd G d (.lst []) g=some (.lst (ks.map V.ref)):=by rw[qe fun z=>by rw[z,m.t] at ar;cases ar];show c4
     have ai:All2 (fun u p=>upd G d (.lst []) u=some (.lst (p.map V.str))) ks fs:=⟨c5.len,fun j k p hk B=>by
      have nk:k≠d:=fun z=>by have:=m.t;rw[<- z,hN k (ye hk)] at this;cases this
      rw[qe nk];show c5.at_ j k p hk B⟩
     generalize upd G d (.lst [])=G2 at k1 k2 ap ai;have D2:=Fs k1 k2;apply D2.fo.obj.me (by decide) ?_;apply⟨_,a,ss,ns,ak,S,dn,wt,lo,rfl,D2.fo,ad,fun R C=>(N.fi.rg R C).1.big,k2,fun d2 ah bt G3 b3 ce ck ba bh bi=>?_⟩;have ef:bt=fs:=qcE (bh.trans A.symm) bi af fun R C U m e=>rk_one N.fi ac ad (A.mem_iff.mp C) (A.mem_iff.mp m) e;subst ef;obtain⟨cm,az,_⟩:=id k2;apply .inl (.inl (.inr (.inl ⟨d2,g,true,2,rfl,rfl,by decide,eqT_ll ba.t ba.a (b3 _ _ (jv ap az (by intro z;cases z)) ap) (ai.mono fun u p z=>b3 _ _ (jv z az (by intro z;cases z)) z),?_⟩)));apply hE _ _ (q _ (fun c o n e=>b3 _ _ n (k1 c o n e)) ce)
  case cut3 =>
   intro D σ J h;rw[aa] at h;obtain⟨hE,d,us,fs,y5,y6,y7,y8,y9,rfl,b1,ag,hd,m,A,af⟩:=h;have O:=m.a.len;have fl:fs.length<=14:=by rw[A.length_eq];show rl
   apply .inl ⟨⟨_,.of m.t⟩,qE (xs:=us.map V.ref) (fun i ys G=>L2.Same J G/\∃ ks:LQ,ys=ks.map V.ref/\ks.length<=i/\All2 (fun u p=>G u=some (.tup [.int p.1,.int p.2])) ks ((fs.take i).map (rkP ss))) ⟨L2.Same.refl _,[],rfl,yh _,.nil⟩ (fun i ys G _ B=>.of (B.1 _ _ m.t)) (fun i y ys G hy B=>?_) fun ys G B=>?_⟩
   .obtain⟨M,ks,rfl,W,L⟩:=B;rw[yd] at hy;obtain⟨u,I,rfl⟩:=yo.mp hy;have hi:i<fs.length:=by rw[<- O];show(yc.mp I).1
    obtain⟨R,C⟩:∃ R,fs[i]?=some R:=⟨_,yb hi⟩;have ae:=A.mem_iff.mp (ye C);have eu:=M _ _ (m.a.at_ i u R I C);have bG:zP tb H G:=fun c o n e=>M _ _ (b1 c o n e);have big:=(N.fi.rg R ae).1.big
    obtain⟨y,R',eR⟩:∃ y R',R=y::R':=by
     cases R with
     | nil=>simp at big
     | cons y R'=>show⟨y,R',rfl⟩
    have bz:y∈ss:=by
     have:y∈R:=by rw[eR];show yG
     rw[ac R ae] at this;show(yq.mp this).1
    apply zr ?_;apply⟨.inl ⟨rfl,_,.of (nh bG)⟩,?_⟩;apply .inl (zH eu (v:=.str y) (qw (j:=0) (by rw[eR];rfl)) ?_);apply⟨n,ss,_,rfl,rfl,.of (nh bG),bz,?_⟩;apply zD eu ?_;rw[ya];apply⟨by show 2<=sizeLine;decide,fun z hz=>?_⟩;have Z:=qH (Sr G) (o:=.tup [.int (ss.idxOf y:Nat),.int (R.length:Nat)]) hz;show⟨by rw[ya];show qi (by lk),M.trans Z,ks++[z],by rw[yH];rfl,by rw[yu];show xt W,?_⟩;rw[yM,C,yH];show(L.mono fun _ _ e=>Z _ _ e).snoc ?_;unfold rkP hdW;rw[eR];show qb
   .obtain⟨M,ks,rfl,W,L⟩:=B;rw[show(us.map V.ref).length=fs.length by rw[ya,O]] at W L;rw[yQ] at L;show⟨by rw[ya];show yY (qi (by lk)),fun g hg=>?_⟩;have Z:=qH M (o:=.lst (ks.map V.ref)) hg;have s8:=qH (Sr G) (o:=.lst (ks.map V.ref)) hg;have eg:upd G g (.lst (ks.map V.ref)) g=some (.lst (ks.map V.ref)):=qb;have L:=L.mono fun u (p:Int×Int) (z:G u=some (.tup [.int p.1,.int p.2]))=>s8 _ _ z;generalize upd G g (.lst (ks.map V.ref))=G1 at Z eg L;clear s8 hg M;have kl:ks.length=fs.length:=by rw[L.len,ya]
    apply⟨g,ks,fs.map (rkR ss),rfl,eg,by lk,⟨by rw[ya,ya,kl],fun i v q hv hq=>?_⟩,fun l ah hl bg=>?_⟩
    .rw [yd] at hv hq;obtain⟨k,hk,rfl⟩:=yo.mp hv;obtain⟨R,C,rfl⟩:=yo.mp hq;have:=ay A R (ye C);show⟨k,_,_,rfl,L.at_ i k (rkP ss R) hk (by rw[yd,C];rfl),rfl,by unfold rkP;show(0:Int)<=(R.length:Nat);lk,by unfold rkP;show((R.length:Nat):Int)<64;lk⟩
    .have ai:=srt_tup L (ay A) af bg;have s7:=qH (Sr G1) (o:=.lst (ah.map V.ref)) hl;have s6:=qH Z (o:=.lst (ah.map V.ref)) hl;have el:upd G1 l (.lst (ah.map V.ref)) l=some (.lst (ah.map V.ref)):=qb;show neT (n:=2) (by decide) (eqT_tI (s7 _ _ eg) (L.mono fun _ _ z=>s7 _ _ z) el (ai.mono fun _ _ z=>s7 _ _ z)) ?_;clear L ai bg eg hl s7 el;generalize upd G1 l (.lst (ah.map V.ref))=G2 at s6;show⟨_,rfl,qL (fun h=>by cases h) fun _=>?_⟩;have b2:zP tb H G2:=fun c o n e=>s6 _ _ (b1 c o n e);have cd:=ag.same s6;have D2:=Fs b2 cd
     have go:∀{G:Hp},L2.Same G2 G->TC6 D [some (.ref a.x),some (.ref n),some (.ref t),some (.ref pr),some (.ref d),y5,y6,some (.ref g),y8,y9] G:=fun s=>by
      rw[ao,aa];have s':=s6.trans s;show⟨hE,d,us,fs,_,_,_,_,_,rfl,fun c o n e=>s' _ _ (b1 c o n e),ag.same s',hd,⟨s' _ _ m.t,m.a.mono fun _ _ z=>s' _ _ z,m.n,m.o⟩,A,af⟩
     apply D2.fo.obj.me (by decide) ?_;apply⟨_,a,ss,ns,ak,S,dn,wt,lo,tA tps,rfl,D2,fun aq=>?_,fun t' r aq _ _ l' bw=>?_⟩
     .ext;show qdW (b:=true) rfl ?_;show⟨_,rfl,zr ?_⟩;apply D2.fo.obj.me (by decide) ?_;apply⟨_,a,ss,ns,ak,S,dn,wt,lo,tA tps,rfl,D2,ad,fun z=>absurd aq z,fun _ l3 G3 s3 _ bp=>?_⟩;ext;have aw:=s6.trans s3;show⟨d,t,l3,us,ts,fs,tps,_,rfl,aw _ _ m.t,m.a.mono fun _ _ z=>aw _ _ z,by lk,bj fun c o n e=>aw _ _ (b1 c o n e),bp,fun ab bu h1 h2=>?_,fun G4 s4=>?_⟩
      .rcases N.en with⟨_,ew,_,ci,_⟩ | ⟨t9,_,z,_⟩
       .have r1:S.rows ab.1≠none:=fun z=>by have:=(yq.mp h1).2;rw[z] at this;cases this
        have r2:S.rows ab.2≠none:=fun z=>by have:=(yq.mp h2).2;rw[z] at this;cases this
        have bo:ab.2∈dn:=by have:=(N.fo.evi ab.2).mpr r2;rwa[ew,Ye] at this
        have bn:ab.1∈dn:=by have:=(N.fo.evi ab.1).mpr r1;rwa[ew,Ye] at this
        have bm:tA tps ab.1 ab.2:=by unfold tA;show .inl bu
        have eb:=(ci.cl ab.1 ab.2 bn bm).resolve_right fun z=>z.2 bo;obtain⟨R,C,k1,k2⟩:=N.fi.cov ab.1 ab.2 r1 r2 (ir _ _ bm) eb.symm;show⟨R,A.mem_iff.mpr C,k1,k2⟩
       .rw [aq] at z;cases z
      .show⟨_,rfl,qL (fun h=>by cases h) fun _=>?_⟩;show go (s3.trans s4)
     .ext;show qdW (b:=false) rfl ?_;show⟨_,rfl,qL (fun h=>by cases h) fun _=>qL (fun h=>by cases h) fun _=>?_⟩;show go (qH (Sr _) bw)
  apply N.fo.obj.me (by decide) ?_;apply⟨H0,a,ss,ns,ak,S,dn,wt,lo,rfl,N.fo,ad,fun R C=>(N.fi.rg R C).1.big,hB,fun d us fs H1 b1 ag hd m A af=>?_⟩;have O:=m.a.len;have fl:fs.length<=14:=by rw[A.length_eq];show rl
  have pw:fs.Pairwise fun X Y=>Nst X Y\/Nst Y X:=(A.pairwise_iff fun{x y} h=>Or.symm h).mpr (N.fi.nst.imp yP);apply qdf (.inl (.lst m.t)) rfl (qax K "list" (by simp) "list" (by simp)) ?_;apply yr ?_;apply zD m.t ?_;rw[ya,O];apply⟨_,rfl,by lk,by lk,?_⟩;rw[YI];show jJ (lo:=0) (fun i σ J=>L2.Same H1 J/\∃ y5 y6,σ=[some (.ref a.x),some (.ref n),some (.ref t),some (.ref pr),some (.ref d),y5,y6,none,none,none]) ⟨L2.Same.refl _,none,none,rfl⟩ (fun i σ J hi B=>?_) fun σ J B=>?_
  .obtain⟨sJ,y5,y6,rfl⟩:=B;rw[X7];obtain⟨R,C⟩:∃ R,fs[i]?=some R:=⟨_,yb hi⟩;obtain⟨u,I⟩:∃ u,us[i]?=some u:=⟨_,yb (by rw[O];show hi)⟩;have ae:=A.mem_iff.mp (ye C);have au:=(N.fi.rg R ae).1;have eu:=sJ _ _ (m.a.at_ i u R I C);have bJ:zP tb H J:=fun c o n e=>sJ _ _ (b1 c o n e);have bd:=sJ _ _ m.t;apply .inl (zH bd (v:=.ref u) (qw (by rw[yd,I];rfl)) ?_);apply⟨n,t,pr,u,ss,R,ts,ls,tps,qs,rfl,nh bJ,ad,bj bJ,cg bJ,eu,ac R ae,ir,bx ▸ au,fun J2 s2=>?_⟩;show⟨_,rfl,qL (fun h=>by cases h) fun _=>?_⟩;apply .inl (.mk d _ rfl (.of (s2 _ _ bd)) fun g hg=>?_);have s3:=qH (Sr J2) (o:=.lst (qbb (us.map V.ref) none (some (i:Int)))) hg;have eg:upd J2 g (.lst (qbb (us.map V.ref) none (some (i:Int)))) g=some (.lst (qbb (us.map V.ref) none (some (i:Int)))):=qb;generalize upd J2 g (.lst (qbb (us.map V.ref) none (some (i:Int))))=J3 at s3 eg;rw[cut_take] at eg;have av:=sJ.trans (s2.trans s3);apply .inl ⟨⟨_,.of eg⟩,qP (xs:=(us.map V.ref).take i) (fun j σ G=>L2.Same J3 G/\∃ y6,σ=[some (.ref a.x),some (.ref n),some (.ref t),some (.ref pr),some (.ref d),some (.int (i:Int)),y6,none,none,none]) ⟨L2.Same.refl _,y6,rfl⟩ (fun j σ G _ B=>.of (B.1 _ _ eg)) (fun j y σ G hy B=>?_) fun σ G B=>?_⟩
   .obtain⟨M,y6,rfl⟩:=B
    have bf:j<i:=by
     have:=(yc.mp hy).1;rw[yO] at this;lk
    rw[kg,yF bf,yd] at hy;obtain⟨v,hv,rfl⟩:=yo.mp hy;have be:j<fs.length:=by lk
    have hX:=yb be;have bc:=A.mem_iff.mp (ye hX);have ev:=M _ _ (av _ _ (m.a.at_ j v _ hv hX));have br:=M _ _ (s3 _ _ (s2 _ _ eu));have dG:=M _ _ (av _ _ m.t);have nn:=YB.mp pw j i be hi bf;rw[(yc.mp C).2] at nn;have cb:=(N.fi.rg _ bc).1;apply .inl (zH dG (v:=.ref u) (qw (by rw[yd,I];rfl)) ?_);apply⟨u,v,R,_,rfl,br,ev,al R ae,al _ bc,au.nd,cb.nd,by have:=au.big;lk,nn.symm,fun G2 s4=>?_⟩;show⟨_,rfl,qL (fun h=>by cases h) fun _=>?_⟩;apply⟨M.trans s4,_,rfl⟩
   .obtain⟨M,y6,rfl⟩:=B;apply⟨av.trans M,_,_,rfl⟩
  .obtain⟨sJ,y5,y6,rfl⟩:=B;ext;show TC3 _ _ _;rw[aa];show⟨fun _ _ z=>z,d,us,fs,_,_,_,_,_,rfl,fun c o n e=>sJ _ _ (b1 c o n e),ag.same sJ,hd,⟨sJ _ _ m.t,m.a.mono fun _ _ z=>sJ _ _ z,m.n,m.o⟩,A,af⟩
theorem Ky:FnScope ["_law_script","_law_k","_law_box_here","_law_names_here","_law_ties_here","_law_web","_law_pairs"] ["_law_script"] (qg qcF):=fS
section
variable{ss:LS}{tps qs:LP}{S:FS}
theorem qbs:∀{l m:LP},All2 (fun a b=>b=a\/b=(a.2,a.1)) l m->(qp m).Perm (qp l)
 | [],[],_=>.refl _
 | [],_::_,h=>by have:=h.len;cases this
 | _::_,[],h=>by have:=h.len;cases this
 | a::l,b::m,h=>by
  have c:=qbs (l:=l) (m:=m) ⟨Nat.succ.inj h.len,fun k x y d f=>h.at_ (k+1) x y d f⟩;have e:=h.at_ 0 a b rfl rfl;show(b.1::b.2::qp m).Perm (a.1::a.2::qp l);rcases e with rfl | rfl
  .show(c.cons _).cons _
  .show(List.Perm.swap _ _ _).trans ((c.cons _).cons _)
theorem Shuf.names(sh:Shuf qs ups):(qp ups).Perm (qp qs):=by
 obtain⟨ps,b,a⟩:=sh;show(b.flatMap_right _).trans (qbs a)
theorem Shuf.back(sh:Shuf qs ups){q:Str×Str}(h:q∈qs):q∈ups\/(q.2,q.1)∈ups:=by
 obtain⟨ps,f,a⟩:=sh;obtain⟨k,b⟩:=yf h;obtain⟨c,hc⟩:∃ c,ps[k]?=some c:=⟨_,yb (by rw[<- a.len];show(yc.mp b).1)⟩;have d:=f.mem_iff.mpr (ye hc);rcases a.at_ k q c b hc with e | e
 .show .inl (e ▸ d)
 .show .inr (e ▸ d)
theorem Shuf.pgo(sh:Shuf qs ups)(g:PGo ss tps qs):PGo ss tps ups:=by
 show⟨fun q a=>?_,sh.names.nodup_iff.mpr g.nd,by rw[sh.len];show g.few⟩;rcases sh.mem a with z | z
 .show g.inn q z
 .obtain⟨b,c,d,e⟩:=g.inn _ z;show⟨b.symm,d,c,e.symm⟩
theorem Shuf.pt(sh:Shuf qs ups)(g:PGo ss tps qs):pt ups=pt qs:=by
 funext a;show qcy fun b=>?_;rw[qcf (sh.pgo g).nd,qcf g.nd];constructor
 .rintro (z | z)
  .show sh.mem z
  .show(sh.mem z).symm
 .rintro (z | z)
  .show sh.back z
  .show(sh.back z).symm
end
theorem wt_new{y:Addr}(h:WebN H0 cw H y ss ns)(e:qa6 ss ns kps)(g:TGo ss kps):Wt cw H y ss ns kps:=
 ⟨h.web,fun a b s t d c=>by rw[e.2.2 a b s t d c,Ys],g.inn⟩
theorem tok_go(c:ss.Nodup)(h:TOk ss tps):TGo ss tps:=by
 show⟨h.few,fun ab b=>?_,Xv (fun{q r} i m d=>⟨d,fun z=>?_⟩) h.nd⟩
 .obtain⟨j,k,l,h1,a⟩:=h.ok ab b;show⟨ye h1,ye a,fun e=>by rw[e] at h1;have:=qy c h1 a;lk⟩
 .obtain⟨j,k,l,h1,a⟩:=h.ok q i;obtain⟨n,k',l',f,g⟩:=h.ok r m;rw[z] at h1 a;have:=qy c h1 g;have:=qy c a f;lk
theorem vAsgT{b:TE}{n:Nat}{a:TGs}{D:Ends}(h:b σ H fun x H1=>qfj K n a x σ H1 D.nx):qeL b (qfj K n a) D σ H:=h
inductive spLawT(K:W.Frag)(tb:Addr)(vs:List V)(H:Hp)(Q:VK)(E:XK):Prop|mk (a:Addr) (ns:LX) (_:vs=[.ref a]) (_:SqL K H a (ns.map V.int)) (_:ns.length<=63) (_:TbB H tb) (_:∀ H',Q (.bl true) H')
theorem tbO_keep(h:TbB H tb)(k:∀ b o,H b=some o->(∀ xs,o≠.lst xs)->J b=some o):TbB J tb:=by
 obtain⟨ps,h1,e,f⟩:=h;show⟨ps,k _ _ h1 (fun xs z=>by cases z),e,f.imp id fun⟨c,a,d⟩=>⟨c,a,k _ _ d fun xs z=>by cases z⟩⟩
theorem qfi(h:TbB H tb)(d:Box H p)(b:BB p H J):TbB J tb:=tbO_keep h fun c o e n=>b.1 c o (fun z=>by obtain⟨_,_,_,a⟩:=d;rw[z,a] at e;show n _ (yn e).symm) e
theorem butT_seq{a:Addr}(b:zP tb H H')(c:H tb=some (.tbl ps))(h:SqL K H a xs):SqL K H' a xs:=by
 rcases h with(h | ⟨o,h⟩) | h
 .show .inl (.inl (b _ _ (jv h c (by intro z;cases z)) h))
 .show .inl (.inr ⟨o,b _ _ (jv h c (by intro z;cases z)) h⟩)
 .show .inr h
structure LdF(p tb:Addr)(J:Hp)(n l:Addr)(ss:LS)(ts:LQ)(tps:LP):Prop where
 nm:NL p J n ss
 tl:TL p J l ts tps
 bx:Box J p
 tbl:TbB J tb
theorem LdF.but(h:LdF p tb J n l ss ts tps)(b:zP tb J J')(t:TbB J' tb):LdF p tb J' n l ss ts tps:=by
 obtain⟨ps,k,_⟩:=id h.tbl;have up:∀{c:Addr} {o:HO},J c=some o->(∀ q,o≠.tbl q)->J' c=some o:=fun{c o} e n=>b _ _ (fun z=>by rw[z,k] at e;show n _ (yn e).symm) e;obtain⟨x,y,z,e⟩:=h.bx;show⟨⟨up h.nm.1 (by intro q z;cases z),h.nm.2⟩,⟨up h.tl.1 (by intro q z;cases z),h.tl.2.1,h.tl.2.2.mono fun t ab z=>⟨z.1,up z.2 (by intro q z;cases z)⟩⟩,⟨x,y,z,up e (by intro q z;cases z)⟩,t⟩
theorem LdF.same(h:LdF p tb J n l ss ts tps)(s:L2.Same J J'):LdF p tb J' n l ss ts tps:=h.but (fun c o _ e=>s c o e) (h.tbl.same s)
theorem LdF.bb(h:LdF p tb J n l ss ts tps)(b:BB p J J'):LdF p tb J' n l ss ts tps:=⟨h.nm.bb b,h.tl.bb b,b.2,qfi h.tbl h.bx b⟩
theorem wmake{m y:Addr}{Q:VK}(F:G m=some (.lst (ss.map V.str)))(g:ss.length<=14)(nd:ss.Nodup)(H:∀ s∈ss,zv s=true)(C:PL G l us kps)(j:TGo ss kps)(p:G y=none)(D:G dx=none)(i:dx≠y)
  (h:∀ ns H2,L2.Same G H2->WebN G cw H2 y ss ns->Wt cw H2 y ss ns kps->Q .non H2):spWeb cw [.ref y,.ref m,.ref l] (upd (upd G dx (.own y)) y (.ins cw dx [])) Q E:=by
 have f:=qH (qH (Sr G) (o:=.own y) D) (o:=.ins cw dx []) (show upd G dx (.own y) y=none by rw[qe (yZ i)];show p);show⟨y,dx,m,l,ss,us,kps,rfl,qb,f _ _ F,g,nd,H,C.same f,j,fun ns H' b B A=>?_⟩
 have a:WebN G cw H' y ss ns:=by
  obtain⟨I,d,ol,n,h1,q,r,t,u,v,w,x⟩:=B
  have k:∀ c,upd (upd G dx (.own y)) y (.ins cw dx []) c=none->G c=none:=fun c z=>by
   cases e:G c with
   | none=>rfl
   | some o=>rw[f _ _ e] at z;cases z
  show⟨I,d,ol,n,h1,q,r,t,u,k _ v,k _ w,k _ x⟩
 show h ns H' (fun c o e=>b c o (fun z=>by rw[z,p] at e;cases e) (f _ _ e)) a (wt_new a A j)
theorem ok_law33{f:Addr}(F:Fun K "law" "law" qcF f fd)(T:Txt K mg cc cw)(Ue:DefOk P w K mg base CX0 1 "_law_cell" ["_law_script","_law_k"] (spCell K))(Ug:DefOk P w K mg base CX0 1 "_law_box" ["_law_cell_here"] spBox)(Ka:DefOk P w K mg base CX0 1 "_law_take" ["_law_box_here","_law_many"] spTake)(u8:DefOk P w K mg base CX0 3 "_law_drawn" ["_law_box_here","_law_most"] spDrawn)(Uf:DefOk P w K mg base CX0 2 "_law_rung" ["_law_box_here","_law_names_here"] spRu)(KR:DefOk P w K mg base CX0 2 "_law_shuffled" ["_law_box_here","_law_ties_here"] spShuf)(Uh:MakeOk P w K mg base CX0 5 cw "Web" ["self","names","ties"] (spWeb cw))(KP:MakeOk P w K mg base CX0 10 (cc 9) "Forest" ["self","web","pairs"] (spFi cc cw))(ux:DefOk P w K mg base CX0 3 "_law_some_pairs" ["_law_box_here","_law_ties_here"] spSo)(uB:DefOk P w K mg base CX0 11 "_law_right" ["_law_forest","_law_names_here","_law_ties_here","_law_pairs"] (spRtF cc cw tb))(uV:DefOk P w K mg base CX0 14 "greatest" ["web"] (spGr cw)):FnOk P w K mg base CX0 15 f fd ["_law_script"] (spLawT K tb):=by
 show F.ok Ky fun _ _ _ _ H vs Q E s h=>?_
 .obtain⟨a,zs,rfl,ha,hl,hB,q⟩:=h;have hu:=jW s;obtain⟨ps,hP,_⟩:=id hB;obtain⟨TC103,af⟩:∃ t':TS,t'=fun D σ J=>(∀ G u y2 y3 y4 v A,zP tb H G->TbB G tb->D.nx [some (.ref a),u,y2,y3,y4,v,A] G)/\∃(p n l:Addr) (ss:LS) (ts:LQ) (tps:LP) (u v A:Option V),σ=[some (.ref a),u,some (.ref p),some (.ref n),some (.ref l),v,A]/\zP tb H J/\H p=none/\LdF p tb J n l ss ts tps/\NOk ss/\TGo ss tps:=⟨_,rfl⟩;show⟨_,(qc (q9 yT rfl (jx rfl T.b_range (qa (qq (call_max2 rfl) rfl T.b_max boot_max (qa qh (qa (qq (qah rfl) rfl T.b_min boot_min (qa qh (qa (qq (jR (K:=K) rfl) rfl T.b_len YL (qa (pv 0) qd)) qd))) qd))) qd)) (qm (i:=1) Ky.nd rfl (yP rfl))
 (qc (qt (i:=2) Ky.nd rfl (yP rfl) (qr Ug (hmR s) qC (qa (qr Ue (hmR s) qC (qa (pv 0) (qa (pv 1) qd))) qd)))
 (qc (jY (qr u8 (hmR s) qC (qa (pv 2) (qa (qu (qv (K:=K) rfl hu) (qY (qa qh (qa qh qd))) (jK call_int1 rfl T.b_int boot_int (qa (jt (zZ (K:=K) rfl hu) (pv 1) qh (qx _)) qd)) (fun _ _=>rfl)) qd))) (qbM rfl (jF (qm (i:=3) Ky.nd rfl (yP rfl)) (jF (qm (i:=4) Ky.nd rfl (yP rfl)) qaP))))
 (qc (qJ (PW.pt (qay (qj qdb (qq (jR (K:=K) rfl) rfl T.b_len YL (qa (pv 3) qd)) qh (qx _)) (zF (qj (zZ (K:=K) rfl hu) (qr Ka (hmR s) qC (qa (pv 2) (qa qh qd))) qh (qx _))))) (qf (qt (i:=4) Ky.nd rfl (yP rfl) (qr Uf (hmR s) qC (qa (pv 2) (qa (pv 3) qd))))) qo)
 (qcD TC103 (qc (qt (i:=5) Ky.nd rfl (yP rfl) (qan Uh (hmR s) (qa (pv 3) (qa (pv 4) qd))))
 (qc (qt (i:=6) Ky.nd rfl (yP rfl) (qr uV (hmR s) qC (qa (pv 5) qd)))
 (qc (qJ (jc (qV (qr uB (hmR s) qC (qa (qan KP (hmR s) (qa (pv 5) (qa (pv 6) qd))) (qa (pv 3) (qa (pv 4) (qa (pv 6) qd))))))) (qf (qk jo)) qo)
 (qc (qt (i:=6) Ky.nd rfl (yP rfl) (qr ux (hmR s) qC (qa (pv 2) (qa (pv 4) qd))))
 (qf (qJ (jc (qV (qr uB (hmR s) qC (qa (qan KP (hmR s) (qa (pv 5) (qa (qr KR (hmR s) qC (qa (pv 2) (qa (pv 6) qd))) qd))) (qa (pv 3) (qa (pv 4) (qa (pv 6) qd))))))) (qf (qk jo)) qo)))))) ?cut103)))))
 (qf (qk jo))),?_⟩
  case cut103 =>
   intro D σ J h;rw[af] at h;obtain⟨hE,p,n,l,ss,ts,tps,u,v,A,rfl,bJ,C,L,B,R⟩:=h;have ir:∀ a b,tA tps a b->a≠b:=fun a b z=>z.elim (fun y=>(R.inn _ y).2.2) fun y=>yZ (R.inn _ y).2.2;apply fun y dx hy aq aw=>wmake L.nm.1 B.few B.nd B.nm L.tl.pl R hy aq aw fun ns H5 s5 wn W5=>⟨rfl,?_⟩;have W:=L.same s5;have WP5:WebP (fun a=>a=p\/a=tb) cw H5 y ss ns:=wn.apart (fun z=>z.elim (L.bx.apart hy) fun z=>by obtain⟨_,k,_⟩:=id L.tbl;rw[<- z,hy] at k;cases k) (fun c z e=>z.elim (fun z=>L.bx.apart e z) fun z=>by obtain⟨_,k,_⟩:=id L.tbl;rw[<- z,e] at k;cases k);have ak:=W5.adj;have wok:=W5.ok;apply⟨y,ss,ns,tps,rfl,W5,fun l6 ls rs H6 s6 X gr mx=>?_⟩;apply fun x an hx d j=>qd6 (W5.same s6) X gr hx d j fun K0 H7 fo S dn wt lo ex hD s7=>⟨rfl,?_⟩;subst ex;have L7:=(W.same s6).same s7;have WP7:=WP5.keep fun c o _ e=>s7 c o (s6 c o e);apply⟨K0,fo,n,l,l6,ss,ns,ts,ls,tps,rs,rs,S,dn,wt,lo,rfl,hD,rfl,L7.nm.1,B.few,B.nd,L7.tl.pl,ir,X.same s7,L7.tbl,fun H8 b8 ay=>?_⟩;show⟨_,rfl,qL (fun h=>by cases h) fun _=>?_⟩;have L8:=L7.but b8 ay;have WP8:=WP7.keep fun c o n e=>b8 c o (fun z=>n (.inr z)) e;have al:zP tb H H8:=fun c o n e=>b8 c o n (s7 _ _ (s6 _ _ (s5 _ _ (bJ c o n e))));clear hD X gr mx s5 s6 s7 W5 W L7 WP5 WP7 b8 wn hx d j;apply⟨p,l,ss,ts,tps,rfl,L8.bx,L8.tl,R.few,R.inn,fun l9 us qs H9 c9 be ae hG=>?_⟩;have L9:=L8.bb c9;apply⟨p,l9,us,qs,rfl,L9.bx,ae,hG.few,fun bf ba ups H10 I _ ad sh=>?_⟩;have L10:=L9.bb I;have WP10:=(WP8.keep fun c o n e=>c9.1 c o (fun z=>n (.inl z)) e).keep fun c o n e=>I.1 c o (fun z=>n (.inl z)) e;apply fun x an hx d j=>qd6 ⟨WP10.web,ak,wok⟩ ad.pl (sh.pgo hG) hx d j fun K0 H11 ao S dn wt lo ex hD Z=>⟨rfl,?_⟩;subst ex;have L11:=L10.same Z;apply⟨K0,ao,n,l,l9,ss,ns,ts,us,tps,qs,ups,S,dn,wt,lo,rfl,hD,sh.pt hG,L11.nm.1,B.few,B.nd,L11.tl.pl,ir,((ae.bb I).same Z).pl,L11.tbl,fun H12 am aj=>?_⟩;show⟨_,rfl,qL (fun h=>by cases h) fun _=>?_⟩;show hE _ _ _ _ _ _ _ (fun c o n e=>?_) aj;have np:c≠p:=fun z=>by rw[z,C] at e;cases e
   show am c o n (Z _ _ (I.1 _ _ np (c9.1 _ _ np (al c o n e))))
  apply qec ha ?_;apply⟨_,_,rfl,?_⟩;apply⟨_,_,rfl,?_⟩;ext;rw[ya];show⟨_,rfl,by split<;>split<;>lk,by split<;>split<;>lk,?_⟩;generalize hN:(Int.toNat _)=N;have bc:N<=63:=by rw[<- hN];split<;>split<;>lk
  clear hN;show jJ (fun i σ J=>zP tb H J/\TbB J tb/\∃ x1 x2 x3 x4 x5 x6,σ=[some (.ref a),x1,x2,x3,x4,x5,x6]) ⟨fun _ _ _ e=>e,hB,none,none,none,none,none,none,rfl⟩ (fun i σ H1 hi hp=>?_) fun σ H1 hp=>?_
  .obtain⟨b1,aa,x1,x2,x3,x4,x5,x6,rfl⟩:=hp;apply⟨a,zs,_,rfl,butT_seq b1 hP ha,by lk,by lk,fun c=>?_⟩;apply⟨c,rfl,fun p u1 u2 u3 O=>?_⟩;have s2:=qH (Sr H1) (o:=.lst [.int u1,.int u2,.int u3]) O;have M:Box (upd H1 p (.lst [.int u1,.int u2,.int u3])) p:=⟨u1,u2,u3,qb⟩;have ax:p≠tb:=fun z=>by obtain⟨_,k,_⟩:=id aa;rw[<- z,O] at k;cases k
   have C:H p=none:=by
    cases e:H p with
    | none=>rfl
    | some o=>rw[b1 p o ax e] at O;cases O
   generalize upd H1 p (.lst [.int u1,.int u2,.int u3])=H2 at s2 M;apply vAsgT ?_;apply⟨by show 2<=sizeLine;decide,fun m hm=>?_⟩;have b3:=(BB.refl M).new (o:=.lst [.int 7,.int 13]) hm;have em:upd H2 m (.lst [.int 7,.int 13]) m=some (.lst [.int 7,.int 13]):=qb;generalize upd H2 m (.lst [.int 7,.int 13])=H3 at b3 em ⊢;apply .inl (.inl (.inl ⟨rfl,rfl,?_⟩));apply .inr ⟨_,rfl,?_⟩
   obtain⟨mo,ah,ai,U⟩:=(show ∀ bb:Bool,∃ mo:Int,atI [V.int 7,V.int 13] (if bb=true then 1 else 0)=some (.int mo)/\0<=mo/\mo<=14 from fun bb=>by
    cases bb
    .show⟨7,rfl,by decide,by decide⟩
    .show⟨13,rfl,by decide,by decide⟩) _
   show .inl (zH em ah ?_);apply⟨p,mo,rfl,ai,U,b3.2,fun t n l ss ts tps H4 ac ht av hn B au hT ag=>?_⟩;show⟨t,_,rfl,SqT.of ht,rfl,_,_,rfl,_,_,rfl,rfl,?_⟩;have b4:=b3.trans ac;have R:TGo ss tps:=tok_go B.nd ag;have L4:LdF p tb H4 n l ss ts tps:=⟨hn,hT,b4.2,qfi (aa.same s2) M b4⟩;have k4:zP tb H H4:=fun c o z e=>b4.1 c o (fun y=>by rw[y,C] at e;cases e) (s2 _ _ (b1 c o z e));clear ac b4 b3 em hm hT ag hn ht av au s2 M ah U ai
   have go:∀{G:Hp} {u v A:Option V} {l:Addr} {ts:LQ} {tps:LP} {D:Ends},(∀ G u y2 y3 y4 v A,zP tb H G->TbB G tb->D.nx [some (.ref a),u,y2,y3,y4,v,A] G)->BB p H4 G->LdF p tb G n l ss ts tps->TGo ss tps->TC103 D [some (.ref a),u,some (.ref p),some (.ref n),some (.ref l),v,A] G:=fun{G u v A l ts tps D} hE b L g=>by
    rw[af];show⟨hE,p,n,l,ss,ts,tps,_,_,_,rfl,fun c o z e=>b.1 c o (fun y=>by rw[y,C] at e;cases e) (k4 c o z e),C,L,B,g⟩
   apply zD L4.nm.1 ?_;rw[ya];ext;have Y:∀(G:Hp) (u y2 y3 y4 v A:Option V),zP tb H G->TbB G tb->zP tb H G/\TbB G tb/\∃ x1 x2 x3 x4 x5 x6,[some (V.ref a),u,y2,y3,y4,v,A]=[some (V.ref a),x1,x2,x3,x4,x5,x6]:=fun G u y2 y3 y4 v A b t=>⟨b,t,_,_,_,_,_,_,rfl⟩;show qL (fun h2=>?_) fun _=>qL (fun h=>by cases h) fun _=>go Y (BB.refl L4.bx) L4 R;apply⟨p,2,rfl,L4.bx,by decide,by decide,fun r H5 r0 r1 b5=>?_⟩;have W:=L4.bb b5;apply qfh ?_;show⟨_,rfl,qL (fun h=>?_) fun h=>go Y b5 W R⟩;apply⟨p,n,ss,rfl,W.bx,W.nm,B,by have:=yk h2;lk,fun l6 bg az H6 b6 bd ap ar=>?_⟩;have L6:=W.bb b6;show go Y (b5.trans b6) ⟨L6.nm,ap,b6.2,L6.tbl⟩ ar
  .obtain⟨b1,aa,x1,x2,x3,x4,x5,x6,rfl⟩:=hp;apply q H1
end
theorem fn_false{P:Program}{w:World}{a:Heap}{CX:CXT}{k:Nat}{f:Addr}{ps:LS}:FnOk P w K mg a CX k f fd ps (fun _ _ _ _=>False):=⟨fun _ _ _ _ h=>h.elim,by intros;contradiction⟩
def FMC(K:W.Frag)(C:Addr)(m a:Str)(st:Stmt)(c:Addr):Prop:=∃ f fd,W.findIn K (.ref C) m=some (some (.ref f))/\W.isFn K (.ref f)=true/\Fun K m a st f fd/\fd.code=.ref c
theorem all_mk{l:W.OpenLaw}{w:World}{h:Heap}{fa f d cB bm:Addr}{p q r:Tok}(X:K.In h)(G:h.Ns mainGlobals mg)(B:mg "law"=some (.ref fa))
  (Cw_:W.nsIn K mainGlobals "Web"=some (some (.ref f)))
  (Cf_:W.nsIn K mainGlobals "Forest"=some (some (.ref d)))
  (ve:FG K "are_pairs" zy)
  (UT:FG K "partners_in" jT)
  (U0:FG K "told_pairs" jM)
  (Vb:FG K "is_row" qaL)
  (Ut:FG K "are_unlike_places" jd)
  (UH:FG K "goes_by_turns" qS)
  (vn:FG K "can_turn" zW)
  (Vc:FG K "turned" qat)
  (vo:FG K "greatest" zY)
  (UI:FG K "greatest_from" jC)
  (vK:FG K "is_name" zI)
  (vL:FG K "has_bit" qao)
  (vp:FG K "is_place" zQ)
  (Uz:FG K "are_two_places" js)
  (U1:FG K "numbers_of" j9)
  (vM:FG K "near_of" qap)
  (Vd:FG K "_law_cell" qaI)
  (we:FG K "_law_box" qbD)
  (Ve:FG K "_law_take" qaJ)
  (vN:FG K "_law_names" zl)
  (Vf:FG K "_law_ties" qaK)
  (vO:FG K "_law_drawn" qas)
  (U2:FG K "_law_shuffled" jL)
  (vf:FG K "_law_partner" zA)
  (vg:FG K "_law_singles" j3)
  (UP:FG K "_law_some_pairs" jI)
  (Vg:FG K "_law_tied" qaM)
  (Vh:FG K "_law_rung" qaN)
  (U3:FG K "_law_can_pair" jN)
  (Vi:FG K "_law_fold" zB)
  (vq:FG K "_law_nested" zm)
  (U4:FG K "_law_together" jO)
  (vP:FG K "_law_right" zn)
  (wj:FG K "law" qcF)
  (wO:FM K f "__init__" "Web.__init__" zR)
  (vv:FM K f "places" "Web.places" za)
  (Vj:FM K f "ties" "Web.ties" zU)
  (UU:FM K f "has_place" "Web.has_place" jz)
  (vh:FM K f "has_tie" "Web.has_tie" jS)
  (UV:FM K f "number_of" "Web.number_of" jA)
  (vw:FM K f "beside" "Web.beside" zb)
  (UJ:FM K f "bits_beside" "Web.bits_beside" jl)
  (Vk:FM K f "tied" "Web.tied" zS)
  (U5:FM K f "names_in" "Web.names_in" jr)
  (UW:FM K d "__init__" "Forest.__init__" jV)
  (Vl:FM K d "row" "Forest.row" zd)
  (U6:FM K d "reached" "Forest.reached" jf)
  (vx:FMC K d "folds" "Forest.folds" qQ cB)
  (vQ:FM K d "grow" "Forest.grow" jU)
  (vy:FM K d "reach" "Forest.reach" jH)
  (UA:FM K d "look_around" "Forest.look_around" q8)
  (Uu:FM K d "bring_together" "Forest.bring_together" qG)
  (Up:FM K d "bases_down_from" "Forest.bases_down_from" qN)
  (UB:FM K d "reach_round" "Forest.reach_round" q0)
  (vR:FM K d "fold" "Forest.fold" jB)
  (w1:W.plainGet K f Str.empty=true)
  (w2:W.hasDictIn K f=true)
  (w3:W.plainOver K f=true)
  (w4:W.findIn K (.ref f) "__setattr__"=some (some (.builtin "object.__setattr__")))
  (w5:W.makesIn K f=true)
  (w6:W.keepIn K (.ref f)=true)
  (w7:W.findIn K (.ref f) "numbers"=some none)
  (w8:W.findIn K (.ref f) "order"=some none)
  (w9:W.findIn K (.ref f) "near"=some none)
  (E:W.plainGet K d Str.empty=true)
  (F:W.hasDictIn K d=true)
  (H:W.plainOver K d=true)
  (I:W.findIn K (.ref d) "__setattr__"=some (some (.builtin "object.__setattr__")))
  (J:W.makesIn K d=true)
  (L:W.keepIn K (.ref d)=true)
  (aa:W.findIn K (.ref d) "board"=some none)
  (ac:W.findIn K (.ref d) "partners"=some none)
  (ad:W.findIn K (.ref d) "rows"=some none)
  (ae:W.findIn K (.ref d) "parents"=some none)
  (af:W.findIn K (.ref d) "bases"=some none)
  (ag:W.findIn K (.ref d) "rings"=some none)
  (ah:W.findIn K (.ref d) "waiting"=some none)
  (ai:W.findIn K (.ref d) "longer"=some none)
  (P:W.nsIn K mainGlobals "zip"=some none)
  (O:W.nsIn K mainGlobals "sorted"=some none)
  (A:qfC K cB tb=true)
  (y:W.nsIn K mainGlobals "__builtins__"=some (some (.ref bm)))
  (x:bmB K bm tb=true)
  (z0:W.nsIn K mainGlobals "len"=some none)
  (z1:W.nsIn K mainGlobals "int"=some none)
  (z2:W.nsIn K mainGlobals "enumerate"=some none)
  (z3:W.nsIn K mainGlobals "all"=some none)
  (z4:W.nsIn K mainGlobals "max"=some none)
  (z5:W.nsIn K mainGlobals "min"=some none)
  (z6:W.nsIn K mainGlobals "isinstance"=some none)
  (z7:W.nsIn K mainGlobals "bool"=some none)
  (z8:W.nsIn K mainGlobals "str"=some none)
  (z9:W.nsIn K mainGlobals "range"=some none)
  (M:W.nsIn K mainGlobals "list"=some none)
  (N:W.nsIn K mainGlobals "tuple"=some none)
  (u0:W.nsIn K mainGlobals "LONGEST_NAME"=some (some (.int 6 p)))
  (u1:W.nsIn K mainGlobals "MOST_PLACES"=some (some (.int 14 q)))
  (u2:W.nsIn K mainGlobals "MOST_TIES"=some (some (.int 30 r))) :
  ∃ fd:FuncData,(∀(s:Shared) (v:Value),BindsTo s fd ⟨[v],[]⟩ [("_law_script",v)])/\∀ c:Heap,K.In c->c.Ns mainGlobals mg->FnOk l.prog w K mg c CX0 15 fa fd ["_law_script"] (spLawT K tb):=by
 obtain⟨_,_,vi,Vw⟩:=ve;obtain⟨_,_,UX,Vx⟩:=UT;obtain⟨_,_,U7,Vy⟩:=U0;obtain⟨_,_,Vm,Vz⟩:=Vb;obtain⟨_,_,Uv,VA⟩:=Ut;obtain⟨_,_,UK,VB⟩:=UH;obtain⟨_,_,vz,VC⟩:=vn;obtain⟨_,_,Vn,VD⟩:=Vc;obtain⟨_,_,vA,VE⟩:=vo;obtain⟨_,_,UL,VF⟩:=UI;obtain⟨_,_,vS,VG⟩:=vK;obtain⟨_,_,vT,VH⟩:=vL;obtain⟨_,_,vD,VI⟩:=vp;obtain⟨_,_,UC,VJ⟩:=Uz;obtain⟨_,_,U8,VL⟩:=U1;obtain⟨_,_,vV,VM⟩:=vM;obtain⟨_,_,Vo,VN⟩:=Vd;obtain⟨_,_,wf,VO⟩:=we;obtain⟨_,_,Vp,VP⟩:=Ve;obtain⟨_,_,vW,VQ⟩:=vN;obtain⟨_,_,Vq,VR⟩:=Vf;obtain⟨_,_,vX,VS⟩:=vO;obtain⟨_,_,U9,VT⟩:=U2;obtain⟨_,_,vk,VU⟩:=vf;obtain⟨_,_,vm,VV⟩:=vg;obtain⟨_,_,UQ,VW⟩:=UP;obtain⟨_,_,Vr,VX⟩:=Vg;obtain⟨_,_,Vs,VY⟩:=Vh;obtain⟨_,_,o,n⟩:=U3;obtain⟨_,_,Vt,VZ⟩:=Vi;obtain⟨_,_,vE,V0⟩:=vq;obtain⟨_,_,va,V1⟩:=U4;obtain⟨_,_,vY,V2⟩:=vP;obtain⟨_,_,wm,V3⟩:=wj;obtain⟨_,_,wP,wQ,wg⟩:=wO;obtain⟨_,_,wq,ww,V4⟩:=vv;obtain⟨_,_,wy,wz,V5⟩:=Vj;obtain⟨_,_,wA,wB,V6⟩:=UU;obtain⟨_,_,wC,wD,V7⟩:=vh;obtain⟨_,_,wE,wF,V8⟩:=UV;obtain⟨_,_,wG,wH,V9⟩:=vw;obtain⟨_,_,wI,wJ,wa⟩:=UJ;obtain⟨_,_,wK,wL,wc⟩:=Vk;obtain⟨_,_,wM,wN,wd⟩:=U5;obtain⟨_,_,UY,UZ,Us⟩:=UW;obtain⟨_,_,Vu,Vv,vb⟩:=Vl;obtain⟨_,_,vc,vd,Uy⟩:=U6;obtain⟨_,_,vF,vG,R,C⟩:=vx;obtain⟨_,_,vZ,v8,U⟩:=vQ;obtain⟨_,_,vH,vJ,S⟩:=vy;obtain⟨_,_,UD,UE,Um⟩:=UA;obtain⟨_,_,Uw,Ux,Ul⟩:=Uu;obtain⟨_,_,Uq,Ur,Z⟩:=Up;obtain⟨_,_,UF,UG,Uo⟩:=UB;obtain⟨_,_,v9,Va,Y⟩:=vR;have e:=B.symm.trans (kZ X G wm);cases e;have j:Cls K f:=⟨w1,w2,w3,w4⟩;have g:Cls K d:=⟨E,F,H,I⟩
 have D:∀ a∈fAtt,NoAttr K d a:=fun a u=>by
  unfold fAtt at u;simp only[yB,yW,YU] at u;rcases u with rfl | rfl | rfl | rfl | rfl | rfl | rfl | rfl<;>assumption
 have T:Txt K mg (fun i=>d) f:=⟨YT X G z0,
  YT X G z1,
  YT X G z2,
  YT X G z3,
  YT X G z4,
  YT X G z5,
  YT X G z6,
  YT X G z7,
  YT X G z8,
  YT X G z9,
  YT X G M,
  YT X G N,
  ⟨p,kZ X G u0⟩,
  ⟨q,kZ X G u1⟩,
  ⟨r,kZ X G u2⟩,
  j,
  w7,
  w8,
  w9,
  kZ X G Cw_,
  kZ X G Cf_,
  g,
  D,
  YT X G P,
  YT X G O⟩
 obtain⟨oc,od,kV,t,pm,an,cd,ct,sl,rfl,lk,hc⟩:=V3.ex;show⟨W.fnOf "law" "law" (qab qcF) (zf qcF) (qg qcF) .none kV t pm an cd ct,fun s v=>.of_eq rfl,fun c kb nb=>?_⟩;have b:=@fg_mk l.prog w K mg c h;have m:=@fm_mk l.prog w K mg c;have fw:=@fw_mk l.prog w K mg c h;have d_name:=b X G vS VG (ok_name VG T);have d_place:=b X G vD VI (ok_place VI d_name);have d_two:=b X G UC VJ (ok_two VJ T d_place);have d_bit:=b X G vT VH (ok_bit VH);have d_nums:=b X G U8 VL (ok_nums VL T d_name);have d_near:=b X G vV VM (ok_near VM T d_two d_bit);have q_web:MakeOk l.prog w K mg c CX0 5 f "Web" ["self","names","ties"] (spWeb f):=fw X G Cw_ w5 w6 wP wQ wg (ok_web wg T d_nums d_near);have m_has:=m j wA wB V6 (ok_has V6 T d_place);have m_num:=m j wE wF V8 (ok_num V8 T m_has);have m_bb:=m j wI wJ wa (ok_bb wa T m_num);have m_nin:=m j wM wN wd (ok_nin wd T d_bit);have m_bs:=m j wG wH V9 (ok_bs V9 T m_bb m_nin);have m_tied:=m j wK wL wc (ok_tied wc T m_bb m_num d_bit);have m_pls:=m j wq ww V4 (ok_pls V4 T);have m_ts:=m j wy wz V5 (ok_ts V5 T m_bs);have m_ht:=m j wC wD V7 (ok_ht V7 T d_two m_tied);have d_ap:=b X G vi Vw (ok_ap Vw T m_ht);have d_pn:=b X G UX Vx (ok_pn Vx T d_ap);have d_tp:=b X G U7 Vy (ok_tp Vy T d_pn m_ts);have d_ul:=b X G Uv VA (ok_ul VA T m_has);have d_gt:=b X G UK VB (ok_gt VB T m_ht);have d_ir:=b X G Vm Vz (ok_ir Vz T d_pn d_ul d_gt);have d_ct:=b X G vz VC (ok_ct VC T d_pn d_ir);have d_tu:=b X G Vn VD (ok_tu VD T d_pn m_ts d_ct);have p_re:=m g vH vJ S (ok_re S T);have p_bd:=m g Uq Ur Z (ok_bd Z T);have p_rr:=m g UF UG Uo (ok_rr Uo T p_re);have p_fd:=m g v9 Va Y (ok_fdF Y T m_pls);have p_bt:=m g Uw Ux Ul (ok_bt Ul T p_bd p_rr p_fd);have p_la:=m g UD UE Um (ok_la Um T m_bs p_bt p_re);have p_gw:=m g vZ v8 U (ok_gw U T m_pls p_re p_la);have p_mk:MakeOk l.prog w K mg c CX0 10 d "Forest" ["self","web","pairs"] (spFi (fun i=>d) f):=fw X G Cf_ J L UY UZ Us (ok_fi Us T d_pn p_gw);have p_row:=m g Vu Vv vb (ok_fr vb T);have p_rch:=m g vc vd Uy (ok_fd2 Uy T m_pls);have d_gf:=b X G UL VF (ok_gf VF T d_tp p_mk p_row d_tu);have d_gr:=b X G vA VE (ok_gr VE T d_gf);have d_ce:=b X G Vo VN (ok_cell VN T);have d_bx:=b X G wf VO (ok_box VO);have d_tk:=b X G Vp VP (ok_take VP);have d_nm:=b X G vW VQ (ok_names VQ T d_tk);have d_ti:=b X G Vq VR (ok_ties VR T d_tk);have d_sh:=b X G U9 VT (ok_shuf VT T d_tk);have d_pa:=b X G vk VU (ok_pa VU T);have d_sg:=b X G vm VV (ok_sg VV T d_pa);have d_td:=b X G Vr VX (ok_td VX T);have d_so:=b X G UQ VW (ok_so VW T d_tk d_sh d_sg);have p_fol:=m g vF vG R (ok_fol R T C (chd_of kb A) (bm_of kb (kZ X G y) x) m_num);have d_ru:=b X G Vs VY (ok_ru VY T d_tk d_td);have d_no:DefOk l.prog w K mg c CX0 2 "_law_can_pair" ["_law_left","_law_ties_here"] (fun _ _ _ _=>False):=b X G o n (fn_false);have d_c0:=b X G o n (qcC n T 0 (by decide) _ (fun h=>absurd h (by decide)) d_td d_no);have d_c1:=b X G o n (qcC n T 1 (by decide) _ (fun _=>rfl) d_td d_c0);have d_c2:=b X G o n (qcC n T 2 (by decide) _ (fun _=>rfl) d_td d_c1);have d_c3:=b X G o n (qcC n T 3 (by decide) _ (fun _=>rfl) d_td d_c2);have d_c4:=b X G o n (qcC n T 4 (by decide) _ (fun _=>rfl) d_td d_c3);have d_c5:=b X G o n (qcC n T 5 (by decide) _ (fun _=>rfl) d_td d_c4);have d_c6:=b X G o n (qcC n T 6 (by decide) _ (fun _=>rfl) d_td d_c5);have d_fl:=b X G Vt VZ (ok_fdL VZ T d_pa d_c6);have d_rt:=b X G vY V2 (ok_rtF V2 T p_fol p_row p_rch d_fl (b X G vE V0 (ok_nst V0 T)) (b X G va V1 (ok_tog V1 T)));show ok_law33 V3 T d_ce d_bx d_tk (b X G vX VS (ok_drawn VS d_tk d_nm d_ti)) d_ru d_sh q_web p_mk d_so d_rt d_gr
theorem walk{l:PySem.W.OpenLaw}{q:Program}{loose:LS}{XP:(Str->Option Value)->Heap->Prop}{YP:World->Heap->Prop}{d:DefRec}{K:Params->yg}(o:l.most=some 63)(e:d.params.defaults=[])
  (m:∀(w:World) (h:Heap),YP w h->(K w.params).In h/\h.TableAt 230 228 #[]) (g:∀ w:World,(K w.params).lookup 228=none)
  (F:∀(w:World) (mg:Str->Option Value) (i:Addr) (h:Heap),(K w.params).In h->h.Ns mainGlobals mg->mg d.name=some (.ref i) ->
   ∃ fd:FuncData,(∀(s:Shared) (u:Value),BindsTo s fd ⟨[u],[]⟩ [("_law_script",u)])/\∀ b:Heap,(K w.params).In b->b.Ns mainGlobals mg->FnOk l.prog w (K w.params) mg b CX0 15 i fd ["_law_script"] (spLawT (K w.params) 228)) :
  PySem.W.WalkO q loose XP YP l.row.toRowW d [] (fun f vs=>PySem.call f vs):=
 L2.walk_ofT (c:=230) (p:=228) (ps:=#[]) (n:=63) (k:=15) (x:="_law_script") (CX:=fun _=>CX0) (sp:=fun w=>spLawT (K w.params) 228) o (by decide) e ⟨rfl,by decide,by decide,rfl⟩ m g F (fun _ _ a ns hl r j=>⟨a,ns,rfl,j,hl,⟨#[],r,trivial,.inl rfl⟩,fun _=>rfl⟩) fun _ _ _ _ _ z=>z
end K33
set_option maxRecDepth 100000 in
set_option maxHeartbeats 0 in
theorem PySem.Challenge.cw_onceroad_k33_folds_holds : PySem.Challenge.rw_onceroad_k33_folds.Holds := by
  w_on; o_law
  show PySem.W.holds_open (q := K33.Q) (loose := []) (Xt := K33.Xt) (XP := PySem.W.XL K33.Q []) (Yf := PySem.W.Hook.obs K33.Hk) (Ya := PySem.W.Hook.val K33.Hk) (YP := PySem.W.Hook.says (L2.hookT K33.Kf K33.ks K33.ks_eq 228 (PySem.W.tabObj #[]))) (N := K33.NN) K33.hl (PySem.W.Hook.of K33.Hk) (PySem.W.Hook.keeps K33.Hk) (fun s e => PySem.W.xl_of s (Bool.and_eq_true_iff.mp e).1) PySem.W.XL.keeps (by rfl) (by rfl) (by rfl) (fun s e => PySem.W.recFacts_of (Bool.and_eq_true_iff.mp e).2) (by rfl) (by first | assumption | room) (by room) ⟨rfl, rfl, rfl, rfl, rfl, by room⟩ ?hw ?hc
  (case hw => w_witness2)
  k_fill
  show K33.walk (l := PySem.Challenge.rw_onceroad_k33_folds) rfl rfl (fun w h Y => ⟨PySem.W.kIn_of Y.1, (L2.chd_of (K := K33.Kf w.params) (PySem.W.kIn_of Y.1) (by kernel_rfl)).tab Y.2⟩) (fun w => by kernel_rfl) ?F
  case F =>
    intro w mg fa h KX G hmg
    refine' K33.all_mk KX G hmg ?_ ?_ ?_ ?_ ?_ ?_ ?_ ?_ ?_ ?_ ?_ ?_ ?_ ?_ ?_ ?_ ?_ ?_ ?_ ?_ ?_ ?_ ?_ ?_ ?_ ?_ ?_ ?_ ?_ ?_ ?_ ?_ ?_ ?_ ?_ ?_ ?_ ?_ ?_ ?_ ?_ ?_ ?_ ?_ ?_ ?_ ?_ ?_ ?_ ?_ ?_ ?_ ?_ ?_ ?_ ?_ ?_ ?_ ?_ ?_ ?_ ?_ ?_ ?_ ?_ ?_ ?_ ?_ ?_ ?_ ?_ ?_ ?_ ?_ ?_ ?_ ?_ ?_ ?_ ?_ ?_ ?_ ?_ ?_ ?_ ?_ ?_ ?_ ?_ ?_ ?_ ?_ ?_ ?_ ?_ ?_ ?_ ?_ ?_ ?_
    any_goals first | k_is | decide
    any_goals first | k_is | decide | show⟨_, _, by k_is, L2.fun_mk (by k_is) (by k_is) (by k_is), rfl⟩ | show⟨_, _, by k_is, by k_is, L2.fun_mk (by k_is) (by k_is) (by k_is), rfl⟩ | show⟨_, _, by k_is, L2.fun_mk (by k_is) (by k_is) (by k_is)⟩ | show⟨_, _, by k_is, by k_is, L2.fun_mk (by k_is) (by k_is) (by k_is)⟩ | show⟨_, _, _, _, _, _, _, _, _, _, _, _, _, _, _, by k_is⟩ | show⟨by k_is, by k_is, by k_is, by k_is, by k_is, by k_is, by k_is, by k_is⟩ | kernel_rfl | fail
