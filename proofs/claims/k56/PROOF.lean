import PyProof.Rows.All
import Wide.All
import OpenK.AllK
import Wide.FinOn
import PyProof.EqAt
import PyProof.EqKinds
import PyProof.TupleCall
import Lean
import PySem.Challenge.RW_onceroad_k56_starts_chosen
set_option Elab.async false
set_option linter.all false
set_option maxRecDepth 100000
local macro_rules | `(tactic| show $e)=>`(tactic| refine $e)
abbrev LX:=List Int
abbrev LQ:=List PySem.Addr
abbrev LN:=List Nat
abbrev LS:=List PySem.Str
abbrev LP:=List (PySem.Str×PySem.Str)
local macro_rules | `(tactic| room)=>`(tactic| decide +kernel)
local macro_rules | `(tactic| lk)=>`(tactic| first | lia | omega)
theorem ya{a b:Type}{as:List a}(f:a→b):(as.map f).length=as.length:=List.length_map f
theorem yb{a:Type}{l:List a}{i:Nat}(h:i<l.length):l[i]?=some l[i]:=List.getElem?_eq_getElem h
theorem yc{b:Type}{l:List b}{i:Nat}{a:b}:l[i]?=some a↔∃h:i<l.length,l[i]=a:=List.getElem?_eq_some_iff
theorem yd{a b:Type}{f:a→b}{l:List a}{i:Nat}:(l.map f)[i]?=l[i]?.map f:=List.getElem?_map
theorem ye{b:Type}{l:List b}{i:Nat}{a:b}(h:l[i]?=some a):a∈l:=List.mem_of_getElem? h
theorem yf{b:Type}{a:b}{l:List b}(h:a∈l):∃i:Nat,l[i]?=some a:=List.getElem?_of_mem h
noncomputable abbrev yg:=PySem.W.Frag
theorem yh(n:Nat):n≤n:=Nat.le_refl n
theorem yi{a b c:Nat}(h:a≤b)(k:b≤c):a≤c:=Nat.le_trans h k
theorem yj{a b c:Nat}(h:a<b)(k:b≤c):a<c:=Nat.lt_of_lt_of_le h k
theorem yk{p:Prop}[Decidable p](h:decide p=true):p:=of_decide_eq_true h
theorem yl{p:Prop}[Decidable p](h:¬p):decide p=false:=decide_eq_false h
theorem ym{c:Type}{a b:c}(h:some a=some b):a=b:=Option.some.inj h
theorem yn{c d:Type}{f:c→d}{x:Option c}{b:d}:x.map f=some b↔∃a,x=some a∧f a=b:=Option.map_eq_some_iff
theorem yo{b:Type}{a:b}{l:List b}:(a::l).Nodup↔a∉l∧l.Nodup:=List.nodup_cons
theorem yp{a:Type}{p:a→Bool}{as:List a}{x:a}:x∈as.filter p↔x∈as∧p x=true:=List.mem_filter
theorem yq{A B:Prop}(h:B):if false=true then A else B:=h
def yr:=@PySem.wpAny_bind
def yt:=@List.length_append
def yu:=@PySem.wpAny_pure
def yv:=@PySem.Heap.get?_push_of_some
def yw:=@List.size_toArray
def yx:=@List.map_append
def yy:=@List.mem_cons_of_mem
def yz:=@List.mem_singleton
def yA:=@List.mem_cons
def yB:=@List.mem_append
def yC:=@if_neg
def yD:=@decide_eq_true
def yE:=@List.mem_cons_self
def yF:=@Nat.ne_of_lt
def yG:=@if_pos
def yH:=@List.length_cons
def yI:=@List.getElem?_append_right
def yJ:=@PySem.Heap.lt_size
def yK:=@Or.inl
def yL:=@PySem.F.plainAttrs_list
def yM:=@List.mem_append_left
def yN:=@List.mem_map
def yO:=@decide_eq_true_iff
def yP:=@List.mem_append_right
def yQ:=@List.take_length
def yR:=@List.take_add_one
def yS:=@PySem.Heap.get?_push_size
def yT:=@List.length_take
def yU:=@List.filter_cons
def yV:=@Nat.le_of_lt
def yW:=@List.length_filter_le
def yX:=@List.idxOf_lt_length_of_mem
def yY:=@Bool.and_eq_true
def yZ:=@PySem.PassesOwn.never
def y0:=@List.getElem?_append_left
def Yb:=@List.append_nil
def Yc:=@List.nodup_append
def Yd:=@PySem.F.slot_list_append
def Ye:=@PySem.F.type_list_append
def Yg:=@Classical.byContradiction
def Yh:=@List.filter_append
def Yi:=@List.append_assoc
def Yj:=@List.not_mem_nil
def Yk:=@PySem.wpAny_holding
def Yl:=@List.pairwise_iff_getElem
def Ym:=@PyProof.Rows.boot_isinstance
def Yn:=@Ne.symm
def Yo:=@List.getElem_idxOf
def Yp:=@List.getD_eq_getElem?_getD
def Yq:=@Nat.ne_of_gt
def Yr:=@Bool.false_ne_true
def Ys:=@List.append_of_mem
def Yt:=@List.length_reverse
def Yu:=@beq_iff_eq
def Yv:=@Nat.lt_irrefl
def Yw:=@Int.toNat_natCast
def Yx:=@Bool.false_eq_true
def Yy:=@PySem.sizeLine_eq
def Yz:=@PySem.F.slot_list_index
def YA:=@Bool.eq_iff_iff
def YB:=@decide_eq_decide
def YC:=@PySem.boot_len
def YD:=@Nat.lt_of_le_of_lt
def YE:=@PyProof.Rows.slot_tuple_getitem
def YF:=@List.filter_nil
def YG:=@List.all_eq_true
def YH:=@List.any_eq_true
def YI:=@PySem.F.type_list_index
def YJ:=@List.map_cons
def YK:=@PySem.W.mg_none_of
def YL:=@PyProof.Rows.callWith_type1
def YM:=@PySem.Heap.get?_push_ne
def YN:=@List.getElem_mem
def YO:=@beq_eq_false_iff_ne
def YQ:=@Nat.zero_le
def YR:=@PySem.wpAny_newObj_type
def YS:=@List.length_replicate
def YT:=@List.mem_range
def YU:=@PySem.F.slot_NoneType_eq
def YV:=@List.length_nil
def YW:=@PySem.wpAny_mono
def YX:=@Int.eq_ofNat_of_zero_le
def YY:=@List.mem_flatMap
def YZ:=@True.intro
def Y0:=@PySem.Heap.size_push
def Y1:=@Nat.lt_succ_of_lt
def Y2:=@List.pairwise_map
def Y3:=@List.filter_congr
def Y4:=@PySem.wpAny_of_eq
def Y5:=@PySem.Heap.get?_update_self
def Y6:=@or_false
def Y7:=@List.lookup_cons
def Y8:=@beq_self_eq_true
def Y9:=@Option.isSome_iff_exists
def xi:=@List.length_erase_of_mem
def xj:=@List.Pairwise.imp_of_mem
def xk:=@Sum.inr.inj
def xl:=@PySem.W.looks_findIn
def xm:=@PySem.wpAny_field
def xn:=@List.getLast?_concat
def xo:=@PySem.wpAny_truthy_bool
def xp:=@List.flatten_cons
def xq:=@decide_eq_false_iff_not
def xr:=@List.dropLast_concat_getLast
def xt:=@List.replicate_succ
def xu:=@PySem.Heap.SameBut.update
def xv:=@List.length_pos_of_mem
def xw:=@List.cons.inj
def xx:=@PySem.wpAny_call_entry
def xz:=@PyProof.Rows.boot_list
def xA:=@if_false
def xB:=@List.lookup_append
def xC:=@Int.emod_lt_of_pos
def xD:=@PySem.wpAny_passesOwn
def xE:=@List.find?_cons
def xF:=@Int.emod_nonneg
def xG:=@List.getElem?_set_ne
def xH:=@Nat.le_succ
def xI:=@Prod.ext
def xJ:=@Bool.not_eq_true'
def xK:=@Nat.zero_add
def xL:=@Array.length_toList
def xM:=@PySem.mem_of_lookup
def xN:=@PySem.W.looks_mroIn
def xO:=@PySem.Heap.get?_update_ne
def xP:=@List.flatMap_append
def xQ:=@PySem.W.any_some
def xR:=@Nat.lt_succ_self
def xS:=@PySem.wpAny_callSpecial?_slot
def xT:=@PySem.wpAny_getItem_str_slice
def xU:=@Nat.le_add_right
def xV:=@PySem.Heap.size_update
def xW:=@List.length_tail
def xX:=@PySem.tupleKind_room_in1
def xY:=@Array.getElem?_eq_none
def xZ:=@List.getElem?_tail
def x0:=@Int.zero_add
def Xa:=@List.any_cons
def Xb:=@List.mem_iff_getElem?
def Xc:=@List.getElem?_reverse
def Xd:=@Option.isSome_map
def Xe:=@PySem.codeAny_call_builtin
def Xf:=@PyProof.Rows.boot_tuple
def Xg:=@List.mem_reverse
def Xh:=@Array.getElem?_eq_getElem
def Xi:=@Option.isSome_iff_ne_none
def Xj:=@PySem.F.plain_extend_loop
def Xk:=@List.getElem_of_mem
def Xl:=@List.filter_sublist
def Xm:=@PyProof.Rows.listUpdate_at
def Xn:=@Prod.mk.injEq
def Xo:=@Nat.le_antisymm
def Xp:=@PySem.wpAny_Call_Name_kw
def Xq:=@Option.isSome_some
def Xr:=@Or.inr
def Xs:=@List.getElem?_replicate
def Xu:=@List.take_sublist
def Xv:=@if_true
def Xw:=@PySem.Calls.callWith_builtin
def Xx:=@PySem.wpAny_pyIter_list
def Xy:=@List.take_of_length_le
def Xz:=@PySem.wpAny_nextOf_list_item
def XA:=@bne_self_eq_false
def XB:=@List.length_range
def XC:=@Nat.sub_self
def XD:=@Array.getElem?_toList
def XE:=@PySem.F.slot_dict_get
def XF:=@PySem.wpAny_eqBool_int
def XG:=@PySem.call_meets
def XH:=@List.all_cons
def XI:=@PyProof.Rows.seqEpoch_at
def XJ:=@List.pairwise_append
def XM:=@List.mem_erase_of_ne
def XR:=@PySem.wpAny_execs_nil
def XS:=@List.length_set
def XT:=@PySem.SeqAt.EqAt.same
def XU:=@Option.map_some
def XV:=@PySem.post_val_or_str
def XW:=@Nat.min_eq_left
def XX:=@PySem.F.slot_zip_next
def XY:=@PySem.wpAny_updateSeq
def XZ:=@List.range_succ
def X0:=@List.all_append
def X1:=@and_congr_right
def X2:=@List.filterMap_cons
def X3:=@PySem.W.plainGet_of
def X4:=@PySem.W.looks_clsIn
def X5:=@PySem.Calls.spliced_cons
def X6:=@PySem.wpAny_call
def X7:=@PySem.W.callWith_K
def X8:=@PyProof.Rows.slicePart_none
def X9:=@PySem.Heap.IsSliceOf.new
def kc:=@PySem.wpAny_pyIter_tuple
def ke:=@Bool.not_false
def kf:=@List.pairwise_cons
def kg:=@Option.isSome_none
def kh:=@PySem.Calls.spliced_nil
def ki:=@PySem.slot_list_getitem
def kj:=@Nat.le_succ_of_le
def kn:=@PyProof.Rows.mirror_perm
def ko:=@Nat.lt_trichotomy
def kq:=@List.reverse_perm
def ku:=@decide_eq_true_eq
def kx:=@PySem.wpAny_standAt
def ky:=@PySem.evalPart_none
def kz:=@Bool.or_false
def kA:=@PySem.wpAny_attempt
def kB:=@PySem.wpAny_newList
def kC:=@List.map_tail
def kD:=@List.length_drop
def kE:=@List.cons_append
def kF:=@PySem.wpAny_askSetting
def kG:=@Nat.min_eq_right
def kH:=@PySem.wpAny_pyIter_zip
def kI:=@Nat.lt_of_not_le
def kJ:=@List.ext_getElem
def kK:=@List.cons_ne_nil
def kL:=@List.map_reverse
def kM:=@Nat.max_eq_right
def kN:=@List.mem_flatten
def kO:=@PySem.codeAny_mono
def kP:=@Nat.lt_trans
def kQ:=@List.all_map
def kR:=@PySem.Txt.slice_le
def kS:=@List.map_map
def kT:=@List.of_mem_zip
def kU:=@List.forIn_cons
def kW:=@Bool.or_eq_true
def kX:=@Bool.false_and
def kY:=@List.forIn_nil
def kZ:=@List.take_zero
def k8:=@Bool.and_true
def k9:=@decide_false
def Ka:=@Nat.sub_zero
def Kb:=@Nat.le_total
def Kc:=@List.any_map
def Kd:=@Or.symm
namespace L2
open PySem PySem.Spec PyProof.Rows
noncomputable def jc(s:Stmt)(j:Nat):Stmt:=match s with
 | .ClassDef _ _ _ body _ _ _ _ _ _ _=>body.getD j (.Pass ⟨0,0,0,0⟩)
 | _=>.Pass ⟨0,0,0,0⟩
noncomputable def qaF(s:Stmt):Arguments:=match s with
 | .FunctionDef _ a _ _ _ _ _ _ _ _=>a
 | _=>{ posonlyargs:=[],args:=[],vararg:=none,kwonlyargs:=[],kw_defaults:=[],kwarg:=none,defaults:=[] }
noncomputable def qab(s:Stmt):List Stmt:=match s with
 | .FunctionDef _ _ b _ _ _ _ _ _ _=>b
 | _=>[]
noncomputable def qh(s:Stmt):Scope:=match s with
 | .FunctionDef _ _ _ _ _ _ sc _ _ _=>sc
 | _=>{ kind:=.function,names:=[],isGenerator:=false,isCoroutine:=false }
end L2
namespace K56
open PySem L2 PyProof.Rows
noncomputable def top(i:Nat):Stmt:=PySem.Challenge.pw_onceroad_k56_starts_chosen.main.body.getD i (.Pass ⟨0,0,0,0⟩)
noncomputable abbrev qaf:Stmt:=top 39
noncomputable abbrev qaT:Stmt:=top 49
noncomputable abbrev qan:Stmt:=top 50
noncomputable abbrev jC:Stmt:=top 51
noncomputable abbrev zw:Stmt:=top 52
noncomputable abbrev qao:Stmt:=jc (top 48) 0
noncomputable abbrev qaU:Stmt:=top 53
noncomputable abbrev zx:Stmt:=jc (top 48) 1
noncomputable abbrev jL:Stmt:=jc (top 48) 4
noncomputable abbrev jM:Stmt:=jc (top 48) 6
noncomputable abbrev zy:Stmt:=jc (top 48) 7
noncomputable abbrev js:Stmt:=jc (top 48) 8
noncomputable abbrev qap:Stmt:=jc (top 48) 9
noncomputable abbrev jz:Stmt:=jc (top 48) 12
noncomputable abbrev qar:Stmt:=jc (top 48) 2
noncomputable abbrev zR:Stmt:=top 12
noncomputable abbrev ze:Stmt:=jc (top 48) 5
noncomputable abbrev zf:Stmt:=top 13
noncomputable abbrev jY:Stmt:=jc (top 16) 6
noncomputable abbrev qT:Stmt:=jc (top 16) 9
noncomputable abbrev jd:Stmt:=jc (top 16) 10
noncomputable abbrev jN:Stmt:=jc (top 16) 11
noncomputable abbrev qM:Stmt:=jc (top 16) 8
noncomputable abbrev je:Stmt:=jc (top 16) 7
noncomputable abbrev zg:Stmt:=jc (top 16) 5
noncomputable abbrev zh:Stmt:=jc (top 16) 0
noncomputable abbrev zA:Stmt:=jc (top 16) 1
noncomputable abbrev jm:Stmt:=jc (top 16) 2
noncomputable abbrev j5:Stmt:=top 14
noncomputable abbrev jj:Stmt:=top 19
noncomputable abbrev qbh:Stmt:=top 18
noncomputable abbrev qV:Stmt:=top 20
noncomputable abbrev qas:Stmt:=top 21
noncomputable abbrev qaW:Stmt:=top 22
noncomputable abbrev jO:Stmt:=top 26
noncomputable abbrev qat:Stmt:=top 24
noncomputable abbrev qau:Stmt:=top 25
noncomputable abbrev qbj:Stmt:=top 55
noncomputable abbrev qaY:Stmt:=top 56
noncomputable abbrev qbk:Stmt:=top 57
noncomputable abbrev zF:Stmt:=top 58
noncomputable abbrev zG:Stmt:=top 59
noncomputable abbrev qaZ:Stmt:=top 60
noncomputable abbrev qb4:Stmt:=top 61
noncomputable abbrev jt:Stmt:=jc (top 48) 13
noncomputable abbrev qb8:Stmt:=top 28
noncomputable abbrev zI:Stmt:=top 29
noncomputable abbrev qb9:Stmt:=top 30
noncomputable abbrev qdK:Stmt:=top 31
noncomputable abbrev jP:Stmt:=top 32
noncomputable abbrev zi:Stmt:=top 33
noncomputable abbrev zj:Stmt:=top 34
noncomputable abbrev qax:Stmt:=top 37
noncomputable abbrev zU:Stmt:=top 38
noncomputable abbrev zk:Stmt:=top 41
noncomputable abbrev qa0:Stmt:=top 42
noncomputable abbrev zl:Stmt:=top 43
noncomputable abbrev zV:Stmt:=top 44
noncomputable abbrev qbl:Stmt:=top 62
noncomputable abbrev qaJ:Stmt:=top 63
noncomputable abbrev jG:Stmt:=top 64
noncomputable abbrev qay:Stmt:=top 65
noncomputable abbrev jX:Stmt:=top 66
noncomputable abbrev qcK:Stmt:=top 67
end K56
namespace Hd
open PySem PySem.W PySem.Calls PyProof.Rows
variable{p:Program}{α:Type}
noncomputable def qfG(c:String->Option Builtin)(p:Program)(w:World)(a:Nat)(b:Option Value):Nat->SharedT->Thread->Option SharedT
 | 0,_,_=>none
 | n+1,s,t=>match through t with
  | true=>some s
  | false=>match stepOk a b t with
   | false=>none
   | true=>match stepT (denote c) p w s t with
    | some (s',t')=>qfG c p w a b n s' t'
    | none=>none
theorem qfl{e:String->Option Builtin}{w:World}{a:Nat}{b:Option Value}:∀{n:Nat} {s d:SharedT} {t:Thread},qfG e p w a b n s t=some d->topRun e p w a b n s.abs t=some d.abs
 | 0,_,_,_,h=>by cases h
 | n+1,s,d,t,h=>by
  unfold qfG at h;unfold topRun
  cases f:through t with
  | true=>rw[f] at h;cases h;rfl
  | false =>
   rw[f] at h
   cases g:stepOk a b t with
   | false=>rw[g] at h;cases h
   | true =>
    rw[g] at h
    cases c:stepT (denote e) p w s t with
    | none=>rw[c] at h;cases h
    | some r=>obtain⟨i,j⟩:=r;rw[c] at h;rw[stepT_spec c];show qfl h
noncomputable def qdd:List Obj->Nat->BT->BT
 | [],_,t=>t
 | o::r,n,t=>qdd r (n+1) (t.ins n o)
noncomputable def qeP(P:Params)(a:OsState):SharedT:=⟨qdd (boot_heap P).objs.toList 0 .nil,(boot_heap P).objs.size,(boot_heap P).life,Array.mk [],boot_drawn,boot_toks,a⟩
theorem boot_abs(P:Params):absHeap (qdd (boot_heap P).objs.toList 0 .nil) (boot_heap P).objs.size (boot_heap P).life=boot_heap P:=by kernel_rfl
noncomputable def qeY(p q:Program)(Xt:Shared->Bool){α:Type}(Yf:Shared->α)(N:Nat)(w:World)(a:OsState):=match (boot_heap w.params).isNs mainGlobals&&(Array.mk []:Array GenState).size==0 with
 | true=>(qfG treeTable p w (boot_heap w.params).objs.size ((boot_heap w.params).nsMap mainGlobals "__annotations__") N (qeP w.params a) (topStub p)).bind fun s=>match staticsOk (importedModules p.main.body) (boot_heap w.params) s.abs.heap&&namesBound p s.abs.heap&&gensDone s.abs&&laidKept (boot_heap w.params) s.abs.heap with
   | true=>some (openSeen q [] (importedModules p.main.body) Xt true s.abs,Yf s.abs)
   | false=>none
 | false=>none
noncomputable def lookS(p:Program)(N:Nat)(w:World)(a:OsState):Option Shared:=match (boot_heap w.params).isNs mainGlobals&&(Array.mk []:Array GenState).size==0 with
 | true=>(qfG treeTable p w (boot_heap w.params).objs.size ((boot_heap w.params).nsMap mainGlobals "__annotations__") N (qeP w.params a) (topStub p)).bind fun s=>match staticsOk (importedModules p.main.body) (boot_heap w.params) s.abs.heap&&namesBound p s.abs.heap&&gensDone s.abs&&laidKept (boot_heap w.params) s.abs.heap with
   | true=>some s.abs
   | false=>none
 | false=>none
theorem lookT_map(p q:Program)(Xt:Shared->Bool)(Yf:Shared->α)(N:Nat)(w:World)(a:OsState):qeY p q Xt Yf N w a=(lookS p N w a).map fun s=>(openSeen q [] (importedModules p.main.body) Xt true s,Yf s):=by
 unfold qeY lookS
 cases (boot_heap w.params).isNs mainGlobals&&(Array.mk []:Array GenState).size==0 with
 | false=>rfl
 | true =>
  dsimp only
  cases qfG treeTable p w (boot_heap w.params).objs.size ((boot_heap w.params).nsMap mainGlobals "__annotations__") N (qeP w.params a) (topStub p) with
  | none=>rfl
  | some s =>
   show(match _ with | true=>_ | false=>_)=Option.map _ (match _ with | true=>_ | false=>_);cases staticsOk (importedModules p.main.body) (boot_heap w.params) s.abs.heap&&namesBound p s.abs.heap&&gensDone s.abs&&laidKept (boot_heap w.params) s.abs.heap<;>rfl
theorem packs{b A B C D E Y:Type}{o:Option b}{f:b->A×B×C×D×E}{g:b->Y}{x:A×B×C×D×E}{y:Y}(h1:o.map (fun s=>((f s).1,(f s).2.1,(f s).2.2.1,(f s).2.2.2.1))=some (x.1,x.2.1,x.2.2.1,x.2.2.2.1))(h:o.map (fun s=>(f s).2.2.2.2)=some x.2.2.2.2)(c:o.map g=some y):o.map (fun s=>(f s,g s))=some (x,y):=by
 cases o with
 | none=>cases c
 | some s =>
  have a:=ym h1;have d:=ym h;have e:=ym c;have i:=congrArg Prod.fst a;have j:=congrArg (fun z=>z.2.1) a;have l:=congrArg (fun z=>z.2.2.1) a;have m:=congrArg (fun z=>z.2.2.2) a;show congrArg some (xI (xI i (xI j (xI l (xI m d)))) e)
theorem left_of{q:Program}{Xt:Shared->Bool}{Yf:Shared->α}{Ya:World->α}{N:Nat}(e:opening p=plainProg p.main.scope.names)(n:Nat.ble 600 N=true)(f:∀ s,fenceModules? p s=some s)
  (h:∀ w a,qeY p q Xt Yf N w a=some (openGood q [],Ya w)):LeftO p q [] Xt Yf Ya N:=fun w=>by
 obtain⟨⟨m,l,d,k,a⟩,i,j⟩:=yn.mp (boot_open e n f w);obtain⟨rfl,rfl,rfl,rfl⟩:m=boot_heap w.params/\l=Array.mk []/\d=boot_drawn/\k=boot_toks:=by simpa using j
 have b:=h w a;unfold qeY at b;unfold openEnds;rw[i];show(topFrom treeTable p w N _).map _=_;unfold topFrom;dsimp only;split at b
 .rename_i z
  rw[z];obtain⟨s,o,c⟩:=Option.bind_eq_some_iff.mp b;have r:=qfl o
  have g:(qeP w.params a).abs=⟨boot_heap w.params,Array.mk [],boot_drawn,boot_toks,a⟩:=by
   unfold qeP SharedT.abs;dsimp only;rw[boot_abs]
  rw[g] at r;dsimp only;rw[r];split at c
  .rename_i z2
   show((match staticsOk (importedModules p.main.body) (boot_heap w.params) s.abs.heap&&namesBound p s.abs.heap&&gensDone s.abs&&laidKept (boot_heap w.params) s.abs.heap with | true=>some s.abs | false=>none):Option Shared).map _=_;rw[z2];show c
  .cases c
 .cases b
end Hd
namespace K56
open PySem L2 PyProof.Rows PySem.W
noncomputable abbrev NN:Nat:=20000
noncomputable def Q:Program:=view PySem.Challenge.pw_onceroad_k56_starts_chosen [0,2,3,4,5,6,7,8,9,10,12,13,14,16,18,19,20,21,22,24,25,26,28,29,30,31,32,33,34,36,37,38,39,41,42,43,44,46,47,48,49,50,51,52,53,55,56,57,58,59,60,61,62,63,64,65,66,67]
noncomputable def en(P:Params)(t:Tok)(v:Value)(k:Str):DictEntry:=⟨PyData.keyHash P k,.str k t,v⟩
noncomputable def cO(t a b r:Nat)(x y z v:Value)(e u:Nat)(q n:Str):Obj:=⟨.type "code",none,.fields #[.str n t,.str q (t+1),.str "/claim/cut.py" (t+2),.int a 0,.int b 0,.int 0 0,.int 0 0,.int 3 0,.ref r,.bool true,.int 181 0,x,y,z,v,.ref e,.int u 0,.int a 0,.str "/claim/cut.py" (u+1)],#[]⟩
noncomputable def cE(t b a r:Nat)(x y z v:Value)(e u:Nat)(n:Str):Obj:=cO t b a r x y z v e u n n
noncomputable def fO(k c:Nat)(s:Stmt)(m q n:Str):Obj:=⟨.type "function",none,.func (fnOf n q (qaF s) (qab s) (qh s) .none .none .none (.str m k) none (.ref c) .none),#[]⟩
noncomputable def fE(k c:Nat)(s:Stmt)(m n:Str):Obj:=fO k c s m n n
noncomputable def Kf(P:Params):Frag:=
 (nat_lit 2,(⟨.none,none,.dict #[] 0,#[]⟩:Obj)) ::
 (nat_lit 3,(⟨(.type "dict"),none,.dict #[en P 165 (.str "law_onceroad_k56_starts_chosen" 978) "__name__",en P 166 .none "__doc__",en P 167 .none "__package__",en P 168 (.builtin "__main__.__loader__#opaque") "__loader__",en P 169 .none "__spec__",en P 170 (.ref 6) "__annotations__",en P 171 (.ref 4) "__builtins__",en P 173 (.str "/claim/cut.py" 172) "__file__",en P 174 .none "__cached__",en P 193 (.ref 21) "_wall",en P 221 (.ref 38) "OnceError",en P 246 (.ref 58) "NoName",en P 271 (.ref 77) "Twice",en P 296 (.ref 96) "NoPlace",en P 321 (.ref 115) "NoTie",en P 346 (.ref 134) "TooMany",en P 371 (.ref 153) "NoPairs",en P 396 (.ref 172) "NoRow",en P 421 (.ref 191) "NoNumbers",en P 433 (.ref 200) "are_pairs",en P 443 (.ref 207) "partners_in",en P 449 (.ref 212) "told_pairs",en P 579 (.ref 300) "Forest",en P 591 (.ref 311) "is_row",en P 601 (.ref 318) "are_unlike_places",en P 607 (.ref 323) "goes_by_turns",en P 619 (.ref 330) "can_turn",en P 625 (.ref 335) "turned",en P 634 (.ref 342) "greatest",en P 641 (.ref 349) "count_of",en P 652 (.ref 356) "greatest_from",en P 664 (.ref 363) "sorts",en P 670 (.ref 368) "word_for",en P 677 (.ref 375) "loose",en P 684 (.ref 382) "held",en P 690 (.ref 387) "places_with",en P 698 (.ref 394) "leaving_out",en P 707 (.ref 401) "leaving_all",en P 711 (.int 6 710) "LONGEST_NAME",en P 718 (.ref 408) "is_whole",en P 727 (.ref 415) "is_within",en P 733 (.ref 420) "is_name",en P 744 (.ref 427) "start_paper",en P 751 (.ref 434) "is_hand",en P 758 (.ref 441) "good_starts",en P 767 (.ref 448) "chosen_by",en P 771 (.int 14 770) "MOST_PLACES",en P 773 (.int 30 772) "MOST_TIES",en P 931 (.ref 573) "Web",en P 939 (.ref 584) "has_bit",en P 947 (.ref 591) "is_place",en P 956 (.ref 598) "are_two_places",en P 965 (.ref 605) "numbers_of",en P 977 (.ref 612) "near_of",en P 987 (.ref 619) "_law_cell",en P 994 (.ref 626) "_law_begun",en P 1004 (.ref 633) "_law_take",en P 1010 (.ref 638) "_law_names",en P 1016 (.ref 643) "_law_shape",en P 1032 (.ref 650) "_law_drawn",en P 1045 (.ref 657) "_law_web",en P 1057 (.ref 664) "_law_used",en P 1063 (.ref 669) "_law_odd",en P 1069 (.ref 674) "_law_verdict",en P 1081 (.ref 681) "_law_papers",en P 1087 (.ref 686) "_law_chosen",en P 1093 (.ref 691) "law"] 67,#[]⟩:Obj)) ::
 (nat_lit 199,cE 424 50 2 194 (.ref 195) .none (.ref 196) (.ref 197) 198 431 "are_pairs") ::
 (nat_lit 200,fE 422 199 zR "onceroad.pairs" "are_pairs") ::
 (nat_lit 206,cE 434 60 2 201 (.ref 202) .none (.ref 203) (.ref 204) 205 441 "partners_in") ::
 (nat_lit 207,fE 422 206 zf "onceroad.pairs" "partners_in") ::
 (nat_lit 211,cE 444 68 2 208 (.ref 209) .none .none .none 210 447 "told_pairs") ::
 (nat_lit 212,fE 422 211 j5 "onceroad.pairs" "told_pairs") ::
 (nat_lit 225,cO 464 74 3 220 (.ref 221) .none (.ref 222) (.ref 223) 224 470 "Forest.__init__" "__init__") ::
 (nat_lit 226,fO 450 225 zh "onceroad.forests" "Forest.__init__" "__init__") ::
 (nat_lit 232,cO 473 85 1 227 (.ref 228) .none (.ref 229) (.ref 230) 231 477 "Forest.row" "row") ::
 (nat_lit 233,fO 450 232 zA "onceroad.forests" "Forest.row" "row") ::
 (nat_lit 237,cO 480 88 1 234 (.ref 235) .none .none .none 236 483 "Forest.reached" "reached") ::
 (nat_lit 238,fO 450 237 jm "onceroad.forests" "Forest.reached" "reached") ::
 (nat_lit 258,cO 501 99 1 253 (.ref 254) .none (.ref 255) (.ref 256) 257 506 "Forest.grow" "grow") ::
 (nat_lit 259,fO 450 258 zg "onceroad.forests" "Forest.grow" "grow") ::
 (nat_lit 265,cO 509 107 3 260 (.ref 261) .none (.ref 262) (.ref 263) 264 515 "Forest.reach" "reach") ::
 (nat_lit 266,fO 450 265 jY "onceroad.forests" "Forest.reach" "reach") ::
 (nat_lit 272,cO 518 111 2 267 (.ref 268) .none (.ref 269) (.ref 270) 271 525 "Forest.look_around" "look_around") ::
 (nat_lit 273,fO 450 272 je "onceroad.forests" "Forest.look_around" "look_around") ::
 (nat_lit 277,cO 528 122 3 274 (.ref 275) .none .none .none 276 531 "Forest.bring_together" "bring_together") ::
 (nat_lit 278,fO 450 277 qM "onceroad.forests" "Forest.bring_together" "bring_together") ::
 (nat_lit 284,cO 534 133 2 279 (.ref 280) .none (.ref 281) (.ref 282) 283 541 "Forest.bases_down_from" "bases_down_from") ::
 (nat_lit 285,fO 450 284 qT "onceroad.forests" "Forest.bases_down_from" "bases_down_from") ::
 (nat_lit 291,cO 544 140 4 286 (.ref 287) .none (.ref 288) (.ref 289) 290 555 "Forest.reach_round" "reach_round") ::
 (nat_lit 292,fO 450 291 jd "onceroad.forests" "Forest.reach_round" "reach_round") ::
 (nat_lit 296,cO 558 149 3 293 (.ref 294) .none .none .none 295 561 "Forest.fold" "fold") ::
 (nat_lit 297,fO 450 296 jN "onceroad.forests" "Forest.fold" "fold") ::
 (nat_lit 299,(⟨(.type "dict"),none,.dict #[en P 459 (.str "onceroad.forests" 450) "__module__",en P 463 (.int 72 462) "__firstlineno__",en P 472 (.ref 226) "__init__",en P 479 (.ref 233) "row",en P 485 (.ref 238) "reached",en P 493 (.ref 245) "row_to",en P 500 (.ref 252) "folds",en P 508 (.ref 259) "grow",en P 517 (.ref 266) "reach",en P 527 (.ref 273) "look_around",en P 533 (.ref 278) "bring_together",en P 543 (.ref 285) "bases_down_from",en P 557 (.ref 292) "reach_round",en P 563 (.ref 297) "fold",en P 572 (.ref 298) "__static_attributes__",en P 574 (.ref 301) "__dict__",en P 576 (.ref 302) "__weakref__",en P 577 .none "__doc__"] 4,#[]⟩:Obj)) ::
 (nat_lit 300,(⟨(.type "type"),none,.cls { name:="Forest",bases:=[(.type "object")],mro:=[(.ref 300),(.type "object")],ns:=299,qualname:="Forest",hasDict:=true,slotNames:=[],subclasses:=[],abstract:=false,collection:=none,hasDel:=false },#[none,none,(some (.str "Forest" 452)),(some (.str "Forest" 460)),(some (.builtin "object.__new__")),(some (.bool true))]⟩:Obj)) ::
 (nat_lit 310,cE 582 155 3 305 (.ref 306) .none (.ref 307) (.ref 308) 309 589 "is_row") ::
 (nat_lit 311,fE 580 310 qbh "onceroad.rows" "is_row") ::
 (nat_lit 317,cE 592 160 2 312 (.ref 313) .none (.ref 314) (.ref 315) 316 599 "are_unlike_places") ::
 (nat_lit 318,fE 580 317 jj "onceroad.rows" "are_unlike_places") ::
 (nat_lit 322,cE 602 169 3 319 (.ref 320) .none .none .none 321 605 "goes_by_turns") ::
 (nat_lit 323,fE 580 322 qV "onceroad.rows" "goes_by_turns") ::
 (nat_lit 329,cE 608 175 3 324 (.ref 325) .none (.ref 326) (.ref 327) 328 617 "can_turn") ::
 (nat_lit 330,fE 580 329 qas "onceroad.rows" "can_turn") ::
 (nat_lit 334,cE 620 182 3 331 (.ref 332) .none .none .none 333 623 "turned") ::
 (nat_lit 335,fE 580 334 qaW "onceroad.rows" "turned") ::
 (nat_lit 341,cE 628 189 1 336 (.ref 337) .none (.ref 338) (.ref 339) 340 632 "greatest") ::
 (nat_lit 342,fE 626 341 qat "onceroad.greatest" "greatest") ::
 (nat_lit 348,cE 635 191 1 343 (.ref 344) .none (.ref 345) (.ref 346) 347 639 "count_of") ::
 (nat_lit 349,fE 626 348 qau "onceroad.greatest" "count_of") ::
 (nat_lit 355,cE 642 193 2 350 (.ref 351) .none (.ref 352) (.ref 353) 354 650 "greatest_from") ::
 (nat_lit 356,fE 626 355 jO "onceroad.greatest" "greatest_from") ::
 (nat_lit 362,cE 655 203 1 357 (.ref 358) .none (.ref 359) (.ref 360) 361 662 "sorts") ::
 (nat_lit 363,fE 653 362 qb8 "onceroad.sorts" "sorts") ::
 (nat_lit 367,cE 665 209 3 364 (.ref 365) .none .none .none 366 668 "word_for") ::
 (nat_lit 368,fE 653 367 zI "onceroad.sorts" "word_for") ::
 (nat_lit 374,cE 671 213 1 369 (.ref 370) .none (.ref 371) (.ref 372) 373 675 "loose") ::
 (nat_lit 375,fE 653 374 qb9 "onceroad.sorts" "loose") ::
 (nat_lit 381,cE 678 215 1 376 (.ref 377) .none (.ref 378) (.ref 379) 380 682 "held") ::
 (nat_lit 382,fE 653 381 qdK "onceroad.sorts" "held") ::
 (nat_lit 386,cE 685 217 2 383 (.ref 384) .none .none .none 385 688 "places_with") ::
 (nat_lit 387,fE 653 386 jP "onceroad.sorts" "places_with") ::
 (nat_lit 393,cE 691 220 2 388 (.ref 389) .none (.ref 390) (.ref 391) 392 696 "leaving_out") ::
 (nat_lit 394,fE 653 393 zi "onceroad.sorts" "leaving_out") ::
 (nat_lit 400,cE 699 222 2 395 (.ref 396) .none (.ref 397) (.ref 398) 399 705 "leaving_all") ::
 (nat_lit 401,fE 653 400 zj "onceroad.sorts" "leaving_all") ::
 (nat_lit 407,cE 712 227 1 402 (.ref 403) .none (.ref 404) (.ref 405) 406 716 "is_whole") ::
 (nat_lit 408,fE 708 407 qax "onceroad.names" "is_whole") ::
 (nat_lit 414,cE 719 229 3 409 (.ref 410) .none (.ref 411) (.ref 412) 413 725 "is_within") ::
 (nat_lit 415,fE 708 414 zU "onceroad.names" "is_within") ::
 (nat_lit 419,cE 728 231 1 416 (.ref 417) .none .none .none 418 731 "is_name") ::
 (nat_lit 420,fE 708 419 qaf "onceroad.names" "is_name") ::
 (nat_lit 426,cE 736 236 2 421 (.ref 422) .none (.ref 423) (.ref 424) 425 742 "start_paper") ::
 (nat_lit 427,fE 734 426 zk "onceroad.wins" "start_paper") ::
 (nat_lit 433,cE 745 241 1 428 (.ref 429) .none (.ref 430) (.ref 431) 432 749 "is_hand") ::
 (nat_lit 434,fE 734 433 qa0 "onceroad.wins" "is_hand") ::
 (nat_lit 440,cE 752 243 1 435 (.ref 436) .none (.ref 437) (.ref 438) 439 756 "good_starts") ::
 (nat_lit 441,fE 734 440 zl "onceroad.wins" "good_starts") ::
 (nat_lit 447,cE 759 245 2 442 (.ref 443) .none (.ref 444) (.ref 445) 446 765 "chosen_by") ::
 (nat_lit 448,fE 734 447 zV "onceroad.wins" "chosen_by") ::
 (nat_lit 461,cO 786 257 3 456 (.ref 457) .none (.ref 458) (.ref 459) 460 792 "Web.__init__" "__init__") ::
 (nat_lit 462,fO 768 461 qao "onceroad.webs" "Web.__init__" "__init__") ::
 (nat_lit 468,cO 795 262 1 463 (.ref 464) .none (.ref 465) (.ref 466) 467 799 "Web.places" "places") ::
 (nat_lit 469,fO 768 468 zx "onceroad.webs" "Web.places" "places") ::
 (nat_lit 475,cO 802 265 1 470 (.ref 471) .none (.ref 472) (.ref 473) 474 809 "Web.ties" "ties") ::
 (nat_lit 476,fO 768 475 qar "onceroad.webs" "Web.ties" "ties") ::
 (nat_lit 489,cO 819 276 2 484 (.ref 485) .none (.ref 486) (.ref 487) 488 824 "Web.has_place" "has_place") ::
 (nat_lit 490,fO 768 489 jL "onceroad.webs" "Web.has_place" "has_place") ::
 (nat_lit 496,cO 827 279 2 491 (.ref 492) .none (.ref 493) (.ref 494) 495 832 "Web.has_tie" "has_tie") ::
 (nat_lit 497,fO 768 496 ze "onceroad.webs" "Web.has_tie" "has_tie") ::
 (nat_lit 503,cO 835 282 2 498 (.ref 499) .none (.ref 500) (.ref 501) 502 840 "Web.number_of" "number_of") ::
 (nat_lit 504,fO 768 503 jM "onceroad.webs" "Web.number_of" "number_of") ::
 (nat_lit 510,cO 843 287 2 505 (.ref 506) .none (.ref 507) (.ref 508) 509 848 "Web.beside" "beside") ::
 (nat_lit 511,fO 768 510 zy "onceroad.webs" "Web.beside" "beside") ::
 (nat_lit 517,cO 851 290 2 512 (.ref 513) .none (.ref 514) (.ref 515) 516 856 "Web.bits_beside" "bits_beside") ::
 (nat_lit 518,fO 768 517 js "onceroad.webs" "Web.bits_beside" "bits_beside") ::
 (nat_lit 524,cO 859 293 3 519 (.ref 520) .none (.ref 521) (.ref 522) 523 866 "Web.tied" "tied") ::
 (nat_lit 525,fO 768 524 qap "onceroad.webs" "Web.tied" "tied") ::
 (nat_lit 543,cO 883 303 2 540 (.ref 541) .none .none .none 542 886 "Web.names_in" "names_in") ::
 (nat_lit 544,fO 768 543 jz "onceroad.webs" "Web.names_in" "names_in") ::
 (nat_lit 548,cO 889 306 2 545 (.ref 546) .none .none .none 547 892 "Web.without" "without") ::
 (nat_lit 549,fO 768 548 jt "onceroad.webs" "Web.without" "without") ::
 (nat_lit 572,(⟨(.type "dict"),none,.dict #[en P 781 (.str "onceroad.webs" 768) "__module__",en P 785 (.int 255 784) "__firstlineno__",en P 794 (.ref 462) "__init__",en P 801 (.ref 469) "places",en P 811 (.ref 476) "ties",en P 818 (.ref 483) "how_many",en P 826 (.ref 490) "has_place",en P 834 (.ref 497) "has_tie",en P 842 (.ref 504) "number_of",en P 850 (.ref 511) "beside",en P 858 (.ref 518) "bits_beside",en P 868 (.ref 525) "tied",en P 875 (.ref 532) "pieces",en P 882 (.ref 539) "told",en P 888 (.ref 544) "names_in",en P 894 (.ref 549) "without",en P 902 (.ref 556) "with_place",en P 911 (.ref 563) "with_tie",en P 920 (.ref 570) "without_tie",en P 924 (.ref 571) "__static_attributes__",en P 926 (.ref 574) "__dict__",en P 928 (.ref 575) "__weakref__",en P 929 .none "__doc__"] 4,#[]⟩:Obj)) ::
 (nat_lit 573,(⟨(.type "type"),none,.cls { name:="Web",bases:=[(.type "object")],mro:=[(.ref 573),(.type "object")],ns:=572,qualname:="Web",hasDict:=true,slotNames:=[],subclasses:=[],abstract:=false,collection:=none,hasDel:=false },#[none,none,(some (.str "Web" 774)),(some (.str "Web" 782)),(some (.builtin "object.__new__")),(some (.bool true))]⟩:Obj)) ::
 (nat_lit 583,cE 932 324 2 578 (.ref 579) .none (.ref 580) (.ref 581) 582 937 "has_bit") ::
 (nat_lit 584,fE 768 583 qaT "onceroad.webs" "has_bit") ::
 (nat_lit 590,cE 940 326 2 585 (.ref 586) .none (.ref 587) (.ref 588) 589 945 "is_place") ::
 (nat_lit 591,fE 768 590 qan "onceroad.webs" "is_place") ::
 (nat_lit 597,cE 948 328 2 592 (.ref 593) .none (.ref 594) (.ref 595) 596 954 "are_two_places") ::
 (nat_lit 598,fE 768 597 jC "onceroad.webs" "are_two_places") ::
 (nat_lit 604,cE 957 333 1 599 (.ref 600) .none (.ref 601) (.ref 602) 603 963 "numbers_of") ::
 (nat_lit 605,fE 768 604 zw "onceroad.webs" "numbers_of") ::
 (nat_lit 611,cE 966 346 2 606 (.ref 607) .none (.ref 608) (.ref 609) 610 975 "near_of") ::
 (nat_lit 612,fE 768 611 qaU "onceroad.webs" "near_of") ::
 (nat_lit 618,cE 980 363 2 613 (.ref 614) .none (.ref 615) (.ref 616) 617 985 "_law_cell") ::
 (nat_lit 619,fE 978 618 qbj "law_onceroad_k56_starts_chosen" "_law_cell") ::
 (nat_lit 625,cE 988 367 1 620 (.ref 621) .none (.ref 622) (.ref 623) 624 992 "_law_begun") ::
 (nat_lit 626,fE 978 625 qaY "law_onceroad_k56_starts_chosen" "_law_begun") ::
 (nat_lit 632,cE 995 369 2 627 (.ref 628) .none (.ref 629) (.ref 630) 631 1002 "_law_take") ::
 (nat_lit 633,fE 978 632 qbk "law_onceroad_k56_starts_chosen" "_law_take") ::
 (nat_lit 637,cE 1005 379 2 634 (.ref 635) .none .none .none 636 1008 "_law_names") ::
 (nat_lit 638,fE 978 637 zF "law_onceroad_k56_starts_chosen" "_law_names") ::
 (nat_lit 642,cE 1011 389 2 639 (.ref 640) .none .none .none 641 1014 "_law_shape") ::
 (nat_lit 643,fE 978 642 zG "law_onceroad_k56_starts_chosen" "_law_shape") ::
 (nat_lit 649,cE 1017 408 2 644 (.ref 645) .none (.ref 646) (.ref 647) 648 1030 "_law_drawn") ::
 (nat_lit 650,fE 978 649 qaZ "law_onceroad_k56_starts_chosen" "_law_drawn") ::
 (nat_lit 656,cE 1033 420 3 651 (.ref 652) .none (.ref 653) (.ref 654) 655 1043 "_law_web") ::
 (nat_lit 657,fE 978 656 qb4 "law_onceroad_k56_starts_chosen" "_law_web") ::
 (nat_lit 663,cE 1046 428 3 658 (.ref 659) .none (.ref 660) (.ref 661) 662 1055 "_law_used") ::
 (nat_lit 664,fE 978 663 qbl "law_onceroad_k56_starts_chosen" "_law_used") ::
 (nat_lit 668,cE 1058 442 3 665 (.ref 666) .none .none .none 667 1061 "_law_odd") ::
 (nat_lit 669,fE 978 668 qaJ "law_onceroad_k56_starts_chosen" "_law_odd") ::
 (nat_lit 673,cE 1064 456 4 670 (.ref 671) .none .none .none 672 1067 "_law_verdict") ::
 (nat_lit 674,fE 978 673 jG "law_onceroad_k56_starts_chosen" "_law_verdict") ::
 (nat_lit 680,cE 1070 472 3 675 (.ref 676) .none (.ref 677) (.ref 678) 679 1079 "_law_papers") ::
 (nat_lit 681,fE 978 680 qay "law_onceroad_k56_starts_chosen" "_law_papers") ::
 (nat_lit 685,cE 1082 480 5 682 (.ref 683) .none .none .none 684 1085 "_law_chosen") ::
 (nat_lit 686,fE 978 685 jX "law_onceroad_k56_starts_chosen" "_law_chosen") ::
 (nat_lit 690,cE 1088 502 1 687 (.ref 688) .none .none .none 689 1091 "law") ::
 (nat_lit 691,fE 978 690 qcK "law_onceroad_k56_starts_chosen" "law") ::
 []
noncomputable def ks:LQ:=[2,3,199,200,206,207,211,212,225,226,232,233,237,238,258,259,265,266,272,273,277,278,284,285,291,292,296,297,299,300,310,311,317,318,322,323,329,330,334,335,341,342,348,349,355,356,362,363,367,368,374,375,381,382,386,387,393,394,400,401,407,408,414,415,419,420,426,427,433,434,440,441,447,448,461,462,468,469,475,476,489,490,496,497,503,504,510,511,517,518,524,525,543,544,548,549,572,573,583,584,590,591,597,598,604,605,611,612,618,619,625,626,632,633,637,638,642,643,649,650,656,657,663,664,668,669,673,674,680,681,685,686,690,691]
theorem ks_eq:∀ P,ks=(Kf P).map (·.1):=fun P=>by kernel_rfl
noncomputable abbrev Hk:Hook:=kHook Kf ks ks_eq
noncomputable abbrev Xt(s:Shared):Bool:=xlAt Q [] s&&recOk [] s
noncomputable abbrev sn(s:Shared):=openSeen Q [] (importedModules PySem.Challenge.pw_onceroad_k56_starts_chosen.main.body) Xt true s
noncomputable def runA(w:World)(a:OsState):=(Hd.lookS PySem.Challenge.pw_onceroad_k56_starts_chosen NN w a).map fun s=>((sn s).1,(sn s).2.1,(sn s).2.2.1,(sn s).2.2.2.1)
noncomputable def runB(w:World)(a:OsState):=(Hd.lookS PySem.Challenge.pw_onceroad_k56_starts_chosen NN w a).map fun s=>(sn s).2.2.2.2
noncomputable def runC(w:World)(a:OsState):=(Hd.lookS PySem.Challenge.pw_onceroad_k56_starts_chosen NN w a).map fun s=>ks.map s.heap.get?
noncomputable def gdA(_:World)(_:OsState):=some ((openGood Q []).1,(openGood Q []).2.1,(openGood Q []).2.2.1,(openGood Q []).2.2.2.1)
noncomputable def gdB(_:World)(_:OsState):=some (openGood Q []).2.2.2.2
noncomputable def gdC(w:World)(_:OsState):=some ((Kf w.params).map fun p=>some p.2)
noncomputable def tag{a:Type}(f g:World->OsState->a):Bool:=true
theorem tag1:(tag runA gdA&&(tag runB gdB&&tag runC runC))=true:=by k_qdec
theorem hA1(w:World)(a:OsState):runA w a=gdA w a:=by
 rw[PySem.W.Fast.te12564867426169046012,PySem.W.Fast.te4225338096992022506]
 kernel_rfl
theorem hB1(w:World)(a:OsState):runB w a=gdB w a:=by
 rw[PySem.W.Fast.te4857894655972981423,PySem.W.Fast.te1177660726130100477]
 kernel_rfl
theorem hC1(w:World)(a:OsState):runC w a=gdC w a:=by
 rw[PySem.W.Fast.te12209354966462402326]
 kernel_rfl
theorem hl:LeftO PySem.Challenge.pw_onceroad_k56_starts_chosen Q [] Xt (Hook.obs Hk) (Hook.val Hk) NN:=Hd.left_of (by kernel_rfl) (by decide) (fun s=>by kernel_rfl) fun w a=>(Hd.lookT_map ..).trans (Hd.packs (hA1 w a) (hB1 w a) (hC1 w a))
end K56
namespace L2
open PySem PySem.Spec PyProof.Rows
variable{A:Around}{C a b dx it:Addr}{CX:CXT}{D:Ends}{E:Value->Shared->Prop}{H:Hp}{M:Model}{N ps:LS}{P:Program}{X:Cx}{base h:Heap}{body:List Stmt}{c e tg:Expr}{ch fp:LQ}{d':Drawn}{es:List Expr}{f:Value->Value->Sem Value}{g:TG}{g':Array GenState}{i j n t':Nat}{kindOf:Str->Option NameKind}{kw:List (Str×Value)}{lo:Int}{mA mg:Str->Option Value}{o:HO}{op op':CmpOp}{outer:List Env}{p pos:Pos}{pins:List (Addr×Obj)}{pl:Sem Bool}{qual x:Str}{r r':R2}{s s':Shared}{sc scope:Scope}{t te:TE}{ta:TA}{tb:TS}{tc:TT}{u:Value}{us:List Value}{vs xs:List V}{w:World}{y:V}{α:Type}{σ:St}
noncomputable abbrev Key:=Sum Int Str
noncomputable def qcL:Key->Value->Bool
 | .inl k,v=>Value.isInt k v
 | .inr x,v=>Value.isStrOf x v
noncomputable def keyH(w:World):Key->Int
 | .inl k=>hashInt k
 | .inr x=>hashStr w x
theorem q9:∀{k:Key} {v:Value},qcL k v=true->(∃ i t,k=Sum.inl i/\v=Value.int i t)\/(∃ x t,k=Sum.inr x/\v=Value.str x t)
 | .inl i,v,h=>by
  obtain⟨t,e⟩:=Value.isInt_shape (k:=i) (v:=v) h;show .inl ⟨i,t,rfl,e⟩
 | .inr x,v,h=>by
  obtain⟨t,e⟩:=Value.isStrOf_shape (x:=x) (v:=v) h;show .inr ⟨x,t,rfl,e⟩
theorem keyIs_int(i:Int)(t:Tok):qcL (.inl i) (.int i t)=true:=by simp[qcL,Value.isInt]
theorem keyIs_str(x:Str)(t:Tok):qcL (.inr x) (.str x t)=true:=by simp[qcL,Value.isStrOf]
theorem key_ll(a b:Int):decide ((Sum.inl a:Key)=Sum.inl b)=(a==b):=by
 by_cases e:a=b
 .subst e;simp
 .have h:¬ (Sum.inl a:Key)=Sum.inl b:=fun q=>e (Sum.inl.inj q);rw[yl h];show(YO.mpr e).symm
theorem key_rr(a b:Str):decide ((Sum.inr a:Key)=Sum.inr b)=decide (a=b):=by
 by_cases e:a=b
 .subst e;simp
 .have h:¬ (Sum.inr a:Key)=Sum.inr b:=fun q=>e (xk q);rw[yl h,yl e]
theorem key_lr(a:Int)(b:Str):decide ((Sum.inl a:Key)=Sum.inr b)=false:=yl (fun q=>nomatch q)
theorem key_rl(a:Str)(b:Int):decide ((Sum.inr a:Key)=Sum.inl b)=false:=yl (fun q=>nomatch q)
noncomputable def jv(prog:Program)(w:World):PySem.KeyKind prog w Key where
 is:=qcL
 hash:=keyH w
 inj:=fun v a b c hb=>by
  rcases q9 c with⟨i,t,rfl,rfl⟩ | ⟨x,t,rfl,rfl⟩
  .rcases q9 hb with⟨j,u,rfl,e⟩ | ⟨y,u,rfl,e⟩
   .injection e with e1 _;rw[e1]
   .show nomatch e
  .rcases q9 hb with⟨j,u,rfl,e⟩ | ⟨y,u,rfl,e⟩
   .show nomatch e
   .injection e with e1 _;rw[e1]
 byValue:=fun k v h=>by
  rcases q9 h with⟨i,t,rfl,rfl⟩ | ⟨x,t,rfl,rfl⟩<;>rfl
 pyHash:=fun hv h=>by
  rcases q9 hv with⟨i,t,rfl,rfl⟩ | ⟨x,t,rfl,rfl⟩
  .show wpAny_pyHash_int h
  .show wpAny_pyHash_str h
 eqBool:=fun d hv h=>by
  rcases q9 d with⟨i,t,rfl,rfl⟩ | ⟨x,t,rfl,rfl⟩
  .rcases q9 hv with⟨j,u,rfl,rfl⟩ | ⟨y,u,rfl,rfl⟩
   .rw [key_ll] at h;show XF h
   .rw [key_lr] at h;show SeqAt.EqAt.int_str i t y u _ _ _ _ h
  .rcases q9 hv with⟨j,u,rfl,rfl⟩ | ⟨y,u,rfl,rfl⟩
   .rw [key_rl] at h;show SeqAt.EqAt.str_int x t j u _ _ _ _ h
   .rw [key_rr] at h;show wpAny_eqBool_str h
 «strs»:=fun k x t v h=>by
  rcases q9 h with⟨i,u,rfl,e⟩ | ⟨y,u,rfl,e⟩
  .show nomatch e
  .injection e with e1 _
   subst e1;cases v<;>rfl
theorem mixKind_int(prog:Program)(w:World)(i:Int)(t:Tok):(jv prog w).is (.inl i) (.int i t)=true:=keyIs_int i t
theorem mixKind_str(prog:Program)(w:World)(x:Str)(t:Tok):(jv prog w).is (.inr x) (.str x t)=true:=keyIs_str x t
inductive V where
 | non | bl (b:Bool) | int (i:Int) | str (x:Str) | byt (b:Array UInt8) | flt (b:UInt64) | ref (a:Addr) | ty (n:String)
 deriving DecidableEq
def RelV:V->Value->Prop
 | .non,u=>u=Value.none
 | .bl b,u=>u=Value.bool b
 | .int i,u=>∃ t,u=Value.int i t
 | .str x,u=>∃ t,u=Value.str x t
 | .byt b,u=>∃ t,u=Value.bytes b t
 | .flt b,u=>∃ t,u=Value.float b t
 | .ref a,u=>u=Value.ref a
 | .ty n,u=>u=Value.type n
abbrev Vals:List V->List Value->Prop:=Paired RelV
theorem Vals.length(r:Vals xs us):xs.length=us.length:=Paired.length r
theorem Vals.get:∀{xs:List V} {us:List Value} {i:Nat} {x:V},Vals xs us->xs[i]?=some x->∃ u,us[i]?=some u/\RelV x u
 | _,_,_,_,.nil,e=>by simp at e
 | _,_,0,_,.cons r _,e=>by simp at e;subst e;show⟨_,rfl,r⟩
 | _,_,i+1,x,.cons _ t,e=>by
  obtain⟨u,h1,a⟩:=Vals.get (i:=i) (x:=x) t (by simpa using e);show⟨u,by simpa using h1,a⟩
theorem Vals.set{x:V}(r:RelV x u):∀{xs:List V} {us:List Value} (i:Nat),Vals xs us->Vals (xs.set i x) (us.set i u)
 | _,_,_,.nil=>.nil
 | _,_,0,.cons _ t=>.cons r t
 | _,_,i+1,.cons q t=>.cons q (Vals.set r i t)
theorem Vals.append:∀{xs ys:List V} {us a:List Value},Vals xs us->Vals ys a->Vals (xs++ys) (us++a)
 | _,_,_,_,.nil,s=>s
 | _,_,_,_,.cons r t,s=>.cons r (Vals.append t s)
theorem Vals.take:∀{xs:List V} {us:List Value} (n:Nat),Vals xs us->Vals (xs.take n) (us.take n)
 | _,_,0,_=>.nil
 | _,_,_+1,.nil=>.nil
 | _,_,n+1,.cons r t=>.cons r (Vals.take n t)
theorem Vals.drop:∀{xs:List V} {us:List Value} (n:Nat),Vals xs us->Vals (xs.drop n) (us.drop n)
 | _,_,0,r=>r
 | _,_,_+1,.nil=>.nil
 | _,_,n+1,.cons _ t=>Vals.drop n t
def RelO:Option V->Option Value->Prop
 | some v,some u=>RelV v u
 | none,none=>True
 | _,_=>False
def KV{a:Type}:List (a×V)->List (a×Value)->Prop:=Paired fun(p:a×V) (q:a×Value)=>p.1=q.1/\RelV p.2 q.2
noncomputable def kV:Key->V
 | .inl i=>.int i
 | .inr x=>.str x
inductive HO where
 /-- a list -/
 | lst (xs:List V)
 /-- a tuple (never changes) -/
 | tup (xs:List V)
 /-- a dict whose keys are ints and texts;one whose keys are tuples of ints and texts (the empty one is both) -/
 | dK (kvs:List (Key×V)) | dT (kvs:List (List Key×V))
 /-- a set of ints: its members,its size -/
 | set (S:Int->Bool) (n:Nat)
 /-- an instance of the class at C,its dict at dx,its attributes -/
 | ins (C dx:Addr) (fs:List (Str×V))
 /-- the dict of the instance at x -/
 | own (x:Addr)
 /-- the dict of an exception -/
 | xd (fs:List (Str×V))
 /-- a bound method,f of x -/
 | met (f x:Addr)
 /-- a range object lo,lo+1,.. below hi -/
 | rng (lo hi:Int)
 /-- a thing that is known to the object (the script;a dict while a loop walks it): read,never written while it is so -/
 | frz (o:Obj) (u:HO)
 /-- a code object's table -/
 | tbl (ps:Array Value)
 /-- any other thing,by what is true of its one object (a def of one's own: SetO a S n:=HO.ext fun h=>..) -/
 | ext (φ:Heap->Prop)
noncomputable abbrev Hp:=Addr->Option HO
noncomputable def upd(H:Hp)(a:Addr)(o:HO):Hp:=fun b=>if b=a then some o else H b
theorem qb:upd H a o a=some o:=by unfold upd;rw[yG rfl]
theorem qf(h:b≠a):upd H a o b=H b:=by unfold upd;rw[yC h]
theorem zX{u:HO}(h:H a=some o)(h':H b=some u)(d:o≠u):a≠b:=by
 intro e;subst e;rw[h] at h';show d (ym h')
theorem qy(h:H a=some o)(h':H b=none):a≠b:=by
 intro e;subst e;rw[h] at h';cases h'
section
variable(P:Program)(w:World)
def ObjOk(H:Hp)(h:Heap)(a:Addr):HO->Prop
 | .lst xs=>xs.length<=sizeLine/\∃(b:List Value) (n:Nat),Vals xs b/\h.get? a=some { cls:=.type "list",data:=.seq b.toArray n }
 | .tup xs=>xs.length<=sizeLine/\∃ b:List Value,Vals xs b/\IsTup h a b.toArray
 | .dK kvs=>kvs.length<=sizeLine/\(a==sysModules)=false/\∃ vs,KV kvs vs/\h.DictOf (jv P w) a vs
 | .dT kvs=>kvs.length<=sizeLine/\(a==sysModules)=false/\∃ xs:List (List Key×Addr×Value),
   Paired (fun(p:List Key×V) (q:List Key×Addr×Value)=>p.1=q.1/\H q.2.1=some (.tup (p.1.map kV))/\RelV p.2 q.2.2) kvs xs /\
   ∃ o es ep,h.get? a=some o/\o.ExactDict/\o.data=.dict es ep/\es.toList=xs.map (entryOfKey (tupleKind (jv P w)))/\(xs.map (·.1)).Nodup
 | .set S n=>h.SetOf (intKind P w) a S n
 | .ins C dx fs=>H dx=some (.own a)/\fs.length<=1000/\dx≠a/\h.get? a=some (PySem.W.instObj C dx) /\
   ∃ mA,h.Ns1 dx mA/\(∀ f,RelO (fs.lookup f) (mA f))/\PySem.Within mA (fs.map (·.1))
 | .own _=>∃ o,h.get? a=some o
 | .xd fs=>∃ mA,h.Ns1 a mA/\∀ f,RelO (fs.lookup f) (mA f)
 | .rng lo hi=>∃ t u v,h.get? a=some { cls:=.type "range",data:=.fields #[.int lo t,.int hi u,.int 1 v] }
 | .frz o u=>h.get? a=some o/\ObjOk H h a u
 | .tbl ps=>h.get? a=some { cls:=.none,data:=.fields ps }
 | .met f x=>h.get? a=some (PySem.W.methodObj (.ref f) (.ref x))
 | .ext φ=>φ h/\(∃ o,h.get? a=some o)/\∀ h1 c:Heap,φ h1->(∀ o,h1.get? a=some o->c.get? a=some o)->φ c
def HOk(H:Hp)(h:Heap):Prop:=∀ a o,H a=some o->ObjOk P w H h a o
end
section
variable{P:Program}{w:World}{H H':Hp}{h h':Heap}{a:Addr}{o:HO}
theorem ObjOk.lt(x:ObjOk P w H h a o):a<h.objs.size:=by
 cases o with
 | lst xs=>obtain⟨_,_,_,_,e⟩:=x;show yJ e
 | tup xs=>obtain⟨_,_,_,p⟩:=x;show p.lt
 | dK kvs=>obtain⟨_,_,_,_,o,_,_,e,_⟩:=x;show yJ e
 | dT kvs=>obtain⟨_,_,_,_,o,_,_,e,_⟩:=x;show yJ e
 | set S n=>obtain⟨o,_,_,_,e,_⟩:=x;show yJ e
 | ins C dx fs=>obtain⟨_,_,_,e,_⟩:=x;show yJ e
 | own y=>obtain⟨_,e⟩:=x;show yJ e
 | xd fs=>obtain⟨_,⟨_,_,_,e,_⟩,_⟩:=x;show yJ e
 | rng lo hi=>obtain⟨_,_,_,e⟩:=x;show yJ e
 | frz ob u=>obtain⟨e,_⟩:=x;show yJ e
 | tbl ps=>show yJ (show h.get? a=some _ from x)
 | met f y=>show yJ (show h.get? a=some _ from x)
 | ext φ=>obtain⟨_,⟨_,e⟩,_⟩:=x;show yJ e
theorem Paired.mapP{d:Type}{F G:α->d->Prop}:∀{l₁:List α} {c:List d},Paired F l₁ c->(∀ a b,F a b->G a b)->Paired G l₁ c
 | _,_,.nil,_=>.nil
 | _,_,.cons r t,f=>.cons (f _ _ r) (Paired.mapP t f)
theorem ObjOk.stay(x:ObjOk P w H h a o)(k:∀ b u,(b=a\/H b=some (.own a))->h.get? b=some u->h'.get? b=some u)
  (l:∀ b,H b=some (.own a)->H' b=some (.own a)) (m:∀ b xs,H b=some (.tup xs)->H' b=some (.tup xs)):ObjOk P w H' h' a o:=by
 induction o with
 | lst xs=>obtain⟨z,i,n,r,e⟩:=x;show⟨z,i,n,r,k _ _ (.inl rfl) e⟩
 | tup xs=>obtain⟨z,i,r,g,e,c⟩:=x;show⟨z,i,r,g,k _ _ (.inl rfl) e,c⟩
 | dK kvs=>obtain⟨z,y,vs,r,g,es,ep,e,c⟩:=x;show⟨z,y,vs,r,g,es,ep,k _ _ (.inl rfl) e,c⟩
 | dT kvs =>
  obtain⟨z,y,xs,r,g,es,ep,e,c⟩:=x;show⟨z,y,xs,Paired.mapP r fun p q z=>⟨z.1,m _ _ z.2.1,z.2.2⟩,g,es,ep,k _ _ (.inl rfl) e,c⟩
 | set S n=>obtain⟨g,es,ep,t,e,c⟩:=x;show⟨g,es,ep,t,k _ _ (.inl rfl) e,c⟩
 | ins C dx fs =>
  obtain⟨d,z,ne,e,mA,⟨od,es,ep,j,c⟩,r⟩:=x;show⟨l _ d,z,ne,k _ _ (.inl rfl) e,mA,⟨od,es,ep,k _ _ (.inr d) j,c⟩,r⟩
 | own y=>obtain⟨g,e⟩:=x;show⟨g,k _ _ (.inl rfl) e⟩
 | xd fs=>obtain⟨mA,⟨od,es,ep,e,c⟩,r⟩:=x;show⟨mA,⟨od,es,ep,k _ _ (.inl rfl) e,c⟩,r⟩
 | rng lo hi=>obtain⟨t,u,v,e⟩:=x;show⟨t,u,v,k _ _ (.inl rfl) e⟩
 | frz g u ih=>obtain⟨e,q⟩:=x;show⟨k _ _ (.inl rfl) e,ih q⟩
 | tbl ps =>
  have e:h.get? a=some { cls:=.none,data:=.fields ps }:=x;show h'.get? a=some { cls:=.none,data:=.fields ps };show k a _ (.inl rfl) e
 | met f y =>
  have e:h.get? a=some (PySem.W.methodObj (.ref f) (.ref y)):=x;show h'.get? a=some (PySem.W.methodObj (.ref f) (.ref y));show k a _ (.inl rfl) e
 | ext φ=>obtain⟨p,⟨o,e⟩,st⟩:=x;show⟨st _ _ p fun o q=>k _ _ (.inl rfl) q,⟨o,k _ _ (.inl rfl) e⟩,st⟩
theorem HOk.lt(x:HOk P w H h)(e:H a=some o):a<h.objs.size:=(x a o e).lt
theorem HOk.fresh(x:HOk P w H h)(e:h.objs.size<=a):H a=none:=by
 cases q:H a with
 | none=>rfl
 | some u=>show absurd (yj (x.lt q) e) (Yv _)
theorem HOk.kept(x:HOk P w H h)(k:∀ b u,h.get? b=some u->h'.get? b=some u):HOk P w H h':=fun a o e =>
 (x a o e).stay (fun b u _ q=>k b u q) (fun _ q=>q) fun _ _ q=>q
theorem HOk.laid(x:HOk P w H h)(k:∀ b u,h.get? b=some u->h'.get? b=some u)(f:h.objs.size<=a)(new:ObjOk P w (upd H a o) h' a o):HOk P w (upd H a o) h':=fun b u e=>by
 have d:=x.fresh f;by_cases hb:b=a
 .subst hb;rw[qb] at e;cases e;show new
 .rw [qf hb] at e;show(x b u e).stay (fun c v _ q=>k c v q) (fun c q=>by rw[qf (qy q d)];show q) fun c xs q=>by rw[qf (qy q d)];show q
end
def Rd(H:Hp)(a:Addr)(u:HO):Prop:=H a=some u\/∃ o,H a=some (.frz o u)
theorem Rd.ok{u:HO}(r:Rd H a u)(x:HOk P w H h):ObjOk P w H h a u:=by
 rcases r with r | ⟨o,r⟩
 .show x a u r
 .obtain⟨_,q⟩:=x a _ r;show q
def Mut:Option HO->Prop
 | some (.lst _)=>True
 | some (.dK _)=>True
 | some (.dT _)=>True
 | some (.set _ _)=>True
 | some (.ins _ _ _)=>True
 | some (.ext _)=>True
 | _=>False
section
variable{P:Program}{w:World}{H:Hp}{h h':Heap}{x e:Addr}{o':HO}
theorem HOk.write(ok:HOk P w H h)(g:Mut (H x))(j:e=x\/H e=some (.own x))(k:∀ b u,b≠e->h.get? b=some u->h'.get? b=some u)(i:∃ u,h'.get? e=some u)
  (new:ObjOk P w (upd H x o') h' x o'):HOk P w (upd H x o') h':=fun b u q=>by
 have d:∀ c y,H c=some (.own y)->c≠x:=fun c y r z=>by subst z;rw[r] at g;show g
 have f:∀ c xs,H c=some (.tup xs)->c≠x:=fun c xs r z=>by subst z;rw[r] at g;show g
 by_cases hb:b=x
 .subst hb;rw[qb] at q;cases q;show new
 .rw [qf hb] at q;by_cases a:b=e
  .have l:H b=some (.own x):=by
    rcases j with z | z
    .show absurd (a.trans z) hb
    .rw [a];show z
   rw[q] at l;cases l;obtain⟨v,hv⟩:=i;show⟨v,by rw[a];show hv⟩
  .show(ok b u q).stay (fun c v hc r=>k c v ?_ r) (fun c r=>by rw[qf (d c b r)];show r) fun c xs r=>by rw[qf (f c xs r)];show r
   rcases hc with rfl | hc
   .show a
   .rintro rfl;rcases j with z | z
    .show d c b hc z
    .rw [hc] at z;cases z;show hb rfl
end
structure Un(fs ex:LQ)(H H':Hp)(h h':Heap):Prop where
 keep:∀ b o,h.get? b=some o->H b=none->b∉fs->b∉ex->h'.get? b=some o
 slot:∀ b o,h.get? b=some o->H b=none->b∈fs->b∉ex->∃ sl,h'.get? b=some { o with slots:=sl }
 free:∀ b o,h.get? b=some o->H b=none->b∉ex->H' b=none
 there:∀ b o,h.get? b=some o->b∉ex->∃ o',h'.get? b=some o'
 tups:∀ b xs,H b=some (.tup xs)->H' b=some (.tup xs)
 frzs:∀ b o u,H b=some (.frz o u)->H' b=some (.frz o u)
 tbls:∀ b ps,H b=some (.tbl ps)->∃ more,H' b=some (.tbl (ps++more))
section
variable{fs fs' ex ex':LQ}{H H1 H2:Hp}{h h1 h2 h':Heap}{a x e:Addr}{o:HO}
theorem Un.any(u:Un fs ex H H1 h h1){a:Obj}(q:h.get? b=some a)(n:H b=none)(c:b∉ex):∃ d,h1.get? b=some { a with slots:=d }:=by
 by_cases hb:b∈fs
 .show u.slot b a q n hb c
 .show⟨a.slots,u.keep b a q n hb c⟩
theorem Un.kept(k:∀ b u,h.get? b=some u->h'.get? b=some u):Un fs ex H H h h':=
 ⟨fun b a q _ _ _=>k b a q,fun b a q _ _ _=>⟨a.slots,k b a q⟩,fun _ _ _ n _=>n,fun b a q _=>⟨a,k b a q⟩,fun _ _ q=>q,fun _ _ _ q=>q,fun _ ps q=>⟨#[],by rw[q];simp⟩⟩
theorem Un.refl:Un fs ex H H h h:=Un.kept fun _ _ q=>q
theorem Un.laid(k:∀ b u,h.get? b=some u->h'.get? b=some u)(d:h.objs.size<=a)(c:H a=none):Un fs ex H (upd H a o) h h' where
 keep:=fun b u q _ _ _=>k b u q
 slot:=fun b u q _ _ _=>⟨u.slots,k b u q⟩
 free:=fun b u q n _=>by rw[qf (yF (yj (yJ q) d))];show n
 there:=fun b u q _=>⟨u,k b u q⟩
 tups:=fun b xs q=>by rw[qf (qy q c)];show q
 frzs:=fun b u xs q=>by rw[qf (qy q c)];show q
 tbls:=fun b ps q=>⟨#[],by rw[qf (qy q c),q];simp⟩
theorem Un.write(c:Mut (H x))(i:e=x\/H e=some (.own x))(k:∀ b u,b≠e->h.get? b=some u->h'.get? b=some u)(d:∃ u,h'.get? e=some u):Un fs ex H (upd H x o) h h':=by
 have g:∀ b,H b=none->b≠x:=fun b n z=>by subst z;rw[n] at c;show c
 have hb:∀ b,H b=none->b≠e:=fun b n z=>by
  subst z;rcases i with r | r
  .show g b n r
  .rw [n] at r;cases r
 have f:∀ b u,H b=some u->¬ Mut (some u)->b≠x:=fun b u q j z=>by subst z;rw[q] at c;show j c
 show⟨fun b u q n _ _=>k b u (hb b n) q,fun b u q n _ _=>⟨u.slots,k b u (hb b n) q⟩,fun b u q n _=>by rw[qf (g b n)];show n,fun b u q _=>?_,
  fun b xs q=>by rw[qf (f b _ q fun z=>z)];show q,fun b u xs q=>by rw[qf (f b _ q fun z=>z)];show q,fun b ps q=>⟨#[],by rw[qf (f b _ q fun z=>z),q];simp⟩⟩
 by_cases a:b=e
 .subst a;show d
 .show⟨u,k b u a q⟩
end
noncomputable def trk(h:Heap)(H:Hp):LQ:=(List.range h.objs.size).filter fun a=>(H a).isSome
noncomputable def qeQ(h:Heap)(H:Hp):Heap:=PySem.W.hideAll h (trk h H)
theorem hidT_size(h:Heap)(H:Hp):(qeQ h H).objs.size=h.objs.size:=PySem.W.hideAll_size _ _
theorem hidT_get{o:Obj}(e:h.get? b=some o)(n:H b=none):(qeQ h H).get? b=some o:=
 PySem.W.hideAll_get _ e fun a=>by
  have q:(H b).isSome=true:=(yp.mp a).2;rw[n] at q;simp at q
theorem of_hidT{o:Obj}(e:(qeQ h H).get? b=some o):h.get? b=some o/\H b=none:=by
 have a:h.get? b=some o:=PySem.W.of_hideAll (trk h H) e;show⟨a,?_⟩
 cases q:H b with
 | none=>rfl
 | some x =>
  have c:b∈trk h H:=yp.mpr ⟨YT.mpr (yJ a),by simp[q]⟩;have z:(qeQ h H).get? b=none:=PySem.W.hideAll_none (trk h H) c;rw[z] at e;cases e
noncomputable def allNews(g h:Heap)(L:Addr):List (Addr×Obj):=(List.range h.objs.size).filterMap fun a=>if a=L\/(g.get? a).isSome=true then none else(h.get? a).map fun o=>(a,o)
noncomputable def qdX(g h:Heap)(L d:Addr):List (Addr×Obj):=(allNews g h L).filter fun p=>decide (p.1≠d)
structure Mod(K:yg)(mg:Str->Option Value)(base:Heap):Prop where
 kin:K.In base
 glob:base.Ns mainGlobals mg
 blt:∃ mb,base.Ns builtinsNs mb/\∀ x:Str,x≠"__name__"->mb x=bootBuiltins x
 nolimit:base.NoLimit
structure Cx where
 prog:Program
 w:World
 K:yg
 mg:Str->Option Value
 base:Heap
 A:Around
 N:LS
 s₀:Shared
 H₀:Hp
 env:Env
 outer:List Env
 stack:List Env
 ex:LQ
 fn:Str->Bool
 calm:Bool
 pn:List (Addr×Obj)
 xe:Value->Shared->Prop
noncomputable def frs(l:List Env):LQ:=l.filterMap (·.frame)
noncomputable abbrev Cx.fs(X:Cx):LQ:=frs X.outer
def Vis(sc:Scope)(x:Str):Prop:=sc.names.lookup x=some .local\/sc.names.lookup x=some .cell\/sc.names.lookup x=some .free
def Loc(sc:Scope)(x:Str):Prop:=sc.names.lookup x=some .local\/sc.names.lookup x=some .cell
def Look(env:Env)(h:Heap)(m:Str->Option Value)(x:Str)(u:Value):Prop:=
 (env.kindOf x=some .local/\m x=some u)\/((env.kindOf x=some .cell\/env.kindOf x=some .free)/\∃ c,env.cells.lookup x=some c/\h.IsCell c (some u))
structure Cx.Ok(X:Cx):Prop where
 mod:Mod X.K X.mg X.base
 kind:X.env.scope.kind=.function
 glob:X.env.globals=mainGlobals
 blt:X.env.builtins=builtinsNs
 above:X.s₀.heap.objs.size<=X.env.locals
 inj:∀ x y c,X.env.cells.lookup x=some c->X.env.cells.lookup y=some c->x=y
 has:∀ x,(X.env.kindOf x=some .cell\/X.env.kindOf x=some .free)->∃ c,X.env.cells.lookup x=some c
 cab:∀ x c,X.fn x=true->X.env.cells.lookup x=some c->X.s₀.heap.objs.size<=c
 hd:X.calm=true->X.A.handled=none
 frames:X.A.frames=some X.stack
 stk:X.stack=X.outer\/(X.stack=X.env::X.outer/\X.env.frame=some X.env.locals)
 exf:∀ b∈X.ex,b≠X.env.locals/\∀ x c,X.env.cells.lookup x=some c->c≠b
 bs:∀ b o,X.base.get? b=some o->X.s₀.heap.get? b=some o/\X.H₀ b=none
 bsz:X.base.objs.size<=X.s₀.heap.objs.size
 noex:∀ b o,X.base.get? b=some o->b∉X.ex
 exfs:∀ b∈X.ex,b∉X.fs
 funs:X.s₀.heap.FunFrames X.base X.outer
 frf:∀ b∈X.fs,X.H₀ b=none
structure Inv(X:Cx)(pins:List (Addr×Obj))(σ:List (Option V))(H:Hp)(s:Shared):Prop where
 ok:X.Ok
 os:s.os=X.s₀.os
 bare:AllBare s.gens
 base:Un X.fs X.ex X.H₀ H X.s₀.heap s.heap
 loc:∃ m,s.heap.Ns X.env.locals m/\∀(i:Nat) (x:Str) (v:V),X.N[i]?=some x->σ[i]?=some (some v)->Vis X.env.scope x->∃ u,RelV v u/\Look X.env s.heap m x u
 cell:∀ x c,X.env.cells.lookup x=some c->∃ v,s.heap.IsCell c v
 free:H X.env.locals=none
 freeC:∀ x c,X.env.cells.lookup x=some c->H c=none
 pin:∀ p∈X.pn++pins,s.heap.get? p.1=some p.2/\H p.1=none/\p.1≠X.env.locals/\p.1∉X.fs/\∀ v,p.2.data≠.cell v
 hok:HOk X.prog X.w H s.heap
 len:σ.length=X.N.length
section
variable{X:Cx}{pins:List (Addr×Obj)}{σ:List (Option V)}{H H':Hp}{s:Shared}{h':Heap}
theorem Cx.Ok.nofr(ok:X.Ok){o:Obj}(e:X.base.get? b=some o):b∉X.fs:=fun hb=>by
 have:=(ok.funs.mem hb).1;rw[e] at this;cases this
theorem Inv.bs(I:Inv X pins σ H s):∀ b o,X.base.get? b=some o->s.heap.get? b=some o/\H b=none:=fun b o e =>
 ⟨I.base.keep b o (I.ok.bs b o e).1 (I.ok.bs b o e).2 (I.ok.nofr e) (I.ok.noex b o e),I.base.free b o (I.ok.bs b o e).1 (I.ok.bs b o e).2 (I.ok.noex b o e)⟩
theorem Inv.bk(I:Inv X pins σ H s):∀ b o,X.base.get? b=some o->s.heap.get? b=some o:=fun b o e=>(I.bs b o e).1
theorem Inv.mod(I:Inv X pins σ H s):Mod X.K X.mg X.base:=I.ok.mod
theorem Inv.kIn(I:Inv X pins σ H s):X.K.In s.heap:=I.ok.mod.kin.keeps I.bk
theorem Inv.lt(I:Inv X pins σ H s):X.env.locals<s.heap.objs.size:=let ⟨_,hn,_⟩:=I.loc;hn.lt
theorem Inv.sz(I:Inv X pins σ H s):X.s₀.heap.objs.size<=s.heap.objs.size:=yi I.ok.above (yV I.lt)
theorem Inv.nofs(I:Inv X pins σ H s)(h:s.heap.objs.size<=a):a∉X.fs:=fun hb=>by
 obtain⟨_,o,b,_⟩:=I.ok.funs.mem hb;show absurd (yj (yJ b) (yi I.sz h)) (Yv _)
theorem Inv.cne(I:Inv X pins σ H s):∀ x c,X.env.cells.lookup x=some c->c≠X.env.locals:=fun x c e z=>by
 obtain⟨v,o,f,d⟩:=I.cell x c e;obtain⟨m,⟨g,es,ep,b,a,_⟩,_⟩:=I.loc;rw[z,b] at f;cases f;rw[a] at d;cases d
theorem Inv.funs(I:Inv X pins σ H s):s.heap.FunFrames X.base X.outer:=by
 have all:∀(l:List Env),(∀ b∈frs l,b∈X.fs)->X.s₀.heap.FunFrames X.base l->s.heap.FunFrames X.base l:=by
  intro l
  induction l with
  | nil=>intro _ _;trivial
  | cons env r ih =>
   intro d hl;obtain⟨g,⟨L,o,c,h,i,f⟩,j⟩:=hl;have a:L∈X.fs:=d L (by unfold frs;rw[X2,c];show yE);obtain⟨m,e⟩:=I.base.slot L o i (I.ok.frf L a) a fun z=>I.ok.exfs L z a;show⟨g,⟨L,_,c,h,e,f⟩,ih (fun b hb=>d b (by unfold frs;rw[X2,c];show yy _ hb)) j⟩
 show all X.outer (fun _ hb=>hb) I.ok.funs
theorem Inv.stack(I:Inv X pins σ H s):s.heap.FunFrames X.base X.stack:=by
 rcases I.ok.stk with e | ⟨e,hf⟩
 .rw [e];show I.funs
 .rw [e];obtain⟨m,a,_⟩:=I.loc;show .cons (by rw[I.ok.kind];decide) hf a ?_ I.funs;show Heap.get?_none_of_le (yi I.ok.bsz I.ok.above)
theorem Inv.stkSub(I:Inv X pins σ H s):∀ b∈frs X.stack,b∈X.env.locals::X.fs:=fun b hb=>by
 rcases I.ok.stk with e | ⟨e,hf⟩
 .rw [e] at hb;show yy _ hb
 .rw [e] at hb;unfold frs at hb;rw[X2,hf] at hb;show hb
theorem Inv.stkFree(I:Inv X pins σ H s):∀ b∈frs X.stack,H b=none:=fun b hb=>by
 rcases yA.mp (I.stkSub b hb) with e | hb
 .rw [e];show I.free
 .obtain⟨_,o,a,_⟩:=I.ok.funs.mem hb;show I.base.free b o a (I.ok.frf b hb) fun z=>I.ok.exfs b z hb
theorem Inv.step(I:Inv X pins σ H s)
  (f:∀ b∈ch,(b∈X.ex\/X.s₀.heap.objs.size<=b)/\b≠X.env.locals/\(∀ x c,X.env.cells.lookup x=some c->c≠b)/\∀ p∈X.pn++pins,p.1≠b)
  (keep:∀ b o,b≠X.env.locals->b∉X.fs->b∉ch->s.heap.get? b=some o->H b=none->h'.get? b=some o)
  (t:∀ b o,b≠X.env.locals->b∈X.fs->b∉ch->s.heap.get? b=some o->H b=none->∃ L,h'.get? b=some { o with slots:=L }) (free:∀ b o,b∉ch->s.heap.get? b=some o->H b=none->H' b=none)
  (y:∀ b o,b∉ch->s.heap.get? b=some o->∃ E,h'.get? b=some E)
  (G:∀ b xs,H b=some (.tup xs)->H' b=some (.tup xs)) (C:∀ b o u,H b=some (.frz o u)->H' b=some (.frz o u)) (F:∀ b ps,H b=some (.tbl ps)->∃ more,H' b=some (.tbl (ps++more)))
  (ns:∀ m,s.heap.Ns X.env.locals m->h'.Ns X.env.locals m) (K:HOk X.prog X.w H' h') (R:AllBare g') :
  Inv X pins σ H' { s with heap:=h',gens:=g',drawn:=d',toks:=t' }:=by
 have D:∀ b o,X.s₀.heap.get? b=some o->b≠X.env.locals:=fun b o e=>yF (yj (yJ e) I.ok.above)
 have j:∀ b o,X.s₀.heap.get? b=some o->b∉X.ex->b∉ch:=fun b o e a hb=>by
  rcases(f b hb).1 with z | z
  .show a z
  .show absurd (yj (yJ e) z) (Yv _)
 have cellK:∀ x c,X.env.cells.lookup x=some c->∀ v,s.heap.IsCell c v->h'.IsCell c v:=fun x c e v ⟨o,A,J⟩=>by
  have g:c∉ch:=fun z=>(f c z).2.2.1 x c e rfl;by_cases hc:c∈X.fs
  .obtain⟨L,q⟩:=t c o (I.cne x c e) hc g A (I.freeC x c e);show⟨_,q,J⟩
  .show⟨o,keep c o (I.cne x c e) hc g A (I.freeC x c e),J⟩
 show⟨I.ok,I.os,R,⟨fun b o e n hb a=>?_,fun b o e n hb a=>?_,fun b o e n a=>?_,fun b o e a=>?_,fun b xs e=>G b xs (I.base.tups b xs e),fun b o xs e=>C b o xs (I.base.frzs b o xs e),fun b ps e=>?_⟩,?_,fun x c e=>?_,?_,fun x c e=>?_,fun p N=>?_,K,I.len⟩
 .show keep b o (D b o e) hb (j b o e a) (I.base.keep b o e n hb a) (I.base.free b o e n a)
 .obtain⟨L,h⟩:=I.base.slot b o e n hb a;obtain⟨M,B⟩:=t b _ (D b o e) hb (j b o e a) h (I.base.free b o e n a);show⟨M,B⟩
 .obtain⟨E,h⟩:=I.base.there b o e a;show free b E (j b o e a) h (I.base.free b o e n a)
 .obtain⟨E,h⟩:=I.base.there b o e a;show y b E (j b o e a) h
 .obtain⟨T,h⟩:=I.base.tbls b ps e;obtain⟨U,B⟩:=F b _ h;show⟨T++U,by rw[B,Array.append_assoc]⟩
 .obtain⟨m,S,hl⟩:=I.loc;show⟨m,ns m S,fun i x v h B P=>?_⟩;obtain⟨u,r,l⟩:=hl i x v h B P;show⟨u,r,?_⟩;rcases l with l | ⟨k,c,e,z⟩
  .show .inl l
  .show .inr ⟨k,c,e,cellK x c e _ z⟩
 .obtain⟨v,z⟩:=I.cell x c e;show⟨v,cellK x c e v z⟩
 .obtain⟨m,⟨o,_,_,A,_⟩,_⟩:=I.loc;show free _ o (fun z=>(f _ z).2.1 rfl) A I.free
 .obtain⟨v,o,A,J⟩:=I.cell x c e;show free c o (fun z=>(f c z).2.2.1 x c e rfl) A (I.freeC x c e)
 .obtain⟨e,n,ne,O,d⟩:=I.pin p N;have g:p.1∉ch:=fun z=>(f p.1 z).2.2.2 p N rfl;show⟨keep p.1 p.2 ne O g e n,free p.1 p.2 g e n,ne,O,d⟩
theorem Inv.un(I:Inv X pins σ H s)(u:Un X.fs [] H H' s.heap h')(f:HOk X.prog X.w H' h'):Inv X pins σ H' { s with heap:=h',toks:=t' }:=by
 obtain⟨m,⟨o,es,ep,g,r⟩,_⟩:=id I.loc;obtain⟨p,h⟩:=u.any g I.free (by simp)
 show I.step (g':=s.gens) (d':=s.drawn) (ch:=[]) (fun _ z=>nomatch z) (fun b o _ hb _ e n=>u.keep b o e n hb (by simp)) (fun b o _ hb _ e n=>u.slot b o e n hb (by simp)) (fun b o _ e n=>u.free b o e n (by simp)) (fun b o _ e=>u.there b o e (by simp)) u.tups u.frzs u.tbls (fun j i=>by
  obtain⟨l,d,c,a,r'⟩:=i;rw[g] at a;cases a;show⟨_,d,c,h,r'⟩) f I.bare
theorem Inv.call(I:Inv X pins σ H s)(u:Un (frs X.stack) ch H H' s.heap h')(i:HOk X.prog X.w H' h')(l:AllBare g')
  (a:∀ b∈ch,(b∈X.ex\/X.s₀.heap.objs.size<=b)/\b≠X.env.locals/\(∀ x c,X.env.cells.lookup x=some c->c≠b)/\∀ p∈X.pn++pins,p.1≠b) :
  Inv X pins σ H' { s with heap:=h',gens:=g',drawn:=d',toks:=t' }:=by
 obtain⟨m,⟨o,es,ep,j,r⟩,_⟩:=id I.loc;obtain⟨A,h⟩:=u.any j I.free fun z=>(a _ z).2.1 rfl
 show I.step (ch:=ch) a (fun b o h hb hc e n=>u.keep b o e n (fun z=>(yA.mp (I.stkSub b z)).elim h hb) hc) (fun b o _ _ hc e n=>u.any e n hc) (fun b o hc e n=>u.free b o e n hc) (fun b o hc e=>u.there b o e hc) u.tups u.frzs u.tbls (fun t q=>by
  obtain⟨y,g,f,d,r'⟩:=q;rw[j] at d;cases d;show⟨_,g,f,h,r'⟩) i l
theorem Inv.turned(I:Inv X pins σ H s)(k:∀ b o,b≠it->s.heap.get? b=some o->h'.get? b=some o)(i:H it=none)(d:it≠X.env.locals)
  (h1:it∈X.ex\/X.s₀.heap.objs.size<=it) (f:∀ x c,X.env.cells.lookup x=some c->c≠it) (g:∀ p∈X.pn++pins,p.1≠it):Inv X pins σ H { s with heap:=h',toks:=t' }:=by
 have a:∀ b u,H b=some u->b≠it:=fun b u e z=>by rw[z,i] at e;cases e
 show I.step (g':=s.gens) (d':=s.drawn) (ch:=[it]) (fun b hb=>?_) (fun b o _ _ hc e _=>k b o (fun z=>hc (by simp[z])) e) (fun b o _ _ hc e _=>⟨o.slots,k b o (fun z=>hc (by simp[z])) e⟩) (fun _ _ _ _ n=>n)
  (fun b o hc e=>⟨o,k b o (fun z=>hc (by simp[z])) e⟩) (fun _ _ e=>e) (fun _ _ _ e=>e) (fun b ps e=>⟨#[],by rw[e];simp⟩) (fun m h=>?_) (fun b u e=>?_) I.bare
 .have e:b=it:=by simpa using hb
  subst e;show⟨h1,d,f,g⟩
 .obtain⟨o,es,ep,j,r⟩:=h;show⟨o,es,ep,k _ o (Yn d) j,r⟩
 .show(I.hok b u e).stay (fun c v hc q=>k c v ?_ q) (fun _ q=>q) fun _ _ q=>q;rcases hc with z | z
  .rw [z];show a b u e
  .show a c _ z
theorem Inv.tok(I:Inv X pins σ H s)(t:Nat):Inv X pins σ H { s with toks:=t }:=I.un (h':=s.heap) (t':=t) Un.refl I.hok
theorem Inv.kept(I:Inv X pins σ H s)(k:∀ b u,s.heap.get? b=some u->h'.get? b=some u):Inv X pins σ H { s with heap:=h',toks:=t' }:=I.un (Un.kept k) (I.hok.kept k)
theorem Inv.laid(I:Inv X pins σ H s)(k:∀ b u,s.heap.get? b=some u->h'.get? b=some u)(c:s.heap.objs.size<=a)(new:ObjOk X.prog X.w (upd H a o) h' a o) :
  Inv X pins σ (upd H a o) { s with heap:=h',toks:=t' }:=I.un (Un.laid k c (I.hok.fresh c)) (I.hok.laid k c new)
theorem Inv.write{x e:Addr}(I:Inv X pins σ H s)(d:Mut (H x))(c:e=x\/H e=some (.own x))(k:∀ b u,b≠e->s.heap.get? b=some u->h'.get? b=some u)(a:∃ u,h'.get? e=some u)
  (new:ObjOk X.prog X.w (upd H x o) h' x o):Inv X pins σ (upd H x o) { s with heap:=h',toks:=t' }:=I.un (Un.write d c k a) (I.hok.write d c k a new)
theorem Inv.weak{a:List (Option V)}(I:Inv X pins σ H s)(hl:a.length=σ.length)(w:∀(i:Nat) v,a[i]?=some (some v)->σ[i]?=some (some v)):Inv X pins a H s:=
 ⟨I.ok,I.os,I.bare,I.base,let ⟨m,hn,hl'⟩:=I.loc;⟨m,hn,fun i x v b c d=>hl' i x v b (w i v c) d⟩,I.cell,I.free,I.freeC,I.pin,I.hok,hl.trans I.len⟩
theorem Inv.pins_of{pins':List (Addr×Obj)}(I:Inv X pins σ H s)(h:∀ p∈pins',s.heap.get? p.1=some p.2/\H p.1=none/\p.1≠X.env.locals/\p.1∉X.fs/\∀ v,p.2.data≠.cell v):Inv X pins' σ H s:=
 ⟨I.ok,I.os,I.bare,I.base,I.loc,I.cell,I.free,I.freeC,fun p a=>(yB.mp a).elim (fun z=>I.pin p (yM _ z)) (h p),I.hok,I.len⟩
theorem qde(e:N.Nodup)(a:N[i]?=some x)(b:N[j]?=some x):i=j:=by
 obtain⟨h1,c⟩:=yc.mp a;obtain⟨f,d⟩:=yc.mp b;show(List.getElem_inj e).mp (c.trans d.symm)
theorem qcd{v:V}{Q:Unit->Shared->Prop}(I:Inv X pins σ H s)(hN:X.N.Nodup)(O:X.N[i]?=some x)(t:Loc X.env.scope x)(r:RelV v u)
  (h:∀ s',Inv X pins (σ.set i (some v)) H s'->(∃ a,Heap.SameBut a s.heap s'.heap/\(a=X.env.locals\/X.env.cells.lookup x=some a))->Q () s') (hf:X.fn x=true\/X.env.scope.names.lookup x=some .local:=by first | show .inl rfl | show .inr rfl | assumption):wpAny M A (storeName X.env x u) Q E s:=by
 obtain⟨m,W,hl⟩:=id I.loc;have L:(X.env.scope.kind==.class||(X.env.scope.kind==.module&&X.env.locals != X.env.globals))=false:=by rw[I.ok.kind];rfl
 have D:i<σ.length:=by rw[I.len];show(yc.mp O).1
 have cne:=I.cne
 have l:∀{a:Addr} {h':Heap},(∃ o,s.heap.get? a=some o/\H a=none)->Heap.SameBut a s.heap h'->HOk X.prog X.w H h':=fun{a h'} ha f b ob e=>by
  obtain⟨_,_,B⟩:=ha;show(I.hok b ob e).stay (fun c T hc q=>(f.2 c ?_).trans q) (fun _ q=>q) fun _ _ q=>q;rintro rfl;rcases hc with rfl | hc
  .rw [B] at e;cases e
  .rw [B] at hc;cases hc
 rcases t with hk | hk
 .show wpAny_storeName_local hk W (fun h' Y f=>?_) L;obtain⟨oL,_,_,Z,_⟩:=id W;show h _ ⟨I.ok,I.os,I.bare,⟨fun b o e n hb t=>?_,fun b o e n hb t=>?_,I.base.free,fun b o e t=>?_,I.base.tups,I.base.frzs,I.base.tbls⟩,⟨_,Y,fun j y v' g C U=>?_⟩,fun y c e=>?_,I.free,I.freeC,fun p hp=>?_,l ⟨oL,Z,I.free⟩ f,by simpa using I.len⟩ ⟨_,f,.inl rfl⟩
  .show(f.2 b (yF (yj (yJ e) I.ok.above))).trans (I.base.keep b o e n hb t)
  .obtain⟨sl,g⟩:=I.base.slot b o e n hb t;show⟨sl,(f.2 b (yF (yj (yJ e) I.ok.above))).trans g⟩
  .obtain⟨o',g⟩:=I.base.there b o e t;show⟨o',(f.2 b (yF (yj (yJ e) I.ok.above))).trans g⟩
  .by_cases G:j=i
   .subst G;rw[O] at g;cases g;rw[List.getElem?_set_self D] at C;cases C;show⟨u,r,.inl ⟨hk,by simp⟩⟩
   .rw [xG (Yn G)] at C;obtain⟨u',r',q⟩:=hl j y v' g C U;show⟨u',r',?_⟩;rcases q with⟨k,e⟩ | ⟨k,c,e,z⟩
    .show .inl ⟨k,?_⟩;have:y≠x:=fun e=>G (qde hN g (e ▸ O));simp[this,e]
    .show .inr ⟨k,c,e,z.sameBut f (cne y c e)⟩
  .obtain⟨T,z⟩:=I.cell y c e;show⟨T,z.sameBut f (cne y c e)⟩
  .obtain⟨e,n,ne,nf,d⟩:=I.pin p hp;show⟨(f.2 p.1 ne).trans e,n,ne,nf,d⟩
 .have F:X.fn x=true:=by
   rcases hf with z | z
   .show z
   .rw [z] at hk;cases hk
  obtain⟨c,hc⟩:=I.ok.has x (.inl hk);obtain⟨T,z⟩:=I.cell x c hc;show wpAny_storeName_cell I.ok.kind hk hc z (fun h' J f=>?_);obtain⟨oc,P,R⟩:=id z;show h { s with heap:=h' } ⟨I.ok,I.os,I.bare,⟨fun b o e n hb t=>?_,fun b o e n hb t=>?_,I.base.free,fun b o e t=>?_,I.base.tups,I.base.frzs,I.base.tbls⟩,⟨m,W.sameBut f (Yn (cne x c hc)),fun j y v' g C U=>?_⟩,fun y S e=>?_,I.free,I.freeC,fun p hp=>?_,l ⟨oc,P,I.freeC x c hc⟩ f,by simpa using I.len⟩ ⟨c,f,.inr hc⟩
  .show(f.2 b (yF (yj (yJ e) (I.ok.cab x c F hc)))).trans (I.base.keep b o e n hb t)
  .obtain⟨sl,g⟩:=I.base.slot b o e n hb t;show⟨sl,(f.2 b (yF (yj (yJ e) (I.ok.cab x c F hc)))).trans g⟩
  .obtain⟨o',g⟩:=I.base.there b o e t;show⟨o',(f.2 b (yF (yj (yJ e) (I.ok.cab x c F hc)))).trans g⟩
  .by_cases G:j=i
   .subst G;rw[O] at g;cases g;rw[List.getElem?_set_self D] at C;cases C;show⟨u,r,.inr ⟨.inl hk,c,hc,J⟩⟩
   .rw [xG (Yn G)] at C;obtain⟨u',r',q⟩:=hl j y v' g C U;show⟨u',r',?_⟩;rcases q with q | ⟨k,S,e,z'⟩
    .show .inl q
    .show .inr ⟨k,S,e,z'.sameBut f ?_⟩;rintro rfl;show G (qde hN g (I.ok.inj _ _ _ e hc ▸ O))
  .by_cases K:S=c
   .subst K;show⟨_,J⟩
   .obtain⟨w2,z2⟩:=I.cell y S e;show⟨w2,z2.sameBut f K⟩
  .obtain⟨e,n,ne,nf,d⟩:=I.pin p hp;show⟨(f.2 p.1 ?_).trans e,n,ne,nf,d⟩;intro q;rw[q,P] at e;have q':oc=p.2:=ym e;show d T (by rw[<- q'];show R)
theorem qdf{v:V}{Q:Unit->Shared->Prop}(I:Inv X pins σ H s)(b:X.N.Nodup)(d:X.N[i]?=some x)(e:Loc X.env.scope x)(r:RelV v u)
  (h:∀ s',Inv X pins (σ.set i (some v)) H s'->Q () s') (c:X.fn x=true\/X.env.scope.names.lookup x=some .local:=by first | show .inl rfl | show .inr rfl | assumption):wpAny M A (storeName X.env x u) Q E s:=
 qcd I b d e r (fun s' a _=>h s' a) c
theorem Inv.call'(I:Inv X pins σ H s)(g:s'.os=s.os)(u:Un (frs X.stack) ch H H' s.heap s'.heap)(d:HOk X.prog X.w H' s'.heap)(f:AllBare s'.gens)
  (a:∀ b∈ch,(b∈X.ex\/X.s₀.heap.objs.size<=b)/\b≠X.env.locals/\(∀ x c,X.env.cells.lookup x=some c->c≠b)/\∀ p∈X.pn++pins,p.1≠b):Inv X pins σ H' s':=by
 obtain⟨h',g',d',t',h⟩:=s';have e:h=s.os:=g;subst e;show I.call (g':=g') (t':=t') (d':=d') u d f a
end
abbrev XK:=Value->Option Addr->Hp->Prop
noncomputable abbrev St:=List (Option V)
abbrev VK:=V->Hp->Prop
abbrev TE:=St->Hp->VK->Prop
abbrev TT:=St->Hp->(Bool->Hp->Prop)->Prop
abbrev TA:=St->Hp->(List V->Hp->Prop)->Prop
structure Ends where
 nx:St->Hp->Prop
 rt:VK
 bk:St->Hp->Prop:=fun _ _=>False
 ct:St->Hp->Prop:=fun _ _=>False
abbrev TS:=Ends->St->Hp->Prop
def EP(X:Cx)(pins:List (Addr×Obj))(σ:St)(Q:VK)(u:Value)(s':Shared):Prop:=∃ v H',Inv X pins σ H' s'/\RelV v u/\Q v H'
def TP(X:Cx)(pins:List (Addr×Obj))(σ:St)(Q:Bool->Hp->Prop)(b:Bool)(s':Shared):Prop:=∃ H',Inv X pins σ H' s'/\Q b H'
def AP(X:Cx)(pins:List (Addr×Obj))(σ:St)(Q:List V->Hp->Prop)(us:List Value)(s':Shared):Prop:=∃ vs H',Inv X pins σ H' s'/\Vals vs us/\Q vs H'
def SP(X:Cx)(pins:List (Addr×Obj))(D:Ends)(f:Flow)(s':Shared):Prop:=
 match f with
 | .next=>∃ a H',Inv X pins a H' s'/\D.nx a H'
 | .brk=>∃ a H',Inv X pins a H' s'/\D.bk a H'
 | .cont=>∃ a H',Inv X pins a H' s'/\D.ct a H'
 | .ret u=>∃ v a H',Inv X pins a H' s'/\RelV v u/\D.rt v H'
def PE(X:Cx)(e:Expr)(t:TE):Prop:=
 ∀(pins:List (Addr×Obj)) (s:Shared) (σ:St) (H:Hp) (Q:VK),Inv X pins σ H s->t σ H Q->wpAny (model X.prog X.w) X.A (eval e X.env) (EP X pins σ Q) X.xe s
def PT(X:Cx)(e:Expr)(t:TT):Prop:=
 ∀(pins:List (Addr×Obj)) (s:Shared) (σ:St) (H:Hp) (Q:Bool->Hp->Prop),Inv X pins σ H s->t σ H Q->wpAny (model X.prog X.w) X.A (isTrue e X.env (eval e X.env)) (TP X pins σ Q) X.xe s
def PW(X:Cx)(e:Expr)(t:TT):Prop:=
 ∀(a:Sem Value) (pins:List (Addr×Obj)) (s:Shared) (σ:St) (H:Hp) (Q:Bool->Hp->Prop),Inv X pins σ H s->t σ H Q->wpAny (model X.prog X.w) X.A (isTrue e X.env a) (TP X pins σ Q) X.xe s
theorem PW.pt{t:TT}(h:PW X e t):PT X e t:=h _
def PA(X:Cx)(es:List Expr)(t:TA):Prop:=
 ∀(pos:Pos) (pins:List (Addr×Obj)) (s:Shared) (σ:St) (H:Hp) (Q:List V->Hp->Prop),Inv X pins σ H s->t σ H Q->wpAny (model X.prog X.w) X.A (spliced (backTo pos (starEach es X.env))) (AP X pins σ Q) X.xe s
def PS(X:Cx)(st:Stmt)(t:TS):Prop:=
 ∀(pins:List (Addr×Obj)) (s:Shared) (σ:St) (H:Hp) (D:Ends),Inv X pins σ H s->t D σ H->wpAny (model X.prog X.w) X.A (exec st X.env) (SP X pins D) X.xe s
def PSs(X:Cx)(st:List Stmt)(t:TS):Prop:=
 ∀(pins:List (Addr×Obj)) (s:Shared) (σ:St) (H:Hp) (D:Ends),Inv X pins σ H s->t D σ H->wpAny (model X.prog X.w) X.A (execs st X.env) (SP X pins D) X.xe s
theorem thn{t:Sem α}{Q b:α->Shared->Prop}(h:wpAny M A t Q E s)(c:∀ a s,Q a s->b a s):wpAny M A t b E s:=YW h c fun _ _ x=>x
section
variable{X:Cx}
def qgi(i:Nat):TE:=fun σ H Q=>∃ v,σ[i]?=some (some v)/\Q v H
def tC(v:V):TE:=fun _ H Q=>Q v H
theorem pe_var(g:X.N[i]?=some x)(hv:Vis X.env.scope x)(f:(x==("__debug__":Str))=false:=by decide)(d:(x==("__classdict__":Str))=false:=by decide):PE X (.Name x pos) (qgi i):=by
 intro pins s σ H Q I h;obtain⟨v,e,h⟩:=h;obtain⟨m,n,hl⟩:=I.loc;obtain⟨u,r,l⟩:=hl i x v g e hv;have b:EP X pins σ Q u s:=⟨v,H,I,r,h⟩;rcases l with⟨hk,j⟩ | ⟨hk,c,hc,a⟩
 .show wpAny_Name (wpAny_loadName_local I.ok.kind hk n j b) f
 .rcases hk with hk | hk
  .show wpAny_Name (wpAny_loadName_cell I.ok.kind hk hc a b) f
  .show wpAny_Name (wpAny_loadName_free I.ok.kind hk hc a b d) f
theorem qg{i j pos}:PE X (.Constant (.int i) j pos) (tC (.int i)):=fun _ _ _ H _ I h=>wpAny_Constant_int ⟨.int i,H,I.tok _,⟨_,rfl⟩,h⟩
theorem jH{b j pos}:PE X (.Constant (.bool b) j pos) (tC (.bl b)):=fun _ _ _ H _ I h=>Constant_bool ⟨.bl b,H,I,rfl,h⟩
theorem ju{j pos}:PE X (.Constant .none j pos) (tC .non):=fun _ _ _ H _ I h=>Constant_none ⟨.non,H,I,rfl,h⟩
theorem qaA{x j pos}:PE X (.Constant (.str x) j pos) (tC (.str x)):=fun _ _ _ H _ I h=>Calls.Constant_str ⟨.str x,H,I.tok _,⟨_,rfl⟩,h⟩
def Gl(X:Cx)(x:Str):Prop:=X.env.kindOf x=some .globalImplicit
theorem qcM{Q:Value->Shared->Prop}(I:Inv X pins σ H s)(b:Gl X x)(c:X.mg x=some u)(h:Q u s)
  (a:(x==("__debug__":Str))=false:=by decide):wpAny (model X.prog X.w) X.A (eval (.Name x pos) X.env) Q E s:=
 Calls.Name_function_global I.ok.kind b (Calls.loadGlobal_global (by rw[I.ok.glob];show I.mod.glob.keeps I.bk) c h) a
theorem qa9{Q:Value->Shared->Prop}(I:Inv X pins σ H s)(c:Gl X x)(d:X.mg x=none)(hv:bootBuiltins x=some u)(h:Q u s)
  (e:x≠"__name__":=by decide) (b:(x==("__debug__":Str))=false:=by decide):wpAny (model X.prog X.w) X.A (eval (.Name x pos) X.env) Q E s:=by
 obtain⟨f,h1,a⟩:=I.mod.blt;show Calls.Name_function_global I.ok.kind c (Calls.loadGlobal_builtin (by rw[I.ok.glob];show I.mod.glob.keeps I.bk) d (by rw[I.ok.blt];show h1.keeps I.bk) ((a x e).trans hv) h) b
theorem pe_glob{v:V}(b:Gl X x)(c:X.mg x=some u)(r:RelV v u)(a:(x==("__debug__":Str))=false:=by decide):PE X (.Name x pos) (tC v):=
 fun _ _ _ H _ I h=>qcM I b c ⟨v,H,I,r,h⟩ a
theorem qY{v:V}(b:Gl X x)(c:X.mg x=none)(hv:bootBuiltins x=some u)(r:RelV v u)(d:x≠"__name__":=by decide)(a:(x==("__debug__":Str))=false:=by decide):PE X (.Name x pos) (tC v):=
 fun _ _ _ H _ I h=>qa9 I b c hv ⟨v,H,I,r,h⟩ d a
variable{a b:Expr}{ta tb:TE}{pos:Pos}
def tB(t:TE):TT:=fun σ H Q=>t σ H fun x a=>∃ c,x=.bl c/\Q c a
theorem qO(h:PE X e t)(f:∀ a,isTrue e X.env a=(do let v <- a;standAt e.pos;holding [v] (truthy v)):=by intro _;rfl):PT X e (tB t):=by
 intro pins s σ H Q I hw;show isTrue_plain (thn (h pins s σ H _ I hw) fun v j ⟨x,b,c,i,g⟩=>?_) (f _);obtain⟨d,rfl,q⟩:=g;cases i;show xo ⟨b,c,q⟩
variable{tA tB':TT}{qdX:List Expr}
def qgu(t u:TT):TT:=fun σ H Q=>t σ H fun c a=>if c=true then u σ a Q else Q false a
def tOr(t u:TT):TT:=fun σ H Q=>t σ H fun c a=>if c=true then Q true a else u σ a Q
def qgv(t:TT):TT:=fun σ H Q=>t σ H fun c a=>Q (!c) a
theorem qa1(b:PT X a tA):PW X (.BoolOp .And [a] pos) tA:=by
 intro f pins s σ H Q I h;show isTrue_and (thn (b pins s σ H Q I h) fun c d e=>?_)
 cases c with
 | true=>show isTrue_and_nil e
 | false=>show e
theorem zn(b:PT X a tA):PW X (.BoolOp .Or [a] pos) tA:=by
 intro f pins s σ H Q I h;show isTrue_or (thn (b pins s σ H Q I h) fun c d e=>?_)
 cases c with
 | false=>show isTrue_or_nil e
 | true=>show e
theorem qbm(g:PT X a tA)(hb:PW X (.BoolOp .And (b::qdX) pos) tB'):PW X (.BoolOp .And (a::b::qdX) pos) (qgu tA tB'):=by
 intro j pins s σ H Q I h;show isTrue_and (thn (g pins s σ H _ I h) fun c i ⟨d,e,f⟩=>?_)
 cases c with
 | true=>show hb j pins i σ d Q e f
 | false=>show⟨d,e,f⟩
theorem zK(g:PT X a tA)(hb:PW X (.BoolOp .Or (b::qdX) pos) tB'):PW X (.BoolOp .Or (a::b::qdX) pos) (tOr tA tB'):=by
 intro j pins s σ H Q I h;show isTrue_or (thn (g pins s σ H _ I h) fun c i ⟨d,e,f⟩=>?_)
 cases c with
 | true=>show⟨d,e,f⟩
 | false=>show hb j pins i σ d Q e f
theorem qX(d:PT X a tA):PT X (.UnaryOp .Not a pos) (qgv tA):=by
 intro pins s σ H Q I h;show isTrue_not (d pins s σ H (fun c b=>Q (!c) b) I h)
def qfH(ta tb:TE):TE:=fun σ H Q=>ta σ H fun x a=>∃ c,x=.bl c/\if c=true then tb σ a Q else Q (.bl false) a
def tOrV(ta tb:TE):TE:=fun σ H Q=>ta σ H fun x a=>∃ c,x=.bl c/\if c=true then Q (.bl true) a else tb σ a Q
def qfI(ta:TE):TE:=fun σ H Q=>ta σ H fun x a=>∃ c,x=.bl c/\Q (.bl (!c)) a
theorem qaB{op}(h:PE X a t):PE X (.BoolOp op [a] pos) t:=fun pins s σ H Q I hw=>BoolOp_one (h pins s σ H Q I hw)
theorem qaC(g:PE X a ta)(hb:PE X (.BoolOp .And (b::qdX) pos) tb):PE X (.BoolOp .And (a::b::qdX) pos) (qfH ta tb):=by
 intro pins s σ H Q I h;show BoolOp_and (thn (g pins s σ H _ I h) fun v j ⟨x,e,f,i,d⟩=>?_);obtain⟨c,rfl,d⟩:=d;cases i;show xo ?_
 cases c with
 | true=>show hb pins j σ e Q f d
 | false=>show⟨.bl false,e,f,rfl,d⟩
theorem pe_not(f:PE X a ta):PE X (.UnaryOp .Not a pos) (qfI ta):=by
 intro pins s σ H Q I h;show UnaryOp_ (thn (f pins s σ H _ I h) fun v i ⟨x,d,e,g,b⟩=>?_);obtain⟨c,rfl,b⟩:=b;cases g;show not_of (xo ⟨.bl (!c),d,e,rfl,b⟩)
def tIf(t:TT)(ta tb:TE):TE:=fun σ H Q=>t σ H fun c a=>if c=true then ta σ a Q else tb σ a Q
theorem qbT(hc:PT X c tA)(j:PE X a ta)(hb:PE X b tb):PE X (.IfExp c a b pos) (tIf tA ta tb):=by
 intro pins s σ H Q I h;show wpAny_IfExp (thn (hc pins s σ H _ I h) fun d i ⟨e,f,g⟩=>?_)
 cases d with
 | true=>show j pins i σ e Q f g
 | false=>show hb pins i σ e Q f g
end
def SqL(K:yg)(H:Hp)(a:Addr)(xs:List V):Prop:=
 Rd H a (.lst xs) \/
  ∃(o:Obj) (b:Array Value) (n:Nat),K.lookup a=some o/\o.cls=.type "list"/\o.dict=none/\o.data=.seq b n/\b.size<=sizeLine/\Vals xs b.toList
def SqT(K:yg)(H:Hp)(a:Addr)(xs:List V):Prop:=
 Rd H a (.tup xs) \/
  ∃(o:Obj) (b:Array Value) (n:Nat),K.lookup a=some o/\o.cls=.type "tuple"/\o.data=.seq b n/\b.size<=sizeLine/\Vals xs b.toList
noncomputable def absV:Value->Option V
 | .none=>some .non
 | .bool b=>some (.bl b)
 | .int i _=>some (.int i)
 | .str x _=>some (.str x)
 | .bytes b _=>some (.byt b)
 | .float b _=>some (.flt b)
 | .ref a=>some (.ref a)
 | .type n=>some (.ty n)
 | _=>none
theorem RelV.abs{x:V}(r:RelV x u):absV u=some x:=by
 cases x with
 | non=>cases r;rfl
 | bl _=>cases r;rfl
 | int _=>obtain⟨t,rfl⟩:=r;rfl
 | str _=>obtain⟨t,rfl⟩:=r;rfl
 | byt _=>obtain⟨t,rfl⟩:=r;rfl
 | flt _=>obtain⟨t,rfl⟩:=r;rfl
 | ref _=>cases r;rfl
 | ty _=>cases r;rfl
theorem RelV.inj{x:V}(r:RelV x u)(q:RelV y u):x=y:=ym (r.abs.symm.trans q.abs)
theorem Vals.inj:∀{xs ys:List V} {us:List Value},Vals xs us->Vals ys us->xs=ys
 | _,_,_,.nil,.nil=>rfl
 | _,_,_,.cons r t,.cons r' t'=>by rw[r.inj r',Vals.inj t t']
section
variable{X:Cx}{pins:List (Addr×Obj)}{σ:St}{H:Hp}{s:Shared}{a:Addr}{xs ys:List V}
theorem SqL.of{K:yg}(h:H a=some (.lst xs)):SqL K H a xs:=.inl (.inl h)
theorem SqT.of{K:yg}(h:H a=some (.tup xs)):SqT K H a xs:=.inl (.inl h)
theorem Inv.list(I:Inv X pins σ H s)(h:SqL X.K H a xs):∃ b:List Value,Vals xs b/\PlainL s.heap a b.toArray/\xs.length<=sizeLine:=by
 rcases h with h | ⟨o,b,n,hk,hc,hd,hs,hz,r⟩
 .obtain⟨z,b,n,r,e⟩:=h.ok I.hok;show⟨b,r,⟨_,n,e,rfl,rfl,rfl⟩,z⟩
 .show⟨b.toList,r,⟨o,n,I.kIn a o hk,hc,hd,by simpa using hs⟩,?_⟩;have e:=r.length;simp only[xL] at e;lk
theorem Inv.tuple(I:Inv X pins σ H s)(h:SqT X.K H a xs):∃ b:List Value,Vals xs b/\IsTup s.heap a b.toArray/\xs.length<=sizeLine:=by
 rcases h with h | ⟨o,b,n,hk,hc,hs,hz,r⟩
 .obtain⟨z,b,r,p⟩:=h.ok I.hok;show⟨b,r,p,z⟩
 .show⟨b.toList,r,⟨o,I.kIn a o hk,hc,n,by simpa using hs⟩,?_⟩;have e:=r.length;simp only[xL] at e;lk
theorem Inv.list_inj(I:Inv X pins σ H s)(h:SqL X.K H a xs)(h':SqL X.K H a ys):xs=ys:=by
 obtain⟨b,r,⟨o,n,e,_,_,d⟩,_⟩:=I.list h;obtain⟨its',r',⟨g,f,c,_,_,d'⟩,_⟩:=I.list h';rw[e] at c;cases c;rw[d] at d'
 injection d' with d1 _
 have:b=its':=by simpa using congrArg Array.toList d1
 subst this;show r.inj r'
theorem Inv.tuple_inj(I:Inv X pins σ H s)(h:SqT X.K H a xs)(h':SqT X.K H a ys):xs=ys:=by
 obtain⟨b,r,⟨o,e,_,n,d⟩,_⟩:=I.tuple h;obtain⟨its',r',⟨g,c,_,f,d'⟩,_⟩:=I.tuple h';rw[e] at c;cases c;rw[d] at d'
 injection d' with d1 _
 have:b=its':=by simpa using congrArg Array.toList d1
 subst this;show r.inj r'
end
noncomputable abbrev Cx.wish(X:Cx)(E:Value->Shared->Prop):Cx:={ X with xe:=E }
noncomputable abbrev Cx.nox(X:Cx):Cx:=X.wish fun _ _=>False
theorem Cx.Ok.wish(ok:X.Ok)(E:Value->Shared->Prop):(X.wish E).Ok:=
 ⟨ok.mod,ok.kind,ok.glob,ok.blt,ok.above,ok.inj,ok.has,ok.cab,ok.hd,ok.frames,ok.stk,ok.exf,ok.bs,ok.bsz,ok.noex,ok.exfs,ok.funs,ok.frf⟩
theorem Cx.Ok.unwish(ok:(X.wish E).Ok):X.Ok:=
 ⟨ok.mod,ok.kind,ok.glob,ok.blt,ok.above,ok.inj,ok.has,ok.cab,ok.hd,ok.frames,ok.stk,ok.exf,ok.bs,ok.bsz,ok.noex,ok.exfs,ok.funs,ok.frf⟩
section
variable{X:Cx}{pins:List (Addr×Obj)}{σ:St}{H:Hp}{s:Shared}{E:Value->Shared->Prop}
theorem Inv.wish(I:Inv X pins σ H s)(E:Value->Shared->Prop):Inv (X.wish E) pins σ H s:=⟨I.ok.wish E,I.os,I.bare,I.base,I.loc,I.cell,I.free,I.freeC,I.pin,I.hok,I.len⟩
theorem Inv.unwish(I:Inv (X.wish E) pins σ H s):Inv X pins σ H s:=⟨I.ok.unwish,I.os,I.bare,I.base,I.loc,I.cell,I.free,I.freeC,I.pin,I.hok,I.len⟩
theorem SP.unwish{f:Flow}(h:SP (X.wish E) pins D f s'):SP X pins D f s':=by
 cases f with
 | next=>obtain⟨a,H',I,q⟩:=h;show⟨a,H',I.unwish,q⟩
 | brk=>obtain⟨a,H',I,q⟩:=h;show⟨a,H',I.unwish,q⟩
 | cont=>obtain⟨a,H',I,q⟩:=h;show⟨a,H',I.unwish,q⟩
 | ret u=>obtain⟨v,a,H',I,r,q⟩:=h;show⟨v,a,H',I.unwish,r,q⟩
theorem PSs.nox{st:List Stmt}{t:TS}(h:PSs X.nox st t):PSs X st t:=fun pins s σ H D I hw =>
 YW (h pins s σ H D (I.wish _) hw) (fun _ _ q=>q.unwish) fun _ _ z=>False.elim z
end
section
variable{X:Cx}{st:Stmt}{qdX:List Stmt}{t u:TS}{e:Expr}{te:TE}{pos:Pos}
def qfJ:TS:=fun D σ H=>D.nx σ H
def qgj(t u:TS):TS:=fun D σ H=>t { D with nx:=u D } σ H
theorem qr:PSs X [] qfJ:=fun _ _ σ H _ I h=>XR ⟨σ,H,I,h⟩
theorem qc(h1:PS X st t)(c:PSs X qdX u):PSs X (st::qdX) (qgj t u):=by
 intro pins s σ H D I h;show wpAny_execs_cons (thn (h1 pins s σ H { D with nx:=u D } I h) fun f d q=>?_)
 cases f with
 | next =>
  obtain⟨a,H',b,q⟩:=q;show c pins d a H' D b q
 | ret v=>show q
 | brk=>show q
 | cont=>show q
theorem qe(h1:PS X st t):PSs X [st] t:=by
 intro pins s σ H D I h;show wpAny_execs_cons (thn (h1 pins s σ H D I h) fun f a q=>?_)
 cases f with
 | next=>show XR q
 | ret v=>show q
 | brk=>show q
 | cont=>show q
theorem Inv.quiet(I:Inv X pins σ H s):interactive X.env=false:=by simp[interactive,I.ok.kind]
def qfK(te:TE):TS:=fun D σ H=>te σ H fun _ a=>D.nx σ a
theorem qU(c:PE X e te)(d:swapsWith e none pos.line X.env=pure false:=by rfl):PS X (.Expr e pos) (qfK te):=by
 intro pins s σ H D I h;show wpAny_Expr_any (thn (c pins s σ H _ I h) fun v i ⟨x,a,b,g,f⟩=>⟨σ,a,b,f⟩) I.quiet d
def qgw(te:TE):TS:=fun D σ H=>te σ H D.rt
theorem qm(c:PE X e te):PS X (.Return (some e) pos) (qgw te):=by
 intro pins s σ H D I h;show wpAny_Return_some (thn (c pins s σ H _ I h) fun v g ⟨x,a,b,f,d⟩=>⟨x,σ,a,b,f,d⟩)
def qfL:TS:=fun D _ H=>D.rt .non H
theorem ps_retN:PS X (.Return none pos) qfL:=fun _ _ σ H _ I h=>wpAny_Return_none ⟨.non,σ,H,I,rfl,h⟩
def qgx(c:TT)(t u:TS):TS:=fun D σ H=>c σ H fun b a=>if b=true then t D σ a else u D σ a
theorem qH{a b:List Stmt}(hc:PT X c tc)(j:PSs X a t)(hb:PSs X b u):PS X (.If c a b pos) (qgx tc t u):=by
 intro pins s σ H D I h;show wpAny_If (thn (hc pins s σ H _ I h) fun d i ⟨e,f,g⟩=>?_)
 cases d with
 | true=>show j pins i σ e D f g
 | false=>show hb pins i σ e D f g
def tNever:TS:=fun _ _ _=>False
theorem jr:PS X st tNever:=fun _ _ _ _ _ _ h=>h.elim
end
abbrev TG:=V->St->Hp->(St->Hp->Prop)->Prop
abbrev TGs:=List V->St->Hp->(St->Hp->Prop)->Prop
def PG(X:Cx)(a:Expr)(t:TG):Prop:=
 ∀(pins:List (Addr×Obj)) (s:Shared) (σ:St) (H:Hp) (v:V) (u:Value) (Q:St->Hp->Prop),Inv X pins σ H s->RelV v u->t v σ H Q ->
  wpAny (model X.prog X.w) X.A (assign a X.env u) (fun _ s'=>∃ b H',Inv X pins b H' s'/\Q b H') X.xe s
def PGs(X:Cx)(b:List Expr)(t:TGs):Prop:=
 ∀(pins:List (Addr×Obj)) (s:Shared) (σ:St) (H:Hp) (vs:List V) (us:List Value) (Q:St->Hp->Prop),Inv X pins σ H s->Vals vs us->t vs σ H Q ->
  wpAny (model X.prog X.w) X.A (assignInOrder ((assignEach b X.env).map (·.2)) us) (fun _ s'=>∃ a H',Inv X pins a H' s'/\Q a H') X.xe s
abbrev qfM:=V->V->V->Hp->(Hp->Prop)->Prop
def qgk(X:Cx)(t:qfM):Prop:=
 ∀(pins:List (Addr×Obj)) (s:Shared) (σ:St) (H:Hp) (o i v:V) (b a u:Value) (Q:Hp->Prop),Inv X pins σ H s->RelV o b->RelV i a->RelV v u->t o i v H Q ->
  wpAny (model X.prog X.w) X.A (setItem b a u) (fun _ s'=>∃ H',Inv X pins σ H' s'/\Q H') X.xe s
section
variable{X:Cx}{pos:Pos}
def qbU(i:Nat):TG:=fun v σ H Q=>Q (σ.set i (some v)) H
theorem qt(b:X.N.Nodup)(d:X.N[i]?=some x)(e:Loc X.env.scope x)(c:X.fn x=true\/X.env.scope.names.lookup x=some .local:=by first | show .inl rfl | show .inr rfl | assumption):PG X (.Name x pos) (qbU i):=by
 intro pins s σ H v u Q I r h;show wpAny_assign_Name (qdf I b d e r (fun s' a=>⟨_,H,a,h⟩) c)
def qgy:TGs:=fun vs σ H Q=>vs=[]/\Q σ H
def qfm(t:TG)(u:TGs):TGs:=fun vs σ H Q=>∃ v r,vs=v::r/\t v σ H fun a H'=>u r a H' Q
theorem qbn:PGs X [] qgy:=by
 intro pins s σ H vs us Q I r h;obtain⟨e,h⟩:=h;subst e;cases r;show assignInOrder_nil ⟨σ,H,I,h⟩
theorem jI{t:TG}{u:TGs}(h1:PG X e t)(f:PGs X es u)
  (g:(assignEach (e::es) X.env).map (·.2)=assign e X.env::(assignEach es X.env).map (·.2):=by rfl):PGs X (e::es) (qfm t u):=by
 intro pins s σ H vs us Q I r h;obtain⟨v,l,d,h⟩:=h;subst d
 cases r with
 | cons r rr =>
  rw[g];show assignInOrder_cons (thn (h1 pins s σ H _ _ _ I r h) fun _ j ⟨a,b,c,i⟩=>?_);show f pins j a b _ _ Q c rr i
def qge(K:yg)(n:Nat)(t:TGs):TG:=fun v σ H Q=>∃ a xs,v=.ref a/\SqT K H a xs/\xs.length=n/\t xs σ H Q
theorem qce{k:Nat}{t:TGs}(hc:X.calm=true)(h:PGs X es t)
  (i:(assignEach es X.env).length=n:=by rfl) (c:(assignEach es X.env).findIdx? (·.1)=none:=by rfl):PG X (.Tuple es k pos) (qge X.K n t):=by
 intro pins s σ H v u Q I r hw;obtain⟨a,xs,g,j,hl,hw⟩:=hw;subst g;cases r;obtain⟨p,d,l,hz⟩:=I.tuple j;show assign_Tuple_tuple (I.ok.hd hc) l (by simp[i,<- hl,d.length]) c fun h' m=>?_;have f:Inv X pins σ H { s with heap:=h' }:=I.kept (t':=s.toks) fun b o e=>m b o (yF (yJ e)) e;show h pins _ σ H xs _ Q f (by simpa using d) hw
def qgz(to d:TE)(t:qfM):TG:=fun v σ H Q=>to σ H fun o a=>d σ a fun i b=>t o i v b fun c=>Q σ c
theorem j7{o i:Expr}{to c:TE}{t:qfM}(p:PE X o to)(n:PE X i c)(q:qgk X t)
  (m:∀ v,assign (.Subscript o i pos) X.env v=(do
   let a <- holding [v] (eval o X.env);let b <- holding [v,a] (eval i X.env)
   standAt pos
   holding [v,a,b] (setItem a b v)
   release [v,a,b] []):=by intro _;rfl):PG X (.Subscript o i pos) (qgz to c t):=by
 intro pins s σ H v u Q I r h;rw[m];show yr (Yk (thn (p pins s σ H _ I h) fun a D ⟨x,d,g,B,w⟩=>?_));show yr (Yk (thn (n pins D σ d _ g w) fun b E ⟨y,e,j,C,z⟩=>?_));show yr (kx (yr (Yk (thn (q pins E σ e x y v a b u _ j B C r z) fun _ F ⟨f,l,A⟩=>?_))));show wpAny_release ⟨σ,f,l,A⟩
def qfn(te:TE)(g:TG):TS:=fun D σ H=>te σ H fun x a=>g x σ a D.nx
theorem jQ(c:PE X e te)(d:PG X tg g)(f:swapsWithSole [tg] e pos.line X.env=pure false:=by rfl)(hw:swappedStores [tg] e X.env=pure none:=by rfl)
  (h1:(assignEach [tg] X.env).map (·.2)=[assign tg X.env]:=by rfl):PS X (.Assign [tg] e pos) (qfn te g):=by
 intro pins s σ H D I h;show wpAny_Assign_stores (thn (c pins s σ H _ I h) fun v l ⟨x,a,b,j,i⟩=>?_) f hw;rw[h1];show thn (d pins l σ a x v _ b j i) fun _ m q=>q
theorem qo{a:Pos}(f:X.N.Nodup)(l:X.N[i]?=some x)(n:Loc X.env.scope x)(g:PE X e te)(m:swapsWith e (some (.Name x a)) pos.line X.env=pure false:=by rfl)(j:X.fn x=true\/X.env.scope.names.lookup x=some .local:=by first | show .inl rfl | show .inr rfl | assumption) :
  PS X (.Assign [.Name x a] e pos) (qfn te (qbU i)):=by
 intro pins s σ H D I h;show wpAny_Assign_Name (thn (g pins s σ H _ I h) fun v q ⟨y,b,c,p,o⟩=>?_) m;show qdf c f l n p (fun r d=>⟨_,b,d,o⟩) j
end
section
variable{X:Cx}{pos:Pos}
def tWhile(c:TT)(tb:TS):TS:=fun D σ H=>∃ W:Nat->St->Hp->Prop,(∃ m,W m σ H)/\∀ m σ H,W m σ H ->
 c σ H fun b d=>if b=true then ∃ N:St->Hp->Prop,(∀ a H',N a H'->∃ e,e<m/\W e a H')/\tb { D with nx:=N,ct:=N,bk:=D.nx } σ d else D.nx σ d
theorem qaK(x:PassesOwn (model X.prog X.w) X.A X.env X.xe)(hc:PT X c tc)(hb:PSs X body tb):PS X (.While c body [] pos) (tWhile tc tb):=by
 intro pins s σ H D I h;obtain⟨W,⟨z,E⟩,turn⟩:=h;show wpAny_While (codeAny_whileLoop (fun n s'=>∃ g H',Inv X pins g H' s'/\W n g H') ?_ z ⟨σ,H,I,E⟩);rintro n B ⟨d,q,y,F⟩;show xD x (thn (hc pins B d q _ y (turn n d q F)) fun b C ⟨r,t,i⟩=>?_)
 cases b with
 | true =>
  obtain⟨N,u,i⟩:=i;rw[yG rfl];show xD x (thn (hb pins C d r _ t i) fun f G j=>?_)
  cases f with
  | next =>
   obtain⟨a,e,l,p⟩:=j;obtain⟨o,m,w3⟩:=u a e p;show⟨o,m,a,e,l,w3⟩
  | cont =>
   obtain⟨a,e,l,p⟩:=j;obtain⟨o,m,w3⟩:=u a e p;show⟨o,m,a,e,l,w3⟩
  | brk=>show j
  | ret v=>show j
 | false =>
  rw[yC Yr];show XR ⟨d,r,t,i⟩
end
structure It where
 go:Nat->Hp->Prop
 yld:Nat->Hp->V->Hp->Prop
 stop:Nat->Hp->Prop
def qcN(X:Cx)(pins:List (Addr×Obj))(H:Hp)(b:Addr):Prop:=
 H b=none/\b≠X.env.locals/\b∉X.fs/\(b∈X.ex\/X.s₀.heap.objs.size<=b)/\(∀ x c,X.env.cells.lookup x=some c->c≠b)/\∀ p∈X.pn++pins,p.1≠b
theorem Inv.fpOk{H':Hp}(I:Inv X pins σ H s)(hb:s.heap.objs.size<=b)(a:H' b=none):qcN X pins H' b:=by
 show⟨a,Yq (yj I.lt hb),I.nofs hb,.inr (yi I.sz hb),fun x c e z=>?_,fun p d z=>?_⟩
 .obtain⟨v,q⟩:=I.cell x c e;show absurd (yj q.lt (by rw[z];show hb)) (Yv _)
 .show absurd (yj (yJ (I.pin p d).1) (by rw[z];show hb)) (Yv _)
structure Turn(P:Program)(w:World)(K:yg)(tg:Expr)(J:It)(fp:LQ)(it:Addr)(tn:Nat->Heap->Prop):Prop where
 mem:it∈fp
 obj:∀ i h,tn i h->∀ b∈fp,∃ o,h.get? b=some o/\∀ v,o.data≠.cell v
 keep:∀ i h h',tn i h->(∀ b∈fp,∀ o,h.get? b=some o->h'.get? b=some o)->tn i h'
 item:∀(X:Cx),X.prog=P->X.w=w->X.K=K->X.calm=true->∀(i:Nat) (pins:List (Addr×Obj)) (s:Shared) (σ:St) (H:Hp) (E:Value->Shared->Prop),Inv X pins σ H s->(∀ b∈fp,qcN X pins H b)->tn i s.heap->J.go i H ->
  wpAny (model P w) X.A (pyNext (.ref it)) (fun r s1=>∃ u,r=some u /\
   wpAny (model P w) X.A (letOwnedTupleGo tg (.ref it) u) (fun _ s2=>∃ x H',Inv X pins σ H' s2/\RelV x u/\J.yld i H x H'/\tn (i+1) s2.heap/\∀ b∈fp,H' b=none) E s1) E s
 done:∀(X:Cx),X.prog=P->X.w=w->X.K=K->X.calm=true->∀(i:Nat) (pins:List (Addr×Obj)) (s:Shared) (σ:St) (H:Hp) (E:Value->Shared->Prop),Inv X pins σ H s->(∀ b∈fp,qcN X pins H b)->tn i s.heap->J.stop i H ->
  wpAny (model P w) X.A (pyNext (.ref it)) (fun r s1=>r=none/\Inv X pins σ H s1) E s
 self:∀(A:Around) (i:Nat) (s:Shared) (Q:Value->Shared->Prop) (E:Value->Shared->Prop),tn i s.heap->Q (.ref it) s->wpAny (model P w) A (pyIter (.ref it)) Q E s
abbrev TI:=St->Hp->(It->Hp->Prop)->Prop
def PIE(X:Cx)(pins:List (Addr×Obj))(σ:St)(tg:Expr)(R:It->Hp->Prop)(a:Value)(c:Shared):Prop:=
 ∃(it:Addr) (fp:LQ) (tn:Nat->Heap->Prop) (J:It) (H':Hp),a=.ref it/\Inv X pins σ H' c/\Turn X.prog X.w X.K tg J fp it tn/\tn 0 c.heap/\(∀ b∈fp,qcN X pins H' b)/\R J H'
def PI(X:Cx)(tg a:Expr)(c:TI):Prop:=
 ∀(pins:List (Addr×Obj)) (s:Shared) (σ:St) (H:Hp) (R:It->Hp->Prop),Inv X pins σ H s->c σ H R ->
  wpAny (model X.prog X.w) X.A (eval a X.env) (fun v b=>wpAny (model X.prog X.w) X.A (pyIter v) (PIE X pins σ tg R) X.xe b) X.xe s
theorem qfo{o:Obj}{n:String}{vs:Array Value}{Q:Unit->Shared->Prop}(d:s.heap.get? it=some o)(hc:o.cls=.type n)(b:o.data=.fields vs)
    (c:["enumerate","zip","dict_itemiterator","dict_reverseitemiterator","odict_iterator","itertools.zip_longest","itertools.pairwise"].contains n=false) (a:Q () s):wpAny M A (letOwnedTupleGo tg (.ref it) u) Q E s:=by
  unfold letOwnedTupleGo;cases tg<;>first
    | show yu a
    | (cases u<;>first
        | show yu a
        | (show yr (wpAny_load d ?_)
           rw[hc,b];show wpAny M A (if (["enumerate","zip","dict_itemiterator","dict_reverseitemiterator","odict_iterator","itertools.zip_longest","itertools.pairwise"].contains n&&vs[0]?==some (rawInt _))=true then _ else _) Q E s;rw[yC (by intro h;rw[c,kX] at h;cases h)];show yu a))
noncomputable def Itl(K:yg)(a:Addr):It:=
 ⟨fun i H=>∃ xs x,SqL K H a xs/\xs[i]?=some x,fun i H x H'=>H'=H/\∀ xs,SqL K H a xs->xs[i]?=some x,fun i H=>∃ xs,SqL K H a xs/\xs.length<=i⟩
noncomputable def Itt(K:yg)(a:Addr):It:=
 ⟨fun i H=>∃ xs x,SqT K H a xs/\xs[i]?=some x,fun i H x H'=>H'=H/\∀ xs,SqT K H a xs->xs[i]?=some x,fun i H=>∃ xs,SqT K H a xs/\xs.length<=i⟩
noncomputable def Itr(lo:Int)(n:Nat):It:=⟨fun i _=>i<n,fun i H x H'=>H'=H/\x=.int (lo+i),fun i _=>n<=i⟩
theorem qcf{K:yg}(a it:Addr):Turn P w K tg (Itl K a) [it] it (fun i h=>h.IsListIter it a i) where
 mem:=by simp
 obj:=fun i h st b hb=>by
  have e:b=it:=by simpa using hb
  subst e;obtain⟨o,e,c,d⟩:=st;show⟨o,e,fun v z=>by rw[d] at z;cases z⟩
 keep:=fun i h h' st k=>st.at fun o e=>k it (by simp) o e
 item:=by
  intro X y hw t hc i pins s σ H E I g st A;subst y hw t;obtain⟨xs,x,j,B⟩:=A;obtain⟨C,D,p,hz⟩:=I.list j;obtain⟨u,L,N⟩:=D.get B;obtain⟨l,m,J,n,q,r⟩:=g it (by simp);show wpAny_pyNext_list_item st p.isList (x:=u) (by simpa using L) fun h' f O=>?_;have F:Inv X pins σ H { s with heap:=h' }:=I.turned (t':=s.toks) (fun b o hb e=>(O.2 b hb).trans e) l m n q r;obtain⟨o,e,c,d⟩:=id f;show⟨u,rfl,qfo (s:={ s with heap:=h' }) e c d (by decide) ⟨x,H,F,N,⟨rfl,fun ys M=>by rw[I.list_inj M j];show B⟩,f,fun b hb=>(g b hb).1⟩⟩
 done:=by
  intro X y hw t hc i pins s σ H E I g st A;subst y hw t;obtain⟨xs,j,B⟩:=A;obtain⟨C,D,p,hz⟩:=I.list j;obtain⟨l,m,J,n,q,r⟩:=g it (by simp);have hl:=D.length;show wpAny_pyNext_list_end (I.ok.hd hc) st p.isList (by simp;lk) fun h' G=>⟨rfl,I.turned (t':=s.toks) (fun b o hb e=>G b o hb e) l m n q r⟩
 self:=fun _ _ _ _ _ st h=>wpAny_pyIter_listiter st h
theorem turn_tuple{K:yg}(a it:Addr):Turn P w K tg (Itt K a) [it] it (fun i h=>h.IsTupleIter it a i) where
 mem:=by simp
 obj:=fun i h st b hb=>by
  have e:b=it:=by simpa using hb
  subst e;obtain⟨o,e,c,d⟩:=st;show⟨o,e,fun v z=>by rw[d] at z;cases z⟩
 keep:=fun i h h' st k=>st.at fun o e=>k it (by simp) o e
 item:=by
  intro X A hw y hc i pins s σ H E I j st B;subst A hw y;obtain⟨xs,x,l,C⟩:=B;obtain⟨f,D,p,hz⟩:=I.tuple l;obtain⟨u,L,N⟩:=D.get C;obtain⟨m,n,J,q,r,t⟩:=j it (by simp);show wpAny_pyNext_tuple_item st (show s.heap.IsTuple a f.toArray from p) (x:=u) (by simpa using L) fun h' g O=>?_;have F:Inv X pins σ H { s with heap:=h' }:=I.turned (t':=s.toks) (fun b o hb e=>(O.2 b hb).trans e) m n q r t;obtain⟨o,e,c,d⟩:=id g;show⟨u,rfl,qfo (s:={ s with heap:=h' }) e c d (by decide) ⟨x,H,F,N,⟨rfl,fun ys M=>by rw[I.tuple_inj M l];show C⟩,g,fun b hb=>(j b hb).1⟩⟩
 done:=by
  intro X A hw y hc i pins s σ H E I j st B;subst A hw y;obtain⟨xs,l,C⟩:=B;obtain⟨f,D,p,hz⟩:=I.tuple l;obtain⟨m,n,J,q,r,t⟩:=j it (by simp);have hl:=D.length;show wpAny_pyNext_tuple_end (I.ok.hd hc) st (show s.heap.IsTuple a f.toArray from p) (by simp;lk) fun h' G=>⟨rfl,I.turned (t':=s.toks) (fun b o hb e=>G b o hb e) m n q r t⟩
 self:=fun _ _ _ _ _ st h=>wpAny_pyIter_tupleiter st h
theorem turn_range{K:yg}(it:Addr)(lo:Int)(n:Nat):Turn P w K tg (Itr lo n) [it] it (fun i h=>IsRangeIter h it (lo+(i:Nat)*1) ((n:Int)-(i:Nat)) 1) where
 mem:=by simp
 obj:=fun i h st b hb=>by
  have e:b=it:=by simpa using hb
  subst e
  show⟨_,st,fun v z=>by
   have A:Data.fields _=Data.cell v:=z;cases A⟩
 keep:=fun i h h' st k=>k it (by simp) _ st
 item:=by
  intro X p hw m hc i pins s σ H E I c st q;subst p hw m;obtain⟨d,f,x,g,j,l⟩:=c it (by simp);have W:=Walks.range (prog:=X.prog) (w:=X.w) (I.ok.hd hc) it lo 1 n;show W.item i s _ _ q st fun v h' tk hv a y=>?_;obtain⟨t,rfl⟩:=hv;have r:Inv X pins σ H { s with heap:=h',toks:=tk }:=I.turned (fun b o hb e=>y b o (by simpa using hb) e) d f g j l;show⟨_,rfl,qfo (s:={ s with heap:=h',toks:=tk }) (n:="range_iterator") a rfl rfl (by decide) ⟨.int (lo+i),H,r,⟨t,?_⟩,⟨rfl,rfl⟩,a,fun b hb=>(c b hb).1⟩⟩;rw[Int.mul_one]
 done:=by
  intro X p hw m hc i pins s σ H E I c st q;subst p hw m;obtain⟨d,f,x,g,j,l⟩:=c it (by simp);show wpAny_pyNext_range_end (I.ok.hd hc) st (by have:n<=i:=q;lk) fun h' u=>⟨rfl,I.turned (t':=s.toks) (fun b o hb e=>u b o hb e) d f g j l⟩
 self:=fun _ _ _ _ _ st h=>wpAny_pyIter_rangeiter st h
section
variable{X:Cx}{tg:Expr}
theorem qdg{R:It->Hp->Prop}{a:Int}{t u v:Tok}{tk:Nat}(I:Inv X pins σ H s)(h1:-(2 ^ 62)<=lo)(g:lo<2 ^ 62)(h:-(2 ^ 62)<=a)(i:a<2 ^ 62)
  (q:R (Itr lo (a-lo).toNat) H):wpAny (model X.prog X.w) X.A (pyIter (.ref s.heap.objs.size)) (PIE X pins σ tg R) E { s with heap:=s.heap.push { cls:=.type "range",data:=.fields #[.int lo t,.int a u,.int 1 v] },toks:=tk }:=by
 show wpAny_pyIter_range (IsRange.new ..) (small_one h1 g h i) ?_;have c:Inv X pins σ H { s with heap:=s.heap.push { cls:=.type "range",data:=.fields #[.int lo t,.int a u,.int 1 v] },toks:=tk }:=I.kept fun b o e=>yv _ e;show⟨(s.heap.push { cls:=.type "range",data:=.fields #[.int lo t,.int a u,.int 1 v] }).objs.size,[(s.heap.push { cls:=.type "range",data:=.fields #[.int lo t,.int a u,.int 1 v] }).objs.size],_,_,H,rfl,
  c.kept (t':=tk) fun b o e=>yv _ e,turn_range _ lo (a-lo).toNat,?_,fun b hb=>?_,q⟩
 .have d:lo+((0:Nat):Int)*1=lo:=by simp
  have f:(((a-lo).toNat:Nat):Int)-((0:Nat):Int)=Builtin.Range.rangeSize lo a 1:=by rw[rangeSize_one];split<;>lk
  show IsRangeIter _ _ (lo+((0:Nat):Int)*1) ((((a-lo).toNat:Nat):Int)-((0:Nat):Int)) 1;rw[d,f];show yS _ rfl
 .have e:b=(s.heap.push { cls:=.type "range",data:=.fields #[.int lo t,.int a u,.int 1 v] }).objs.size:=by simpa using hb
  subst e;show c.fpOk (yh _) (c.hok.fresh (yh _))
def qfN(ta:TA):TI:=fun σ H R=>ta σ H fun vs a=>∃ j:Int,vs=[.int j]/\-(2 ^ 62)<=j/\j<2 ^ 62/\R (Itr 0 j.toNat) a
def qfO(ta:TA):TI:=fun σ H R=>ta σ H fun vs a=>∃ i j:Int,vs=[.int i,.int j]/\(-(2 ^ 62)<=i/\i<2 ^ 62/\-(2 ^ 62)<=j/\j<2 ^ 62)/\R (Itr i (j-i).toNat) a
theorem jf{a:Expr}(f:Gl X "range")(g:X.mg "range"=none)(d:PA X [a] ta)(i:starEach [a] X.env=[(false,eval a X.env)]:=by rfl):PI X tg (.Call (.Name "range" p) [a] [] pos) (qfN ta):=by
 intro pins s σ H R I h;show Call_ (qa9 I f g boot_range (YL (thn (d pos pins s σ H _ I h) fun us o ⟨vs,n,c,m,b⟩=>?_) i rfl));obtain⟨j,e,b,l,q⟩:=b;subst e
 cases m with
 | cons r rr =>
  cases rr;obtain⟨t,rfl⟩:=r;show call_range_1 (qdg c (by lk) (by lk) b l (by simpa using q))
theorem qcg{a b:Expr}(l:Gl X "range")(m:X.mg "range"=none)(g:PA X [a,b] ta)(n:starEach [a,b] X.env=[(false,eval a X.env),(false,eval b X.env)]:=by rfl)(c:starEach [b] X.env=[(false,eval b X.env)]:=by rfl) :
  PI X tg (.Call (.Name "range" p) [a,b] [] pos) (qfO ta):=by
 intro pins s σ H R I h;show Call_ (qa9 I l m boot_range (YL (thn (g pos pins s σ H _ I h) fun us z ⟨vs,y,f,x,d⟩=>?_) (by rw[n,c]) (by rw[c];rfl)));obtain⟨i,j,e,⟨d,o,u,w⟩,q⟩:=d;subst e
 cases x with
 | cons r rr =>
  cases rr with
  | cons r' rr =>
   cases rr;obtain⟨t,rfl⟩:=r;obtain⟨t',rfl⟩:=r';show call_range_2 (qdg f d o u w q)
def qgA(f:TI)(g:TG)(tb:TS):TS:=fun D σ H=>f σ H fun J d=>∃ W:Nat->Nat->St->Hp->Prop,(∃ m,W 0 m σ d)/\∀ i m σ H,W i m σ H ->
 (J.stop i H/\D.nx σ H)\/(J.go i H/\∃ N:St->Hp->Prop,(∀ a H',N a H'->∃ c,c<m/\W (i+1) c a H')/\∀ x H',J.yld i H x H'->g x σ H' fun b e=>tb { D with nx:=N,ct:=N,bk:=D.nx } b e)
noncomputable def qch(fp:LQ)(h:Heap):List (Addr×Obj):=fp.filterMap fun b=>(h.get? b).map fun o=>(b,o)
theorem qai{o:Obj}(hb:b∈fp)(e:h.get? b=some o):(b,o)∈qch fp h:=List.mem_filterMap.mpr ⟨b,hb,by rw[e];rfl⟩
theorem of_pinsAt{p:Addr×Obj}(c:p∈qch fp h):p.1∈fp/\h.get? p.1=some p.2:=by
 obtain⟨b,hb,e⟩:=List.mem_filterMap.mp c
 cases q:h.get? b with
 | none=>rw[q] at e;cases e
 | some o =>
  rw[q] at e;have a:(b,o)=p:=ym e;subst a;show⟨hb,q⟩
theorem Inv.pinned(I:Inv X pins σ H s)(h:∀ b∈fp,qcN X pins H b)(i:∀ b∈fp,∃ o,s.heap.get? b=some o/\∀ v,o.data≠.cell v):Inv X (pins++qch fp s.heap) σ H s:=
 I.pins_of fun p j=>(yB.mp j).elim (fun z=>I.pin p (yP _ z)) fun z=>by
  obtain⟨hb,e⟩:=of_pinsAt z;obtain⟨c,f,g,_⟩:=h p.1 hb;obtain⟨o,a,d⟩:=i p.1 hb;rw[e] at a;cases a;show⟨e,c,f,g,d⟩
theorem Inv.unpinned{pl:List (Addr×Obj)}(I:Inv X (pins++pl) σ H s):Inv X pins σ H s:=I.pins_of fun p a=>I.pin p (yP _ (yM _ a))
theorem jp{l:Expr}{wi:TI}(C:PassesOwn (model X.prog X.w) X.A X.env X.xe)(hc:X.calm=true)(hi:PI X tg l wi)(hg:PG X tg g)(hb:PSs X body tb)
  (hs:∀ x,foldedSetIterable l X.env x=pure x:=by intro _;rfl):PS X (.For tg l body [] pos) (qgA wi g tb):=by
 intro pins s σ H D I h;show wpAny_For (thn (hi pins s σ H _ I h) fun v s1 h1=>thn h1 fun aa s2 h2=>?_) hs;obtain⟨it,fp,tn,J,H2,e,I2,T,R,Z,W,⟨m0,w0⟩,turn⟩:=h2;subst e;have p:∀{H':Hp},(∀ b∈fp,H' b=none)->∀ b∈fp,qcN X pins H' b:=fun hn b hb=>⟨hn b hb,(Z b hb).2⟩;show codeAny_forLoop_any (fun n s'=>∃ i q H',Inv X pins q H' s'/\tn i s'.heap/\(∀ b∈fp,H' b=none)/\W i n q H') ?_ m0 ⟨0,σ,H2,I2,R,fun b hb=>(Z b hb).1,w0⟩;rintro n s3 ⟨i,t,K,Y,F,B,w3⟩;rcases turn i n t K w3 with⟨G,qn⟩ | ⟨go,N,hN,step⟩
 .show xD C (thn (T.done X rfl rfl rfl hc i pins s3 t K X.xe Y (p B) F G) fun r s4 ⟨O,I4⟩=>?_);subst O;show XR ⟨t,K,I4,qn⟩
 .show xD C (thn (T.item X rfl rfl rfl hc i pins s3 t K X.xe Y (p B) F go) fun r s4 ⟨u,O,h4⟩=>?_);subst O;show xD C (thn h4 fun _ s5 ⟨x,U,I5,r5,y5,z,M⟩=>?_);have L:=I5.pinned (p M) (T.obj _ _ z);show xD C (thn (hg _ s5 t U x u _ L r5 (step x U y5)) fun _ s6 ⟨S,H6,I6,q6⟩=>?_);show xD C (thn (hb _ s6 S H6 _ I6 q6) fun f P y=>?_)
  have again:∀{a:St} {c:Hp},Inv X (pins++qch fp s5.heap) a c P->N a c->∃ m,m<n/\∃ i q H',Inv X pins q H' P/\tn i P.heap/\(∀ b∈fp,H' b=none)/\W i m q H':=fun{a c} j E=>by
   obtain⟨m',hm,w7⟩:=hN a c E;show⟨m',hm,i+1,a,c,j.unpinned,T.keep _ _ _ z fun b hb o e=>(j.pin (b,o) (yP _ (yP _ (qai hb e)))).1,fun b hb=>?_,w7⟩;obtain⟨o,e,d⟩:=T.obj _ _ z b hb;show(j.pin (b,o) (yP _ (yP _ (qai hb e)))).2.1
  cases f with
  | next=>obtain⟨a,c,j,E⟩:=y;show again j E
  | cont=>obtain⟨a,c,j,E⟩:=y;show again j E
  | brk=>obtain⟨a,c,j,y⟩:=y;show⟨a,c,j.unpinned,y⟩
  | ret v=>obtain⟨x7,a,c,j,r7,y⟩:=y;show⟨x7,a,c,j.unpinned,r7,y⟩
end
theorem jo{K:yg}(b:Nat->St->Hp->Prop)(l:b 0 σ H)(hl:∀ i σ H,i<=xs.length->b i σ H->SqL K H a xs)
  (r:∀ i x σ H,xs[i]?=some x->b i σ H->g x σ H fun d h=>tb { D with nx:=b (i+1),ct:=b (i+1),bk:=D.nx } d h) (n:∀ σ H,b xs.length σ H->D.nx σ H) :
  ∃ W:Nat->Nat->St->Hp->Prop,(∃ m,W 0 m σ H)/\∀ i m σ H,W i m σ H ->
   ((Itl K a).stop i H/\D.nx σ H)\/((Itl K a).go i H/\∃ N:St->Hp->Prop,(∀ c H',N c H'->∃ j,j<m/\W (i+1) j c H')/\∀ x H',(Itl K a).yld i H x H'->g x σ H' fun d h=>tb { D with nx:=N,ct:=N,bk:=D.nx } d h):=by
 show⟨fun i m σ H=>m=xs.length-i/\i<=xs.length/\b i σ H,⟨xs.length,by simp,YQ _,l⟩,?_⟩;rintro i m σ H ⟨rfl,o,p⟩;have q:=hl i σ H o p;by_cases f:i<xs.length
 .show .inr ⟨⟨xs,xs[i],q,by simp[f]⟩,b (i+1),fun c H' s=>⟨xs.length-(i+1),by lk,rfl,f,s⟩,fun x H' y=>?_⟩;obtain⟨e,y⟩:=y;subst e;show r i x σ _ (y xs q) p
 .have e:i=xs.length:=by lk
  subst e;show .inl ⟨⟨xs,q,yh _⟩,n σ H p⟩
theorem for_tup{K:yg}(b:Nat->St->Hp->Prop)(l:b 0 σ H)(hl:∀ i σ H,i<=xs.length->b i σ H->SqT K H a xs)
  (r:∀ i x σ H,xs[i]?=some x->b i σ H->g x σ H fun d h=>tb { D with nx:=b (i+1),ct:=b (i+1),bk:=D.nx } d h) (n:∀ σ H,b xs.length σ H->D.nx σ H) :
  ∃ W:Nat->Nat->St->Hp->Prop,(∃ m,W 0 m σ H)/\∀ i m σ H,W i m σ H ->
   ((Itt K a).stop i H/\D.nx σ H)\/((Itt K a).go i H/\∃ N:St->Hp->Prop,(∀ c H',N c H'->∃ j,j<m/\W (i+1) j c H')/\∀ x H',(Itt K a).yld i H x H'->g x σ H' fun d h=>tb { D with nx:=N,ct:=N,bk:=D.nx } d h):=by
 show⟨fun i m σ H=>m=xs.length-i/\i<=xs.length/\b i σ H,⟨xs.length,by simp,YQ _,l⟩,?_⟩;rintro i m σ H ⟨rfl,o,p⟩;have q:=hl i σ H o p;by_cases f:i<xs.length
 .show .inr ⟨⟨xs,xs[i],q,by simp[f]⟩,b (i+1),fun c H' s=>⟨xs.length-(i+1),by lk,rfl,f,s⟩,fun x H' y=>?_⟩;obtain⟨e,y⟩:=y;subst e;show r i x σ _ (y xs q) p
 .have e:i=xs.length:=by lk
  subst e;show .inl ⟨⟨xs,q,yh _⟩,n σ H p⟩
theorem jZ(a:Nat->St->Hp->Prop)(j:a 0 σ H)
  (o:∀ i σ H,i<n->a i σ H->g (.int (lo+i)) σ H fun d f=>tb { D with nx:=a (i+1),ct:=a (i+1),bk:=D.nx } d f) (l:∀ σ H,a n σ H->D.nx σ H) :
  ∃ W:Nat->Nat->St->Hp->Prop,(∃ m,W 0 m σ H)/\∀ i m σ H,W i m σ H ->
   ((Itr lo n).stop i H/\D.nx σ H)\/((Itr lo n).go i H/\∃ N:St->Hp->Prop,(∀ c H',N c H'->∃ h,h<m/\W (i+1) h c H')/\∀ x H',(Itr lo n).yld i H x H'->g x σ H' fun d f=>tb { D with nx:=N,ct:=N,bk:=D.nx } d f):=by
 show⟨fun i m σ H=>m=n-i/\i<=n/\a i σ H,⟨n,by simp,YQ _,j⟩,?_⟩;rintro i m σ H ⟨rfl,r,p⟩;by_cases b:i<n
 .show .inr ⟨b,a (i+1),fun c H' q=>⟨n-(i+1),by lk,rfl,b,q⟩,fun x H' y=>?_⟩;obtain⟨e,y⟩:=y;subst e y;show o i σ _ b p
 .have e:i=n:=by lk
  subst e;show .inl ⟨yh _,l σ H p⟩
abbrev R2:=V->V->Hp->VK->Prop
def OpR(X:Cx)(f:Value->Value->Sem Value)(r:R2):Prop:=
 ∀(pins:List (Addr×Obj)) (s:Shared) (σ:St) (H:Hp) (x y:V) (v u:Value) (Q:VK),Inv X pins σ H s->RelV x v->RelV y u->r x y H Q ->
  wpAny (model X.prog X.w) X.A (f v u) (EP X pins σ Q) X.xe s
def UnR(X:Cx)(f:Value->Sem Value)(r:V->Hp->VK->Prop):Prop:=
 ∀(pins:List (Addr×Obj)) (s:Shared) (σ:St) (H:Hp) (x:V) (v:Value) (Q:VK),Inv X pins σ H s->RelV x v->r x H Q ->
  wpAny (model X.prog X.w) X.A (f v) (EP X pins σ Q) X.xe s
def j0(X:Cx)(f:Value)(r:List V->Hp->VK->Prop):Prop:=
 ∀(pins:List (Addr×Obj)) (s:Shared) (σ:St) (H:Hp) (xs:List V) (us:List Value) (Q:VK),Inv X pins σ H s->Vals xs us->r xs H Q ->
  wpAny (model X.prog X.w) X.A (call f us) (EP X pins σ Q) X.xe s
def tOp(r:R2)(ta tb:TE):TE:=fun σ H Q=>ta σ H fun x a=>tb σ a fun y b=>r x y b Q
def tUn(r:V->Hp->VK->Prop)(ta:TE):TE:=fun σ H Q=>ta σ H fun x a=>r x a Q
def rI(C:Int->Int->Prop)(g:Int->Int->V):R2:=fun x y H Q=>∃ i j,x=.int i/\y=.int j/\C i j/\Q (g i j) H
def rI0(g:Int->Int->V):R2:=fun x y H Q=>∃ i j,x=.int i/\y=.int j/\Q (g i j) H
def rU(g:Int->V):V->Hp->VK->Prop:=fun x H Q=>∃ i,x=.int i/\Q (g i) H
section
variable{X:Cx}{a b c:Expr}{ta tb tc:TE}{pos:Pos}
theorem qgl(m:PE X a ta)(hb:PE X b tb){R:V->V->Hp->Prop}(I:Inv X pins σ H s)
  (h:ta σ H fun x i=>tb σ i fun y c=>R x y c) {Q:Value->Shared->Prop}
  (n:∀ v u g x y c,Inv X pins σ c g->RelV x v->RelV y u->R x y c->wpAny (model X.prog X.w) X.A (f v u) Q X.xe g) :
  wpAny (model X.prog X.w) X.A (eval a X.env) (fun v d=>wpAny (model X.prog X.w) X.A (eval b X.env) (fun u e=>wpAny (model X.prog X.w) X.A (f v u) Q X.xe e) X.xe d) X.xe s:=by
 show thn (m pins s σ H _ I h) fun v t ⟨x,i,j,q,o⟩=>?_;show thn (hb pins t σ i _ j o) fun u g ⟨y,c,l,r,p⟩=>?_;show n v u g x y c l q r p
theorem qG{op:Operator}(f:OpR X (binaryOp op) r)(e:PE X a ta)(hb:PE X b tb):PE X (.BinOp a op b pos) (tOp r ta tb):=by
 intro pins s σ H Q I h;show wpAny_BinOp (qgl e hb I h fun v u j x y c d g i q=>f pins j σ c x y v u Q d g i q)
theorem qbG{op:UnaryOp}{r:V->Hp->VK->Prop}(e:UnR X (unaryOp op) r)(d:PE X a ta):PE X (.UnaryOp op a pos) (tUn r ta):=by
 intro pins s σ H Q I h;show UnaryOp_ (thn (d pins s σ H _ I h) fun v i ⟨x,b,c,g,f⟩=>e pins i σ b x v Q c g f)
theorem opI{C:Int->Int->Prop}{g:Int->Int->Int}
  (a:∀(i j:Int) (t u:Tok) (s:Shared) (Q:Value->Shared->Prop) (E:Value->Shared->Prop),C i j->Q (.int (g i j) s.toks) { s with toks:=s.toks+1 }->wpAny (model X.prog X.w) X.A (f (.int i t) (.int j u)) Q E s) :
  OpR X f (rI C fun i j=>.int (g i j)):=by
 intro pins s σ H x y v u Q I b c h;obtain⟨i,j,rfl,rfl,hc,q⟩:=h;obtain⟨t,rfl⟩:=b;obtain⟨t',rfl⟩:=c;show a i j t t' s _ _ hc ⟨.int (g i j),H,I.tok _,⟨_,rfl⟩,q⟩
theorem qgf{g:Int->Int->Int}
  (a:∀(i j:Int) (t u:Tok) (s:Shared) (Q:Value->Shared->Prop) (E:Value->Shared->Prop),Q (.int (g i j) s.toks) { s with toks:=s.toks+1 }->wpAny (model X.prog X.w) X.A (f (.int i t) (.int j u)) Q E s) :
  OpR X f (rI0 fun i j=>.int (g i j)):=by
 intro pins s σ H x y v u Q I b c h;obtain⟨i,j,rfl,rfl,q⟩:=h;obtain⟨t,rfl⟩:=b;obtain⟨t',rfl⟩:=c;show a i j t t' s _ _ ⟨.int (g i j),H,I.tok _,⟨_,rfl⟩,q⟩
theorem qgm{g:Int->Int->Bool}
  (a:∀(i j:Int) (t u:Tok) (s:Shared) (Q:Value->Shared->Prop) (E:Value->Shared->Prop),Q (.bool (g i j)) s->wpAny (model X.prog X.w) X.A (f (.int i t) (.int j u)) Q E s) :
  OpR X f (rI0 fun i j=>.bl (g i j)):=by
 intro pins s σ H x y v u Q I b c h;obtain⟨i,j,rfl,rfl,q⟩:=h;obtain⟨t,rfl⟩:=b;obtain⟨t',rfl⟩:=c;show a i j t t' s _ _ ⟨.bl (g i j),H,I,rfl,q⟩
def CDiv(i j:Int):Prop:=0<j/\j<1073741824
def qgB(i j:Int):Prop:=0<=j/\j<=1000000/\i.natAbs<2 ^ 64
def CMul(i j:Int):Prop:=(-(2 ^ 64)<i/\i<2 ^ 64)\/(-(2 ^ 64)<j/\j<2 ^ 64)
theorem CMul.ok{i j:Int}(h:CMul i j):IntMulOk i j:=by
 rcases h with⟨h1,a⟩ | ⟨h1,a⟩
 .show .of_left (intBits_le_64 h1 a)
 .show .of_right (intBits_le_64 h1 a)
theorem two_pow_nn(k:Nat):(0:Int)<=2 ^ k:=by
 rw[two_pow_cast];show Int.natCast_nonneg _
theorem op_add:OpR X (binaryOp .Add) (rI0 fun i j=>.int (i+j)):=qgf fun _ _ _ _ _ _ _ q=>add_int q
theorem zZ:OpR X (binaryOp .Sub) (rI0 fun i j=>.int (i-j)):=qgf fun _ _ _ _ _ _ _ q=>sub_int q
theorem op_mul:OpR X (binaryOp .Mult) (rI CMul fun i j=>.int (i*j)):=opI fun _ _ _ _ _ _ _ hc q=>mul_int q hc.ok
theorem qcO:OpR X (binaryOp .FloorDiv) (rI CDiv fun i j=>.int (i / j)):=opI fun i j _ _ _ _ _ hc q=>by
 have h1:(0:Int)<j:=hc.1;have a:j<1073741824:=hc.2;show floordiv_int (by lk) (by rw[Int.fdiv_eq_ediv_of_nonneg i (by lk)];show q) (.inl (PyProof.noPylong_small (by lk)))
theorem zW:OpR X (binaryOp .Mod) (rI (fun _ j=>0<j) fun i j=>.int (i % j)):=opI fun i j _ _ _ _ _ hc q=>by
 have h1:(0:Int)<j:=hc;show mod_int' (by lk) (by rw[Int.fmod_eq_emod_of_nonneg i (by lk)];show q)
theorem op_pow:OpR X (binaryOp .Pow) (rI qgB fun i j=>.int (i ^ j.toNat)):=opI fun _ _ _ _ _ _ _ hc q=>pow_int_small hc.1 hc.2.1 hc.2.2 q
theorem qeZ:OpR X (binaryOp .LShift) (rI qgB fun i j=>.int (i*2 ^ j.toNat)):=opI fun _ _ _ _ _ _ _ hc q=>lshift_int_small hc.1 hc.2.1 hc.2.2 q
theorem op_shr:OpR X (binaryOp .RShift) (rI (fun _ j=>0<=j) fun i j=>.int (i / 2 ^ j.toNat)):=opI fun i j _ _ _ _ _ hc q =>
 rshift_int hc (by rw[Int.fdiv_eq_ediv_of_nonneg i (two_pow_nn _)];show q)
theorem op_and:OpR X (binaryOp .BitAnd) (rI0 fun i j=>.int (Builtin.bitAnd i j)):=qgf fun _ _ _ _ _ _ _ q=>and_int q
theorem qfP:OpR X (binaryOp .BitOr) (rI0 fun i j=>.int (Builtin.bitOr i j)):=qgf fun _ _ _ _ _ _ _ q=>or_int q
theorem unI{f:Value->Sem Value}{g:Int->Int}
  (a:∀(i:Int) (t:Tok) (s:Shared) (Q:Value->Shared->Prop) (E:Value->Shared->Prop),Q (.int (g i) s.toks) { s with toks:=s.toks+1 }->wpAny (model X.prog X.w) X.A (f (.int i t)) Q E s) :
  UnR X f (rU fun i=>.int (g i)):=by
 intro pins s σ H x v Q I b h;obtain⟨i,rfl,q⟩:=h;obtain⟨t,rfl⟩:=b;show a i t s _ _ ⟨.int (g i),H,I.tok _,⟨_,rfl⟩,q⟩
theorem qaD:UnR X (unaryOp .USub) (rU fun i=>.int (-i)):=unI fun _ _ _ _ _ q=>neg_int q
end
noncomputable def scal:V->V->Bool
 | .non,.non=>true | .non,.int _=>true | .int _,.non=>true | .non,.bl _=>true | .bl _,.non=>true | .non,.str _=>true | .str _,.non=>true
 | .int _,.int _=>true | .bl _,.bl _=>true | .str _,.str _=>true | .byt _,.byt _=>true
 | .int _,.str _=>true | .str _,.int _=>true | .bl _,.str _=>true | .str _,.bl _=>true
 | _,_=>false
def rEq:R2:=fun x y H Q=>scal x y=true/\Q (.bl (decide (x=y))) H
theorem dec_bl{i j:Bool}:decide (V.bl i=V.bl j)=(i==j):=by
 rw[YA];simp
section
variable{X:Cx}{a b c:Expr}{ta tb tc:TE}{pos:Pos}
theorem qdh{Q:VK}{k k':Bool}(I:Inv X pins σ H s)(q:Q (.bl k) H)(e:k=k'):EP X pins σ Q (.bool k') s:=by
 subst e;show⟨.bl k,H,I,rfl,q⟩
theorem qdY:OpR X (compareOp .Lt) (rI0 fun i j=>.bl (decide (i<j))):=qgm fun _ _ _ _ _ _ _ q=>lt_int q
theorem op_le:OpR X (compareOp .LtE) (rI0 fun i j=>.bl (decide (i<=j))):=qgm fun _ _ _ _ _ _ _ q=>le_int q
theorem qdP:OpR X (compareOp .Gt) (rI0 fun i j=>.bl (decide (j<i))):=qgm fun _ _ _ _ _ _ _ q=>gt_int q
theorem op_isN:OpR X (compareOp .Is) (fun x y H Q=>y=.non/\Q (.bl (decide (x=.non))) H):=by
 intro pins s σ H x y v u Q I a b h;obtain⟨rfl,q⟩:=h;cases b;show is_none_gen (qdh I q ?_);cases x<;>first
  | (cases a;rfl)
  | (obtain⟨t,rfl⟩:=a;rfl)
theorem qcP:OpR X (compareOp .IsNot) (fun x y H Q=>y=.non/\Q (.bl (!decide (x=.non))) H):=by
 intro pins s σ H x y v u Q I a b h;obtain⟨rfl,q⟩:=h;cases b;show isnot_none_gen (qdh I q ?_);cases x<;>first
  | (cases a;rfl)
  | (obtain⟨t,rfl⟩:=a;rfl)
theorem qz(b:Expr)(h:op≠.In:=by decide)(d:op≠.NotIn:=by decide):behindInMarks op b=false:=by
 have a:(op==CmpOp.In)=false:=by cases op<;>first | rfl | show absurd rfl h
 have c:(op==CmpOp.NotIn)=false:=by cases op<;>first | rfl | show absurd rfl d
 cases b<;>simp[behindInMarks,a,c]
theorem jg(g:OpR X (compareOp op) r)(e:PE X a ta)(hb:PE X b tb)(f:behindInMarks op b=false):PE X (.Compare a [op] [b] pos) (tOp r ta tb):=by
 intro pins s σ H Q I h;show wpAny_Compare1 (qgl e hb I h fun v u l x y c d i j q=>g pins l σ c x y v u Q d i j q) f
def qfp(t:TE):TT:=fun σ H Q=>t σ H fun x H'=>∃ k,x=.bl k/\Q k H'
theorem qk(o:OpR X (compareOp op) r)(m:PE X a ta)(hb:PE X b tb)(n:behindInMarks op b=false):PT X (.Compare a [op] [b] pos) (qfp (tOp r ta tb)):=by
 intro pins s σ H Q I h
 show wpAny_isTrue_Compare1 (thn (m pins s σ H _ I h) fun v C ⟨x,d,i,w,p⟩=>thn (hb pins C σ d _ i p) fun u D ⟨y,f,j,A,q⟩ =>
  thn (o pins D σ f x y v u _ j w A q) fun c E ⟨z,g,l,B,k,e,t⟩=>?_) n
 subst e;cases B;show xo ⟨g,l,t⟩
def qdZ(r r':R2)(ta tb tc:TE):TE:=fun σ H Q=>ta σ H fun x b=>tb σ b fun y c=>r x y c fun z a=>∃ k,z=.bl k /\
 (if k=true then tc σ a fun e d=>r' y e d Q else Q (.bl false) a)
theorem qdi(B:OpR X (compareOp op) r)(f:OpR X (compareOp op') r')(w:PE X a ta)(hb:PE X b tb)(hc:PE X c tc)
  (A:lastMarks [op,op'] [b,c]=false:=by with_unfolding_all rfl):PE X (.Compare a [op,op'] [b,c] pos) (qdZ r r' ta tb tc):=by
 intro pins s σ H Q I h
 show Compare_chain (thn (w pins s σ H _ I h) fun v K ⟨x,m,p,F,C⟩=>chain_link (thn (hb pins K σ m _ p C) fun u L ⟨y,n,q,l,D⟩ =>
  thn (B pins L σ n x y v u _ q F l D) fun d M ⟨z,g,i,G,k,e,j⟩=>?_)) A
 subst e;cases G;show xo ?_
 cases k with
 | false=>show ite_ff ⟨.bl false,g,i,rfl,j⟩
 | true=>show ite_tt (chain_last (thn (hc pins M σ g _ i j) fun O N ⟨P,o,t,J,E⟩=>f pins N σ o y P u O Q t l J E))
theorem pt_chain(F:OpR X (compareOp op) r)(f:OpR X (compareOp op') r')(D:PE X a ta)(hb:PE X b tb)(hc:PE X c tc)
  (E:lastMarks [op,op'] [b,c]=false:=by with_unfolding_all rfl):PT X (.Compare a [op,op'] [b,c] pos) (qfp (qdZ r r' ta tb tc)):=by
 intro pins s σ H Q I h
 show isTrue_chain (thn (D pins s σ H _ I h) fun v S ⟨x,m,q,N,J⟩=>test_link (thn (hb pins S σ m _ q J) fun u T ⟨y,n,t,l,K⟩ =>
  thn (F pins T σ n x y v u _ t N l K) fun d U ⟨z,g,i,O,k,e,j⟩=>?_)) E
 subst e;cases O;show xo ?_
 cases k with
 | false =>
  obtain⟨k',B,G⟩:=j;cases B;show ite_ff ⟨g,i,G⟩
 | true =>
  show ite_tt (test_last (thn (hc pins U σ g _ i j) fun Y W ⟨Z,o,w,P,L⟩=>thn (f pins W σ o y Z u Y _ w l P L) fun d' s5 ⟨z2,p,A,R,k2,C,M⟩=>?_));subst C;cases R;show xo ⟨p,A,M⟩
theorem qbH:(sizeLine:Nat)<2 ^ 63:=by rw[Yy];decide
theorem op_add_str:OpR X (binaryOp .Add) (fun x y H Q=>∃ i j,x=.str i/\y=.str j/\i.length+j.length<=sizeLine/\Q (.str (i++j)) H):=by
 intro pins s σ H x y v u Q I a b h;obtain⟨i,j,rfl,rfl,hz,q⟩:=h;obtain⟨t,rfl⟩:=a;obtain⟨t',rfl⟩:=b;show add_str (fun t' tk=>⟨.str (i++j),H,I.tok _,⟨_,rfl⟩,q⟩) hz
theorem qaa{x:V}(r:Vals [x] us):∃ u,us=[u]/\RelV x u:=by
 cases r with
 | cons r1 r2=>cases r2;show⟨_,rfl,r1⟩
theorem qdQ{x:V}(r:Vals [x,y] us):∃ u a,us=[u,a]/\RelV x u/\RelV y a:=by
 cases r with
 | cons r1 r2 =>
  cases r2 with
  | cons r3 r4=>cases r4;show⟨_,_,rfl,r1,r3⟩
theorem qaL(hc:X.calm=true):j0 X (.builtin "max") (fun xs H Q=>∃ i j,xs=[.int i,.int j]/\Q (.int (if j>i then j else i)) H):=by
 intro pins s σ H xs us Q I r h;obtain⟨i,j,rfl,q⟩:=h;obtain⟨u,b,rfl,⟨t,rfl⟩,⟨t',rfl⟩⟩:=qdQ r;show max_two_ints (I.ok.hd hc) fun h' tk k=>⟨_,H,I.kept k,?_,q⟩;by_cases a:j>i
 .rw [yG a,yG a];show⟨_,rfl⟩
 .rw [yC a,yC a];show⟨_,rfl⟩
theorem qaM(hc:X.calm=true):j0 X (.builtin "min") (fun xs H Q=>∃ i j,xs=[.int i,.int j]/\Q (.int (if j<i then j else i)) H):=by
 intro pins s σ H xs us Q I r h;obtain⟨i,j,rfl,q⟩:=h;obtain⟨u,b,rfl,⟨t,rfl⟩,⟨t',rfl⟩⟩:=qdQ r;show min_two_ints (I.ok.hd hc) fun h' tk k=>⟨_,H,I.kept k,?_,q⟩;by_cases a:j<i
 .rw [yG a,yG a];show⟨_,rfl⟩
 .rw [yC a,yC a];show⟨_,rfl⟩
theorem qbo:j0 X (.type "int") (fun xs H Q=>(∃ i,xs=[.int i]/\Q (.int i) H)\/∃ k,xs=[.bl k]/\Q (.int (if k then 1 else 0)) H):=by
 intro pins s σ H xs us Q I r h;rcases h with⟨i,rfl,q⟩ | ⟨k,rfl,q⟩
 .obtain⟨u,rfl,t,rfl⟩:=qaa r;show call_int_int ⟨.int i,H,I,⟨_,rfl⟩,q⟩
 .obtain⟨u,rfl,a⟩:=qaa r;cases a;show call_int_bool ⟨.int (if k then 1 else 0),H,I.tok _,⟨_,rfl⟩,q⟩
end
structure ObjM(h:Heap)(x dx C:Addr)(mA:Str->Option Value):Prop where
 obj:h.get? x=some (PySem.W.instObj C dx)
 ns:h.Ns1 dx mA
 ne:dx≠x
theorem qci(n:h.Ns1 dx mA):∃ od,h.get? dx=some od/\∀ name,PySem.W.lookIn name od=some (mA name):=by
 obtain⟨o,es,ep,i,d,f,_,g⟩:=n;show⟨o,i,fun name=>?_⟩;have e:=g name;unfold nsFind findBy at e;rw[<- Array.find?_toList] at e;unfold PySem.W.lookIn;rw[d];dsimp only;split
 .rename_i y q
  rw[q] at e;show congrArg some e
 .rename_i q
  rw[q] at e
  have a:es.toList.any (·.refKey)=false:=by
   rw[List.any_eq_false];intro y j;obtain⟨z,t,b⟩:=f y (Array.mem_toList_iff.mp j);simp[DictEntry.refKey,b]
  have c:¬ es.toList.any (·.refKey)=true:=by rw[a];show Yr
  rw[yC c];show congrArg some e
theorem ObjM.look{x:Addr}(I:ObjM h x dx C mA):∃ od,PySem.W.InstAt h x (PySem.W.instObj C dx) C (some od)/\∀ name,PySem.W.lookIn name od=some (mA name):=
 let ⟨od,ho,hl⟩:=qci I.ns
 ⟨od,⟨I.obj,rfl,rfl,ho⟩,hl⟩
section
variable{prog:Program}{w:World}{A:Around}{E:Value->Shared->Prop}{s:Shared}{K:yg}{x dx C f:Addr}{mA:Str->Option Value}{name:Str}{v:Value}
theorem get_map{a:Bool}{Q:Value->Shared->Prop}(X:K.In s.heap)(I:ObjM s.heap x dx C mA)(d:PySem.W.plainGet K C name=true)(e:PySem.W.hasDictIn K C=true)
  (c:PySem.W.findIn K (.ref C) name=some none) (hv:mA name=some v) (b:PySem.W.handedIn v=true) (h:Q v { s with toks:=s.toks+1 }) :
  wpAny (model prog w) A (getAttr (.ref x) name a) Q E s:=by
 obtain⟨od,J,hl⟩:=I.look;show PySem.W.get_value X J (X3 d).1 (PySem.W.findObj_own e c rfl (by rw[hl,hv])) b h
theorem get_meth{Q:Value×List Value->Shared->Prop}(X:K.In s.heap)(I:ObjM s.heap x dx C mA)(a:PySem.W.plainGet K C name=true)
  (b:PySem.W.findIn K (.ref C) name=some (some (.ref f))) (c:PySem.W.isFn K (.ref f)=true) (hv:mA name=none) (h:Q (.ref f,[.ref x]) s) :
  wpAny (model prog w) A (getMethod (.ref x) name pl) Q E s:=by
 obtain⟨od,J,hl⟩:=I.look;show PySem.W.method_fn X J (X3 a).1 (X3 a).2 b (Yu.mp c) (by show(PySem.W.lookIn name od).map (·.isSome)=some false;rw[hl,hv];rfl) h
theorem set_map{ns:LS}{Q:Unit->Shared->Prop}(X:K.In s.heap)(I:ObjM s.heap x dx C mA)
  (o:PySem.W.findIn K (.ref C) "__setattr__"=some (some (.builtin "object.__setattr__"))) (n:PySem.W.plainOver K C=true) (p:PySem.W.takerIn K C name=some none) (m:PySem.W.hasDictIn K C=true)
  (hw:PySem.Within mA ns) (hsz:ns.length<=sizeLine)
  (h:∀ h',ObjM h' x dx C (fun y=>if y=name then some v else mA y)->Heap.SameBut dx s.heap h'->Q () { s with heap:=h',toks:=s.toks+2 }) :
  wpAny (model prog w) A (setAttr (.ref x) name v) Q E s:=by
 obtain⟨od,J,hl⟩:=I.look;show PySem.W.set_plain X J o (PySem.W.osa_open (s:={ s with toks:=s.toks+1 }) (r:=none) X J n p fun b=>?_);obtain⟨t,hc,f⟩:=xQ m;have q:s.heap.get? x=some ⟨.ref C,some dx,.plain,#[]⟩:=I.obj;show yr (yu (yr (yr (wpAny_loadPart q (yr (PySem.W.Looks.here (s:={ s with toks:=s.toks+1 }) (X4 X hc) ?_))))));rw[f];show yu (a:=some dx) (yr (yu (yr ?_)));show wpAny_nsSet1 (s:={ s with toks:=s.toks+1 }) I.ns fun h' c d=>?_;obtain⟨u,l,j,i,g,e⟩:=c.count (PySem.Within.cons name v hw);show yr (wpAny_lookBehind i (by rw[g];show pastItsLine_dict (yi e (by rw[yH];lk))) ?_);show yu (h _ ⟨(d.2 _ (Yn I.ne)).trans I.obj,c,I.ne⟩ d)
theorem make_map{R:Result->Shared->Prop}{vs:List Value}(X:K.In s.heap)(c:PySem.W.makesIn K C=true)
  (b:PySem.W.findIn K (.ref C) "__init__"=some (some (.ref f))) (a:PySem.W.typeIn K (.ref f)=some (.type "function"))
  (h:codeAny (model prog w) (A.under (.builtin "type.__call__" ⟨.ref C::vs,kw⟩)) (.call (.ref f) ⟨.ref (s.heap.objs.size+1)::vs,kw⟩) (PySem.W.InitBack (s.heap.objs.size+1) R)
   { s with heap:=(s.heap.push PySem.W.emptyDict).push (PySem.W.instObj C s.heap.objs.size) }) :
  codeAny (model prog w) A (.call (.ref C) ⟨vs,kw⟩) R s:=by
 obtain⟨e,g,d,t,i⟩:=s;show PySem.W.make_core (PySem.W.makes_of X c) (xl X b) (fun self=>PySem.W.bind_fn X self a) (.inl rfl) h
end
noncomputable def qJ(f:Str)(v:V):List (Str×V)->List (Str×V)
 | []=>[(f,v)]
 | (g,x)::r=>if g=f then(g,v)::r else(g,x)::qJ f v r
theorem qD(f g:Str)(v:V):∀ fs:List (Str×V),(qJ f v fs).lookup g=if g=f then some v else fs.lookup g
 | []=>by
  show List.lookup g [(f,v)]=_;by_cases h:g=f
  .have hb:(g==f)=true:=Yu.mpr h;simp only[List.lookup,hb,yG h]
  .have hb:(g==f)=false:=YO.mpr h;simp only[List.lookup,hb,yC h]
 | (k,x)::r=>by
  have b:=qD f g v r;rw[show qJ f v ((k,x)::r)=(if k=f then(k,v)::r else(k,x)::qJ f v r) from rfl];by_cases a:k=f
  .rw [yG a];by_cases h:g=k
   .have hb:(g==k)=true:=Yu.mpr h;simp only[List.lookup,hb,yG (h.trans a)]
   .have hb:(g==k)=false:=YO.mpr h;simp only[List.lookup,hb,yC (fun e:g=f=>h (e.trans a.symm))]
  .rw [yC a];by_cases h:g=k
   .have hb:(g==k)=true:=Yu.mpr h;simp only[List.lookup,hb,yC (fun e:g=f=>a (h.symm.trans e))]
   .have hb:(g==k)=false:=YO.mpr h;simp only[List.lookup,hb];show b
theorem qbp(f:Str)(v:V):∀ fs:List (Str×V),f∈(qJ f v fs).map (·.1)/\∀ g,g∈fs.map (·.1)->g∈(qJ f v fs).map (·.1)
 | []=>⟨by simp[qJ],fun g h=>by simp at h⟩
 | (k,x)::r=>by
  obtain⟨b,c⟩:=qbp f v r;rw[show qJ f v ((k,x)::r)=(if k=f then(k,v)::r else(k,x)::qJ f v r) from rfl];by_cases a:k=f
  .rw [yG a];subst a;show⟨by simp,fun g h=>by simpa using h⟩
  .rw [yC a];show⟨?_,fun g h=>?_⟩
   .rw [YJ];show yy _ b
   .rw [YJ] at h ⊢;rcases yA.mp h with e | e
    .show yA.mpr (.inl e)
    .show yy _ (c g e)
theorem jD(f:Str)(v:V):∀ fs:List (Str×V),(qJ f v fs).length<=fs.length+1
 | []=>by simp[qJ]
 | (k,x)::r=>by
  have b:=jD f v r;rw[show qJ f v ((k,x)::r)=(if k=f then(k,v)::r else(k,x)::qJ f v r) from rfl];by_cases a:k=f
  .rw [yG a,yH,yH];lk
  .rw [yC a,yH,yH];lk
theorem RelO.some_of{v:V}{o:Option Value}(r:RelO (some v) o):∃ u,o=some u/\RelV v u:=by
 cases o with
 | none=>show(show False from r).elim
 | some u=>show⟨u,rfl,r⟩
theorem RelO.none_of{o:Option Value}(r:RelO none o):o=none:=by
 cases o with
 | none=>rfl
 | some u=>show(show False from r).elim
theorem qcj{v:V}(r:RelV v u):PySem.W.handedIn u=true:=by
 cases v with
 | non=>cases (show u=Value.none from r);rfl
 | bl b=>cases (show u=Value.bool b from r);rfl
 | int i=>obtain⟨t,e⟩:=(show ∃ t,u=Value.int i t from r);cases e;rfl
 | str x=>obtain⟨t,e⟩:=(show ∃ t,u=Value.str x t from r);cases e;rfl
 | byt b=>obtain⟨t,e⟩:=(show ∃ t,u=Value.bytes b t from r);cases e;rfl
 | flt b=>obtain⟨t,e⟩:=(show ∃ t,u=Value.float b t from r);cases e;rfl
 | ref a=>cases (show u=Value.ref a from r);rfl
 | ty n=>cases (show u=Value.type n from r);rfl
section
variable{P:Program}{w:World}{H H':Hp}{h h':Heap}{a C dx:Addr}{fs fs':List (Str×V)}
theorem qa2(b:HOk P w H h)(e:H a=some (.ins C dx fs)):∃ mA,ObjM h a dx C mA/\(∀ f,RelO (fs.lookup f) (mA f))/\PySem.Within mA (fs.map (·.1))/\fs.length<=1000/\H dx=some (.own a):=by
 obtain⟨d,z,ne,c,mA,n,r,q⟩:=(show ObjOk P w H h a (.ins C dx fs) from b a _ e);show⟨mA,⟨c,n,ne⟩,r,q,z,d⟩
end
structure Cls(K:yg)(C:Addr):Prop where
 pg:PySem.W.plainGet K C Str.empty=true
 hd:PySem.W.hasDictIn K C=true
 po:PySem.W.plainOver K C=true
 sa:PySem.W.findIn K (.ref C) "__setattr__"=some (some (.builtin "object.__setattr__"))
theorem Cls.get{K:yg}(c:Cls K C)(f:Str):PySem.W.plainGet K C f=true:=c.pg
def NoAttr(K:yg)(C:Addr)(f:Str):Prop:=PySem.W.findIn K (.ref C) f=some none
theorem NoAttr.taker{K:yg}{f:Str}(n:NoAttr K C f):PySem.W.takerIn K C f=some none:=by
 unfold PySem.W.takerIn;rw[show PySem.W.findIn K (.ref C) f=some none from n];rfl
structure Con(K:yg)(C:Addr)(f:Str)(v:V)(u:Value):Prop where
 at_:PySem.W.findIn K (.ref C) f=some (some u)
 rel:RelV v u
 get:PySem.W.specialIn K u "__get__"=some none
 cp:PySem.W.copiedNames.contains f=false
structure Meth(K:yg)(C:Addr)(m:Str)(f:Addr):Prop where
 at_:PySem.W.findIn K (.ref C) m=some (some (.ref f))
 fn:PySem.W.isFn K (.ref f)=true
 kp:PySem.W.keepIn K (.ref f)=true
section
variable{X:Cx}{pins:List (Addr×Obj)}{σ:St}{H:Hp}{s:Shared}{a C dx:Addr}{fs:List (Str×V)}{f:Str}{v:V}{A:Around}{E:Value->Shared->Prop}
theorem getattr_ok{b:Bool}{Q:Value->Shared->Prop}(I:Inv X pins σ H s)(e:H a=some (.ins C dx fs))(c:Cls X.K C)(n:NoAttr X.K C f)(l:fs.lookup f=some v)
  (h:∀ u s',Inv X pins σ H s'->RelV v u->Q u s'):wpAny (model X.prog X.w) A (getAttr (.ref a) f b) Q E s:=by
 obtain⟨mA,O,r,_,_,_⟩:=qa2 I.hok e;obtain⟨u,g,d⟩:=RelO.some_of (v:=v) (o:=mA f) (by rw[<- l];show r f);show get_map I.kIn O (c.get f) c.hd n g (qcj d) (h u _ (I.tok _) d)
theorem qbI{m:Str}{g:Addr}{Q:Value×List Value->Shared->Prop}(I:Inv X pins σ H s)(e:H a=some (.ins C dx fs))(c:Cls X.K C)(k:Meth X.K C m g)(l:fs.lookup m=none)
  (h:Q (.ref g,[.ref a]) s):wpAny (model X.prog X.w) A (getMethod (.ref a) m pl) Q E s:=by
 obtain⟨mA,O,r,_,_,_⟩:=qa2 I.hok e;have b:mA m=none:=RelO.none_of (by rw[<- l];show r m);show get_meth I.kIn O (c.get m) k.at_ k.fn b h
theorem setattr_ok{Q:Unit->Shared->Prop}(I:Inv X pins σ H s)(e:H a=some (.ins C dx fs))(c:Cls X.K C)(n:NoAttr X.K C f)(hl:fs.length<1000)(p:RelV y u)
  (h:∀ s',Inv X pins σ (upd H a (.ins C dx (qJ f y fs))) s'->Q () s'):wpAny (model X.prog X.w) A (setAttr (.ref a) f u) Q E s:=by
 obtain⟨mA,O,r,j,_,i⟩:=qa2 I.hok e;have hz:(fs.map (·.1)).length<=sizeLine:=by rw[ya,Yy];lk
 show set_map I.kIn O c.sa c.po n.taker c.hd j hz fun h' d t=>h _ ?_;have l:∃ o,h'.get? dx=some o:=let ⟨o,_,_,e',_⟩:=d.ns;⟨o,e'⟩;show I.write (x:=a) (e:=dx) (by rw[e];show YZ) (.inr i) (fun b q hb z=>(t.2 b hb).trans z) l ?_;show⟨by rw[qf O.ne];show i,?_,O.ne,d.obj,_,d.ns,fun g=>?_,fun g m=>?_⟩
 .have:=jD f y fs;lk
 .show RelO ((qJ f y fs).lookup g) (if g=f then some u else mA g);rw[qD];by_cases q:g=f
  .rw [yG q,yG q];show p
  .rw [yC q,yC q];show r g
 .by_cases q:g=f
  .rw [q];show(qbp f y fs).1
  .show(qbp f y fs).2 g (j g fun z=>m ?_);show(if g=f then some u else mA g)=none;rw[yC q];show z
theorem Inv.made(I:Inv X pins σ H s):Inv X pins σ (upd (upd H s.heap.objs.size (.own (s.heap.objs.size+1))) (s.heap.objs.size+1) (.ins C s.heap.objs.size []))
  { s with heap:=(s.heap.push PySem.W.emptyDict).push (PySem.W.instObj C s.heap.objs.size) }:=by
 have c:(s.heap.push PySem.W.emptyDict).get? s.heap.objs.size=some PySem.W.emptyDict:=yS s.heap rfl
 have f:((s.heap.push PySem.W.emptyDict).push (PySem.W.instObj C s.heap.objs.size)).get? (s.heap.objs.size+1)=some (PySem.W.instObj C s.heap.objs.size):=by
  have:=yS (s.heap.push PySem.W.emptyDict) (o:=PySem.W.instObj C s.heap.objs.size) rfl
  rwa[Y0] at this
 have g:(s.heap.push PySem.W.emptyDict).Ns s.heap.objs.size (fun _=>none):=⟨PySem.W.emptyDict,#[],_,c,rfl,(fun e h=>absurd h (by simp)),fun _=>rfl⟩;have d:=I.laid (a:=s.heap.objs.size) (o:=.own (s.heap.objs.size+1)) (h':=s.heap.push PySem.W.emptyDict) (t':=s.toks) (fun b u q=>yv _ q) (yh _) ⟨_,c⟩;show d.laid (a:=s.heap.objs.size+1) (o:=.ins C s.heap.objs.size []) (t':=s.toks) (fun b u q=>yv _ q) (Nat.le_of_eq (Y0 _ _)) ?_;have ne:s.heap.objs.size≠s.heap.objs.size+1:=yF (xR _);show⟨by rw[qf ne,qb],YQ _,ne,f,fun _=>none,(Heap.Ns1.of_empty g).at fun o q=>yv _ q,fun _=>YZ,fun y i=>absurd rfl i⟩
theorem attr_of{prog:Program}{env:Env}{f:Str}{Q:Value->Shared->Prop}(hb:attributeBase e f env (eval e env)=eval e env)
  (h:wpAny (model prog w) A (eval e env) (fun o a=>wpAny (model prog w) A (getAttr o f true) Q E a) E s):wpAny (model prog w) A (eval (.Attribute e f pos) env) Q E s:=
 Attribute_any_ h (by rw[arm_eval_Attribute,hb])
end
section
variable{X:Cx}{o e value:Expr}{f:Str}{pos pos' tpos:Pos}{ta tv:TE}
end
section
variable{X:Cx}{pins:List (Addr×Obj)}{σ:St}{H:Hp}{s:Shared}{A:Around}{E:Value->Shared->Prop}{Q:Value->Shared->Prop}{c:Value}{b:Bool}
inductive TyOf(K:yg)(H:Hp):V->Value->Prop where
 | non:TyOf K H .non (.type "NoneType")
 | bl (x:Bool):TyOf K H (.bl x) (.type "bool")
 | int (i:Int):TyOf K H (.int i) (.type "int")
 | str (x:Str):TyOf K H (.str x) (.type "str")
 | flt (x:UInt64):TyOf K H (.flt x) (.type "float")
 | lst {a:Addr} {xs:List V} (e:H a=some (.lst xs)):TyOf K H (.ref a) (.type "list")
 | frz {a:Addr} {o:Obj} {xs:List V} (e:H a=some (.frz o (.lst xs))):TyOf K H (.ref a) (.type "list")
 | tup {a:Addr} {xs:List V} (e:H a=some (.tup xs)):TyOf K H (.ref a) (.type "tuple")
 | dK {a:Addr} {kvs:List (Key×V)} (e:H a=some (.dK kvs)):TyOf K H (.ref a) (.type "dict")
 | dT {a:Addr} {kvs:List (List Key×V)} (e:H a=some (.dT kvs)):TyOf K H (.ref a) (.type "dict")
 | ins {a C dx:Addr} {fs:List (Str×V)} (e:H a=some (.ins C dx fs)) (cl:Cls K C) (ha:PySem.W.findIn K (.ref C) "__class__"=some (some (.builtin "object.__class__")))
   (hn:PySem.W.specialIn K (.builtin "object.__class__") "__get__"=some (some (.builtin "getset_descriptor.__get__"))) (htk:PySem.W.takesIn K (.builtin "object.__class__")=some true)
   (hm:PySem.W.mroIn K C (.type "object")=some true):TyOf K H (.ref a) (.ref C)
end
structure Room(k:Nat)(A:Around):Prop where
 hd:A.handled=none
 dp:A.depth+3*k+5<recursionLimit
 un:A.units+16*k+200<cLine
 gd:A.guards=some []
theorem Room.mono{k:Nat}(r:Room k A)(h:j<=k):Room j A:=⟨r.hd,by have:=r.dp;lk,by have:=r.un;lk,r.gd⟩
theorem Room.deeper{k:Nat}(r:Room (k+1) A)(env:Env):Room k (A.deeper env):=
 ⟨r.hd,by have:=r.dp;show A.depth+1+3*k+5<_;lk,by have:=r.un;show A.units+3+16*k+200<_;lk,r.gd⟩
theorem make_depth:(A.under (.builtin "type.__call__" ⟨.ref C::us,kw⟩)).depth=A.depth+1:=by
 first | rfl | simp[Around.under,Code.weight,Code.isCreation,Code.isGuard,Code.isCaller,Code.frames,Code.isFrame,guardIds]
theorem make_units:(A.under (.builtin "type.__call__" ⟨.ref C::us,kw⟩)).units=A.units+1:=by
 first | rfl | simp[Around.under,Code.cUnits,Code.frames,Code.isFrame]
theorem make_guards:(A.under (.builtin "type.__call__" ⟨.ref C::us,kw⟩)).guards=A.guards:=by
 first | rfl | simp[Around.under,Code.guards,Code.isGuard,guardIds,pushGuards]
theorem Room.make{k:Nat}(r:Room (k+1) A)(C:Addr)(us:List Value)(kw:List (Str×Value)):Room k (A.under (.builtin "type.__call__" ⟨.ref C::us,kw⟩)):=
 ⟨r.hd,by have:=r.dp;rw[make_depth];lk,by have:=r.un;rw[make_units];lk,by rw[make_guards];show r.gd⟩
theorem Room.depth{k:Nat}(r:Room k A):A.depth<recursionLimit:=by have:=r.dp;lk
def qgg:TA:=fun _ H Q=>Q [] H
def qfQ(ta:TE)(c:TA):TA:=fun σ H Q=>ta σ H fun x a=>c σ a fun xs b=>Q (x::xs) b
section
variable{X:Cx}{e:Expr}{es:List Expr}{te:TE}{t:TA}{pos:Pos}
theorem qd:PA X [] qgg:=fun _ _ _ _ H Q I h=>kh ⟨[],H,I,.nil,h⟩
theorem qa(f:PE X e te)(g:PA X es t)(i:starEach (e::es) X.env=(false,eval e X.env)::starEach es X.env:=by rfl):PA X (e::es) (qfQ te t):=by
 intro pos pins s σ H Q I h;rw[i];show wpAny _ _ (spliced ((false,eval e X.env)::backTo pos (starEach es X.env))) _ _ s;show X5 (thn (f pins s σ H _ I h) fun u o ⟨x,a,c,m,j⟩=>?_);show thn (g pos pins o σ a _ c j) fun us p ⟨xs,b,d,n,l⟩=>⟨x::xs,b,d,.cons m n,l⟩
inductive NewT(xs:List V)(H:Hp)(Q:VK):Prop|mk (_:xs.length<=sizeLine) (_:∀ p,H p=none->Q (.ref p) (upd H p (.tup xs)))
inductive NewL(xs:List V)(H:Hp)(Q:VK):Prop|mk (_:xs.length<=sizeLine) (_:∀ p,H p=none->Q (.ref p) (upd H p (.lst xs)))
def qgC(t:TA):TE:=fun σ H Q=>t σ H fun xs a=>NewT xs a Q
def qgD(t:TA):TE:=fun σ H Q=>t σ H fun xs a=>NewL xs a Q
theorem qZ{x1}(h:PA X es t):PE X (.Tuple es x1 pos) (qgC t):=by
 intro pins s σ H Q I g;show wpAny_Tuple_spliced (thn (h pos pins s σ H _ I g) fun us a ⟨xs,c,d,r,z,q⟩=>⟨by rw[<- r.length];show z,?_⟩);have f:c a.heap.objs.size=none:=d.hok.fresh (yh _);show⟨.ref a.heap.objs.size,upd c a.heap.objs.size (.tup xs),d.laid (t':=a.toks) (fun b u e=>yv _ e) (yh _) ?_,rfl,q _ f⟩;show⟨z,us,r,⟨_,yS _ rfl,rfl,_,rfl⟩⟩
theorem qQ(h:PA X es t):PE X (.List es pos) (qgD t):=by
 intro pins s σ H Q I g;show wpAny_List_spliced (thn (h pos pins s σ H _ I g) fun us a ⟨xs,c,d,r,z,q⟩=>⟨by rw[<- r.length];show z,?_⟩);have f:c a.heap.objs.size=none:=d.hok.fresh (yh _);show⟨.ref a.heap.objs.size,upd c a.heap.objs.size (.lst xs),d.laid (t':=a.toks) (fun b u e=>yv _ e) (yh _) ?_,rfl,q _ f⟩;show⟨z,us,0,r,yS _ rfl⟩
end
abbrev Sp:=List V->Hp->VK->XK->Prop
abbrev CXT:=List Env->Hp->Shared->XK->Value->Shared->Prop
structure Env0(P:Program)(w:World)(K:yg)(mg:Str->Option Value)(base:Heap)(A:Around)(outer:List Env)(s:Shared)(H:Hp):Prop where
 frames:A.frames=some outer
 mod:Mod K mg base
 bs:∀ b o,base.get? b=some o->s.heap.get? b=some o/\H b=none
 bsz:base.objs.size<=s.heap.objs.size
 funs:s.heap.FunFrames base outer
 frf:∀ b∈frs outer,H b=none
 hok:HOk P w H s.heap
 bare:AllBare s.gens
def CE(outer:List Env)(P:Program)(w:World)(H:Hp)(s:Shared)(Q:VK)(u:Value)(s':Shared):Prop:=
 ∃ v H',s'.os=s.os/\AllBare s'.gens/\Un (frs outer) [] H H' s.heap s'.heap/\HOk P w H' s'.heap/\RelV v u/\Q v H'
def CR(CX:CXT)(outer:List Env)(P:Program)(w:World)(H:Hp)(s:Shared)(Q:VK)(E:XK)(r:Result)(s':Shared):Prop:=
 match r with
 | .ok (.ret u)=>CE outer P w H s Q u s'
 | .ok _=>False
 | .error e=>CX outer H s E e s'
structure FnOk(P:Program)(w:World)(K:yg)(mg:Str->Option Value)(base:Heap)(CX:CXT)(k:Nat)(f:Addr)(fd:FuncData)(ps:LS)(sp:Sp):Prop where
 len:∀ vs H Q E,sp vs H Q E->vs.length=ps.length
 run:∀(A:Around) (outer:List Env) (s:Shared) (H:Hp) (args:Args) (us:List Value) (vs:List V) (Q:VK) (E:XK),Room k A->Env0 P w K mg base A outer s H->BindsTo s fd args (ps.zip us)->Vals vs us->sp vs H Q E ->
  codeAny (model P w) A (.call (.ref f) args) (CR CX outer P w H s Q E) s
theorem Env0.make{K:yg}(e:Env0 P w K mg base A outer s H)(C:Addr)(us:List Value)(kw:List (Str×Value)) :
  Env0 P w K mg base (A.under (.builtin "type.__call__" ⟨.ref C::us,kw⟩)) outer s H:=⟨by first | show e.frames | (simpa [Around.under,Code.envs,Code.isFrame,pushEnvs] using e.frames),e.mod,e.bs,e.bsz,e.funs,e.frf,e.hok,e.bare⟩
section
variable{X:Cx}{pins:List (Addr×Obj)}{σ:St}{H:Hp}{s s':Shared}
theorem Inv.env0(I:Inv X pins σ H s):Env0 X.prog X.w X.K X.mg X.base X.A X.stack s H:=
 ⟨I.ok.frames,I.ok.mod,I.bs,yi I.ok.bsz I.sz,I.stack,I.stkFree,I.hok,I.bare⟩
theorem Inv.after{Q:VK}(I:Inv X pins σ H s)(h:CE X.stack X.prog X.w H s Q u s'):EP X pins σ Q u s':=by
 obtain⟨v,H',i,a,un,c,r,q⟩:=h;obtain⟨f,g,d,t,e⟩:=s';obtain rfl:e=s.os:=i;show⟨v,H',I.call (h':=f) (g':=g) (d':=d) (t':=t) (ch:=[]) un c a (fun b z=>absurd z (by simp)),r,q⟩
end
def qfq(sp:Sp)(a:List V)(E:XK)(t:TA):TE:=fun σ H Q=>t σ H fun vs b=>sp (vs++a) b Q E
inductive MeR(C:Addr)(m:Str)(x:V)(H:Hp)(k:Prop):Prop|mk (a dx:Addr) (fs:List (Str×V)) (_:x=.ref a) (_:H a=some (.ins C dx fs)) (_:fs.lookup m=none) (_:k)
def qd0(C:Addr)(m:Str)(sp:Sp)(a:List V)(E:XK)(ta:TE)(t:TA):TE:=fun σ H Q=>ta σ H fun x b=>MeR C m x b (t σ b fun vs c=>sp (x::(vs++a)) c Q E)
def qfr(C:Addr)(sp:Sp)(b:List V)(E:XK)(t:TA):TE:=fun σ H Q=>t σ H fun vs a=>∀ x dx,a x=none->a dx=none->dx≠x ->
 sp (.ref x::(vs++b)) (upd (upd a dx (.own x)) x (.ins C dx [])) (fun v c=>v=.non/\Q (.ref x) c) E
def Binds(K:yg)(b:FuncData)(ps:LS)(a:List Value):Prop:=
 ∀(s:Shared) (us:List Value),K.In s.heap->(us++a).length=ps.length->BindsTo s b ⟨us,[]⟩ (ps.zip (us++a))
theorem Binds.all{K:yg}{a:FuncData}(h:∀ us:List Value,us.length=ps.length->bindArgs a ⟨us,[]⟩=pure (ps.zip us)):Binds K a ps []:=fun s us _ hl=>by
 rw[Yb] at hl ⊢;show .of_eq (h us hl)
def qba(CX:CXT)(X:Cx)(E:XK):Prop:=∀(pins:List (Addr×Obj)) (σ:St) (H:Hp) (s:Shared) (e:Value) (s':Shared),Inv X pins σ H s->CX X.stack H s E e s'->X.xe e s'
section
variable{X:Cx}{CX:CXT}{k:Nat}{f C:Addr}{fd:FuncData}{ps:LS}{sp:Sp}{dvs:List V}{ds:List Value}{E:XK}{x m:Str}{p pos apos:Pos}{e o:Expr}{es:List Expr}{ta:TE}{t:TA}
theorem qd1{Q:VK}(F:FnOk X.prog X.w X.K X.mg X.base CX k f fd ps sp)(d:Room k X.A)(hb:Binds X.K fd ps ds)(c:Vals dvs ds)(g:qba CX X E)
  (I:Inv X pins σ H s) (r:Vals vs us) (h:sp (vs++dvs) H Q E):wpAny (model X.prog X.w) X.A (call (.ref f) us) (EP X pins σ Q) X.xe s:=by
 have b:Vals (vs++dvs) (us++ds):=r.append c;have hl:(us++ds).length=ps.length:=by rw[<- b.length];show F.len _ _ _ _ h
 show X6 (kO (F.run X.A X.stack s H ⟨us,[]⟩ (us++ds) (vs++dvs) Q E d I.env0 (hb s us I.kIn hl) b h) fun r s' a=>?_)
 cases r with
 | error e=>show g pins σ H s e s' I a
 | ok fl =>
  cases fl with
  | ret u=>show I.after a
  | next=>show False.elim a
  | brk=>show False.elim a
  | cont=>show False.elim a
theorem pe_call(F:FnOk X.prog X.w X.K X.mg X.base CX k f fd ps sp)(n:Room k X.A)(j:Gl X x)(m:X.mg x=some (.ref f))(l:PySem.W.keepIn X.K (.ref f)=true)(hb:Binds X.K fd ps ds)(g:Vals dvs ds)(o:qba CX X E)
  (d:PA X (e::es) t) (a:(x==("__debug__":Str))=false:=by decide) (i:starEach (e::es) X.env=(false,eval e X.env)::starEach es X.env:=by rfl) (b:(backTo pos (starEach es X.env)).any (·.1)=false:=by rfl) :
  PE X (.Call (.Name x p) (e::es) [] pos) (qfq sp dvs E t):=by
 intro pins s σ H Q I h;show Xp (qcM I j m ?_ a);show X7 (h₀:=X.base) I.ok.mod.kin l (thn (d pos pins s σ H _ I h) fun us y ⟨vs,u,c,r,q⟩=>⟨c.kIn,?_⟩) i b;show qd1 F n hb g o c r q
theorem pe_meth(B:PE X o ta)(c:Cls X.K C)(j:Meth X.K C m f)(F:FnOk X.prog X.w X.K X.mg X.base CX k f fd ps sp)(D:Room k X.A)(hb:Binds X.K fd ps ds)(z:Vals dvs ds)(J:qba CX X E)(y:PA X (e::es) t)
  (d:starEach (e::es) X.env=(false,eval e X.env)::starEach es X.env:=by rfl) (b:(backTo pos (starEach es X.env)).any (·.1)=false:=by rfl)
  (G:eval (.Call (.Attribute o m apos) (e::es) [] pos) X.env=(do
   let ov <- eval o X.env
   standAt apos.atName
   let (f,first) <- holding [ov] (getMethod ov m pl)
   callWith pos f first (backTo pos (starEach (e::es) X.env)) (backToKw pos (keywordEach [] X.env))):=by rfl) :
  PE X (.Call (.Attribute o m apos) (e::es) [] pos) (qd0 C m sp dvs E ta t):=by
 intro pins s σ H Q I h;show PySem.W.methodCall_KW (pl:=pl) (thn (B pins s σ H _ I h) fun u N ⟨x,n,g,M,a,dx,fs,ex,p,l,q⟩=>?_) G;subst ex;obtain rfl:u=Value.ref a:=M;show qbI g p c j l ?_;show X7 (first:=[.ref a]) (h₀:=X.base) I.ok.mod.kin j.kp (thn (y pos pins N σ n _ g q) fun us P ⟨vs,O,i,r,L⟩=>⟨i.kIn,?_⟩) d b;show qd1 (us:=.ref a::us) (vs:=.ref a::vs) F D hb z J i (.cons rfl r) L
theorem pe_meth0(i:PE X o ta)(c:Cls X.K C)(d:Meth X.K C m f)(F:FnOk X.prog X.w X.K X.mg X.base CX k f fd ps sp)(j:Room k X.A)(hb:Binds X.K fd ps ds)(g:Vals dvs ds)(p:qba CX X E)
  (n:eval (.Call (.Attribute o m apos) [] [] pos) X.env=(do
   let ov <- eval o X.env
   standAt apos.atName
   let (f,first) <- holding [ov] (getMethod ov m pl)
   callWith pos f first (backTo pos (starEach [] X.env)) (backToKw pos (keywordEach [] X.env))):=by rfl) :
  PE X (.Call (.Attribute o m apos) [] [] pos) (qd0 C m sp dvs E ta qgg):=by
 intro pins s σ H Q I h;show PySem.W.methodCall_KW (pl:=pl) (thn (i pins s σ H _ I h) fun u y ⟨x,t,b,r,a,dx,fs,ex,e,l,q⟩=>?_) n;subst ex;obtain rfl:u=Value.ref a:=r;show qbI b e c d l ?_;show PySem.W.callWith_K0 (first:=[.ref a]) b.kIn d.kp (qd1 (us:=[.ref a]) (vs:=[.ref a]) F j hb g p b (.cons rfl .nil) q)
structure Mk(K:yg)(C f:Addr):Prop where
 makes:PySem.W.makesIn K C=true
 init:PySem.W.findIn K (.ref C) "__init__"=some (some (.ref f))
 fn:PySem.W.isFn K (.ref f)=true
 kp:PySem.W.keepIn K (.ref C)=true
theorem run_make{Q:VK}(M:Mk X.K C f)(F:FnOk X.prog X.w X.K X.mg X.base CX k f fd ps sp)(m:Room (k+1) X.A)(hb:Binds X.K fd ps ds)(l:Vals dvs ds)
  (n:qba CX X E) (I:Inv X pins σ H s) (r:Vals vs us)
  (h:∀ x dx,H x=none->H dx=none->dx≠x->sp (.ref x::(vs++dvs)) (upd (upd H dx (.own x)) x (.ins C dx [])) (fun v g=>v=.non/\Q (.ref x) g) E) :
  wpAny (model X.prog X.w) X.A (call (.ref C) us) (EP X pins σ Q) X.xe s:=by
 have c:=h (s.heap.objs.size+1) s.heap.objs.size (I.hok.fresh (xH _)) (I.hok.fresh (yh _)) (yF (xR _));have b:=Inv.made (C:=C) I;have d:Vals (V.ref (s.heap.objs.size+1)::(vs++dvs)) (Value.ref (s.heap.objs.size+1)::(us++ds)):=.cons rfl (r.append l)
 have hl:(Value.ref (s.heap.objs.size+1)::us++ds).length=ps.length:=by
  have e:=d.length;rw[F.len _ _ _ _ c] at e;show e.symm
 show X6 (make_map (f:=f) I.kIn M.makes M.init (Yu.mp M.fn) (kO (F.run _ X.stack _ _ ⟨Value.ref (s.heap.objs.size+1)::us,[]⟩ (Value.ref (s.heap.objs.size+1)::(us++ds)) _ _ E (m.make C us [])
  (b.env0.make C us []) (hb _ (Value.ref (s.heap.objs.size+1)::us) b.kIn hl) d c) fun r s' a=>?_))
 cases r with
 | error e=>show n pins σ _ _ e s' b a
 | ok fl =>
  cases fl with
  | ret u =>
   obtain⟨v,H',i,p,j,o⟩:=b.after a;subst j;show⟨p,⟨V.ref (s.heap.objs.size+1),H',i,rfl,o⟩⟩
  | next=>show False.elim a
  | brk=>show False.elim a
  | cont=>show False.elim a
theorem pe_make(M:Mk X.K C f)(F:FnOk X.prog X.w X.K X.mg X.base CX k f fd ps sp)(m:Room (k+1) X.A)(j:Gl X x)(l:X.mg x=some (.ref C))(hb:Binds X.K fd ps ds)(g:Vals dvs ds)(n:qba CX X E)
  (d:PA X (e::es) t) (a:(x==("__debug__":Str))=false:=by decide) (i:starEach (e::es) X.env=(false,eval e X.env)::starEach es X.env:=by rfl) (b:(backTo pos (starEach es X.env)).any (·.1)=false:=by rfl) :
  PE X (.Call (.Name x p) (e::es) [] pos) (qfr C sp dvs E t):=by
 intro pins s σ H Q I h;show Xp (qcM I j l ?_ a);show X7 (h₀:=X.base) I.ok.mod.kin M.kp (thn (d pos pins s σ H _ I h) fun us u ⟨vs,o,c,r,q⟩=>⟨c.kIn,?_⟩) i b;show run_make M F m hb g n c r q
end
section
variable{X:Cx}{CX:CXT}{k:Nat}{f C:Addr}{fd:FuncData}{ps ks:LS}{sp:Sp}{E:XK}{x m:Str}{p pos apos kpos:Pos}{e o:Expr}{es:List Expr}{kws:List Keyword}{te ta:TE}{t tk:TA}{nm:Option Str}
structure KBinds(K:yg)(fd:FuncData)(ps ks:LS)(g:List Value->List Value->List Value)(gV:List V->List V->List V):Prop where
 to:∀(s:Shared) (us ws:List Value),K.In s.heap->(g us ws).length=ps.length->BindsTo s fd ⟨us,ks.zip ws⟩ (ps.zip (g us ws))
 rel:∀{vs:List V} {us:List Value} {zs:List V} {ws:List Value},Vals vs us->Vals zs ws->Vals (gV vs zs) (g us ws)
variable{g:List Value->List Value->List Value}{gV:List V->List V->List V}
end
structure FnScope(N P:LS)(sc:Scope):Prop where
 kind:sc.kind=.function
 co:sc.isCoroutine=false
 gen:sc.isGenerator=false
 nd:N.Nodup
 pre:N.take P.length=P
 par:∀ x∈P,sc.names.lookup x=some .local\/sc.names.lookup x=some .cell
 nofree:∀ y∈sc.names,y.2≠.free
theorem fS{P:LS}(a:sc.kind=.function:=by rfl)(b:sc.isCoroutine=false:=by rfl)(c:sc.isGenerator=false:=by rfl)(d:N.Nodup:=by room)(e:N.take P.length=P:=by rfl)(f:∀ x∈P,sc.names.lookup x=some .local\/sc.names.lookup x=some .cell:=by room)(g:∀ y∈sc.names,y.2≠.free:=by room):FnScope N P sc:=⟨a,b,c,d,e,f,g⟩
theorem qck:∀{binds:List (Str×Value)} {m:Str->Option Value},(∀ v,(x,v)∉binds)->bindL kindOf binds m x=m x
 | [],_,_=>rfl
 | (n,v)::r,m,h=>by
  unfold bindL;rw[qck fun w hw=>h w (yy _ hw)];split
  .have:x≠n:=by rintro rfl;show h v yE
   simp[this]
  .rfl
theorem qcl:∀{binds:List (Str×Value)} {m:Str->Option Value},(∀ v,(x,v)∉binds)->bindC kindOf binds m x=m x
 | [],_,_=>rfl
 | (n,v)::r,m,h=>by
  unfold bindC;rw[qcl fun w hw=>h w (yy _ hw)];split
  .rfl
  .have:x≠n:=by rintro rfl;show h v yE
   simp[this]
theorem qcm{v:Value}:∀{P:LS} {vs:List Value} {i:Nat} {m:Str->Option Value},P.Nodup->P[i]?=some x->vs[i]?=some v->kindOf x=some .local ->
  bindL kindOf (P.zip vs) m x=some v
 | [],_,_,_,_,h,_,_=>by simp at h
 | _::_,[],_,_,_,_,h,_=>by simp at h
 | p::P,w::vs,0,m,nd,h1,h2,hk=>by
  simp at h1 h2;subst h1;subst h2;show bindL kindOf ((p,w)::P.zip vs) m p=_;unfold bindL;rw[qck fun v hv=>(yo.mp nd).1 (kT hv).1,yG hk];simp
 | p::P,w::vs,i+1,m,nd,h1,h2,hk=>by
  show bindL kindOf ((p,w)::P.zip vs) m x=_;unfold bindL;show qcm (i:=i) (yo.mp nd).2 (by simpa using h1) (by simpa using h2) hk
theorem qcn{v:Value}:∀{P:LS} {vs:List Value} {i:Nat} {m:Str->Option Value},P.Nodup->P[i]?=some x->vs[i]?=some v->kindOf x≠some .local ->
  bindC kindOf (P.zip vs) m x=some v
 | [],_,_,_,_,h,_,_=>by simp at h
 | _::_,[],_,_,_,_,h,_=>by simp at h
 | p::P,w::vs,0,m,nd,h1,h2,hk=>by
  simp at h1 h2;subst h1;subst h2;show bindC kindOf ((p,w)::P.zip vs) m p=_;unfold bindC;rw[qcl fun v hv=>(yo.mp nd).1 (kT hv).1,yC hk];simp
 | p::P,w::vs,i+1,m,nd,h1,h2,hk=>by
  show bindC kindOf ((p,w)::P.zip vs) m x=_;unfold bindC;show qcn (i:=i) (yo.mp nd).2 (by simpa using h1) (by simpa using h2) hk
noncomputable def start(N:LS)(vs:List V):St:=vs.map some++List.replicate (N.length-vs.length) none
noncomputable def qfB(CX:CXT)(P:Program)(w:World)(K:yg)(mg:Str->Option Value)(base:Heap)(N:LS)(qual:Str)(scope:Scope)(f:Addr)(b:Value)(A:Around)(outer:List Env)(s:Shared)(H:Hp)(E:XK):Cx where
 prog:=P
 w:=w
 K:=K
 mg:=mg
 base:=base
 A:=A.deeper (envOfC qual scope s.heap.objs.size f b)
 N:=N
 s₀:=s
 H₀:=H
 env:=envOfC qual scope s.heap.objs.size f b
 outer:=outer
 stack:=envOfC qual scope s.heap.objs.size f b::outer
 ex:=[]
 calm:=true
 fn:=fun _=>true
 pn:=[]
 xe:=fun e s'=>wpAny (model P w) (A.deeper (envOfC qual scope s.heap.objs.size f b)) (leaving (envOfC qual scope s.heap.objs.size f b) e) (fun _ a=>CX outer H s E e a) (fun c a=>CX outer H s E c a) s'
theorem qdj(h:sc.names.lookup x=some .cell):∃ c,(cellsFrom n sc.names []).lookup x=some c:=by
 have q:=PySem.W.cellsFrom_some sc.names n [] (.inl h);show Y9.mp q
theorem inv_start{K:yg}{f:Addr}{o:Value}{D:Shared}{E:XK}
  (S:FnScope N ps scope) (G:A.handled=none) (g:Env0 P w K mg base A outer s H) (hl:vs.length=ps.length) (r:Vals vs us)
  (x:InCallC s s.heap.objs.size (bindL (envOfC qual scope s.heap.objs.size f o).kindOf (ps.zip us) fun _=>none) (cellsFrom (s.heap.objs.size+1) scope.names []) (bindC (envOfC qual scope s.heap.objs.size f o).kindOf (ps.zip us) fun _=>none) D) :
  Inv (qfB CX P w K mg base N qual scope f o A outer s H E) [] (start N vs) H D:=by
 have I:ps.length<=N.length:=by have:=congrArg List.length S.pre;rw[yT] at this;lk
 obtain⟨h1,tk,rfl,B⟩:=x.done;have j:∀ b:Addr,b∉(qfB CX P w K mg base N qual scope f o A outer s H E).ex:=fun b z=>absurd (show b∈([]:LQ) from z) (by simp);show⟨⟨g.mod,S.kind,rfl,rfl,yh _,fun y z c h1 d=>?_,fun y hy=>?_,fun y c _ h=>?_,fun _=>G,Around.frames_deeper g.frames,.inr ⟨rfl,rfl⟩,fun b z=>absurd z (j b),g.bs,g.bsz,fun b _ _=>j b,fun b z=>absurd z (j b),g.funs,g.frf⟩,
  rfl,g.bare,Un.kept B,⟨_,x.toInCall.ns,fun i y v h1 d L=>?_⟩,fun y c h=>⟨_,x.cell y c h⟩,g.hok.fresh (yh _),fun y c h=>?_,fun p l=>absurd (show p∈([]:List (Addr×Obj)) from l) (by simp),g.hok.kept B,?_⟩
 .show name_of_addr x.apart (xM h1) (xM d)
 .have hy:scope.names.lookup y=some .cell\/scope.names.lookup y=some .free:=hy;rcases hy with hy | hy
  .show qdj hy
  .show absurd rfl (S.nofree _ (xM hy))
 .show yV (x.above y c (xM h))
 .have t:i<vs.length:=by
   unfold start at d;by_cases t:i<vs.length
   .show t
   .rw [yI (by simpa using t)] at d;rw[Xs] at d;split at d<;>cases d
  have F:vs[i]?=some v:=by
   unfold start at d;rw[y0 (by simpa using t),yd] at d
   cases e:vs[i]? with
   | none=>rw[e] at d;cases d
   | some a=>rw[e] at d;cases d;rfl
  obtain⟨u,C,J⟩:=r.get F
  have l:ps[i]?=some y:=by
   rw[<- S.pre,List.getElem?_take_of_lt (by lk)];show h1
  have m:ps.Nodup:=by rw[<- S.pre];show S.nd.sublist (Xu _ _)
  show⟨u,J,?_⟩;rcases S.par y (ye l) with k | k
  .show .inl ⟨k,qcm m l C k⟩
  .obtain⟨c,e⟩:=qdj (n:=s.heap.objs.size+1) k;show .inr ⟨.inl k,c,e,?_⟩;have q:=x.cell y c e;rw[qcn m l C (by show scope.names.lookup y≠_;rw[k];decide)] at q;show q
 .show g.hok.fresh (yV (x.above y c (xM h)))
 .unfold start;show _=N.length;rw[yt,ya,YS];lk
theorem fn_of{K:yg}{k:Nat}{f:Addr}{name:Str}{c:Arguments}{M kV j O a ct oc:Value}{L od:Option Addr}
  {D:Array (Option Value)} {sp:Sp} (lk:K.lookup f=some ⟨oc,od,.func (PySem.W.fnOf name qual c body scope M kV j O L a ct),D⟩) (z:PySem.W.codeIn K a qual=true) (S:FnScope N ps scope)
  (len:∀ vs H Q E,sp vs H Q E->vs.length=ps.length)
  (g:∀(A:Around) (outer:List Env) (s:Shared) (H:Hp) (vs:List V) (Q:VK) (E:XK),Room k (A.deeper (envOfC qual scope s.heap.objs.size f a))->sp vs H Q E ->
   ∃ t,PSs (qfB CX P w K mg base N qual scope f a A outer s H E) body t/\t { nx:=fun _ H'=>Q .non H',rt:=Q } (start N vs) H) :
  FnOk P w K mg base CX (k+1) f (PySem.W.fnOf name qual c body scope M kV j O L a ct) ps sp:=by
 show⟨len,fun A outer s H args us vs Q E B l hb r p=>?_⟩;have hl:=len _ _ _ _ p;have G:K.In s.heap:=l.mod.kin.keeps fun b o e=>(l.bs b o e).1;have C:s.heap.NoLimit:=l.mod.nolimit.keeps fun b o e=>(l.bs b o e).1
 have h:∀ y∈ps.zip us,scope.names.lookup y.1=some .local\/(scope.names.lookup y.1=some .cell/\((cellsFrom (s.heap.objs.size+1) scope.names []).lookup y.1).isSome=true):=fun⟨n,v⟩ Z=>by
  rcases S.par n (kT Z).1 with q | q
  .show .inl q
  .show .inr ⟨q,PySem.W.cellsFrom_some _ _ _ (.inl q)⟩
 show codeAny_call_function B.depth (G _ _ lk) rfl S.co S.gen rfl (PySem.W.codeRec_of G z) (hb _ _ _ _ ?_);show wpAny_newFunctionEnv_cells S.kind h fun env U R x=>?_;subst U;show⟨C.keeps x.toInCall.keep,codeAny_func ?_⟩;obtain⟨t,Y,X⟩:=g A outer s H vs Q E (B.deeper _) p;have I:Inv (qfB CX P w K mg base N qual scope f a A outer s H E) [] (start N vs) H R:=inv_start S B.hd l hl r x;show YW (Y [] R (start N vs) H _ I X) (fun T s' i=>?_) fun e s' i=>i
 have m:∀{d:St} {H':Hp} {v:V} {u:Value},Inv (qfB CX P w K mg base N qual scope f a A outer s H E) [] d H' s'->RelV v u->Q v H'->CE outer P w H s Q u s':=
  fun{d H' v u} J F q=>⟨v,H',J.os,J.bare,J.base,J.hok,F,q⟩
 cases T with
 | ret u =>
  obtain⟨v,d,H',J,F,q⟩:=i;show m J F q
 | next =>
  obtain⟨d,H',J,q⟩:=i;show m (v:=V.non) (u:=Value.none) J rfl q
 | brk =>
  obtain⟨_,_,_,q⟩:=i;show False.elim q
 | cont =>
  obtain⟨_,_,_,q⟩:=i;show False.elim q
section
variable{X:Cx}{x:Str}{p pos:Pos}{e:Expr}{es:List Expr}{t:TA}{id T:String}{r:List V->Hp->VK->Prop}
def tCB(r:List V->Hp->VK->Prop)(t:TA):TE:=fun σ H Q=>t σ H fun vs a=>r vs a Q
theorem qj(hc:j0 X (.builtin id) r)(i:Gl X x)(j:X.mg x=none)(hv:bootBuiltins x=some (.builtin id))(f:PA X (e::es) t)(l:x≠"__name__":=by decide)(a:(x==("__debug__":Str))=false:=by decide)
  (g:starEach (e::es) X.env=(false,eval e X.env)::starEach es X.env:=by rfl) (b:(backTo pos (starEach es X.env)).any (·.1)=false:=by rfl):PE X (.Call (.Name x p) (e::es) [] pos) (tCB r t):=by
 intro pins s σ H Q I h;show Xp (qa9 I i j hv ?_ l a);show PyProof.Rows.callWith_builtin1 (thn (f pos pins s σ H _ I h) fun us o ⟨vs,c,d,n,m⟩=>hc pins o σ c vs us Q d n m) g b
theorem jq(hc:j0 X (.type T) r)(i:Gl X x)(j:X.mg x=none)(hv:bootBuiltins x=some (.type T))(f:PA X (e::es) t)(l:x≠"__name__":=by decide)(a:(x==("__debug__":Str))=false:=by decide)
  (g:starEach (e::es) X.env=(false,eval e X.env)::starEach es X.env:=by rfl) (b:(backTo pos (starEach es X.env)).any (·.1)=false:=by rfl):PE X (.Call (.Name x p) (e::es) [] pos) (tCB r t):=by
 intro pins s σ H Q I h;show Xp (qa9 I i j hv ?_ l a);show YL (thn (f pos pins s σ H _ I h) fun us o ⟨vs,c,d,n,m⟩=>hc pins o σ c vs us Q d n m) g b
end
end L2
namespace HT
open PySem PyProof.Rows
variable{hi lo:Option Int}{sl t:Addr}{vl vu:Value}
noncomputable def lexLt:LX->LX->Bool
 | [],[]=>false
 | [],_::_=>true
 | _::_,[]=>false
 | x::xs,y::ys=>if x=y then lexLt xs ys else decide (x<y)
section
open PySem.SeqAt
open PySem.AutoSeq1 (wpAny_loadPart')
open PySem.MeetsSeq PySem.MeetsSeq2 PySem.MeetsSeq3
end
section
variable{prog:Program}{w:World}{A:Around}{E:Value->Shared->Prop}{s:Shared}
theorem cat_tup{b:Addr}{vs a:List Value}{Q:Value->Shared->Prop}(r:IsTup s.heap t vs.toArray)(hb:IsTup s.heap b a.toArray)(hv:vs≠[])
  (h1:a=[]->Q (.ref t) s) (q:a≠[]->Q (.ref s.heap.objs.size) { s with heap:=s.heap.push { cls:=.type "tuple",data:=.seq (vs++a).toArray } })
  (hsz:vs.length+a.length<=sizeLine):wpAny (model prog w) A (binaryOp .Add (.ref t) (.ref b)) Q E s:=by
 obtain⟨⟨cls,m,data,sl⟩,i,hc,n,o⟩:=id r;obtain⟨⟨l,d,j,h⟩,c,f,p,g⟩:=id hb;simp only at hc o f g;subst hc o f g;have e:vs.toArray++a.toArray=(vs++a).toArray:=by simp
 by_cases hw:a=[]
 .show concat_meets ⟨_,i,rfl⟩ ⟨_,c,rfl⟩ noFill_tuple_add seq_tuple_add PySem.F.slot_tuple_add PySem.F.entry_tuple_add (PySem.F.args_tuple_add_2 _ _)
   (tuple_addW1 t b vs.toArray a.toArray n p m d sl h (by simpa using hv) (by simp[hw])) ⟨i,c,h1 hw⟩
 .show concat_meets ⟨_,i,rfl⟩ ⟨_,c,rfl⟩ noFill_tuple_add seq_tuple_add PySem.F.slot_tuple_add PySem.F.entry_tuple_add (PySem.F.args_tuple_add_2 _ _)
   (tuple_addW2 t b vs.toArray a.toArray n p m d sl h (by simpa using hv) (by simpa using hw) (by rw[yw,yw];show hsz)) ⟨i,c,?_⟩
  rw[e];show q hw
noncomputable def sIx(n d:Nat):Option Int->Nat
 | none=>d
 | some v=>if v<0 then(v+(n:Int)).toNat else min v.toNat n
theorem sIx_none(n d:Nat):sIx n d none=d:=rfl
theorem sIx_nat(n d k:Nat):sIx n d (some (k:Int))=min k n:=by
 show(if (k:Int)<0 then((k:Int)+(n:Int)).toNat else min (k:Int).toNat n)=min k n;rw[yC (by lk),Yw]
theorem sIx_le(n d:Nat)(a:d<=n)(o:Option Int):sIx n d o<=n:=by
 cases o with
 | none=>show a
 | some v =>
  show(if v<0 then(v+(n:Int)).toNat else min v.toNat n)<=n;by_cases hv:v<0
  .rw [yG hv];lk
  .rw [yC hv];show Nat.min_le_right _ _
theorem qd2(v:Int)(n d:Nat):(if v<0 then max (v+(n:Int)) 0 else min v (n:Int))=((sIx n d (some v):Nat):Int):=by
 show(if v<0 then max (v+(n:Int)) 0 else min v (n:Int))=(((if v<0 then(v+(n:Int)).toNat else min v.toNat n):Nat):Int);by_cases hv:v<0
 .simp only[yG hv];lk
 .simp only[yC hv];lk
theorem adjust_gen(lo hi:Option Int)(n:Nat):Builtin.Slice.sliceAdjust lo hi 1 (n:Int)=(((sIx n 0 lo:Nat):Int),((sIx n n hi:Nat):Int)):=by
 have h1:¬ ((1:Int)<0):=by lk
 unfold Builtin.Slice.sliceAdjust;simp only[h1,xA];show xI ?_ ?_
 .cases lo with
  | none=>rfl
  | some v=>show qd2 v n 0
 .cases hi with
  | none=>rfl
  | some v=>show qd2 v n n
theorem places_gen(i j:Nat):Builtin.Slice.slicePlaces (i:Int) (j:Int) 1=j-i:=by
 unfold Builtin.Slice.slicePlaces;have h1:(1:Int)>0:=by lk
 simp only[h1,Xv,Int.ediv_one];split<;>lk
theorem qa3{v:Value}{o:Option Int}{Q:Option Int->Shared->Prop}(p:IsPart v o)(h:Q o s):wpAny (model prog w) A (Builtin.Slice.slicePartIndex v) Q E s:=by
 cases p with
 | none=>show X8 h
 | int i t=>show slicePart_int h
theorem sliceApplied_gen{n:Nat}{Q:Int×Int×Nat->Shared->Prop}(d:s.heap.IsSliceOf sl vl vu .none)(pl:IsPart vl lo)(e:IsPart vu hi)
  (h:Q (((sIx n 0 lo:Nat):Int),1,sIx n n hi-sIx n 0 lo) s):wpAny (model prog w) A (Builtin.Slice.sliceApplied (.ref sl) (pure (n:Int))) Q E s:=by
 obtain⟨f,b,c,a⟩:=id d;unfold Builtin.Slice.sliceApplied Builtin.Slice.sliceFields;show yr (yr (xm b a (x:=vl) rfl (yr (xm b a (x:=vu) rfl (yr (xm b a (x:=.none) rfl (yu ?_)))))));show yr (X8 ?_);show wpAny _ _ (if ((1:Int)==0)=true then _ else _) _ _ s;rw[yC (by decide)];show yr (qa3 pl (yr (qa3 e (yr (yu ?_)))));show wpAny _ _ (match Builtin.Slice.sliceAdjust lo hi 1 (n:Int) with | (lo,hi)=>pure (lo,(1:Int),Builtin.Slice.slicePlaces lo hi 1)) _ _ s;rw[adjust_gen lo hi n];show wpAny _ _ (pure (((sIx n 0 lo:Nat):Int),(1:Int),Builtin.Slice.slicePlaces ((sIx n 0 lo:Nat):Int) ((sIx n n hi:Nat):Int) 1)) _ _ s;rw[places_gen];show yu h
theorem pick_gen(xs:Array Value)(i k:Nat):((List.range k).filterMap fun(m:Nat)=>xs[((i:Int)+(m:Int)*1).toNat]?).toArray=((xs.toList.drop i).take k).toArray:=by
 have e:(fun(m:Nat)=>xs[((i:Int)+(m:Int)*1).toNat]?)=fun m=>xs[i+m]?:=by
  funext m;have:((i:Int)+(m:Int)*1).toNat=i+m:=by lk
  rw[this]
 rw[e];have:=pick_run xs i k;rw[List.filterMap_map] at this;have a:((fun x=>xs[x]?) ∘ fun x=>i+x)=fun m=>xs[i+m]?:=rfl;rw[a] at this;rw[this]
theorem getItem_tuple_cut{a:Array Value}{Q:Value->Shared->Prop}(c:IsTup s.heap t a)(i:s.heap.IsSliceOf sl vl vu .none)(pl:IsPart vl lo)(n:IsPart vu hi)
  (hw:¬ (sIx a.size 0 lo=0/\sIx a.size a.size hi=a.size))
  (h:Q (.ref s.heap.objs.size) { s with heap:=s.heap.push { cls:=.type "tuple",data:=.seq ((a.toList.drop (sIx a.size 0 lo)).take (sIx a.size a.size hi-sIx a.size 0 lo)).toArray } })
  (hsz:a.size<=sizeLine):wpAny (model prog w) A (getItem (.ref t) (.ref sl)) Q E s:=by
 have b:sizeOk (.seq ((a.toList.drop (sIx a.size 0 lo)).take (sIx a.size a.size hi-sIx a.size 0 lo)).toArray):=by
  show((a.toList.drop (sIx a.size 0 lo)).take (sIx a.size a.size hi-sIx a.size 0 lo)).toArray.size<=sizeLine;rw[yw,yT,kD,xL];lk
 have o:sIx a.size a.size hi<=a.size:=sIx_le _ _ (yh _) hi;obtain⟨l,g,e,j⟩:=id i;have d:s.TypeIs (.ref sl) "slice":=⟨l,g,e⟩;unfold getItem
 try with_reducible show Yk ?_
 first | show yr (yu ?_) | skip
 show yr (wpAny_sequenceKey c.typeIs (by decide) ?_);show yr (xS (name:=Str.ofString "__getitem__") c.typeIs YE
  (xx YE c.typeIs entry_tuple_getitem ?_ (args_tuple_getitem _ _)))
 show wpAny _ _ (Builtin.Tuple.tupleItemsOf (.ref t)>>=_) _ _ s;show yr (tupleItemsOf_ c ?_);show yr (wpAny_typeOf d ?_);rw[yG (by decide)];show yr (sliceApplied_gen i pl n ?_)
 have f:¬ ((((sIx a.size 0 lo:Nat):Int)==0&&(1:Int)==1&&(sIx a.size a.size hi-sIx a.size 0 lo)==a.size)=true):=by
  intro q;rw[yY,yY] at q;have p:((sIx a.size 0 lo:Nat):Int)=0:=eq_of_beq q.1.1;have r:sIx a.size a.size hi-sIx a.size 0 lo=a.size:=eq_of_beq q.2;show hw ⟨by lk,by lk⟩
 show wpAny _ _ (if (((sIx a.size 0 lo:Nat):Int)==0&&(1:Int)==1&&(sIx a.size a.size hi-sIx a.size 0 lo)==a.size)=true then _ else _) _ _ s;rw[yC f,pick_gen]
 first
  | show yr (m:=Builtin.Tuple.tupleExact _) (YR (yu ⟨_,rfl,yu h⟩) b)
  | show yr (m:=Builtin.Tuple.tupleExact _) (YR (yr (yu (yu ⟨_,rfl,yu h⟩))) b)
  | show yr (yr (m:=Builtin.Tuple.tupleExact _) (YR (yu (yu ⟨_,rfl,yu h⟩)) b))
  | show yr (yr (m:=Builtin.Tuple.tupleExact _) (YR (yu ⟨_,rfl,yu h⟩) b))
end
end HT
namespace L2
open PySem PySem.Spec PyProof.Rows
variable{A:Around}{H H':Hp}{P:Program}{X:Cx}{a p:Addr}{h':Heap}{i:Int}{its its' us:List Value}{j n t':Nat}{kvs:List (List Key×V)}{o:Option V}{pins:List (Addr×Obj)}{r:R2}{s:Shared}{u:Value}{w:World}{x y:V}{xs:List V}{α:Type}{σ:St}
abbrev TO:=St->Hp->(Option Int->Hp->Prop)->Prop
def PO(X:Cx)(e:Option Expr)(t:TO):Prop:=
 ∀(pins:List (Addr×Obj)) (s:Shared) (σ:St) (H:Hp) (Q:Option Int->Hp->Prop),Inv X pins σ H s->t σ H Q ->
  wpAny (model X.prog X.w) X.A (evalPart e X.env) (fun u a=>∃ o H',Inv X pins σ H' a/\IsPart u o/\Q o H') X.xe s
def qd3:TO:=fun _ H Q=>Q none H
def qfR(t:TE):TO:=fun σ H Q=>t σ H fun x a=>∃ i,x=.int i/\Q (some i) a
section
variable{X:Cx}{e:Expr}{te:TE}{lo hi:Option Expr}{tl th:TO}{pos p2:Pos}
theorem zo:PO X none qd3:=by
 intro pins s σ H Q I h;rw[ky];show yu ⟨none,H,I,.none,h⟩
theorem jE(h:PE X e te):PO X (some e) (qfR te):=by
 intro pins s σ H Q I hw;rw[evalPart_some];show thn (h pins s σ H _ I hw) fun u f ⟨x,a,b,d,c⟩=>?_;obtain⟨i,rfl,q⟩:=c;obtain⟨t,rfl⟩:=d;show⟨some i,a,b,.int i t,q⟩
def SlR(X:Cx)(r:V->Option Int->Option Int->Hp->VK->Prop):Prop:=
 ∀(pins:List (Addr×Obj)) (s:Shared) (σ:St) (H:Hp) (x:V) (v b c:Value) (lo hi:Option Int) (a:Addr) (Q:VK),Inv X pins σ H s->RelV x v->s.heap.IsSliceOf a b c .none->IsPart b lo->IsPart c hi->r x lo hi H Q ->
  ∃ T id,typeLookup (.type T) "__getitem__"=pure (some (.builtin id))/\s.TypeIs v T/\wpAny (model X.prog X.w) X.A (getItem v (.ref a)) (EP X pins σ Q) X.xe s
def tSl(r:V->Option Int->Option Int->Hp->VK->Prop)(te:TE)(tl th:TO):TE:=fun σ H Q=>te σ H fun x a=>tl σ a fun l b=>th σ b fun u c=>r x l u c Q
theorem jJ{r:V->Option Int->Option Int->Hp->VK->Prop}(z:SlR X r)(t:PE X e te)(hl:PO X lo tl)(C:PO X hi th):PE X (.Subscript e (.Slice lo hi none p2) pos) (tSl r te tl th):=by
 intro pins s σ H Q I h;show Subscript_ (thn (t pins s σ H _ I h) fun v K ⟨x,g,j,J,E⟩=>?_);show wpAny_Slice (thn (hl pins K σ g _ j E) fun c L ⟨l,i,m,pl,F⟩=>thn (C pins L σ i _ m F) fun d a ⟨u,f,n,D,G⟩=>?_);rw[ky];show yu ?_;have o:Inv X pins σ f { a with heap:=a.heap.push { cls:=.type "slice",data:=.fields #[c,d,.none] } }:=n.kept (t':=a.toks) fun b M q=>yv _ q;obtain⟨T,id,p,B,y⟩:=z pins { a with heap:=a.heap.push { cls:=.type "slice",data:=.fields #[c,d,.none] } } σ f x v c d l u a.heap.objs.size Q o J (X9 ..) pl D G;show wpAny (model X.prog X.w) X.A (subscriptTail e (.Slice lo hi none p2) v (.ref a.heap.objs.size)) (EP X pins σ Q) X.xe { a with heap:=a.heap.push { cls:=.type "slice",data:=.fields #[c,d,.none] } };show tail_any (ops:=[.ref a.heap.objs.size,v]) B p y (by with_unfolding_all rfl)
noncomputable def qco(xs:List V)(lo hi:Option Int):List V:=(xs.drop (HT.sIx xs.length 0 lo)).take (HT.sIx xs.length xs.length hi-HT.sIx xs.length 0 lo)
theorem qbq(xs:List V)(lo hi:Option Int):(qco xs lo hi).length<=xs.length:=by
 unfold qco;rw[yT,kD];lk
inductive rSlT(K:yg)(x:V)(lo:Option Int)(hi:Option Int)(H:Hp)(Q:VK):Prop|mk (a xs:_) (_:x=.ref a) (_:SqT K H a xs) (_:¬ (HT.sIx xs.length 0 lo=0/\HT.sIx xs.length xs.length hi=xs.length)) (_:∀ p,H p=none->Q (.ref p) (upd H p (.tup (qco xs lo hi))))
theorem sl_tup:SlR X (rSlT X.K):=by
 intro pins s σ H x v m n lo hi l Q I i e pl g h;obtain⟨a,xs,rfl,f,hw,q⟩:=h;cases i;obtain⟨its,r,d,hz⟩:=I.tuple f;have c:its.toArray.size=xs.length:=by rw[yw];show r.length.symm
 show⟨"tuple",_,YE.lookup,d.typeIs,?_⟩;show HT.getItem_tuple_cut d e pl g (by rw[c];show hw) ?_ (by rw[c];show hz);rw[c];show⟨.ref s.heap.objs.size,_,I.laid (t':=s.toks) (o:=.tup (qco xs lo hi)) (fun b j q=>yv _ q) (yh _) ?_,rfl,q _ (I.hok.fresh (yh _))⟩;show⟨yi (qbq xs lo hi) hz,_,(r.drop (HT.sIx xs.length 0 lo)).take (HT.sIx xs.length xs.length hi-HT.sIx xs.length 0 lo),IsTup.new _ _⟩
inductive rLtT(K:yg)(x:V)(y:V)(H:Hp)(Q:VK):Prop|mk (a b ns ms:_) (_:x=.ref a) (_:y=.ref b) (_:SqT K H a (ns.map V.int)) (_:SqT K H b (ms.map V.int)) (_:Q (.bl (HT.lexLt ns ms)) H)
inductive rCatT(K:yg)(x:V)(y:V)(H:Hp)(Q:VK):Prop|mk (a b xs ys:_) (_:x=.ref a) (_:y=.ref b) (_:SqT K H a xs) (_:SqT K H b ys) (_:xs≠[]) (_:xs.length+ys.length<=sizeLine) (_:(ys=[]->Q (.ref a) H)) (_:(ys≠[]->∀ p,H p=none->Q (.ref p) (upd H p (.tup (xs++ys)))))
theorem Vals.nil_iff(r:Vals xs us):us=[]↔xs=[]:=by
 cases r with
 | nil=>simp
 | cons _ _=>simp
theorem op_catT:OpR X (binaryOp .Add) (rCatT X.K):=by
 intro pins s σ H x y v u Q I m n h;obtain⟨a,b,xs,ys,rfl,rfl,f,hb,g,hz,j,l⟩:=h;cases m;cases n;obtain⟨its,d,i,_⟩:=I.tuple f;obtain⟨e,c,p2,_⟩:=I.tuple hb;show HT.cat_tup i p2 (fun z=>g (d.nil_iff.mp z)) (fun z=>⟨.ref a,H,I,rfl,j (c.nil_iff.mp z)⟩) (fun z=>?_) (by rw[<- d.length,<- c.length];show hz);show⟨.ref s.heap.objs.size,_,I.laid (t':=s.toks) (o:=.tup (xs++ys)) (fun b p q=>yv _ q) (yh _) ?_,rfl,l (fun w=>z (c.nil_iff.mpr w)) _ (I.hok.fresh (yh _))⟩;show⟨by rw[yt];show hz,_,d.append c,IsTup.new _ _⟩
end
noncomputable def ixN(n:Nat)(i:Int):Option Nat:=if 0<=i then(if i<n then some i.toNat else none) else if -(n:Int)<=i then some (i+n).toNat else none
noncomputable def atI{α:Type}(xs:List α)(i:Int):Option α:=(ixN xs.length i).bind fun j=>xs[j]?
theorem qd4(h:ixN n i=some j):seqIndex? i n=some j/\j<n/\-(n:Int)<=i/\i<n:=by
 unfold ixN at h;by_cases a:0<=i
 .rw [yG a] at h;by_cases h1:i<n
  .rw [yG h1] at h;have e:i.toNat=j:=ym h;show⟨by rw[seqIndex_of a h1,e],by lk,by lk,h1⟩
  .rw [yC h1] at h;cases h
 .rw [yC a] at h;by_cases h1:-(n:Int)<=i
  .rw [yG h1] at h;have e:(i+n).toNat=j:=ym h;show⟨by rw[seqIndex_neg (by lk) h1,e],by lk,h1,by lk⟩
  .rw [yC h1] at h;cases h
theorem qcQ{xs:List α}{v:α}(h:atI xs i=some v):∃ j,seqIndex? i xs.length=some j/\xs[j]?=some v/\j<xs.length/\-(xs.length:Int)<=i/\i<xs.length:=by
 unfold atI at h
 cases e:ixN xs.length i with
 | none=>rw[e] at h;cases h
 | some j =>
  rw[e] at h;obtain⟨h1,a,b,c⟩:=qd4 e;show⟨j,h1,h,a,b,c⟩
theorem qu{xs:List α}{v:α}(h:xs[j]?=some v):atI xs (j:Int)=some v:=by
 have a:j<xs.length:=(yc.mp h).1
 have e:ixN xs.length (j:Int)=some j:=by
  unfold ixN;rw[yG (by lk),yG (by lk)];simp
 unfold atI;rw[e];show h
theorem atI_last(xs:List α)(v:α):atI (xs++[v]) (-1)=some v:=by
 have hl:(xs++[v]).length=xs.length+1:=by simp
 have e:ixN (xs++[v]).length (-1)=some xs.length:=by
  unfold ixN;rw[hl,yC (by decide),yG (by lk)]
  congr 1
  lk
 unfold atI;rw[e];show(xs++[v])[xs.length]?=some v;simp
def PlainIx(b:Expr):Prop:=∀ o i,subscripted b false o i=operate [o,i] (getItem o i)
def IxR(X:Cx)(r:R2):Prop:=
 ∀(b a:Expr) (pins:List (Addr×Obj)) (s:Shared) (σ:St) (H:Hp) (x y:V) (v u:Value) (Q:VK),Inv X pins σ H s->RelV x v->RelV y u->r x y H Q ->
  subscripted a false v u=operate [v,u] (getItem v u)->wpAny (model X.prog X.w) X.A (subscriptTail b a v u) (EP X pins σ Q) X.xe s
def MtR(X:Cx)(id:String)(r:V->List V->Hp->VK->Prop):Prop:=
 ∀(pins:List (Addr×Obj)) (s:Shared) (σ:St) (H:Hp) (x:V) (xs:List V) (v:Value) (us:List Value) (Q:VK),Inv X pins σ H s->RelV x v->Vals xs us->r x xs H Q ->
  wpAny (model X.prog X.w) X.A (call (.builtin id) (v::us)) (EP X pins σ Q) X.xe s
section
variable{X:Cx}{a b:Expr}{ta tb:TE}{pos:Pos}
theorem IxR.or{d:R2}(h:IxR X r)(h':IxR X d):IxR X (fun x y H Q=>r x y H Q\/d x y H Q):=by
 intro b a pins s σ H x y v u Q I e f q c;rcases q with q | q
 .show h b a pins s σ H x y v u Q I e f q c
 .show h' b a pins s σ H x y v u Q I e f q c
theorem qv(f:IxR X r)(e:PE X a ta)(hb:PE X b tb)(g:PlainIx b):PE X (.Subscript a b pos) (tOp r ta tb):=by
 intro pins s σ H Q I h;show Subscript_ (qgl e hb I h fun v u l x y c d i j q=>f a b pins l σ c x y v u Q d i j q (g _ _))
inductive rIxL(K:yg)(x:V)(y:V)(H:Hp)(Q:VK):Prop|mk (p xs i v:_) (_:x=.ref p) (_:y=.int i) (_:SqL K H p xs) (_:atI xs i=some v) (_:Q v H)
inductive rIxT(K:yg)(x:V)(y:V)(H:Hp)(Q:VK):Prop|mk (p xs i v:_) (_:x=.ref p) (_:y=.int i) (_:SqT K H p xs) (_:atI xs i=some v) (_:Q v H)
inductive rIxS(x:V)(y:V)(H:Hp)(Q:VK):Prop|mk (z i c:_) (_:x=.str z) (_:y=.int i) (_:z.length<=sizeLine) (_:atI z.cps.toList i=some c) (_:Q (.str ⟨#[c]⟩) H)
theorem ix_list:IxR X (rIxL X.K):=by
 intro e d pins s σ H x y v u Q I C D h l;obtain⟨p,xs,i,z,rfl,rfl,B,A,q⟩:=h;cases C;obtain⟨t,rfl⟩:=D;obtain⟨its,r,pl,hz⟩:=I.list B;obtain⟨j,h1,m,F,n,o⟩:=qcQ A;obtain⟨w,f,c⟩:=r.get m;have hl:=r.length;have G:=qbH;have a:EP X pins σ Q w s:=⟨z,H,I,c,q⟩;by_cases g:0<=i
 .have b:i.toNat=j:=by
   rw[seqIndex_of g o] at h1;show ym h1
  show item_listR pl.isList g (by lk) (by rw[b];simpa using f) a l
 .have b:(i+(its.toArray.size:Int)).toNat=j:=by
   rw[seqIndex_neg (by lk) n] at h1;rw[yw,<- hl];show ym h1
  show subscriptTail_builtinR (x:=w) pl.isList.typeIs ki.lookup
   (wpAny_getItem_list_neg (Q:=fun r E=>r=w/\EP X pins σ Q r E) pl.isList (by lk) (by rw[yw]<;>lk) (by lk) (by rw[b];simpa using f) ⟨rfl,a⟩) l
theorem ix_tup:IxR X (rIxT X.K):=by
 intro d c pins s σ H x y v u Q I n o h m;obtain⟨p,xs,i,z,rfl,rfl,l,g,q⟩:=h;cases n;obtain⟨t,rfl⟩:=o;obtain⟨its,r,pl,hz⟩:=I.tuple l;obtain⟨j,h1,f,B,C,D⟩:=qcQ g;obtain⟨w,e,b⟩:=r.get f;have hl:=r.length;have E:=qbH;have a:EP X pins σ Q w s:=⟨z,H,I,b,q⟩;show subscriptTail_builtinR (x:=w) pl.typeIs slot_tuple_getitem.lookup
  (getItem_tuple (j:=j) (Q:=fun r A=>r=w/\EP X pins σ Q r A) pl (by lk) (by lk) (by rw[yw,<- hl];show h1) (by simpa using e) ⟨rfl,a⟩) m
theorem ix_str:IxR X rIxS:=by
 intro b a pins s σ H x y v u Q I o p h n;obtain⟨z,i,c,rfl,rfl,hz,m,q⟩:=h;obtain⟨t,rfl⟩:=o;obtain⟨t',rfl⟩:=p;obtain⟨j,h1,f,r,g,l⟩:=qcQ m;have hl:z.cps.toList.length=z.length:=by simp[Str.length]
 rw[hl] at h1 g l;have w:=qbH
 show tail_any (typeIs_str s z t) slot_str_getitem.lookup (getItem_str (c:=c) (by
  have d:decide (i < -(2 ^ 63:Int))=false:=yl (by lk);have e:decide (i ≥ 2 ^ 63)=false:=yl (by lk);rw[d,e,kz]) (by rw[h1];simpa using f) ⟨.str ⟨#[c]⟩,H,I.tok _,⟨_,rfl⟩,q⟩) n
def rIx(K:yg):R2:=fun x y H Q=>rIxL K x y H Q\/rIxT K x y H Q\/rIxS x y H Q
theorem ix_seq:IxR X (rIx X.K):=ix_list.or (ix_tup.or ix_str)
theorem mapSeq_set(its:List Value)(n j:Nat)(u:Value):Obj.mapSeq (·.setIfInBounds j u) { cls:=.type "list",data:=.seq its.toArray n }={ cls:=.type "list",data:=.seq (its.set j u).toArray n }:=by
 simp[Obj.mapSeq]
theorem Inv.lst(I:Inv X pins σ H s)(h:H p=some (.lst xs)) :
  ∃(its:List Value) (n:Nat),Vals xs its/\s.heap.get? p=some { cls:=.type "list",data:=.seq its.toArray n }/\xs.length<=sizeLine:=by
 obtain⟨z,its,n,r,e⟩:=I.hok p _ h;show⟨its,n,r,e,z⟩
theorem Inv.lstUpd{ys:List V}{a:Nat}{f:Obj->Obj}(I:Inv X pins σ H s)(h:H p=some (.lst xs))
  (d:s.heap.get? p=some { cls:=.type "list",data:=.seq its.toArray n }) (c:f { cls:=.type "list",data:=.seq its.toArray n }={ cls:=.type "list",data:=.seq its'.toArray a }) (r:Vals ys its') (hz:ys.length<=sizeLine) (t:Nat) :
  Inv X pins σ (upd H p (.lst ys)) { s with heap:=s.heap.update p f,toks:=t }:=by
 have e:(s.heap.update p f).get? p=some { cls:=.type "list",data:=.seq its'.toArray a }:=by
  rw[Y5 f d (by rw[c]<;>rfl),c]
 show I.write (x:=p) (e:=p) (by rw[h];trivial) (.inl rfl) (fun b u hb q=>(Heap.get?_update_other _ _ (Yn hb)).trans q) ⟨_,e⟩ ?_;show⟨hz,its',a,r,e⟩
inductive rSetL(o:V)(i:V)(v:V)(H:Hp)(Q:(Hp->Prop)):Prop|mk (p xs k j:_) (_:o=.ref p) (_:i=.int k) (_:H p=some (.lst xs)) (_:ixN xs.length k=some j) (_:Q (upd H p (.lst (xs.set j v))))
theorem set_list:qgk X rSetL:=by
 intro pins s σ H o i v B A u Q I w m x h;obtain⟨p,xs,k,j,rfl,rfl,g,l,q⟩:=h;cases w;obtain⟨t,rfl⟩:=m;obtain⟨its,n,r,b,hz⟩:=I.lst g;obtain⟨h1,y,e,f⟩:=qd4 l;have hl:=r.length;have z:=qbH
 have c:Inv X pins σ (upd H p (.lst (xs.set j v))) { s with heap:=s.heap.update p (Obj.mapSeq (·.setIfInBounds j u)) }:=
  I.lstUpd g b (mapSeq_set its n j u) (r.set x j) (by rw[XS];show hz) s.toks
 by_cases d:0<=k
 .have a:k.toNat=j:=by
   rw[seqIndex_of d f] at h1;show ym h1
  show PySem.W.ki_setAt b d (by lk) (by rw[yw,<- hl];show f) (by rw[a];show⟨_,c,q⟩)
 .have a:(k+(its.toArray.size:Int)).toNat=j:=by
   rw[seqIndex_neg (by lk) e] at h1;rw[yw,<- hl];show ym h1
  show PySem.W.ki_setBack b (by lk) (by rw[yw,<- hl];show e) (by lk) (by rw[a];show⟨_,c,q⟩)
theorem slice_bounds(lo a:Option Int)(n:Nat):(sliceBounds lo a none n).1=((HT.sIx n 0 lo:Nat):Int)/\(sliceBounds lo a none n).2.1=((HT.sIx n n a:Nat):Int)/\(sliceBounds lo a none n).2.2=1:=by
 show⟨?_,?_,rfl⟩
 .cases lo with
  | none=>simp[sliceBounds,HT.sIx]
  | some i =>
   simp only[sliceBounds,HT.sIx,Option.getD_none,show(1:Int)>0 by decide,Xv];by_cases h:i<0
   .simp only[h,Xv]<;>lk
   .simp only[h,xA]<;>lk
 .cases a with
  | none=>simp[sliceBounds,HT.sIx]
  | some i =>
   simp only[sliceBounds,HT.sIx,Option.getD_none,show(1:Int)>0 by decide,Xv];by_cases h:i<0
   .simp only[h,Xv]<;>lk
   .simp only[h,xA]<;>lk
theorem slicePick_cut(its:List Value)(lo a:Option Int):slicePick its.toArray lo a none=((its.drop (HT.sIx its.length 0 lo)).take (HT.sIx its.length its.length a-HT.sIx its.length 0 lo)).toArray:=by
 obtain⟨h1,b,c⟩:=slice_bounds lo a its.toArray.size;unfold slicePick;rw[h1,b,c];simp only[sliceRange_one,pick_run,yw]<;>rfl
inductive rSlL(K:yg)(x:V)(lo:Option Int)(hi:Option Int)(H:Hp)(Q:VK):Prop|mk (a xs:_) (_:x=.ref a) (_:SqL K H a xs) (_:∀ p,H p=none->Q (.ref p) (upd H p (.lst (qco xs lo hi))))
theorem sl_list:SlR X (rSlL X.K):=by
 intro pins s σ H x v n p lo d m Q I j f pl i h;obtain⟨a,xs,rfl,g,q⟩:=h;cases j;obtain⟨its,r,e,hz⟩:=I.list g;have c:=r.length;show⟨"list",_,ki.lookup,e.isList.typeIs,?_⟩;show wpAny_getItem_list_slice e.isList f pl i .none (by simp) ?_ (by rw[yw]<;>lk);rw[slicePick_cut,<- c];show⟨.ref s.heap.objs.size,_,I.laid (t':=s.toks) (o:=.lst (qco xs lo d)) (fun b l q=>yv _ q) (yh _) ?_,rfl,q _ (I.hok.fresh (yh _))⟩;show⟨yi (qbq xs lo d) hz,_,0,(r.drop (HT.sIx xs.length 0 lo)).take (HT.sIx xs.length xs.length d-HT.sIx xs.length 0 lo),yS _ rfl⟩
noncomputable def zB:V->Bool
 | .non=>true
 | .bl _=>true
 | .int _=>true
 | .str _=>true
 | _=>false
noncomputable def eqV:V->V->Bool
 | .non,.non=>true
 | .bl a,.bl b=>a==b
 | .bl a,.int b=>(if a then 1 else 0)==b
 | .int a,.bl b=>a==(if b then 1 else 0)
 | .int a,.int b=>a==b
 | .str a,.str b=>a==b
 | _,_=>false
theorem qd5{v:Value}(e:RelV y u)(c:RelV x v)(f:zB y=true)(d:zB x=true):SeqAt.EqAt A s u v (eqV y x):=by
 cases y with
 | non =>
  cases e
  cases x with
  | non=>cases c;show XT _
  | bl b=>cases c;show SeqAt.EqAt.none_bool b
  | int b=>obtain⟨t,rfl⟩:=c;show SeqAt.EqAt.none_int b t
  | str b=>obtain⟨t,rfl⟩:=c;show SeqAt.EqAt.none_str b t
  | _=>show absurd (show false=true from d) Yr
 | bl a =>
  cases e
  cases x with
  | non=>cases c;show SeqAt.EqAt.bool_none a
  | bl b=>cases c;show SeqAt.EqAt.bool_bool a b
  | int b=>obtain⟨t,rfl⟩:=c;show SeqAt.EqAt.bool_int a b t
  | str b=>obtain⟨t,rfl⟩:=c;show SeqAt.EqAt.bool_str a b t
  | _=>show absurd (show false=true from d) Yr
 | int a =>
  obtain⟨t',rfl⟩:=e
  cases x with
  | non=>cases c;show SeqAt.EqAt.int_none a t'
  | bl b=>cases c;show SeqAt.EqAt.int_bool a t' b
  | int b=>obtain⟨t,rfl⟩:=c;show SeqAt.EqAt.int_int a t' b t
  | str b=>obtain⟨t,rfl⟩:=c;show SeqAt.EqAt.int_str a t' b t
  | _=>show absurd (show false=true from d) Yr
 | str a =>
  obtain⟨t',rfl⟩:=e
  cases x with
  | non=>cases c;show SeqAt.EqAt.str_none a t'
  | bl b=>cases c;show SeqAt.EqAt.str_bool a t' b
  | int b=>obtain⟨t,rfl⟩:=c;show SeqAt.EqAt.str_int a t' b t
  | str b=>obtain⟨t,rfl⟩:=c;show SeqAt.EqAt.str_str a t' b t
  | _=>show absurd (show false=true from d) Yr
 | _=>show absurd (show false=true from f) Yr
noncomputable def eqU(x:V)(u:Value):Bool:=match u with
 | .none=>eqV .non x
 | .bool b=>eqV (.bl b) x
 | .int i _=>eqV (.int i) x
 | .str z _=>eqV (.str z) x
 | _=>false
theorem qd6(r:RelV y u)(f:zB y=true):eqU x u=eqV y x:=by
 cases y with
 | non=>cases r;rfl
 | bl b=>cases r;rfl
 | int i=>obtain⟨t,rfl⟩:=r;rfl
 | str z=>obtain⟨t,rfl⟩:=r;rfl
 | _=>show absurd (show false=true from f) Yr
theorem qbr:∀{xs:List V} {us:List Value},Vals xs us->xs.all zB=true->us.any (eqU x)=xs.any fun y=>eqV y x
 | _,_,.nil,_=>rfl
 | y::xs,u::us,.cons r t,f=>by
  rw[XH,yY] at f;rw[Xa,Xa,qd6 r f.1,qbr t f.2]
theorem qaj{v:Value}(b:RelV x v)(a:zB x=true):∀{xs:List V} {us:List Value},Vals xs us->xs.all zB=true->∀ u∈us,SeqAt.EqAt A s u v (eqU x u)
 | _,_,.nil,_=>fun u hu=>by cases hu
 | y::xs,u::us,.cons r t,f=>fun c hu=>by
  rw[XH,yY] at f;rcases yA.mp hu with rfl | hu
  .rw [qd6 r f.1];show qd5 r b f.1 a
  .show qaj b a t f.2 c hu
noncomputable def inV(x:V)(xs:List V):Bool:=xs.any fun y=>eqV y x
inductive rIn(K:yg)(neg:Bool)(x:V)(y:V)(H:Hp)(Q:VK):Prop|mk (p xs:_) (_:y=.ref p) (_:(SqL K H p xs\/SqT K H p xs)) (_:zB x=true) (_:xs.all zB=true) (_:Q (.bl (if neg then !inV x xs else inV x xs)) H)
theorem op_in_seq:OpR X (compareOp .In) (rIn X.K false):=by
 intro pins s σ H x y v u Q I b c h;obtain⟨p,xs,rfl,hq,a,fs,q⟩:=h;cases c;rcases hq with hq | hq
 .obtain⟨its,r,pl,hz⟩:=I.list hq;show SeqAt.in_listAt (eqU x) pl.isList (fun w hw=>qaj b a r fs w (by simpa using hw)) ⟨.bl _,H,I,rfl,?_⟩;rw[show its.toArray.any (eqU x)=its.any (eqU x) by simp,qbr r fs];show q
 .obtain⟨its,r,pl,hz⟩:=I.tuple hq;show SeqAt.in_tupleAt (eqU x) pl (fun w hw=>qaj b a r fs w (by simpa using hw)) ⟨.bl _,H,I,rfl,?_⟩;rw[show its.toArray.any (eqU x)=its.any (eqU x) by simp,qbr r fs];show q
theorem op_notIn_seq:OpR X (compareOp .NotIn) (rIn X.K true):=by
 intro pins s σ H x y v u Q I b c h;obtain⟨p,xs,rfl,hq,a,fs,q⟩:=h;cases c;rcases hq with hq | hq
 .obtain⟨its,r,pl,hz⟩:=I.list hq;show SeqAt.notIn_listAt (eqU x) pl.isList (fun w hw=>qaj b a r fs w (by simpa using hw)) ⟨.bl _,H,I,rfl,?_⟩;rw[show its.toArray.any (eqU x)=its.any (eqU x) by simp,qbr r fs];show q
 .obtain⟨its,r,pl,hz⟩:=I.tuple hq;show SeqAt.notIn_tupleAt (eqU x) pl (fun w hw=>qaj b a r fs w (by simpa using hw)) ⟨.bl _,H,I,rfl,?_⟩;rw[show its.toArray.any (eqU x)=its.any (eqU x) by simp,qbr r fs];show q
theorem call_len_seq:j0 X (.builtin "len") (fun xs H Q=>∃ p ys,xs=[.ref p]/\(SqL X.K H p ys\/SqT X.K H p ys)/\Q (.int ys.length) H):=by
 intro pins s σ H xs us Q I r h;obtain⟨p,ys,rfl,hq,q⟩:=h;obtain⟨u,rfl,c⟩:=qaa r;cases c;have d:=qbH;rcases hq with hq | hq
 .obtain⟨its,b,pl,hz⟩:=I.list hq;have a:=b.length;show Calls.call_len_list pl.isList (by simp only[yw]<;>lk) ⟨.int ys.length,H,I.tok _,⟨s.toks+1,by rw[yw,a]⟩,q⟩
 .obtain⟨its,b,pl,hz⟩:=I.tuple hq;have a:=b.length;show len_tuple pl (by simp only[yw]<;>lk) ⟨.int ys.length,H,I.tok _,⟨s.toks+1,by rw[yw,a]⟩,q⟩
theorem call_len_str:j0 X (.builtin "len") (fun xs H Q=>∃ z,xs=[.str z]/\z.length<=sizeLine/\Q (.int z.length) H):=by
 intro pins s σ H xs us Q I r h;obtain⟨z,rfl,hz,q⟩:=h;obtain⟨u,rfl,t,rfl⟩:=qaa r;have a:=qbH;show len_str (by lk) ⟨.int z.length,H,I.tok _,⟨_,rfl⟩,q⟩
theorem call_list_of:j0 X (.type "list") (fun xs H Q=>∃ p ys,xs=[.ref p]/\(SqL X.K H p ys\/SqT X.K H p ys)/\∀ l,H l=none->Q (.ref l) (upd H l (.lst ys))):=by
 intro pins s σ H xs us Q I r h;obtain⟨p,ys,rfl,hq,q⟩:=h;obtain⟨u,rfl,t⟩:=qaa r;cases t;have d:∀(its:List Value),Vals ys its->ys.length<=sizeLine->∀(h':Heap) (a:Nat),(∀ b m,s.heap.get? b=some m->h'.get? b=some m) ->
   h'.get? s.heap.objs.size=some { cls:=.type "list",dict:=none,data:=.seq its.toArray a,slots:=#[] }->EP X pins σ Q (.ref s.heap.objs.size) { s with heap:=h' }:=fun its c hz h' a g e =>
  ⟨.ref s.heap.objs.size,_,I.laid (t':=s.toks) g (yh _) (show ObjOk X.prog X.w _ h' _ (.lst ys) from⟨hz,its,a,c,e⟩),rfl,q _ (I.hok.fresh (yh _))⟩
 rcases hq with hq | hq
 .obtain⟨its,c,pl,hz⟩:=I.list hq;have f:=c.length;obtain⟨o,j,hc,n,i⟩:=pl.isList;show call_list_seq p (.inl rfl) j hc i (fun h' a g e=>d its c hz h' a g e) (by simp only[yw]<;>lk)
 .obtain⟨its,c,pl,hz⟩:=I.tuple hq;have f:=c.length;obtain⟨o,j,hc,n,i⟩:=pl;show call_list_seq p (.inr rfl) j hc i (fun h' a g e=>d its c hz h' a g e) (by simp only[yw]<;>lk)
theorem call_tuple_of:j0 X (.type "tuple") (fun xs H Q=>∃ p ys,xs=[.ref p]/\((SqL X.K H p ys/\∀ l,H l=none->Q (.ref l) (upd H l (.tup ys)))\/(SqT X.K H p ys/\Q (.ref p) H))):=by
 intro pins s σ H xs us Q I r h;obtain⟨p,ys,rfl,h⟩:=h;obtain⟨u,rfl,j⟩:=qaa r;cases j;rcases h with⟨a,q⟩ | ⟨a,q⟩
 .obtain⟨its,c,pl,hz⟩:=I.list a;have f:=c.length;show call_tuple_list pl.isList (fun h' i=>?_) (by simp only[yw]<;>lk);have d:Inv X pins σ H { s with heap:=h' }:=I.kept (t':=s.toks) i
  have g:Inv X pins σ (upd H h'.objs.size (.tup ys)) { s with heap:=h'.push { cls:=.type "tuple",data:=.seq its.toArray } }:=
   d.laid (t':=s.toks) (fun b o e=>yv _ e) (yh _) (show ObjOk X.prog X.w _ _ _ (.tup ys) from⟨hz,its,c,IsTup.new _ _⟩)
  show⟨.ref h'.objs.size,_,g,rfl,q _ (d.hok.fresh (yh _))⟩
 .obtain⟨its,c,pl,hz⟩:=I.tuple a;show call_tuple_same pl ⟨.ref p,H,I,rfl,q⟩
def tyV(K:yg)(T:String)(x:V)(H:Hp):Prop:=match x with
 | .str _=>T="str"
 | .int _=>T="int"
 | .ref p=>(T="list"/\∃ xs,SqL K H p xs)\/(T="tuple"/\∃ o,K.lookup p=some o/\o.cls=.type "tuple"/\o.dict=none) \/
   (T="dict"/\((∃ kvs,H p=some (.dK kvs))\/∃ kvs,H p=some (.dT kvs)))\/(T="set"/\∃ S n,H p=some (.set S n))
 | _=>False
theorem qe0{T:String}{v:Value}(I:Inv X pins σ H s)(r:RelV x v)(ty:tyV X.K T x H) :
  s.TypeIs v T/\∀ a,v=.ref a->∃ g,s.heap.get? a=some g/\g.dict=none:=by
 cases x with
 | str z =>
  obtain⟨t,rfl⟩:=r;cases (show T="str" from ty);show⟨typeIs_str s z t,fun _ e=>nomatch e⟩
 | int i =>
  obtain⟨t,rfl⟩:=r;cases (show T="int" from ty);show⟨typeIs_int s i t,fun _ e=>nomatch e⟩
 | ref p =>
  cases r;rcases ty with⟨rfl,xs,h⟩ | ⟨rfl,o,b,hc,f⟩ | ⟨rfl,b⟩ | ⟨rfl,S,n,b⟩
  .obtain⟨its,_,pl,_⟩:=I.list h;show⟨pl.isList.typeIs,fun a e=>?_⟩;cases e;obtain⟨o,n,e,c,f,_⟩:=pl;show⟨o,e,f⟩
  .show⟨⟨o,I.kIn p o b,hc⟩,fun a e=>?_⟩;cases e;show⟨o,I.kIn _ o b,f⟩
  .have z:∃ o,s.heap.get? p=some o/\o.ExactDict:=by
    rcases b with⟨kvs,b⟩ | ⟨kvs,b⟩
    .obtain⟨_,_,_,_,o,_,_,e,ex,_⟩:=I.hok p _ b;show⟨o,e,ex⟩
    .obtain⟨_,_,_,_,o,_,_,e,ex,_⟩:=I.hok p _ b;show⟨o,e,ex⟩
   obtain⟨o,e,ex⟩:=z;show⟨⟨o,e,ex.1⟩,fun a d=>?_⟩;cases d;show⟨o,e,ex.2.1⟩
  .obtain⟨o,_,_,_,e,ex,_⟩:=I.hok p _ b;show⟨⟨o,e,ex.1⟩,fun a d=>?_⟩;cases d;show⟨o,e,ex.2.1⟩
 | _=>show False.elim ty
def qgn(K:yg)(T:String)(r:V->List V->Hp->VK->Prop)(to:TE):TE:=fun σ H Q=>to σ H fun x a=>tyV K T x a/\r x [] a Q
def tBM(K:yg)(T:String)(r:V->List V->Hp->VK->Prop)(to:TE)(t:TA):TE:=fun σ H Q=>to σ H fun x a=>tyV K T x a/\t σ a fun xs b=>r x xs b Q
variable{o e:Expr}{es:List Expr}{to:TE}{t:TA}{name:Str}{apos cpos:Pos}{T id:String}{r:V->List V->Hp->VK->Prop}
theorem pe_bm0(m:PlainAttrs T)(c:Slot T name id)(d:typeOf (.builtin id)=pure (.type "method_descriptor"))(j:MtR X id r)(l:PE X o to)
  (a:attributeBase o name X.env (eval o X.env)=eval o X.env:=by rfl) (b:(apos.endLine==cpos.line)=true:=by rfl):PE X (.Call (.Attribute o name apos) [] [] cpos) (qgn X.K T r to):=by
 intro pins s σ H Q I h;show wpAny_Call_method0_late a b (thn (l pins s σ H _ I h) fun v p ⟨x,g,e,f,ty,n⟩=>?_);obtain⟨h1,i⟩:=qe0 e f ty;show⟨T,id,m,c,d,h1,i,Xw rfl (PySem.evalArgs_none (j pins p σ g x [] v [] Q e f .nil n))⟩
theorem pe_bm(A:PlainAttrs T)(f:Slot T name id)(g:typeOf (.builtin id)=pure (.type "method_descriptor"))(w:MtR X id r)(y:PE X o to)(u:PA X (e::es) t)
  (b:attributeBase o name X.env (eval o X.env)=eval o X.env:=by rfl)
  (d:((backTo cpos (starEach (e::es) X.env)).all (fun x=>!x.1)&&(backToKw cpos (keywordEach [] X.env)).all (fun x=>x.1.isSome)
   && decide ((e::es).length+([]:List Keyword).length+(if ([]:List Keyword).isEmpty then 0 else 1)<30))=true:=by rfl)
  (c:(apos.endLine==cpos.line)=true:=by rfl) (z:starEach (e::es) X.env=(false,eval e X.env)::starEach es X.env:=by rfl) (a:(backTo cpos (starEach es X.env)).any (·.1)=false:=by rfl) :
  PE X (.Call (.Attribute o name apos) (e::es) [] cpos) (tBM X.K T r to t):=by
 intro pins s σ H Q I h;show wpAny_Call_method_late b d c rfl (thn (y pins s σ H _ I h) fun v E ⟨x,m,i,l,ty,B⟩=>?_);obtain⟨h1,q⟩:=qe0 i l ty;show⟨T,id,A,f,g,h1,q,?_⟩;have j:=u cpos pins E σ m _ i B;rw[z] at j ⊢;show Xw (by show(false||(backTo cpos (starEach es X.env)).any (·.1))=false;rw[a]<;>rfl) (Calls.evalArgs_plain ?_);show thn j fun us F ⟨vs,n,p,D,C⟩=>w pins F σ n x vs v us Q p l D C
end
def MtM(X:Cx)(id:String)(r:V->List V->Hp->VK->Prop):Prop:=
 ∀(pins:List (Addr×Obj)) (s:Shared) (σ:St) (H:Hp) (x:V) (xs:List V) (v:Value) (us:List Value) (Q:VK),Inv X pins σ H s->RelV x v->Vals xs us->r x xs H Q ->
  wpAny (model X.prog X.w) X.A (call (.builtin id) (v::us)) (EP X pins σ Q) X.xe s
theorem Vals.one:∀{x:V} {us:List Value},Vals [x] us->∃ u,us=[u]/\RelV x u
 | _,_,.cons r .nil=>⟨_,rfl,r⟩
theorem Vals.zero:∀{us:List Value},Vals [] us->us=[]
 | _,.nil=>rfl
theorem Vals.eraseIdx:∀{xs:List V} {us:List Value} (i:Nat),Vals xs us->Vals (xs.eraseIdx i) (us.eraseIdx i)
 | _,_,_,.nil=>.nil
 | _,_,0,.cons _ t=>t
 | _,_,i+1,.cons r t=>.cons r (Vals.eraseIdx i t)
theorem Vals.rep(h:Vals xs us):∀ k:Nat,Vals (List.replicate k xs).flatten (List.replicate k us).flatten
 | 0=>.nil
 | k+1=>by
  rw[xt,xt,xp,xp];show Vals.append h (Vals.rep h k)
theorem qcp:∀(l:List α) (i:Nat),(l.eraseIdx i).length<=l.length
 | [],_=>yh _
 | _::_,0=>xH _
 | _::r,i+1=>Nat.succ_le_succ (qcp r i)
theorem qcq(its:List Value):∀(k:Nat) (acc:List Value),
  List.foldl (fun b c=>b++c) acc.toArray (List.replicate k its.toArray)=(acc++(List.replicate k its).flatten).toArray
 | 0,acc=>by simp
 | k+1,acc=>by
  have e:acc.toArray++its.toArray=(acc++its).toArray:=by simp
  have a:(acc++its)++(List.replicate k its).flatten=acc++(List.replicate (k+1) its).flatten:=by
   rw[xt,xp,Yi]
  rw[<- a,<- qcq its k (acc++its),<- e,xt,List.foldl_cons]
section
variable{X:Cx}{pins:List (Addr×Obj)}{σ:St}{H:Hp}{s:Shared}{l b:Addr}{xs ys zs:List V}
theorem Inv.lset{f:Array Value->Array Value}(I:Inv X pins σ H s)(a:H l=some (.lst xs))
  (e:s.heap.get? l=some { cls:=.type "list",data:=.seq its.toArray n }) (b:f its.toArray=its'.toArray) (hv:Vals ys its') (hz:ys.length<=sizeLine) :
  Inv X pins σ (upd H l (.lst ys)) { s with heap:=s.heap.update l (Obj.mapSeq f),toks:=t' }:=by
 have q:=PySem.IsL.update e f;rw[b] at q;show I.write (x:=l) (e:=l) (by rw[a];show trivial) (.inl rfl) (fun d u hb c=>(Heap.get?_update_other s.heap (Obj.mapSeq f) (Yn hb)).trans c) ⟨_,q⟩ ?_;show⟨hz,its',_,hv,q⟩
theorem Inv.lnew(I:Inv X pins σ H s)(hv:Vals ys its)(hz:ys.length<=sizeLine) :
  Inv X pins σ (upd H s.heap.objs.size (.lst ys)) { s with heap:=s.heap.push { cls:=.type "list",data:=.seq its.toArray },toks:=t' }:=
 I.laid (fun _ _ q=>yv _ q) (yh _) ⟨hz,its,0,hv,yS _ rfl⟩
theorem Inv.fresh(I:Inv X pins σ H s):H s.heap.objs.size=none:=I.hok.fresh (yh _)
theorem Inv.lstM(I:Inv X pins σ H s)(a:H l=some (.lst xs)):xs.length<=sizeLine/\∃(its:List Value) (n:Nat),Vals xs its/\xs.length=its.length/\s.heap.get? l=some { cls:=.type "list",data:=.seq its.toArray n }:=by
 obtain⟨z,its,n,r,e⟩:=I.hok l _ a;show⟨z,its,n,r,r.length,e⟩
theorem qdk(h:n<=sizeLine):Builtin.List.listTooLong n=false:=by
 unfold Builtin.List.listTooLong;show yl (by lk)
end
section
variable{X:Cx}
inductive rAppend(x:V)(vs:List V)(H:Hp)(Q:VK):Prop|mk (l xs y:_) (_:x=.ref l) (_:vs=[y]) (_:H l=some (.lst xs)) (_:xs.length<sizeLine) (_:Q .non (upd H l (.lst (xs++[y]))))
theorem mt_append:MtM X "list.append" rAppend:=by
 intro pins s σ H x vs v us Q I d c h;obtain⟨l,xs,y,rfl,rfl,a,hz,q⟩:=h;cases d;obtain⟨u,rfl,b⟩:=c.one;obtain⟨z,its,n,r,hl,e⟩:=I.lstM a;show XG F.slot_list_append ⟨_,e,rfl⟩ F.entry_list_append (F.args_list_append_2 _ _) (PySem.list_append l its.toArray n u (by rw[yw];lk)) ⟨e,?_⟩;show⟨.non,_,I.lset (its':=its++[u]) a e (by simp) (r.append (.cons b .nil)) ?_,rfl,q⟩;rw[yt,List.length_singleton];lk
inductive rExtend(x:V)(vs:List V)(H:Hp)(Q:VK):Prop|mk (l b xs zs:_) (_:x=.ref l) (_:vs=[.ref b]) (_:H l=some (.lst xs)) (_:H b=some (.lst zs)) (_:xs.length+zs.length<=sizeLine) (_:Q .non (upd H l (.lst (xs++zs))))
theorem mt_extend:MtM X "list.extend" rExtend:=by
 intro pins s σ H x vs v us Q I t p h;obtain⟨l,b,xs,y,rfl,rfl,d,g,hz,q⟩:=h;cases t;obtain⟨u,rfl,o⟩:=p.one;cases o;obtain⟨z,its,n,r,hl,e⟩:=I.lstM d;obtain⟨w,a,j,m,i,f⟩:=I.lstM g;have hsz:its.toArray.size+a.toArray.size<=sizeLine:=by rw[yw,yw];lk
 have c:¬ (!its.toArray.isEmpty&&Builtin.List.listTooLong (its.toArray.size+a.toArray.size))=true:=by
  rw[qdk hsz,Bool.and_false];show Yr
 show XG F.slot_list_extend ⟨_,e,rfl⟩ F.entry_list_extend (F.args_list_extend_2 _ _)
  (AutoSeq1.list_extend_list_list_0 l its.toArray n b a.toArray j c (by rw[yw];lk) (by lk)) ⟨e,f,?_⟩
 show⟨.non,_,I.lset (its':=its++a) d e (by simp) (r.append m) ?_,rfl,q⟩;rw[yt];lk
inductive rPop(x:V)(vs:List V)(H:Hp)(Q:VK):Prop|mk (l xs y:_) (_:x=.ref l) (_:vs=[]) (_:H l=some (.lst xs)) (_:xs[xs.length-1]?=some y) (_:Q y (upd H l (.lst xs.dropLast)))
inductive rPopAt(x:V)(vs:List V)(H:Hp)(Q:VK):Prop|mk (l xs i k y:_) (_:x=.ref l) (_:vs=[.int i]) (_:H l=some (.lst xs)) (_:-(2 ^ 63)<=i) (_:i<2 ^ 63) (_:seqIndex? i xs.length=some k) (_:xs[k]?=some y) (_:Q y (upd H l (.lst (xs.eraseIdx k))))
theorem mt_popAt:MtM X "list.pop" rPopAt:=by
 intro pins s σ H x vs v us Q I m j h;obtain⟨l,xs,i,k,y,rfl,rfl,b,h1,c,d,f,q⟩:=h;cases m;obtain⟨u,rfl,g⟩:=j.one;obtain⟨t,rfl⟩:=g;obtain⟨z,its,n,r,hl,e⟩:=I.lstM b;obtain⟨w,hw,a⟩:=r.get f;show XG F.slot_list_pop ⟨_,e,rfl⟩ F.entry_list_pop (F.args_list_pop_2 _ _)
  (MeetsSeq.list_pop_at l its.toArray n i t k w (fitsIndex_both h1 c) (by rw[yw,<- hl];show d) (by rw[<- XD];show hw) (by rw[yw];lk)) ⟨e,?_⟩
 show⟨y,_,I.lset (its':=its.eraseIdx k) b e ?_ (r.eraseIdx k) ?_,a,q⟩
 .show its.toArray.eraseIdxIfInBounds k=(its.eraseIdx k).toArray;rw[List.eraseIdxIfInBounds_toArray]
 .have:=qcp xs k;lk
inductive rReverse(x:V)(vs:List V)(H:Hp)(Q:VK):Prop|mk (l xs:_) (_:x=.ref l) (_:vs=[]) (_:H l=some (.lst xs)) (_:Q .non (upd H l (.lst xs.reverse)))
inductive rClear(x:V)(vs:List V)(H:Hp)(Q:VK):Prop|mk (l xs:_) (_:x=.ref l) (_:vs=[]) (_:H l=some (.lst xs)) (_:Q .non (upd H l (.lst [])))
theorem mt_clear:MtM X "list.clear" rClear:=by
 intro pins s σ H x vs v us Q I d c h;obtain⟨l,xs,rfl,rfl,b,q⟩:=h;cases d;have a:=c.zero;subst a;obtain⟨z,its,n,r,hl,e⟩:=I.lstM b;show XG F.slot_list_clear ⟨_,e,rfl⟩ F.entry_list_clear (F.args_list_clear_1 _) (AutoSeq1.list_clear_list_0 l its.toArray n (by rw[yw];lk)) ⟨e,?_⟩;show⟨.non,_,I.lset (its':=[]) (ys:=[]) b e rfl .nil (YQ _),rfl,q⟩
inductive rCat(x:V)(y:V)(H:Hp)(Q:VK):Prop|mk (l b xs zs:_) (_:x=.ref l) (_:y=.ref b) (_:H l=some (.lst xs)) (_:H b=some (.lst zs)) (_:xs.length+zs.length<=sizeLine) (_:∀ p,H p=none->Q (.ref p) (upd H p (.lst (xs++zs))))
theorem op_cat:OpR X (binaryOp .Add) rCat:=by
 intro pins s σ H x y v u Q I m o h;obtain⟨l,b,xs,w,rfl,rfl,g,f,hz,q⟩:=h;cases m;cases o;obtain⟨z,its,n,r,hl,e⟩:=I.lstM g;obtain⟨t,a,p,j,i,c⟩:=I.lstM f;show PySem.P.add_list e c ?_ (by rw[yw,yw];lk);have d:its.toArray++a.toArray=(its++a).toArray:=by simp
 rw[d];show⟨.ref _,_,I.lnew (t':=s.toks) (r.append j) (by rw[yt];lk),rfl,q _ I.fresh⟩
inductive rRep(x:V)(y:V)(H:Hp)(Q:VK):Prop|mk (l k xs:_) (_:x=.ref l) (_:y=.int k) (_:H l=some (.lst xs)) (_:-(2 ^ 63)<=k) (_:k<2 ^ 63) (_:xs.length*k.toNat<=sizeLine) (_:∀ p,H p=none->Q (.ref p) (upd H p (.lst (List.replicate k.toNat xs).flatten)))
theorem len_rep(xs:List α)(k:Nat):(List.replicate k xs).flatten.length=k*xs.length:=by
 induction k with
 | zero=>simp
 | succ k ih=>rw[xt,xp,yt,ih,Nat.succ_mul,Nat.add_comm]
theorem qe1:OpR X (binaryOp .Mult) rRep:=by
 intro pins s σ H x y v u Q I A B h;obtain⟨l,k,xs,rfl,rfl,w,h1,p,hz,q⟩:=h;cases A;obtain⟨t,rfl⟩:=B;obtain⟨z,its,n,r,hl,e⟩:=I.lstM w;have f:its.toArray.size*k.toNat<=sizeLine:=by rw[yw,<- hl];show hz
 have c:¬ its.toArray.size*k.toNat>(2 ^ 63-1) / 8:=by
  have:(sizeLine:Nat)<=(2 ^ 63-1) / 8:=by decide
  lk
 have d:¬ (!Builtin.List.listFitsIndex k)=true:=by
  rw[fitsIndex_both h1 p];show Yr
 have b:¬ Builtin.List.listTooLong (its.toArray.size*k.toNat)=true:=by
  rw[qdk f];show Yr
 have g:List.foldl (fun i j=>i++j) #[] (List.replicate (if its.toArray.isEmpty=true then 0 else k.toNat) its.toArray)=(List.replicate k.toNat its).flatten.toArray:=by
  have o:∀ m:Nat,List.foldl (fun i j=>i++j) #[] (List.replicate m its.toArray)=(List.replicate m its).flatten.toArray:=fun m=>by
   have:=qcq its m [];rw[List.nil_append] at this;show this
  rw[o]
  cases its with
  | nil=>simp
  | cons a r'=>rw[yC (by simp)]
 show wpAny_binaryOp_repeat_ref (T:="list") (U:="int") (by decide) ⟨_,e,rfl⟩ (fun C=>typeIs_int C k t) noFill_list_mul F.fills_int_mul F.slot_int_rmul repeat_list F.slot_int_index.lookup
  (XG F.slot_int_rmul (typeIs_int s k t) F.entry_int_rmul (F.args_int_rmul_2 _ _) (int___rmul___int_list k t l its.toArray n)
   ⟨e,rfl,⟨_,e,rfl⟩,XG F.slot_list_mul ⟨_,e,rfl⟩ F.entry_list_mul (F.args_list_mul_2 _ _) (AutoListH.list___mul___list_int_3 l its.toArray n k t d c b) ⟨e,?_⟩⟩)
 rw[g];show⟨.ref _,_,I.lnew (t':=s.toks) (r.rep k.toNat) (by rw[len_rep,Nat.mul_comm];show hz),rfl,q _ I.fresh⟩
end
section
variable{prog:Program}{w:World}{A:Around}{E:Value->Shared->Prop}{s:Shared}
set_option maxRecDepth 100000 in
end
section
variable{X:Cx}
end
section
variable{κ:Type}[DecidableEq κ]
noncomputable def jR(kvs:List (κ×V))(k:κ):Option V:=(kvs.find? fun a=>decide (a.1=k)).map (·.2)
noncomputable def zJ(kvs:List (κ×V))(k:κ)(v:V):List (κ×V):=
 if (kvs.any fun a=>decide (a.1=k))=true then kvs.map (fun a=>if a.1=k then(a.1,v) else a) else kvs++[(k,v)]
noncomputable def dropK(kvs:List (κ×V))(k:κ):List (κ×V):=kvs.filter fun a=>decide (a.1≠k)
theorem ji{p:κ×V}{r:List (κ×V)}{k:κ}(e:p.1=k):jR (p::r) k=some p.2:=by simp[jR,xE,e]
theorem qW{p:κ×V}{r:List (κ×V)}{k:κ}(e:¬ p.1=k):jR (p::r) k=jR r k:=by simp[jR,xE,e]
theorem qak(k:κ):∀ kvs:List (κ×V),(kvs.any fun a=>decide (a.1=k))=(jR kvs k).isSome
 | []=>rfl
 | p::r=>by
  rw[Xa];by_cases e:p.1=k
  .simp only[ji e,yD e,Bool.true_or,Xq]
  .rw [qW e,yl e,Bool.false_or];show qak k r
theorem qdl(k j:κ)(y:V):∀ kvs:List (κ×V),jR (kvs.map fun a=>if a.1=k then(a.1,y) else a) j=(jR kvs j).map fun x=>if j=k then y else x
 | []=>rfl
 | p::r=>by
  have b:=qdl k j y r;rw[YJ];by_cases h:p.1=k
  .rw [yG h];by_cases e:p.1=j
   .rw [ji (p:=(p.1,y)) e,ji e,XU,yG (e.symm.trans h)]
   .rw [qW (p:=(p.1,y)) e,qW e,b]
  .rw [yC h];by_cases e:p.1=j
   .rw [ji (p:=p) e,ji e,XU,yC (fun z=>h (e.trans z))]
   .rw [qW (p:=p) e,qW e,b]
theorem qcr(k j:κ)(y:V):∀ kvs:List (κ×V),jR kvs k=none->jR (kvs++[(k,y)]) j=if j=k then some y else jR kvs j
 | [],_=>by
  by_cases e:k=j
  .rw [yG e.symm];show ji (p:=(k,y)) e
  .rw [yC (fun z=>e z.symm)];show qW (p:=(k,y)) e
 | p::r,hn=>by
  rw[kE];have a:¬ p.1=k:=fun z=>by rw[ji z] at hn;cases hn
  rw[qW a] at hn;have b:=qcr k j y r hn;by_cases e:p.1=j
  .rw [ji e,ji e,yC (fun z=>a (e.trans z))]
  .rw [qW e,qW e,b]
theorem qaN(kvs:List (κ×V))(k j:κ)(y:V):jR (zJ kvs k y) j=if j=k then some y else jR kvs j:=by
 unfold zJ;by_cases a:(kvs.any fun c=>decide (c.1=k))=true
 .rw [yG a,qdl];rw[qak] at a;by_cases e:j=k
  .obtain⟨x,b⟩:=Y9.mp a;rw[yG e,e,b,XU,yG rfl]
  .rw [yC e]
   cases jR kvs j with
   | none=>rfl
   | some x=>rw[XU,yC e]
 .rw [yC a];show qcr k j y kvs ?_;rw[qak] at a
  cases q:jR kvs k with
  | none=>rfl
  | some x=>rw[q] at a;show(a rfl).elim
theorem jF(kvs:List (κ×V))(k:κ)(v:V):(zJ kvs k v).length<=kvs.length+1:=by
 unfold zJ;split
 .rw [ya];lk
 .rw [yt,yH,YV];lk
theorem qaO{kvs:List (κ×V)}{k:κ}(v:V)(h:jR kvs k=none):zJ kvs k v=kvs++[(k,v)]:=by
 unfold zJ;rw[qak,h];show yC (by decide)
theorem RelO.isSome_eq{u:Option Value}(r:RelO o u):o.isSome=u.isSome:=by
 cases o with
 | none=>cases u with
  | none=>rfl
  | some _=>show(show False from r).elim
 | some _=>cases u with
  | none=>show(show False from r).elim
  | some _=>rfl
theorem RelO.getD{u:Option Value}{d:V}{d':Value}(r:RelO o u)(rd:RelV d d'):RelV (o.getD d) (u.getD d'):=by
 cases o with
 | none=>cases u with
  | none=>show rd
  | some _=>show(show False from r).elim
 | some _=>cases u with
  | none=>show(show False from r).elim
  | some _=>show r
theorem KV.val{kvs:List (κ×V)}{vs:List (κ×Value)}(r:KV kvs vs)(k:κ):RelO (jR kvs k) (valueAt vs k):=by
 unfold KV at r
 induction r with
 | nil=>show YZ
 | @cons p q ps qs h t ih =>
  obtain⟨h1,c⟩:=h;by_cases e:p.1=k
  .have a:q.1=k:=h1.symm.trans e;have b:valueAt (q::qs) k=some q.2:=by simp[valueAt,xE,a]
   rw[ji e,b];show c
  .have a:¬ q.1=k:=fun z=>e (h1.trans z);have b:valueAt (q::qs) k=valueAt qs k:=by simp[valueAt,xE,a]
   rw[qW e,b];show ih
theorem KV.any{kvs:List (κ×V)}{vs:List (κ×Value)}(r:KV kvs vs)(k:κ):(kvs.any fun a=>decide (a.1=k))=vs.any fun a=>decide (a.1=k):=by
 unfold KV at r
 induction r with
 | nil=>rfl
 | cons h t ih=>rw[Xa,Xa,ih,h.1]
theorem KV.repl{kvs:List (κ×V)}{vs:List (κ×Value)}(r:KV kvs vs)(k:κ)(c:RelV y u) :
  KV (kvs.map fun a=>if a.1=k then(a.1,y) else a) (vs.map fun a=>if a.1=k then(a.1,u) else a):=by
 unfold KV at r ⊢
 induction r with
 | nil=>show .nil
 | @cons p q ps qs h t ih =>
  rw[YJ,YJ];show .cons ?_ ih;obtain⟨h1,b⟩:=h;by_cases e:p.1=k
  .rw [yG e,yG (h1.symm.trans e)];show⟨h1,c⟩
  .rw [yC e,yC (fun z=>e (h1.trans z))];show⟨h1,b⟩
theorem KV.put{kvs:List (κ×V)}{vs:List (κ×Value)}(r:KV kvs vs)(k:κ)(a:RelV y u):KV (zJ kvs k y) (stored vs k u):=by
 unfold zJ stored;rw[r.any k];by_cases e:(vs.any fun b=>decide (b.1=k))=true
 .rw [yG e,yG e];show r.repl k a
 .rw [yC e,yC e];show Paired.snoc r ⟨rfl,a⟩
theorem KV.length{kvs:List (κ×V)}{vs:List (κ×Value)}(r:KV kvs vs):kvs.length=vs.length:=Paired.length r
end
theorem qdR{k:Key}(r:RelV (kV k) u):(jv P w).is k u=true:=by
 cases k with
 | inl i=>obtain⟨t,e⟩:=(show ∃ t,u=Value.int i t from r);subst e;show mixKind_int P w i t
 | inr x=>obtain⟨t,e⟩:=(show ∃ t,u=Value.str x t from r);subst e;show mixKind_str P w x t
theorem qcs:∀{ks:List Key} {us:List Value},Vals (ks.map kV) us->ItemsAre (jv P w) ks us
 | [],_,r=>by rw[List.map_nil] at r;cases r;show .nil
 | k::ks,_,r=>by
  rw[YJ] at r
  cases r with
  | cons h t=>show .cons (qdR h) (qcs t)
abbrev KT(H:Hp):List (List Key×V)->List (List Key×Addr×Value)->Prop:=Paired fun p q=>p.1=q.1/\H q.2.1=some (.tup (p.1.map kV))/\RelV p.2 q.2.2
theorem KT.val{xs:List (List Key×Addr×Value)}(r:KT H kvs xs)(k:List Key):RelO (jR kvs k) ((atKey xs k).map (·.2)):=by
 induction r with
 | nil=>show YZ
 | @cons p q ps qs h t ih =>
  obtain⟨h1,_,c⟩:=h;by_cases e:p.1=k
  .have a:q.1=k:=h1.symm.trans e;have b:atKey (q::qs) k=some q.2:=by simp[atKey,xE,a]
   rw[ji e,b];show c
  .have a:¬ q.1=k:=fun z=>e (h1.trans z);have b:atKey (q::qs) k=atKey qs k:=by simp[atKey,xE,a]
   rw[qW e,b];show ih
theorem KT.repl{xs:List (List Key×Addr×Value)}(r:KT H kvs xs)(k:List Key)(d:RelV y u) :
  KT H (kvs.map fun a=>if a.1=k then(a.1,y) else a) (xs.map (putAt k u)):=by
 induction r with
 | nil=>show .nil
 | @cons p q ps qs h t ih =>
  rw[YJ,YJ];show .cons ?_ ih;obtain⟨h1,b,c⟩:=h;unfold putAt;by_cases e:p.1=k
  .rw [yG e,yG (h1.symm.trans e)];show⟨h1,b,d⟩
  .rw [yC e,yC (fun z=>e (h1.trans z))];show⟨h1,b,c⟩
theorem KT.put{xs:List (List Key×Addr×Value)}(r:KT H kvs xs)(k:List Key){b:Addr}(hb:H b=some (.tup (k.map kV)))(a:RelV y u) :
  KT H (zJ kvs k y) (storedH xs k b u):=by
 have e:(kvs.any fun c=>decide (c.1=k))=(atKey xs k).isSome:=by
  rw[qak,(r.val k).isSome_eq,Xd]
 unfold zJ storedH;rw[e];by_cases q:(atKey xs k).isSome=true
 .rw [yG q,yG q];show r.repl k a
 .rw [yC q,yC q];show Paired.snoc r ⟨rfl,hb,a⟩
theorem KT.keeps{xs:List (List Key×Addr×Value)}(r:KT H kvs xs)(a:∀ b ys,H b=some (.tup ys)->H' b=some (.tup ys)):KT H' kvs xs:=
 Paired.mapP r fun _ _ z=>⟨z.1,a _ _ z.2.1,z.2.2⟩
section
variable{P:Program}{w:World}{H:Hp}{h:Heap}{a:Addr}
theorem qfS{u:HO}(ok:HOk P w H h)(e:Rd H a u):ObjOk P w H h a u:=e.ok ok
theorem qct{kvs:List (Key×V)}(ok:HOk P w H h)(e:Rd H a (.dK kvs)):kvs.length<=sizeLine/\(a==sysModules)=false/\∃ vs,KV kvs vs/\h.DictOf (jv P w) a vs:=
 show ObjOk P w H h a (.dK kvs) from qfS ok e
theorem dk_of{kvs:List (Key×V)}(ok:HOk P w H h)(e:H a=some (.dK kvs)):kvs.length<=sizeLine/\(a==sysModules)=false/\∃ vs,KV kvs vs/\h.DictOf (jv P w) a vs:=qct ok (.inl e)
theorem qbJ{ks:List Key}(ok:HOk P w H h)(e:H a=some (.tup (ks.map kV))):(tupleKind (jv P w)).is h ks a:=by
 obtain⟨_,its,r,o,h1,b,n,c⟩:=(show ObjOk P w H h a (.tup (ks.map kV)) from ok a _ e);show⟨o,its.toArray,n,h1,b,c,by simpa using qcs r⟩
theorem qcR(ok:HOk P w H h)(e:Rd H a (.dT kvs)):kvs.length<=sizeLine/\(a==sysModules)=false /\
  ∃ xs,KT H kvs xs/\h.DictOfH (tupleKind (jv P w)) a xs:=by
 obtain⟨z,y,xs,r,o,b,ep,h1,c,d,f,g⟩:=(show ObjOk P w H h a (.dT kvs) from qfS ok e);show⟨z,y,xs,r,o,b,ep,h1,c,d,f,fun x hx=>?_,g⟩
 have all:∀{l:List (List Key×V)} {m:List (List Key×Addr×Value)},KT H l m->∀ x∈m,(tupleKind (jv P w)).is h x.1 x.2.1:=by
  intro l m q
  induction q with
  | nil=>intro x hx;show nomatch hx
  | @cons p q ps qs hq t ih =>
   intro x hx;rcases yA.mp hx with e | hx
   .subst e;show qbJ ok (by rw[<- hq.1];show hq.2.1)
   .show ih x hx
 show all r x hx
theorem dt_of(ok:HOk P w H h)(e:H a=some (.dT kvs)):kvs.length<=sizeLine/\(a==sysModules)=false /\
  ∃ xs,KT H kvs xs/\h.DictOfH (tupleKind (jv P w)) a xs:=qcR ok (.inl e)
end
def DGet(H:Hp)(a:Addr)(y:V)(r:Option V):Prop:=
 (∃ kvs k,Rd H a (.dK kvs)/\y=kV k/\r=jR kvs k)\/∃ kvs k b,Rd H a (.dT kvs)/\y=.ref b/\H b=some (.tup (k.map kV))/\r=jR kvs k
def DPut(H:Hp)(a:Addr)(y v:V)(H':Hp):Prop:=
 (∃ kvs k,H a=some (.dK kvs)/\y=kV k/\kvs.length<sizeLine/\H'=upd H a (.dK (zJ kvs k v))) \/
 ∃ kvs k b,H a=some (.dT kvs)/\y=.ref b/\H b=some (.tup (k.map kV))/\kvs.length<sizeLine/\H'=upd H a (.dT (zJ kvs k v))
theorem DGet.k{kvs:List (Key×V)}{k:Key}(e:H a=some (.dK kvs)):DGet H a (kV k) (jR kvs k):=.inl ⟨kvs,k,.inl e,rfl,rfl⟩
theorem DPut.k{kvs:List (Key×V)}{k:Key}{v:V}(e:H a=some (.dK kvs))(hl:kvs.length<sizeLine):DPut H a (kV k) v (upd H a (.dK (zJ kvs k v))):=.inl ⟨kvs,k,e,rfl,hl,rfl⟩
section
variable{X:Cx}{pins:List (Addr×Obj)}{σ:St}{H:Hp}{s:Shared}{a:Addr}{y v:V}{u r:Value}{o:Option V}{A:Around}{E:Value->Shared->Prop}
theorem Inv.big(I:Inv X pins σ H s):sysModules<s.heap.objs.size:=by
 have h:mainGlobals<s.heap.objs.size:=(I.mod.glob.keeps I.bk).lt;show kP (by decide) h
theorem d_getItem{Q:Value->Shared->Prop}(B:A.units+1<cLine)(I:Inv X pins σ H s)(g:DGet H a y (some v))(n:RelV y u)(h:∀ f q,Inv X pins σ H q->RelV v f->Q f q) :
  wpAny (model X.prog X.w) A (getItem (.ref a) u) Q E s:=by
 rcases g with⟨kvs,k,e,j,l⟩ | ⟨kvs,k,b,e,j,r,l⟩
 .subst j;obtain⟨z,t,vs,c,i⟩:=qct I.hok e;obtain⟨f,hw,d⟩:=RelO.some_of (v:=v) (o:=valueAt vs k) (by rw[l];show c.val k);show wpAny_getItem_of (qdR n) i.mapOf hw (h f _ (I.tok _) d)
 .subst j;cases (show u=Value.ref b from n);obtain⟨z,t,xs,c,i⟩:=qcR I.hok e;obtain⟨f,hw,d⟩:=RelO.some_of (v:=v) (o:=(atKey xs k).map (·.2)) (by rw[l];show c.val k);obtain⟨p,x,m⟩:=yn.mp hw;show wpAny_getItem_heap (xX B) (qbJ I.hok r) i x ?_;rw[m];show h f _ (I.tok _) d
theorem d_in{Q:Value->Shared->Prop}(p:A.units+1<cLine)(I:Inv X pins σ H s)(g:DGet H a y o)(j:RelV y u)(h:∀ m,Inv X pins σ H m->Q (.bool o.isSome) m) :
  wpAny (model X.prog X.w) A (compareOp .In u (.ref a)) Q E s:=by
 rcases g with⟨kvs,k,e,f,l⟩ | ⟨kvs,k,b,e,f,n,l⟩
 .subst f;obtain⟨z,i,vs,c,d⟩:=qct I.hok e;show wpAny_in_of (qdR j) i d.mapOf ?_;rw[<- (c.val k).isSome_eq,<- l];show h _ (I.tok _)
 .subst f;cases (show u=Value.ref b from j);obtain⟨z,i,xs,c,d⟩:=qcR I.hok e;show wpAny_in_heap (xX p) (qbJ I.hok n) i d ?_;have q:=(c.val k).isSome_eq;rw[Xd] at q;rw[<- q,<- l];show h _ (I.tok _)
theorem d_notIn{Q:Value->Shared->Prop}(p:A.units+1<cLine)(I:Inv X pins σ H s)(g:DGet H a y o)(j:RelV y u)(h:∀ m,Inv X pins σ H m->Q (.bool (!o.isSome)) m) :
  wpAny (model X.prog X.w) A (compareOp .NotIn u (.ref a)) Q E s:=by
 rcases g with⟨kvs,k,e,f,l⟩ | ⟨kvs,k,b,e,f,n,l⟩
 .subst f;obtain⟨z,i,vs,c,d⟩:=qct I.hok e;show wpAny_notIn_of (qdR j) i d.mapOf ?_;rw[<- (c.val k).isSome_eq,<- l];show h _ (I.tok _)
 .subst f;cases (show u=Value.ref b from j);obtain⟨z,i,xs,c,d⟩:=qcR I.hok e;show wpAny_notIn_heap (xX p) (qbJ I.hok n) i d ?_;have q:=(c.val k).isSome_eq;rw[Xd] at q;rw[<- q,<- l];show h _ (I.tok _)
theorem qd7{c:HO}(I:Inv X pins σ H s)(g:Mut (H a))(f:Heap.SameBut a s.heap h')(d:∃ q,h'.get? a=some q)(new:ObjOk X.prog X.w (upd H a c) h' a c) :
  Inv X pins σ (upd H a c) { s with heap:=h',toks:=t' }:=
 I.write (x:=a) (e:=a) g (.inl rfl) (fun b q hb z=>(f.2 b hb).trans z) d new
theorem dk_new{kvs:List (Key×V)}{vs:List (Key×Value)}(z:kvs.length<=sizeLine)(d:(a==sysModules)=false)(b:KV kvs vs)(c:h'.DictOf (jv P w) a vs) :
  ObjOk P w H' h' a (.dK kvs):=⟨z,d,vs,b,c⟩
theorem d_setItem{Q:Unit->Shared->Prop}(N:A.units+1<cLine)(I:Inv X pins σ H s)(g:DPut H a y v H')(C:RelV y u)(B:RelV v r)(h:∀ D,Inv X pins σ H' D->Q () D) :
  wpAny (model X.prog X.w) A (setItem (.ref a) u r) Q E s:=by
 rcases g with⟨kvs,k,e,n,l,m⟩ | ⟨kvs,k,b,e,n,t,l,m⟩
 .subst n m;obtain⟨z,o,vs,d,j⟩:=dk_of I.hok e;have hz:vs.length<=sizeLine:=by rw[<- d.length];show z
  have hl:(zJ kvs k v).length<=sizeLine:=by have:=jF kvs k v;lk
  show wpAny_setItem_pairs (hsz:=hz) (qdR C) j fun h' f p=>h _ ?_;have M:∃ q,h'.get? a=some q:=let ⟨q,_,_,i,_⟩:=f;⟨q,i⟩;show qd7 I (by rw[e];show YZ) p M (dk_new hl o (d.put k B) f)
 .subst n m;cases (show u=Value.ref b from C);obtain⟨z,o,xs,d,j⟩:=dt_of I.hok e;have hz:xs.length<=sizeLine:=by rw[<- Paired.length d];show z
  have hl:(zJ kvs k v).length<=sizeLine:=by have:=jF kvs k v;lk
  show wpAny_setItem_heap (hsz:=hz) (xX N) (qbJ I.hok t) j fun h' f p=>h _ ?_;obtain⟨q,F,ep,i,G,J,K,_,L⟩:=f;show qd7 I (by rw[e];show YZ) p ⟨q,i⟩ ⟨hl,o,_,(d.put k t B).keeps fun c ys x=>?_,q,F,ep,i,G,J,K,L⟩;rw[qf (zX x e (fun z=>nomatch z))];show x
end
section
variable{X:Cx}{pins:List (Addr×Obj)}{σ:St}{H:Hp}{s:Shared}{a:Addr}{kvs:List (Key×V)}{k:Key}{u:Value}{A:Around}{E:Value->Shared->Prop}
theorem d_len{Q:Value->Shared->Prop}(I:Inv X pins σ H s)(e:Rd H a (.dK kvs))(h:∀ t c,Inv X pins σ H c->Q (.int kvs.length t) c):wpAny (model X.prog X.w) A (call (.builtin "len") [.ref a]) Q E s:=by
 obtain⟨z,f,vs,b,d⟩:=qct I.hok e;show call_len_dict f d (by rw[<- b.length];rw[Yy] at z;lk) ?_;rw[<- b.length];show h _ _ (I.tok _)
end
theorem dict_typeIs(I:Inv X pins σ H s)(g:DGet H a y o):s.TypeIs (.ref a) "dict":=by
 rcases g with⟨kvs,k,e,_,_⟩ | ⟨kvs,k,b,e,_,_,_⟩
 .obtain⟨_,_,vs,_,c⟩:=qct I.hok e;show c.typeIs
 .obtain⟨_,_,xs,_,c⟩:=qcR I.hok e;show c.typeIs
section
variable{X:Cx}{o i e value:Expr}{pos pos' tpos:Pos}{td ty tv:TE}
end
theorem dk_empty(h:Heap)(hb:sysModules<h.objs.size):ObjOk P w H (h.push { cls:=.type "dict",data:=.dict #[] }) h.objs.size (.dK []):=
 ⟨YQ _,YO.mpr (Yn (yF hb)),[],.nil,Heap.DictOf.new h⟩
def tDNewK:TE:=fun _ H Q=>∀ p,H p=none->Q (.ref p) (upd H p (.dK []))
section
variable{X:Cx}{pos:Pos}
theorem zc:PE X (.Dict [] [] pos) tDNewK:=fun pins s σ H Q I h =>
 wpAny_Dict_empty ⟨.ref s.heap.objs.size,_,I.laid (a:=s.heap.objs.size) (o:=.dK []) (t':=s.toks) (fun _ _ q=>yv _ q) (yh _) (dk_empty s.heap I.big),rfl,h _ (I.hok.fresh (yh _))⟩
end
noncomputable def mergeK(kvs more:List (Key×V)):List (Key×V):=more.foldl (fun acc a=>zJ acc a.1 a.2) kvs
structure M1(X:Cx)(o:Expr)(m:Str)(apos:Pos)(e:Expr)(cpos:Pos):Prop where
 base:attributeBase o m X.env (eval o X.env)=eval o X.env
 few:((backTo cpos (starEach [e] X.env)).all (fun x=>!x.1)&&(backToKw cpos (keywordEach [] X.env)).all (fun x=>x.1.isSome)
  && decide (([e]:List Expr).length+([]:List Keyword).length+(if ([]:List Keyword).isEmpty then 0 else 1)<30))=true
 line:(apos.endLine==cpos.line)=true
 trees:backTo cpos (starEach [e] X.env)=[(false,eval e X.env)]
structure M2(X:Cx)(o:Expr)(m:Str)(apos:Pos)(e f:Expr)(cpos:Pos):Prop where
 base:attributeBase o m X.env (eval o X.env)=eval o X.env
 few:((backTo cpos (starEach [e,f] X.env)).all (fun x=>!x.1)&&(backToKw cpos (keywordEach [] X.env)).all (fun x=>x.1.isSome)
  && decide (([e,f]:List Expr).length+([]:List Keyword).length+(if ([]:List Keyword).isEmpty then 0 else 1)<30))=true
 line:(apos.endLine==cpos.line)=true
 trees:backTo cpos (starEach [e,f] X.env)=[(false,eval e X.env),(false,eval f X.env)]
def IsD(H:Hp)(a:Addr):Prop:=(∃ kvs,Rd H a (.dK kvs))\/∃ kvs,Rd H a (.dT kvs)
theorem isD_at(I:Inv X pins σ H s)(d:IsD H a) :
  s.TypeIs (.ref a) "dict"/\(∀ b,Value.ref a=.ref b->∃ c,s.heap.get? b=some c/\c.dict=none)/\(a==sysModules)=false:=by
 rcases d with⟨kvs,e⟩ | ⟨kvs,e⟩
 .obtain⟨_,h,vs,_,f⟩:=qct I.hok e;show⟨f.typeIs,fun b q=>?_,h⟩;cases q;obtain⟨c,_,_,h1,g,_⟩:=f;show⟨c,h1,g.2.1⟩
 .obtain⟨_,h,xs,_,f⟩:=qcR I.hok e;show⟨f.typeIs,fun b q=>?_,h⟩;cases q;obtain⟨c,_,_,h1,g,_⟩:=f;show⟨c,h1,g.2.1⟩
section
variable{X:Cx}{pins:List (Addr×Obj)}{σ:St}{H:Hp}{s:Shared}{a:Addr}{y d:V}{u r:Value}{o:Option V}{A:Around}{E:Value->Shared->Prop}
theorem d_get1{Q:Value->Shared->Prop}(q:A.units+1<cLine)(I:Inv X pins σ H s)(g:DGet H a y o)(j:RelV y u)(h:∀ n m,Inv X pins σ H m->RelV (o.getD .non) n->Q n m) :
  wpAny (model X.prog X.w) A (call (.builtin "dict.get") [.ref a,u]) Q E s:=by
 rcases g with⟨kvs,k,e,f,l⟩ | ⟨kvs,k,b,e,f,p,l⟩
 .subst f;obtain⟨z,i,vs,c,d⟩:=qct I.hok e;show call_meetsIn XE d.typeIs PySem.F.entry_dict_get (PySem.F.args_dict_get_2 _ _) (meets_dict_get (jv X.prog X.w) a (qdR j) i) ⟨_,d.mapOf,h _ _ (I.tok _) ?_⟩;rw[l];show(c.val k).getD rfl
 .subst f;cases (show u=Value.ref b from j);obtain⟨z,i,xs,c,d⟩:=qcR I.hok e;show call_meetsIn XE d.typeIs PySem.F.entry_dict_get (PySem.F.args_dict_get_2 _ _) (meetsH_dict_get (tupleKind (jv X.prog X.w)) a b i) ⟨xX q,k,xs,qbJ I.hok p,d,h _ _ (I.tok _) ?_⟩;rw[l];show(c.val k).getD rfl
end
def qe2(d ty:TE):TE:=fun σ H Q=>d σ H fun x b=>∃ a,x=.ref a/\IsD b a/\ty σ b fun y c=>∃ o,DGet c a y o/\Q (o.getD .non) c
def tDGet2(e ty f:TE):TE:=fun σ H Q=>e σ H fun x b=>∃ a,x=.ref a/\IsD b a/\ty σ b fun y d=>f σ d fun z c=>∃ o,DGet c a y o/\Q (o.getD z) c
section
variable{X:Cx}{o e f:Expr}{apos cpos:Pos}{td ty tx:TE}
theorem qaP(q:X.A.units+1<cLine)(p:PE X o td)(n:PE X e ty)(m:M1 X o "get" apos e cpos):PE X (.Call (.Attribute o "get" apos) [e] [] cpos) (qe2 td ty):=by
 intro pins s σ H Q I h;show wpAny_Call_method m.base m.few m.line PySem.F.plainAttrs_dict XE PySem.F.type_dict_get (thn (p pins s σ H _ I h) fun u B ⟨x,f,c,w,a,ex,d,r⟩=>?_);subst ex;obtain rfl:u=Value.ref a:=w;obtain⟨C,D,_⟩:=isD_at c d;show⟨C,D,?_⟩;rw[m.trees];show Xw rfl (Calls.evalArgs_plain (X5 (thn (n pins B σ f _ c r) fun E J ⟨y,i,j,z,G,g,t⟩=>kh ?_)));show d_get1 q j g z fun L K l b=>⟨_,i,l,b,t⟩
end
section
variable{X:Cx}{pins:List (Addr×Obj)}{σ:St}{H:Hp}{s:Shared}{a:Addr}{kvs:List (Key×V)}{A:Around}{E:Value->Shared->Prop}
end
section
variable{X:Cx}{pins:List (Addr×Obj)}{σ:St}{H:Hp}{s:Shared}{a:Addr}{y:V}{u:Value}{A:Around}{E:Value->Shared->Prop}
end
end L2
namespace Att
open PySem PySem.W PySem.Calls PyProof.Rows
variable{P:Params}{h:Heap}{l:OpenLaw}{n:Nat}
theorem ints_of_wellAll:∀(ns:LX) (vs:List Value),WellAll P h vs (ns.map WData.int)->IntsAre vs ns:=by
 intro ns
 induction ns with
 | nil =>
  intro vs w;rw[List.map_nil] at w;cases w;show .nil
 | cons n ns ih =>
  intro vs w;rw[YJ] at w
  cases w with
  | cons a b =>
   cases a;show .cons _ _ (ih _ b)
theorem script_of(p:l.most=some n){args:List WData}{c:List Value}
  (b:l.row.toRowW.claim.pre args=true) (j:WellAll P h c args) :
  ∃ a vs ns,c=[Value.ref a]/\args=[WData.list (ns.map WData.int)]/\h.get? a=some { cls:=.type "list",data:=.seq vs.toArray }/\IntsAre vs ns/\ns.length<=n:=by
 have i:WShape.hasAll [] args [.list .int]=true:=(pre_splitW b).1;have hc:l.pre.holds [] { args:=args }=true:=(pre_splitW b).2;obtain⟨d,r,rfl,h1,m⟩:=hasAllW_cons i;obtain rfl:=hasAllW_nil m;obtain⟨xs,rfl,o⟩:=hasW_list h1;obtain⟨ns,rfl⟩:=items_int o
 have e:ns.length<=n:=by
  unfold OpenLaw.pre at hc
  have f:(WTm.not (.lt (.lit (.int (n:Int))) (.len (.arg 0)))).holds [] { args:=[.list (ns.map .int)] }=true:=by
   have f:=(holds_andW hc).1;rw[p] at f;show f
  have g:=condW_of f (w_not (w_lt w_lit (w_len_list (w_arg rfl))));rw[ya] at g;show Nat.le_of_not_lt fun q=>?_;have s:(n:Int)<((ns.length:Nat):Int):=by lk
  first
   | (rw[yD s] at g;show absurd g (by decide))
   | (simp at g;lk)
 cases j with
 | cons w1 w2 =>
  cases w2
  cases w1 with
  | list ho hall=>show⟨_,_,ns,rfl,rfl,ho,ints_of_wellAll ns _ hall,e⟩
theorem post_true(l:OpenLaw)(args:List WData):l.row.toRowW.claim.post args (.bool true) args=true:=
 postW_of (r:=l.row.toRowW) (X:=(true==true))
  (show WShape.has [] (.bool true) .bool=true by first | rfl | decide | simp[WShape.has,WShape.arms,WShape.armsAll])
  (show(WTm.eq .res (.lit (.bool true))).value [] { args:=args,res:=some (.bool true),after:=args }=some (.bool (true==true)) from w_eq_bool (w_res rfl) w_lit) rfl
theorem attach_call{q:Program}{loose:LS}{XP:(Str->Option Value)->Heap->Prop}{YP:World->Heap->Prop}{d:DefRec}
  (O:l.most=some n) (x:d.params.defaults=[])
  (call:∀(w:World) (c b:Shared) (s A:Str->Option Value) (h:Addr) (o:Obj) (B p e:Value) (a:Addr) (vs:List Value) (ns:LX),
   Ground q loose [] XP w c s A b.heap->YP w b.heap ->
   b.heap.get? h=some o->o.data=.func (docDef d.name d.params d.body d.scope B p e)->b.heap.CodeRec p d.name->s d.name=some (.ref h) ->
   b.heap.get? a=some { cls:=.type "list",data:=.seq vs.toArray }->IntsAre vs ns->ns.length<=n->b.gens=#[] ->
   codeAny (model l.prog w) callerA (.call (.ref h) ⟨[.ref a],[]⟩) (fun r t=>r=.ok (.ret (.bool true))/\OldK b.heap t.heap/\t.os=b.os/\AllBare t.gens) b) :
  WalkO q loose XP YP l.row.toRowW d [] (fun f vs=>PySem.call f vs):=by
 intro w c b s A G Y h o B p e F kV P K u C y L args E as m D S z M;obtain rfl:F=.none:=Dflts.none C x;obtain rfl:kV=.none:=Dflts.noKw C;obtain⟨a,vs,ns,rfl,rfl,j,g,i⟩:=script_of O m z;show enter_call (kO (call w c b s A h o B p e a vs ns G Y P (fd_plain K) u y j g i L) fun r t R=>?_);obtain⟨rfl,H,I,J⟩:=R;show⟨.inl ⟨.bool true,.bool true,[],rfl,fun _=>rfl,.bool true,post_true l _,fun _=>⟨List.Pairwise.nil,fun _ N=>(nomatch N)⟩⟩,H,I,J⟩
section
variable{prog:Program}{w:World}{A:Around}{E:Value->Shared->Prop}{s:Shared}{K:Frag}
noncomputable def ledger(h:Heap)(L d:Addr):List (Addr×Obj):=(List.range h.objs.size).filterMap fun a=>if a=L\/a=d then none else(h.get? a).map fun o=>(a,o)
end
end Att
namespace L2
open PySem PySem.Spec PyProof.Rows
variable{A B:Prop}{H H':Hp}{a f:Addr}{fd:FuncData}{n:Nat}{ps:LS}{qual x:Str}{sp:Sp}{st:Stmt}
theorem qcu:∀{vs:List Value} {ns:LX},IntsAre vs ns->Vals (ns.map V.int) vs
 | _,_,.nil=>.nil
 | _,_,.cons n t h=>.cons ⟨t,rfl⟩ (qcu h)
def qgo(H:Hp):Prop:=∀ b,H b=none\/∃ o xs,H b=some (.frz o (.lst xs))
theorem law_call{P:Program}{w:World}{K:yg}{E S:Str->Option Value}{CX:CXT}{k:Nat}{L:Addr}{c:Shared}{vs:List Value}{ns:LX}
  (U:K.In c.heap) (B:c.heap.Ns mainGlobals E) (hb:c.heap.Ns builtinsNs S) (N:∀ x:Str,x≠"__name__"->S x=bootBuiltins x) (A:c.heap.NoLimit) (hg:c.gens=#[])
  (I:c.heap.get? a=some { cls:=.type "list",data:=.seq vs.toArray }) (Z:IntsAre vs ns) (hl:ns.length<=sizeLine) (hr:Room k callerA)
  (F:∀ f:Heap,K.In f->f.Ns mainGlobals E->FnOk P w K E f CX k L fd [x] sp) (l:∀(s:Shared) (u:Value),BindsTo s fd ⟨[u],[]⟩ [(x,u)])
  (R:∀ H:Hp,qgo H->SqL K H a (ns.map V.int)->sp [.ref a] H (fun v _=>v=.bl true) fun _ _ _=>False)
  (M:∀ H e g,CX [] H c (fun _ _ _=>False) e g->False) :
  codeAny (model P w) callerA (.call (.ref L) ⟨[.ref a],[]⟩) (fun r g=>r=.ok (.ret (.bool true))/\OldK c.heap g.heap/\g.os=c.os/\AllBare g.gens) c:=by
 have rv:=qcu Z;have lenV:=Z.length;have j:∀ H:Hp,qgo H->SqL K H a (ns.map V.int)->HOk P w H c.heap->(∀ b,H b≠none->b=a)->(H a≠none->K.lookup a=none) ->
   codeAny (model P w) callerA (.call (.ref L) ⟨[.ref a],[]⟩) (fun r g=>r=.ok (.ret (.bool true))/\OldK c.heap g.heap/\g.os=c.os/\AllBare g.gens) c:=by
  intro H Y hS C X hK;have base_of:∀{b:Addr} {o:Obj},c.heap.get? b=some o->H b=none->(qeQ c.heap H).get? b=some o:=fun e n=>hidT_get e n
  have T:∀{b:Addr} {o:Obj} {t:Array DictEntry} {ep:Nat},c.heap.get? b=some o->o.data=.dict t ep->H b=none:=fun{b o t ep} e d=>by
   cases q:H b with
   | none=>rfl
   | some u =>
    have J:b=a:=X b (by rw[q];simp);subst J;rw[I] at e;cases e;have d':Data.seq vs.toArray _=Data.dict t ep:=d;cases d'
  have i:∀{b:Addr} {m:Str->Option Value},c.heap.Ns b m->(qeQ c.heap H).Ns b m:=fun{b m} ⟨o,t,ep,e,d,r⟩=>⟨o,t,ep,base_of e (T e d),d,r⟩
  have y:K.In (qeQ c.heap H):=fun b o e=>base_of (U b o e) (by
   cases q:H b with
   | none=>rfl
   | some u =>
    have J:b=a:=X b (by rw[q];simp);subst J;rw[hK (by rw[q];simp)] at e;cases e)
  have hM:Mod K E (qeQ c.heap H):=⟨y,i B,⟨S,i hb,N⟩,let ⟨mc,h1,h2⟩:=A;⟨mc,i h1,h2⟩⟩;have e0:Env0 P w K E (qeQ c.heap H) callerA [] c H:=⟨rfl,hM,fun b o e=>of_hidT e,Nat.le_of_eq (hidT_size _ _),trivial,fun b hb=>absurd (show b∈([]:LQ) from hb) (by simp),C,.of_eq hg⟩;show kO ((F _ y (i B)).run callerA [] c H ⟨[.ref a],[]⟩ [.ref a] [.ref a] _ _ hr e0 (l c (.ref a)) (.cons rfl .nil) (R H Y hS)) fun r g h=>?_
  cases r with
  | error e=>show(M H e g h).elim
  | ok fl =>
   cases fl with
   | next=>show False.elim h
   | brk=>show False.elim h
   | cont=>show False.elim h
   | ret u =>
    obtain⟨v,H',os,p,un,D,r',q⟩:=h;have q':v=.bl true:=q;subst q';obtain rfl:u=Value.bool true:=r';show⟨rfl,OldK.of_keep fun b o e=>?_,os,p⟩
    cases q:H b with
    | none=>show un.keep b o e q (by intro z;show absurd (show b∈([]:LQ) from z) (by simp)) (by simp)
    | some u =>
     rcases Y b with z | ⟨ob,xs,z⟩
     .rw [q] at z;cases z
     .have z2:=un.frzs b ob _ z;obtain⟨W,_⟩:=C b _ z;obtain⟨e2,_⟩:=D b _ z2;rw[e] at W;cases W;show e2
 cases O:K.lookup a with
 | some o =>
  have e:=U a o O;rw[I] at e;cases e;show j (fun _=>none) (fun _=>.inl rfl) (.inr ⟨_,vs.toArray,_,O,rfl,rfl,rfl,by rw[yw,lenV];show hl,by simpa using rv⟩) (fun b u z=>by have G:(none:Option HO)=some u:=z;cases G) (fun b z=>absurd rfl z) fun z=>absurd rfl z
 | none =>
  show j (fun b=>if b=a then some (.frz { cls:=.type "list",data:=.seq vs.toArray } (.lst (ns.map V.int))) else none) (fun b=>?_) (.inl (.inr ⟨{ cls:=.type "list",data:=.seq vs.toArray },yG rfl⟩)) (fun b u z=>?_) (fun b z=>?_) fun _=>O
  .by_cases hb:b=a
   .show .inr ⟨_,_,yG hb⟩
   .show .inl (yC hb)
  .by_cases hb:b=a
   .have G:=(yG hb).symm.trans z;cases G;subst hb;show⟨I,by rw[ya];show hl,vs,_,rv,I⟩
   .have G:=(yC hb).symm.trans z;cases G
  .by_cases hb:b=a
   .show hb
   .show absurd (yC hb) z
noncomputable abbrev KOf{K:yg}{h:Heap}(_:K.In h):yg:=K
theorem walk_of{l:PySem.W.OpenLaw}{k:Nat}{q:Program}{loose:LS}{XP:(Str->Option Value)->Heap->Prop}{YP:World->Heap->Prop}{d:DefRec}{K:Params->yg}{CX:World->CXT}{sp:World->Sp}
  (S:l.most=some n) (B:n<=sizeLine) (z:d.params.defaults=[]) (U:Room k callerA)
  (O:∀(w:World) (h:Heap),YP w h->(K w.params).In h)
  (F:∀(w:World) (m:Str->Option Value) (t:Addr) (h:Heap),(K w.params).In h->h.Ns mainGlobals m->m d.name=some (.ref t) ->
   ∃ fd:FuncData,(∀(s:Shared) (u:Value),BindsTo s fd ⟨[u],[]⟩ [(x,u)]) /\
    ∀ c:Heap,(K w.params).In c->c.Ns mainGlobals m->FnOk l.prog w (K w.params) m c (CX w) k t fd [x] (sp w))
  (C:∀(w:World) (H:Hp) (a:Addr) (ns:LX),ns.length<=n->qgo H->SqL (K w.params) H a (ns.map V.int)->sp w [.ref a] H (fun v _=>v=.bl true) fun _ _ _=>False)
  (y:∀(w:World) (H:Hp) (s:Shared) (e:Value) (D:Shared),CX w [] H s (fun _ _ _=>False) e D->False) :
  PySem.W.WalkO q loose XP YP l.row.toRowW d [] (fun f vs=>PySem.call f vs):=by
 show Att.attach_call S z fun w I r m mb t o pm X J a vs ns G Y ho Z P A p j i R=>?_;have E:=O w _ Y;obtain⟨fd,hb,L⟩:=F w m t _ E G.T.g A;show law_call E G.T.g G.T.b G.T.builtins G.T.nolimit R p j (yi i B) U L hb (fun H M N=>C w H a ns i M N) fun H e D=>y w H r e D
abbrev CX0:CXT:=fun _ _ _ _ _ _=>False
abbrev E0:XK:=fun _ _ _=>False
theorem qB{X:Cx}:qba CX0 X E0:=fun _ _ _ _ _ _ _ h=>h.elim
structure Fun(K:yg)(x qual:Str)(st:Stmt)(f:Addr)(fd:FuncData):Prop where
 ex:∃(oc:Value) (od:Option Addr) (kV doc pm:Value) (an:Option Addr) (cdv ct:Value) (osl:Array (Option Value)),
  fd=PySem.W.fnOf x qual (qaF st) (qab st) (qh st) .none kV doc pm an cdv ct/\K.lookup f=some ⟨oc,od,.func fd,osl⟩/\PySem.W.codeIn K cdv qual=true
 kp:PySem.W.keepIn K (.ref f)=true
section
variable{P:Program}{w:World}{K:yg}{mg:Str->Option Value}{base:Heap}
theorem Fun.ok{N:LS}{k:Nat}(F:Fun K x qual st f fd)(S:FnScope N ps (qh st)) (c:∀(b:Value) (A:Around) (a:List Env) (s:Shared) (H:Hp) (vs:List V) (Q:VK) (E:XK),Room k (A.deeper (envOfC qual (qh st) s.heap.objs.size f b))->sp vs H Q E ->
   ∃ t,PSs (qfB CX0 P w K mg base N qual (qh st) f b A a s H E).nox (qab st) t/\t { nx:=fun _ H'=>Q .non H',rt:=Q } (start N vs) H) (len:∀ vs H Q E,sp vs H Q E->vs.length=ps.length:=by intro _ _ _ _ h;cases h;subst_vars;rfl):FnOk P w K mg base CX0 (k+1) f fd ps sp:=by
 obtain⟨n,od,kV,g,o,m,b,ct,l,rfl,j,d⟩:=F.ex;show fn_of j d S len fun A a s H vs Q E i e=>?_;obtain⟨t,h,q⟩:=c b A a s H vs Q E i e;show⟨t,h.nox,q⟩
theorem Fun.binds(F:Fun K x qual st f fd)
  (h:∀(kV b d:Value) (c:Option Addr) (a ct:Value) (us:List Value),us.length=ps.length->bindArgs (PySem.W.fnOf x qual (qaF st) (qab st) (qh st) .none kV b d c a ct) ⟨us,[]⟩=pure (ps.zip us)):Binds K fd ps []:=by
 obtain⟨j,od,kV,b,d,c,a,ct,g,rfl,i,e⟩:=F.ex;show .all (h kV b d c a ct)
theorem fun_mk{h:Value}{od e:Option Addr}{d:Array (Option Value)}{kV b g a ct:Value}(l:K.lookup f=some ⟨h,od,.func (PySem.W.fnOf x qual (qaF st) (qab st) (qh st) .none kV b g e a ct),d⟩)
  (c:PySem.W.codeIn K a qual=true) (k:PySem.W.keepIn K (.ref f)=true):Fun K x qual st f (PySem.W.fnOf x qual (qaF st) (qab st) (qh st) .none kV b g e a ct):=⟨⟨h,od,kV,b,g,e,a,ct,d,rfl,l,c⟩,k⟩
end
theorem qi(h:n<=1000):n<sizeLine:=YD h (by decide)
section
variable{X:Cx}
theorem pv(i:Nat){b:Pos}(c:X.N[i]?=some x:=by rfl)(hv:Vis X.env.scope x:=by first | show yK rfl | show Xr (yK rfl) | show Xr (Xr rfl))(d:(x==("__debug__":Str))=false:=by decide)
  (a:(x==("__classdict__":Str))=false:=by decide):PE X (.Name x b) (qgi i):=pe_var c hv d a
theorem call_lenD:j0 X (.builtin "len") (fun xs H Q=>∃ a kvs,xs=[V.ref a]/\H a=some (.dK kvs)/\Q (.int kvs.length) H):=by
 intro b s g H xs us Q I r h;obtain⟨a,kvs,rfl,d,q⟩:=h;obtain⟨u,rfl,e⟩:=qaa r;cases e;show d_len I (.inl d) fun t f c=>⟨.int kvs.length,H,c,⟨t,rfl⟩,q⟩
end
theorem zm(h:A):if true=true then A else B:=by
 rw[yG rfl];show h
theorem qL{c:Prop}[Decidable c](h1:c->A)(a:¬ c->B):if c then A else B:=by
 by_cases h:c
 .rw [yG h];show h1 h
 .rw [yC h];show a h
def Same(H H':Hp):Prop:=∀ b o,H b=some o->H' b=some o
theorem Same.refl(H:Hp):Same H H:=fun _ _ h=>h
theorem Same.trans{d e:Hp}(a:Same H d)(b:Same d e):Same H e:=fun c o h=>b c o (a c o h)
theorem Same.free(e:Same H H'){l:Addr}(h:H' l=Option.none):H l=Option.none:=by
 cases q:H l with
 | none=>rfl
 | some o =>
  rw[e l o q] at h;cases h
theorem Same.seq{K:yg}{xs:List V}(e:Same H H')(h:SqL K H a xs):SqL K H' a xs:=by
 rcases h with(h | ⟨o,h⟩) | h
 .show .inl (.inl (e _ _ h))
 .show .inl (.inr ⟨o,e _ _ h⟩)
 .show .inr h
section
variable{κ:Type}[DecidableEq κ]
end
end L2
set_option maxHeartbeats 4000000
namespace L2
open PySem PySem.Spec PyProof.Rows
variable{C D c e it p:Addr}{E:Value->Shared->Prop}{H:Hp}{N:LS}{P:Program}{QO:Option Int->Hp->Prop}{R:It->Hp->Prop}{T:String}{X:Cx}{acc:List (Str×Addr)}{dx:Option Addr}{elt iter tg:Expr}{env:Env}{expr:Bool}{f:V->List V->Hp->VK->Prop}{fp:LQ}{g:TG}{h:Heap}{i j:Int}{ifs:List Expr}{its:List Value}{ixs:LN}{n nl:Nat}{names:List (Str×NameKind)}{od:Option Obj}{ox:Obj}{pins:List (Addr×Obj)}{pl:Sem Bool}{pos:Pos}{s:Shared}{sc scope:Scope}{t u:Value}{tc:TT}{te:TE}{tk:Tok}{w:World}{wi:TI}{x z:Str}{xs ys:List V}{y:V}{α:Type}{σ:St}
section
variable{prog:Program}{w:World}{A:Around}{R:Result->Shared->Prop}{s:Shared}
theorem compLoop_own{a:Expr}{it acc:Value}(I:Nat->Shared->Prop)
  (turn:∀ n s,I n s->wpAny (model prog w) A (pyNext it) (fun r e=>match r with
   | none=>R (.ok .next) e
   | some v=>wpAny (model prog w) A (letOwnedTupleGo a it v) (fun _ b=>wpAny (model prog w) A (assign a env v) (fun _ i =>
     wpAny (model prog w) A (forIn ifs true fun c r=>if r=true then do let ok <- isTrue c env (eval c env);pure (ForInStep.yield ok) else pure (ForInStep.yield r)) (fun ok f =>
      if ok=true then wpAny (model prog w) A (eval elt env) (fun x j =>
       wpAny (model prog w) A (call (.builtin "list.append") [acc,x]) (fun _ l=>∃ m,m<n/\I m l) (fun _ _=>False) j) (fun _ _=>False) f
      else ∃ m,m<n/\I m f) (fun _ _=>False) i) (fun _ _=>False) b) (fun _ _=>False) e) (fun _ _=>False) s)
  (n:Nat) (h:I n s) :
  codeAny (model prog w) A (.compLoop (.ListComp elt [⟨a,iter,ifs,0⟩] scope pos) 0 it acc env) R s:=by
 show codeAny_loop rfl I (fun n s t=>?_) n h;show wpAny _ A ((compTurn (.ListComp elt [⟨a,iter,ifs,0⟩] scope pos) 0 it acc env).onRaise (fun x=>do noteFrame x env;theTreesLotGoes x)) _ _ s;show wpAny_noted ?_;rw[compTurn_list];show yr (kx (yr (YW (turn n s t) (fun r e h1=>?_) fun _ _ h'=>h'.elim)))
 cases r with
 | none=>show yu h1
 | some v =>
  show yr (YW h1 (fun _ b d=>?_) fun _ _ h'=>h'.elim);show yr (YW d (fun _ i o=>yr (YW o (fun ok f g=>?_) fun _ _ h'=>h'.elim)) fun _ _ h'=>h'.elim)
  cases ok with
  | false=>show yu ⟨rfl,g⟩
  | true =>
   show yr (yr (YW g (fun x j p=>yr (YW p (fun _ l q=>yu (yu ⟨rfl,q⟩)) fun _ _ h'=>h'.elim)) fun _ _ h'=>h'.elim))
end
noncomputable def qP(env:Env):List (Str×NameKind)->List (Str×Addr)->List (Str×Addr)
 | [],acc=>acc
 | (n,k)::r,acc=>qP env r (if (k==.free)=true then(n,(env.cells.lookup n).getD 0)::acc else acc)
theorem zL:∀{names:List (Str×NameKind)} {acc:List (Str×Addr)} {x:Str} {c:Addr},(qP env names acc).lookup x=some c ->
  ((x,NameKind.free)∈names/\c=(env.cells.lookup x).getD 0)\/acc.lookup x=some c
 | [],_,_,_,h=>.inr h
 | (n,k)::r,acc,x,c,h=>by
  unfold qP at h;rcases zL h with⟨h1,f⟩ | h1
  .show .inl ⟨yy _ h1,f⟩
  .by_cases a:(k==NameKind.free)=true
   .rw [yG a,Y7] at h1
    cases b:x==n with
    | true =>
     rw[b] at h1;have e:x=n:=Yu.mp b;have d:k=.free:=Yu.mp a;subst e d;show .inl ⟨yE,(ym h1).symm⟩
    | false =>
     rw[b] at h1;show .inr h1
   .rw [yC a] at h1;show .inr h1
theorem qaQ:∀{names:List (Str×NameKind)} {acc:List (Str×Addr)} {x:Str},(∃ c,acc.lookup x=some c)->∃ c,(qP env names acc).lookup x=some c
 | [],_,_,h=>h
 | (n,k)::r,acc,x,h=>by
  unfold qP;apply qaQ;by_cases a:(k==NameKind.free)=true
  .rw [yG a,Y7]
   cases b:x==n with
   | true=>show⟨_,rfl⟩
   | false=>show h
  .rw [yC a];show h
theorem zM:∀{names:List (Str×NameKind)} {acc:List (Str×Addr)} {x:Str},(x,NameKind.free)∈names->∃ c,(qP env names acc).lookup x=some c
 | [],_,_,h=>by cases h
 | (n,k)::r,acc,x,h=>by
  unfold qP;rcases yA.mp h with e | e
  .cases e;apply qaQ;rw[show(NameKind.free==NameKind.free)=true from rfl,yG rfl,Y7,Y8];show⟨_,rfl⟩
  .show zM e
theorem qaR(h:∀ n,(n,NameKind.free)∈scope.names->∃ c,env.cells.lookup n=some c):closureFor scope env=pure (qP env scope.names []):=by
 have key:∀(names:List (Str×NameKind)) (acc:List (Str×Addr)),(∀ n,(n,NameKind.free)∈names->∃ c,env.cells.lookup n=some c) ->
   (forIn names acc (fun(x:Str×NameKind) (r:List (Str×Addr))=>(if (x.2==NameKind.free)=true then(cellOf env x.1>>=fun c=>pure (ForInStep.yield ((x.1,c)::r))) else pure (ForInStep.yield r):Sem (ForInStep (List (Str×Addr))))))=(pure (qP env names acc):Sem (List (Str×Addr))):=by
  intro names
  induction names with
  | nil=>intro acc _;rfl
  | cons x r ih =>
   intro acc d;obtain⟨n,k⟩:=x;rw[kU];unfold qP;by_cases a:(k==NameKind.free)=true
   .have f:k=.free:=Yu.mp a;subst f;obtain⟨c,hc⟩:=d n yE;have g:cellOf env n=pure c:=by unfold cellOf;rw[hc]
    simp only[a,Xv,g,hc,Option.getD_some];show ih _ fun m b=>d m (yy _ b)
   .simp only[a,xA];show ih _ fun m b=>d m (yy _ b)
 have e:=key scope.names [] h;unfold closureFor;show Eq.trans (congrArg (fun m=>m>>=pure) e) rfl
@[reducible] noncomputable def Cx.comp(X:Cx)(N:LS)(scope:Scope)(C:Addr)(s0:Shared)(H0:Hp)(ex:LQ):Cx where
 prog:=X.prog
 w:=X.w
 K:=X.K
 mg:=X.mg
 base:=X.base
 A:=X.A
 N:=N
 s₀:=s0
 H₀:=H0
 env:=compEnvC scope (cellsFrom (C+1) scope.names (qP X.env scope.names [])) C X.env
 outer:=X.stack
 stack:=X.stack
 ex:=ex
 fn:=fun x=>scope.names.lookup x==some NameKind.cell
 calm:=X.calm
 pn:=[]
 xe:=fun _ _=>False
theorem jx:∀(names:List (Str×NameKind)) (n:Nat) (acc:List (Str×Addr)),cellsFrom n names acc=cellsFrom n names []++acc
 | [],_,_=>rfl
 | (m,k)::r,n,acc=>by
  unfold cellsFrom;split
  .rw [jx r (n+1) ((m,n)::acc),jx r (n+1) [(m,n)],Yi];rfl
  .show jx r n acc
theorem qaS:∀{names:List (Str×NameKind)} {n:Nat} {x:Str},(x,NameKind.cell)∈names->∃ c,(cellsFrom n names []).lookup x=some c
 | (m,k)::r,n,x,h=>by
  unfold cellsFrom;rcases yA.mp h with e | e
  .cases e;rw[yG (show(NameKind.cell==NameKind.cell)=true from rfl),jx,xB]
   cases q:(cellsFrom (n+1) r []).lookup m with
   | some c=>show⟨c,rfl⟩
   | none=>show⟨n,by show List.lookup m [(m,n)]=some n;rw[Y7,Y8]⟩
  .split
   .rw [jx,xB];obtain⟨c,hc⟩:=qaS (n:=n+1) e;show⟨c,by rw[hc];rfl⟩
   .show qaS e
theorem qbs:∀{names:List (Str×NameKind)} {n:Nat} {x:Str} {c:Addr},(x,c)∈cellsFrom n names []->(x,NameKind.cell)∈names
 | (m,k)::r,n,x,c,h=>by
  unfold cellsFrom at h;split at h
  .rename_i hk
   rw[jx] at h;rcases yB.mp h with z | z
   .show yy _ (qbs z)
   .have e:(x,c)=(m,n):=yz.mp z;cases e;rw[Yu.mp hk];show yE
  .show yy _ (qbs h)
theorem qbt(h:(cellsFrom n names acc).lookup x=some c):(x,c)∈cellsFrom n names []\/acc.lookup x=some c:=by
 rw[jx,xB] at h
 cases e:(cellsFrom n names []).lookup x with
 | some d=>rw[e] at h;cases h;show .inl (mem_of_lookup e)
 | none=>rw[e] at h;show .inr h
theorem cells_some(h:(x,NameKind.cell)∈names\/∃ c,acc.lookup x=some c):∃ c,(cellsFrom n names acc).lookup x=some c:=by
 rw[jx,xB]
 cases e:(cellsFrom n names []).lookup x with
 | some d=>show⟨d,rfl⟩
 | none =>
  rcases h with z | ⟨c,hc⟩
  .obtain⟨d,a⟩:=qaS (n:=n) z;rw[e] at a;cases a
  .show⟨c,hc⟩
section
variable{M:Model}{A:Around}{E:Value->Shared->Prop}{s:Shared}
theorem newEnvK{c:Addr}{b:List (Str×Addr)}{g:Str}{f:Option Addr}{e:Value}{d:Env}{a:Addr}{Q:Env->Shared->Prop}
  (j:Q (newEnv scope s.heap.objs.size c (cellsFrom (s.heap.objs.size+1) scope.names b) g f e (some d) a) { s with heap:=pushCells (s.heap.push { cls:=.type "dict",data:=.dict #[] }) scope.names }) :
  wpAny M A (newFunctionEnv scope c b [] g f e (some d) a) Q E s:=by
 simp only[newFunctionEnv,Xq,Xv];show yr (wpAny_alloc ?_);show yr (wpAny_layCells _ (fun name kind h=>by cases i:kind==NameKind.cell<;>simp[i]) _ _ _ _ ?_);rw[show({ s with heap:=s.heap.push { cls:=.type "dict",data:=.dict #[] } }:Shared).heap.objs.size=s.heap.objs.size+1 from Y0 ..];rw[kY];show yr (yu (yu j))
end
structure CompOk(sc scope:Scope):Prop where
 kind:scope.kind=.function
 cel:∀ y∈scope.names,y.2=.cell->scope.names.lookup y.1=some .cell
 loc:∀ y∈scope.names,y.2=.local->scope.names.lookup y.1=some .local
 free:∀ y∈scope.names,y.2=.free->sc.names.lookup y.1=some .cell\/sc.names.lookup y.1=some .free
 once:∀ y∈scope.names,y.2=.free->scope.names.lookup y.1=some .free
noncomputable def qcv(sc scope:Scope):Bool:=decide (scope.kind=.function)&&scope.names.all fun y=>match y.2 with
 | .local=>scope.names.lookup y.1==some .local
 | .free=>(sc.names.lookup y.1==some .cell||sc.names.lookup y.1==some .free)&&scope.names.lookup y.1==some .free
 | .cell=>scope.names.lookup y.1==some .cell
 | _=>true
theorem qdm(h:qcv sc scope=true):CompOk sc scope:=by
 unfold qcv at h;rw[yY] at h;have b:=YG.mp h.2;show⟨yk h.1,fun y a e=>?_,fun y a e=>?_,fun y a e=>?_,fun y a e=>?_⟩
 .have:=b y a;rw[e] at this;show Yu.mp this
 .have:=b y a;rw[e] at this;show Yu.mp this
 .have:=b y a;rw[e,yY,kW] at this;show this.1.imp Yu.mp Yu.mp
 .have:=b y a;rw[e,yY] at this;show Yu.mp this.2
noncomputable def qgh(nl:Nat)(ixs:LN)(N XN:LS)(names:List (Str×NameKind)):Bool:=(List.range ixs.length).all fun k=>match ixs[k]?,N[nl+k]? with
 | some j,some x=>XN[j]?==some x&&names.any fun y=>y.1==x&&y.2==.free
 | _,_=>true
theorem qd8{XN:LS}(h:qgh nl ixs N XN names=true)(k j:Nat)(x:Str)(h1:ixs[k]?=some j)(c:N[nl+k]?=some x):XN[j]?=some x/\(x,NameKind.free)∈names:=by
 have d:k<ixs.length:=(yc.mp h1).1;have:=YG.mp h k (YT.mpr d);rw[h1,c] at this;simp only[yY] at this;show⟨Yu.mp this.1,?_⟩;obtain⟨⟨n,g⟩,f,e⟩:=YH.mp this.2;rw[yY] at e;have a:n=x:=Yu.mp e.1;have b:g=.free:=Yu.mp e.2;subst a b;show f
noncomputable def qdV(nl:Nat)(ixs:LN)(σ:St):St:=List.replicate nl none++ixs.map fun j=>(σ[j]?).getD none
theorem capS_len(nl:Nat)(ixs:LN)(σ:St):(qdV nl ixs σ).length=nl+ixs.length:=by
 unfold qdV;rw[yt,YS,ya]
theorem qdn{i:Nat}{v:V}(h:(qdV nl ixs σ)[i]?=some (some v)):nl<=i/\∃ j,ixs[i-nl]?=some j/\σ[j]?=some (some v):=by
 unfold qdV at h;by_cases a:i<nl
 .rw [y0 (by rw[YS];show a),Xs] at h;split at h<;>cases h
 .rw [yI (by rw[YS];lk),YS,yd] at h;show⟨by lk,?_⟩
  cases e:ixs[i-nl]? with
  | none=>rw[e] at h;cases h
  | some j =>
   rw[e] at h;have h':(σ[j]?).getD none=some v:=ym h
   cases q:σ[j]? with
   | none=>rw[q] at h';cases h'
   | some u =>
    rw[q] at h';show⟨j,rfl,by rw[q];show congrArg some h'⟩
noncomputable def qeR(env:Env)(y:Str×NameKind):Str×NameKind:=if (y.2==NameKind.free&&env.scope.kind==.function&&env.kindOf y.1==some .cell)=true then(y.1,NameKind.cell) else(y.1,y.2)
theorem relF_fst(env:Env)(y:Str×NameKind):(qeR env y).1=y.1:=by unfold qeR;split<;>rfl
theorem relF_snd(env:Env)(y:Str×NameKind):(qeR env y).2=y.2\/((qeR env y).2=.cell/\y.2=.free):=by
 unfold qeR;split
 .rename_i h
  rw[yY,yY] at h;show .inr ⟨rfl,Yu.mp h.1.1⟩
 .show .inl rfl
theorem zv:∀{names:List (Str×NameKind)} {x:Str} {k:NameKind},(names.map (qeR env)).lookup x=some k->∃ b,names.lookup x=some b/\(x,b)∈names/\(k=b\/(k=.cell/\b=.free))
 | [],_,_,h=>by cases h
 | (n,k1)::r,x,k,h=>by
  rw[YJ,show qeR env (n,k1)=((qeR env (n,k1)).1,(qeR env (n,k1)).2) from rfl,Y7,relF_fst] at h;rw[Y7]
  cases c:x==n with
  | true =>
   have e:x=n:=Yu.mp c;subst e;have a:(x==(x,k1).1)=true:=c;rw[a] at h;have h':=ym h;show⟨k1,rfl,yE,?_⟩;rcases relF_snd env (x,k1) with z | ⟨z1,z2⟩
   .show .inl (h'.symm.trans z)
   .show .inr ⟨h'.symm.trans z1,z2⟩
  | false =>
   have a:(x==(n,k1).1)=false:=c;rw[a] at h;obtain⟨b,d,f,g⟩:=zv h;show⟨b,d,yy _ f,g⟩
section
variable{X:Cx}{pins:List (Addr×Obj)}{σ:St}{H:Hp}{s:Shared}
theorem comp_free_of{b:List (Str×Addr)}(h:(compEnvC scope b C X.env).kindOf x=some .cell\/(compEnvC scope b C X.env).kindOf x=some .free):(x,NameKind.cell)∈scope.names\/(x,NameKind.free)∈scope.names:=by
 rcases h with h | h
 .obtain⟨c,_,a,e | ⟨_,e⟩⟩:=zv (env:=X.env) (names:=scope.names) h
  .rw [<- e] at a;show .inl a
  .rw [e] at a;show .inr a
 .obtain⟨c,_,a,e | ⟨e,_⟩⟩:=zv (env:=X.env) (names:=scope.names) h
  .rw [<- e] at a;show .inr a
  .cases e
theorem Inv.comp{S:Obj}{h1:Heap}{tk:Nat}(I:Inv X pins σ H s)(O:CompOk X.env.scope scope)
  (hN:N.length=nl+ixs.length) (G:∀(k j:Nat) (x:Str),ixs[k]?=some j->N[nl+k]?=some x->X.N[j]?=some x/\(x,NameKind.free)∈scope.names)
  (M:∀ b∈fp,qcN X pins H b) (J:∀ b∈fp,b<s.heap.objs.size) (L:s.heap.objs.size<=C) (W:s.heap.objs.size<=D) (Y:D≠C) (ac:h1.Ns C fun _=>none) (k:∀ b o,s.heap.get? b=some o->h1.get? b=some o)
  (ad:h1.get? D=some S) (aa:∀ v,S.data≠.cell v) (B:CellsOk h1 (C+1) (cellsFrom (C+1) scope.names [])):Inv (X.comp N scope C s H fp) [(D,S)] (qdV nl ixs σ) H { s with heap:=h1,toks:=tk }:=by
 have a:∀ x c,(qP X.env scope.names []).lookup x=some c->X.env.cells.lookup x=some c/\(x,NameKind.free)∈scope.names:=fun x c h=>by
  rcases zL h with⟨h1,K⟩ | h1
  .obtain⟨F,l⟩:=I.ok.has x (by
    rcases O.free _ h1 rfl with z | z
    .show .inl z
    .show .inr z)
   rw[l] at K;show⟨by rw[l,K];rfl,h1⟩
  .cases h1
 have big:∀ c:Addr,C+1<=c->s.heap.objs.size<=c:=fun c h=>yi L (Nat.le_of_succ_le h);have R:∀{P:Prop} {c:Addr},C+1<=c->c<s.heap.objs.size->P:=fun h g=>absurd (yj g (big _ h)) (Yv _)
 have all:∀ x c,(cellsFrom (C+1) scope.names (qP X.env scope.names [])).lookup x=some c->((x,c)∈cellsFrom (C+1) scope.names []/\C+1<=c/\h1.IsCell c none)\/(X.env.cells.lookup x=some c/\c<s.heap.objs.size):=fun x c h=>by
  rcases qbt h with z | z
  .show .inl ⟨z,(B.empty _ _ z).2,(B.empty _ _ z).1⟩
  .obtain⟨_,q⟩:=I.cell x c (a x c z).1;show .inr ⟨(a x c z).1,q.lt⟩
 show⟨⟨I.ok.mod,O.kind,I.ok.glob,I.ok.blt,L,fun x y c h1 K=>?inj,fun x hx=>cells_some ((comp_free_of hx).imp id zM),fun x c z h=>?cab,I.ok.hd,I.ok.frames,.inl rfl,
   fun b hb=>⟨yF (yj (J b hb) L),fun x c e=>?exf⟩,I.bs,yi I.ok.bsz I.sz,fun b o e hb=>?_,fun b hb z=>?_,I.stack,I.stkFree⟩,
  rfl,I.bare,Un.kept k,⟨_,ac,fun i x v e1 e2 e3=>?_⟩,fun x c e=>?_,I.hok.fresh L,fun x c e=>?fre,fun p hp=>?_,I.hok.kept k,?_⟩
 case inj =>
  rcases all x c h1 with⟨r,f,_⟩ | ⟨r,f⟩<;>rcases all y c K with⟨T,U,_⟩ | ⟨T,U⟩
  .show name_of_addr B.apart r T
  .show R f U
  .show R U f
  .show I.ok.inj x y c r T
 case cab =>
  rcases all x c h with⟨_,f,_⟩ | ⟨r,f⟩
  .show big _ f
  .exfalso;obtain⟨d,E⟩:=qaS (n:=C+1) (mem_of_lookup (Yu.mp z));have h:(cellsFrom (C+1) scope.names (qP X.env scope.names [])).lookup x=some c:=h;rw[jx,xB,E] at h;cases h;show R (B.empty _ _ (mem_of_lookup E)).2 f
 case exf =>
  rcases all x c e with⟨_,f,_⟩ | ⟨r,_⟩
  .show fun z=>R f (by rw[z];show J b hb)
  .show(M b hb).2.2.2.2.1 x c r
 case fre =>
  rcases all x c e with⟨_,f,_⟩ | ⟨r,_⟩
  .show I.hok.fresh (big _ f)
  .show I.freeC x c r
 .rcases(M b hb).2.2.2.1 with z | z
  .show I.ok.noex b o e z
  .have:=(I.ok.bs b o e).1;show absurd (yj (yJ this) z) (Yv _)
 .rcases yA.mp (I.stkSub b z) with e | e
  .show(M b hb).2.1 e
  .show(M b hb).2.2.1 e
 .obtain⟨hi,j,hj,hv⟩:=qdn e2;obtain⟨hx,t⟩:=G (i-nl) j x hj (by rw[Nat.add_sub_cancel' hi];show e1);obtain⟨m,hn,hl⟩:=I.loc;have B:=O.free _ t rfl
  obtain⟨u,ru,lk⟩:=hl j x v hx hv (by
   rcases B with z | z
   .show .inr (.inl z)
   .show .inr (.inr z))
  show⟨u,ru,?_⟩;rcases lk with⟨ab,_⟩ | ⟨_,c,hc,A⟩
  .have w:X.env.scope.names.lookup x=some .local:=ab;rcases B with z | z<;>· rw[z] at w;cases w
  .obtain⟨F,l⟩:=zM (env:=X.env) (acc:=[]) t
   have e:F=c:=by
    have:=(a x F l).1;rw[hc] at this;show(ym this).symm
   subst e
   have Z:(cellsFrom (C+1) scope.names (qP X.env scope.names [])).lookup x=some F:=by
    rw[jx,xB]
    cases q:(cellsFrom (C+1) scope.names []).lookup x with
    | none=>show l
    | some d=>have:=O.cel _ (qbs (mem_of_lookup q)) rfl;rw[O.once _ t rfl] at this;cases this
   show .inr ⟨?_,F,Z,?_⟩
   .rcases e3 with z | z | z
    .obtain⟨k0,z3,_,e | ⟨e,_⟩⟩:=zv (env:=X.env) (names:=scope.names) z
     .rw [O.once _ t rfl] at z3;cases z3;cases e
     .cases e
    .show .inl z
    .show .inr z
   .obtain⟨o,ho,E⟩:=A;show⟨o,k _ _ ho,E⟩
 .rcases all x c e with⟨_,_,a3⟩ | ⟨r,_⟩
  .show⟨none,a3⟩
  .obtain⟨v,o,ho,E⟩:=I.cell x c r;show⟨v,o,k _ _ ho,E⟩
 .have e:p=(D,S):=by simpa using hp
  subst e;show⟨ad,I.hok.fresh W,Y,fun z=>?_,aa⟩;rcases yA.mp (I.stkSub D z) with e | e
  .show absurd (show X.env.locals<D from yj I.lt W) (by rw[e];show Yv _)
  .show I.nofs W e
 .show(qdV nl ixs σ).length=N.length;rw[capS_len,hN]
theorem Inv.compBack{i:Shared}{H':Hp}{h:St}(I:Inv X pins σ H s)(f:∀ b∈fp,qcN X pins H b)(r:s.heap.objs.size<=C)(j:s.heap.objs.size<=D)
  (J:Inv (X.comp N scope C s H fp) [(D,{ cls:=.type "list",data:=.seq its.toArray n })] h H' i) (hv:Vals ys its) (hz:ys.length<=sizeLine):Inv X pins σ (upd H' D (.lst ys)) i:=by
 obtain⟨p,d,m,_,_⟩:=J.pin (D,{ cls:=.type "list",data:=.seq its.toArray n }) (yP _ (yz.mpr rfl));have g:∀ b o,s.heap.get? b=some o->b≠D:=fun b o e=>yF (yj (yJ e) j);have a:=J.base;show I.call' (ch:=fp) J.os ⟨a.keep,a.slot,fun b o e n l=>?_,a.there,fun b xs e=>?_,fun b o u e=>?_,fun b ps e=>?_⟩ (fun b u e=>?_) J.bare fun b hb=>⟨(f b hb).2.2.2.1,(f b hb).2.1,(f b hb).2.2.2.2.1,(f b hb).2.2.2.2.2⟩
 .rw [qf (g b o e)];show a.free b o e n l
 .have q:=a.tups b xs e;rw[qf (qy q d)];show q
 .have q:=a.frzs b o u e;rw[qf (qy q d)];show q
 .obtain⟨more,q⟩:=a.tbls b ps e;show⟨more,by rw[qf (qy q d)];show q⟩
 .by_cases hb:b=D
  .subst hb;rw[qb] at e;cases e;show⟨hz,its,n,hv,p⟩
  .rw [qf hb] at e;show(J.hok b u e).stay (fun c v _ q=>q) (fun c q=>by rw[qf (qy q d)];show q) fun c xs q=>by rw[qf (qy q d)];show q
end
def qgE:TT:=fun _ H Q=>Q true H
def qeS(wi:TI)(g:TG)(tc:TT)(te:TE)(nl:Nat)(ixs:LN):TE:=fun σ H Q=>wi σ H fun J e =>
 ∃ W:Nat->Nat->List V->Hp->Prop,(∃ m,W 0 m [] e)/\∀ i m ys H,W i m ys H ->
  (J.stop i H/\ys.length<=sizeLine/\∀ p,H p=none->Q (.ref p) (upd H p (.lst ys))) \/
  (J.go i H/\∃ M:List V->Hp->Prop,(∀ ys' H',M ys' H'->∃ d,d<m/\W (i+1) d ys' H')/\∀ x H',J.yld i H x H'->g x (qdV nl ixs σ) H' fun a f=>tc a f fun b c =>
   if b=true then te a c fun v h=>ys.length<sizeLine/\M (ys++[v]) h else M ys c)
def qdS(nl:Nat)(g:TG):Prop:=∀ x σ H Q,g x σ H Q->g x σ H fun a b=>Q a b/\a.length=σ.length/\∀ i,nl<=i->a[i]?=σ[i]?
theorem qN{i:Nat}(h:i<nl:=by decide):qdS nl (qbU i):=fun x σ H Q q=>⟨q,XS ..,fun j a=>xG (by lk)⟩
def qfC(X:Cx)(ifs:List Expr)(tc:TT):Prop:=
 ∀(pins:List (Addr×Obj)) (s:Shared) (σ:St) (H:Hp) (Q:Bool->Hp->Prop),Inv X pins σ H s->tc σ H Q ->
  wpAny (model X.prog X.w) X.A (forIn ifs true fun c r=>if r=true then do let ok <- isTrue c X.env (eval c X.env);pure (ForInStep.yield ok) else pure (ForInStep.yield r)) (TP X pins σ Q) X.xe s
theorem jA:qfC X [] qgE:=fun pins s σ H Q I h=>wpAny_tests_nil ⟨H,I,h⟩
theorem q8{c:Expr}(h:PT X c tc):qfC X [c] tc:=fun pins s σ H Q I q=>wpAny_tests_one (h pins s σ H Q I q)
section
variable{X:Cx}{pins:List (Addr×Obj)}{σ:St}{H:Hp}{s:Shared}
theorem qbK{tn:Nat->Heap->Prop}{J:It}{Q:V->Hp->Prop}
  {RR:Value->Addr->Result->Shared->Prop} (I:Inv X pins σ H s) (hc:X.calm=true) (O:CompOk X.env.scope scope)
  (hN:N.length=nl+ixs.length) (ah:∀(k j:Nat) (x:Str),ixs[k]?=some j->N[nl+k]?=some x->X.N[j]?=some x/\(x,NameKind.free)∈scope.names)
  (T:Turn X.prog X.w X.K tg J fp it tn) (st:tn 0 s.heap) (hf:∀ b∈fp,qcN X pins H b)
  (hg:∀ C s0 H0 ex,PG (X.comp N scope C s0 H0 ex) tg g) (gk:qdS nl g) (hi:∀ C s0 H0 ex,qfC (X.comp N scope C s0 H0 ex) ifs tc) (he:∀ C s0 H0 ex,PE (X.comp N scope C s0 H0 ex) elt te)
  (h:∃ W:Nat->Nat->List V->Hp->Prop,(∃ m,W 0 m [] H)/\∀ i m ys H,W i m ys H ->
   (J.stop i H/\ys.length<=sizeLine/\∀ p,H p=none->Q (.ref p) (upd H p (.lst ys))) \/
   (J.go i H/\∃ M:List V->Hp->Prop,(∀ ys' H',M ys' H'->∃ m',m'<m/\W (i+1) m' ys' H')/\∀ x H',J.yld i H x H'->g x (qdV nl ixs σ) H' fun an a=>tc an a fun b H3 =>
    if b=true then te an H3 fun v H4=>ys.length<sizeLine/\M (ys++[v]) H4 else M ys H3))
  (au:∀(D C:Addr) (l:Shared) (H':Hp) (R:St) (ys:List V) (its:List Value) (n:Nat),s.heap.objs.size<=C->s.heap.objs.size<=D->Inv (X.comp N scope C s H fp) [(D,{ cls:=.type "list",data:=.seq its.toArray n })] R H' l->Vals ys its->ys.length<=sizeLine ->
   (∀ p,H' p=none->Q (.ref p) (upd H' p (.lst ys)))->RR (.ref D) C (.ok .next) l) :
  wpAny (model X.prog X.w) X.A (newList []) (fun acc s3=>wpAny (model X.prog X.w) X.A (newFunctionEnv scope X.env.globals (qP X.env scope.names []) [] X.env.qual none .none (some X.env)) (fun U s4 =>
   codeAny (model X.prog X.w) X.A (.compStart (.ListComp elt [⟨tg,iter,ifs,0⟩] scope pos) 0 (.ref it) acc { U with scope:=relabel scope X.env }) (RR acc U.locals) s4) E s3) E s:=by
 obtain⟨W,⟨m0,w0⟩,turn⟩:=h;show YR (newEnvK ?_);dsimp only;generalize ab:s.heap.push { cls:=.type "list",dict:=none,data:=.seq ([]:List Value).toArray }=a;have Z:(pushCells (a.push { cls:=.type "dict",data:=.dict #[] }) scope.names).Ns a.objs.size fun _=>none:=(Heap.Ns.new a (.type "dict")).keeps (pushCells_keeps _ _);have F:=cellsFrom_ok scope.names (a.push { cls:=.type "dict",data:=.dict #[] }) (a.objs.size+1) [] ⟨fun _ _ hm=>(nomatch hm),List.Pairwise.nil⟩ (by rw[Y0];show yh _);rw[Y0] at F;have ac:∀ b o,a.get? b=some o->(pushCells (a.push { cls:=.type "dict",data:=.dict #[] }) scope.names).get? b=some o:=fun b o e=>pushCells_keeps _ _ b o (yv _ e);generalize pushCells (a.push { cls:=.type "dict",data:=.dict #[] }) scope.names=h1 at Z F ac ⊢;have hC:a.objs.size=s.heap.objs.size+1:=by rw[<- ab,Y0]
 have as:s.heap.objs.size≠a.objs.size:=by rw[hC];show yF (xR _)
 have Y:s.heap.objs.size<=a.objs.size:=by rw[hC];show xH _
 have f:∀ b,b<s.heap.objs.size->b≠a.objs.size/\b≠s.heap.objs.size:=fun b hb=>⟨by rw[hC];show yF (Y1 hb),yF hb⟩;have old:∀ b o,s.heap.get? b=some o->h1.get? b=some o:=fun b o e=>ac b o (ab ▸ yv _ e);have af:h1.get? s.heap.objs.size=some { cls:=.type "list",data:=.seq ([]:List Value).toArray }:=ac _ _ (ab ▸ yS _ rfl)
 have B:∀ b∈fp,b<s.heap.objs.size:=fun b hb=>by
  obtain⟨o,ho,_⟩:=T.obj 0 _ st b hb;show yJ ho
 have aa:∀ s3:Shared,s3={ s with heap:=h1 } ->
   codeAny (model X.prog X.w) X.A (.compLoop (.ListComp elt [⟨tg,iter,ifs,0⟩] scope pos) 0 (.ref it) (.ref s.heap.objs.size) (compEnvC scope (cellsFrom (a.objs.size+1) scope.names (qP X.env scope.names [])) a.objs.size X.env)) (RR (.ref s.heap.objs.size) a.objs.size) s3:=by
  rintro s3 rfl;have I0:=I.comp (N:=N) (C:=a.objs.size) (D:=s.heap.objs.size) (h1:=h1) (tk:=s.toks) O hN ah hf B Y (yh _) as Z old af (fun v z=>by cases z) F
  have t:∀{H':Hp} {R:St} {l:Shared} {pl:List (Addr×Obj)},Inv (X.comp N scope a.objs.size s H fp) pl R H' l->(∀ p∈pl,p.1=s.heap.objs.size)->(∀ b∈fp,H' b=none)->∀ b∈fp,qcN (X.comp N scope a.objs.size s H fp) pl H' b:=fun{H' R l pl} J aw hn b hb =>
   ⟨hn b hb,(f b (B b hb)).1,fun z=>(by
     rcases yA.mp (I.stkSub b z) with e | e
     .show(hf b hb).2.1 e
     .show(hf b hb).2.2.1 e),.inl hb,J.ok.exf b hb |>.2,fun p L z=>by
    have e:=aw p (by simpa using L);rw[e] at z;show(f b (B b hb)).2 z.symm⟩
  show compLoop_own (fun k l=>∃ i H' ys its n,Inv (X.comp N scope a.objs.size s H fp) [(s.heap.objs.size,{ cls:=.type "list",data:=.seq its.toArray n })] (qdV nl ixs σ) H' l/\tn i l.heap/\(∀ b∈fp,H' b=none)/\Vals ys its/\W i k ys H') ?_ m0
   ⟨0,H,[],[],0,I0,T.keep _ _ _ st fun b _ o e=>old b o e,fun b hb=>(hf b hb).1,.nil,w0⟩
  rintro k l ⟨i,H',ys,its,n,J1,al,ae,v1,w1⟩
  have one:∀ p∈[((s.heap.objs.size,{ cls:=.type "list",data:=.seq its.toArray n }):Addr×Obj)],p.1=s.heap.objs.size:=fun p L=>by
   have e:p=_:=yz.mp L;rw[e]
  rcases turn i k ys H' w1 with⟨am,hz,q⟩ | ⟨go,M,hM,step⟩
  .show thn (T.done (X.comp N scope a.objs.size s H fp) rfl rfl rfl hc i _ l _ H' _ J1 (t J1 one ae) al am) fun r s4 ⟨hr,J4⟩=>?_;subst hr;show au _ _ s4 H' _ ys its n Y (yh _) J4 v1 hz q
  .show thn (T.item (X.comp N scope a.objs.size s H fp) rfl rfl rfl hc i _ l _ H' _ J1 (t J1 one ae) al go) fun r s4 ⟨u,hr,h4⟩=>?_;subst hr;show thn h4 fun _ s5 ⟨x,H5,J5,r5,y5,ad,ap⟩=>?_;have ao:=J5.pinned (t J5 one ap) (T.obj _ _ ad);show thn (hg _ _ _ _ _ s5 _ H5 x u _ ao r5 (gk _ _ _ _ (step x H5 y5))) fun _ s6 ⟨S,H6,J6,q6,l6,k6⟩=>?_;show thn (hi _ _ _ _ _ s6 S H6 _ J6 q6) fun ok s7 ⟨H7,J7,q7⟩=>?_;have again:∀{P:Shared} {H8:Hp} {ys':List V} {k':Nat},Inv (X.comp N scope a.objs.size s H fp) ([((s.heap.objs.size,{ cls:=.type "list",data:=.seq its.toArray n }):Addr×Obj)]++qch fp s5.heap) S H8 P ->
     (∀ b o,b≠s.heap.objs.size->P.heap.get? b=some o->P.heap.get? b=some o)->tn (i+1) P.heap/\∀ b∈fp,H8 b=none:=fun{P H8 ys' k'} J8 _=>by
    show⟨T.keep _ _ _ ad fun b hb o e=>(J8.pin (b,o) (yP _ (yP _ (qai hb e)))).1,fun b hb=>?_⟩;obtain⟨o,e,d⟩:=T.obj _ _ ad b hb;show(J8.pin (b,o) (yP _ (yP _ (qai hb e)))).2.1
   have wk:∀(j:Nat) v,(qdV nl ixs σ)[j]?=some (some v)->S[j]?=some (some v):=fun j v e=>by
    obtain⟨hj,_⟩:=qdn e;rw[k6 j hj];show e
   cases ok with
   | false =>
    rw[yC Yr] at q7 ⊢;obtain⟨m',hm,w7⟩:=hM _ _ q7;obtain⟨ay,aq⟩:=again (ys':=ys) (k':=0) J7 (fun _ _ _ e=>e);show⟨m',hm,i+1,H7,ys,its,n,J7.unpinned.weak l6.symm wk,ay,aq,v1,w7⟩
   | true =>
    rw[yG rfl] at q7 ⊢;show thn (he _ _ _ _ _ s7 S H7 _ J7 q7) fun y P ⟨v,H8,J8,r8,ba,mq⟩=>?_;obtain⟨m',hm,w8⟩:=hM _ _ mq;obtain⟨az,ar⟩:=again (ys':=ys) (k':=0) J8 (fun _ _ _ e=>e);have J9:=J8.unpinned;obtain⟨pD,nD,ak,ax,_⟩:=J9.pin (s.heap.objs.size,{ cls:=.type "list",data:=.seq its.toArray n }) (yP _ (yz.mpr rfl));show wpAny_list_append_plain (hsz:=by rw[yw,<- v1.length];lk) ⟨n,pD⟩ fun h9 G aj=>?_;obtain⟨n9,G⟩:=G;have e9:(its.toArray.push y)=(its++[y]).toArray:=by simp
    rw[e9] at G
    have Ja:Inv (X.comp N scope a.objs.size s H fp) [] (qdV nl ixs σ) H8 { P with heap:=h9,toks:=P.toks }:=
     ((J9.pins_of (pins':=[]) fun p L=>absurd L (by simp)).turned (it:=s.heap.objs.size) (h':=h9) (t':=P.toks) (fun b o hb e=>(aj.2 b hb).trans e) nD ak (.inr (yh _))
      (fun x c e z=>by
       rcases qbt e with w | e
       .have:=(F.empty _ _ w).2;rw[z,hC] at this;show absurd (yi (xH _) this) (Nat.not_succ_le_self _)
       have:=zL e;rcases this with⟨av,hcc⟩ | hcc
       .obtain⟨c',ag⟩:=I.ok.has x (by
         rcases O.free _ av rfl with q | q
         .show .inl q
         .show .inr q)
        rw[ag] at hcc;have ai:c=c':=hcc;obtain⟨_,q⟩:=I.cell x c' ag;rw[<- ai,z] at q;show absurd q.lt (Yv _)
       .cases hcc) (fun p L=>absurd L (by simp))).weak l6.symm wk
    show⟨m',hm,i+1,H8,ys++[v],its++[y],n9,Ja.pins_of fun p L=>?_,?_,ar,v1.append (.cons r8 .nil),w8⟩
    .have e:p=_:=yz.mp L;subst e;show⟨G,nD,ak,ax,fun v z=>by cases z⟩
    .show T.keep _ _ _ az fun b hb o e=>(aj.2 b (f b (B b hb)).2).trans e
 show codeAny_compStart_list (aa _ rfl) (T.self _ 0 _ _ _ (T.keep _ _ _ st fun b _ o e=>old b o e) (aa _ rfl))
end
section
variable{X:Cx}{tg elt iter:Expr}{ifs:List Expr}{scope:Scope}{pos:Pos}{N:LS}{nl:Nat}{ixs:LN}{wi:TI}{g:TG}{tc:TT}{te:TE}
theorem jh{XN:LS}(N:LS)(nl:Nat)(ixs:LN)(F:X.env.scope=sc)(u:X.N=XN)(hc:X.calm=true)(M:qcv sc scope=true)(U:N.length=nl+ixs.length)(d:qgh nl ixs N XN scope.names=true)
  (hi:PI X tg iter wi) (Z:∀ C r i ex,PG (X.comp N scope C r i ex) tg g) (P:qdS nl g) (ht:∀ C r i ex,qfC (X.comp N scope C r i ex) ifs tc) (Y:∀ C r i ex,PE (X.comp N scope C r i ex) elt te)
  (hs:∀ x,foldedSetIterable iter X.env x=pure x:=by intro _;rfl):PE X (.ListComp elt [⟨tg,iter,ifs,0⟩] scope pos) (qeS wi g tc te nl ixs):=by
 intro pins s σ H Q I h;subst F u;have O:=qdm M;have l:=qd8 d;rw[eval_ListComp]
 have y:=qaR (scope:=scope) (env:=X.env) fun n E=>I.ok.has n (by
  rcases O.free _ E rfl with z | z
  .show .inl z
  .show .inr z)
 show wpAny_comprehension_free (use:=none) rfl hs y O.kind O.loc (thn (hi pins s σ H _ I h) fun v s1 h1=>thn h1 fun aa s2 R=>?_);obtain⟨it,fp,tn,J,H2,e,f,T,K,L,W⟩:=R;subst e;show qbK (Q:=Q) (RR:=fun acc C=>compPost (model X.prog X.w) X.A X.xe none (EP X pins σ Q) acc C) f hc O U l T K L Z P ht Y W ?_;intro D C s' H' ab ys its n j S t hv hz q;obtain⟨m,E,_⟩:=id t.loc;have B:=f.compBack L j S t hv hz;obtain⟨_,nD,G,_,_⟩:=t.pin (D,{ cls:=.type "list",data:=.seq its.toArray n }) (yP _ (yz.mpr rfl));show⟨m,E,fun h' sb=>⟨.ref D,_,?_,rfl,q D nD⟩⟩;show B.turned (it:=C) (h':=h') (t':=s'.toks) (fun b o hb e=>(sb.2 b hb).trans e) ((qf (H:=H') (a:=D) (b:=C) (o:=.lst ys) (Yn G)).trans t.free) (Yq (yj f.lt j)) (.inr (yi f.sz j)) (fun x c e z=>?_) (fun p hp z=>?_)
 .obtain⟨_,q⟩:=f.cell x c e;show absurd (yj q.lt (by rw[z];show j)) (Yv _)
 .show absurd (yj (yJ (f.pin p hp).1) (by rw[z];show j)) (Yv _)
theorem zN{i:Nat}{y:Str}{r f:Pos}{XN:LS}(N:LS)(nl:Nat)(ixs:LN)(Y:X.env.scope=sc)(u:X.N=XN)(hc:X.calm=true)(O':qcv sc scope=true)(hN:N.length=nl+ixs.length)(l:qgh nl ixs N XN scope.names=true)
  (P:X.N.Nodup) (S:X.N[i]?=some y) (hy:X.env.scope.names.lookup y=some .local)
  (hi:PI X tg iter wi) (hg:∀ C G t ex,PG (X.comp N scope C G t ex) tg g) (gk:qdS nl g) (ht:∀ C G t ex,qfC (X.comp N scope C G t ex) ifs tc) (he:∀ C G t ex,PE (X.comp N scope C G t ex) elt te)
  (Z:swapsWith (.ListComp elt [⟨tg,iter,ifs,0⟩] scope pos) (some (.Name y r)) f.line X.env=pure true:=by rfl)
  (hs:∀ x,foldedSetIterable iter X.env x=pure x:=by intro _;rfl):PS X (.Assign [.Name y r] (.ListComp elt [⟨tg,iter,ifs,0⟩] scope pos) f) (qfn (qeS wi g tc te nl ixs) (qbU i)):=by
 intro pins s σ H L I h;subst Y u;have O:=qdm O';have E:=qd8 l
 have R:=qaR (scope:=scope) (env:=X.env) fun n U=>I.ok.has n (by
  rcases O.free _ U rfl with z | z
  .show .inl z
  .show .inr z)
 rw[exec_Assign_Name_used _ _ _ _ Z];show yr (kx (yr ?_));show wpAny _ X.A (do let _ <- comprehension (.ListComp elt [⟨tg,iter,ifs,0⟩] scope pos) scope X.env _ (newList []) false (eval iter X.env) (some (assign (.Name y r) X.env))) _ _ s;show yr (YW (wpAny_comprehension_free (use:=some (assign (.Name y r) X.env)) (Q:=fun _ F=>SP X pins L .next F) rfl hs R O.kind O.loc
  (thn (hi pins s σ H _ I h) fun v s1 h1=>thn h1 fun ad s2 h2=>?_)) (fun _ F hq=>yu (yu hq)) fun _ _ e=>e)
 obtain⟨it,fp,tn,J,H2,e,d,T,ac,f2,hW⟩:=h2;subst e;show qbK (Q:=fun v H'=>qbU i v σ H' L.nx) (RR:=fun acc C=>compPost (model X.prog X.w) X.A X.xe (some (assign (.Name y r) X.env)) (fun _ F=>SP X pins L .next F) acc C) d hc O hN E T ac f2 hg gk ht he hW ?_;intro D C F H' ae ys its n j hD K hv hz q;obtain⟨m,U,_⟩:=id K.loc;have B:=d.compBack f2 j hD K hv hz;obtain⟨_,nD,aa,_,_⟩:=K.pin (D,{ cls:=.type "list",data:=.seq its.toArray n }) (yP _ (yz.mpr rfl));show wpAny _ X.A (assign (.Name y r) X.env (.ref D)) _ _ _;show wpAny_assign_Name (qcd (i:=i) (x:=y) (v:=.ref D) B P S (.inl hy) rfl (fun ab B' W=>?_) (.inr hy));obtain⟨a,sa,ha⟩:=W
 have M:C≠a:=by
  rintro rfl;rcases ha with z | z
  .show absurd (show X.env.locals<C from yj d.lt j) (by rw[z];show Yv _)
  .obtain⟨_,q⟩:=d.cell y C z;show absurd (yj q.lt j) (Yv _)
 show⟨m,U.sameBut sa M,fun h' sb=>⟨_,_,?_,q D nD⟩⟩;show B'.turned (it:=C) (h':=h') (t':=ab.toks) (fun b o hb e=>(sb.2 b hb).trans e) ((qf (H:=H') (a:=D) (b:=C) (o:=.lst ys) (Yn aa)).trans K.free) (Yq (yj d.lt j)) (.inr (yi d.sz j)) (fun x c e z=>?_) (fun p hp z=>?_)
 .obtain⟨_,q⟩:=d.cell x c e;show absurd (yj q.lt (by rw[z];show j)) (Yv _)
 .show absurd (yj (yJ (d.pin p hp).1) (by rw[z];show j)) (Yv _)
end
noncomputable def Its(x:Str):It:=⟨fun i _=>i<x.cps.size,fun i H v H'=>H'=H/\∃ c,x.cps[i]?=some c/\v=.str ⟨#[c]⟩,fun i _=>i=x.cps.size⟩
theorem qdo{K:yg}{t:Tok}(W:∀ A:Around,A.handled=none->Walks P w A it [it] [it] x.cps.size (SignAt x) fun i h=>h.IsStrIter it T x t i)
  (J:∀(A:Around) (i:Nat) (s:Shared) (Q:Value->Shared->Prop) (E:Value->Shared->Prop),s.heap.IsStrIter it T x t i->Q (.ref it) s->wpAny (model P w) A (pyIter (.ref it)) Q E s)
  (B:∀ v,letOwnedTupleGo tg (.ref it) v=pure ()):Turn P w K tg (Its x) [it] it (fun i h=>h.IsStrIter it T x t i) where
 mem:=by simp
 obj:=fun i h st b hb=>by
  have e:b=it:=by simpa using hb
  subst e;obtain⟨o,e,c,d⟩:=st;show⟨o,e,fun v z=>by rw[d] at z;cases z⟩
 keep:=fun i h h' st k=>by
  obtain⟨o,e,r⟩:=st;show⟨o,k it (by simp) o e,r⟩
 item:=by
  intro X p hw n hc i pins s σ H E I a st y;subst p hw n;obtain⟨f,g,G,j,l,m⟩:=a it (by simp);show(W X.A (I.ok.hd hc)).item i s _ _ y st fun v h' tk hv D C=>?_;obtain⟨c,u,q,rfl⟩:=hv;have F:Inv X pins σ H { s with heap:=h',toks:=tk }:=I.turned (fun b o hb e=>C b o (by simpa using hb) e) f g j l m;show⟨_,rfl,Y4 (B _) ⟨.str ⟨#[c]⟩,H,F,⟨u,rfl⟩,⟨rfl,c,q,rfl⟩,D,fun b hb=>(a b hb).1⟩⟩
 done:=by
  intro X p hw n hc i pins s σ H E I a st y;subst p hw n;obtain⟨f,g,G,j,l,m⟩:=a it (by simp);have e:i=x.cps.size:=y;subst e;show(W X.A (I.ok.hd hc)).done s _ _ st fun h' tk C=>⟨rfl,I.turned (fun b o hb e=>C b o (by simpa using hb) e) f g j l m⟩
 self:=J
section
variable{X:Cx}{tg:Expr}
end
section
variable{K:yg}{a:Addr}{xs:List V}{g:TG}{tc:TT}{te:TE}{σ':St}{H1:Hp}{Q:V->Hp->Prop}
def qd9(J:It)(g:TG)(tc:TT)(te:TE)(σ':St)(H1:Hp)(Q:V->Hp->Prop):Prop:=
 ∃ W:Nat->Nat->List V->Hp->Prop,(∃ m,W 0 m [] H1)/\∀ i m ys H,W i m ys H ->
   (J.stop i H/\ys.length<=sizeLine/\∀ p,H p=none->Q (.ref p) (upd H p (.lst ys))) \/
   (J.go i H/\∃ M:List V->Hp->Prop,(∀ ys' H',M ys' H'->∃ d,d<m/\W (i+1) d ys' H')/\∀ x H',J.yld i H x H'->g x σ' H' fun a e=>tc a e fun b c =>
    if b=true then te a c fun v f=>ys.length<sizeLine/\M (ys++[v]) f else M ys c)
theorem qK(c:Nat->List V->Hp->Prop)(n:c 0 [] H1)(hl:∀ i ys H,i<=xs.length->c i ys H->SqL K H a xs)
  (s:∀ i x ys H,xs[i]?=some x->c i ys H->g x σ' H fun f j=>tc f j fun b h=>if b=true then te f h fun v l=>ys.length<sizeLine/\c (i+1) (ys++[v]) l else c (i+1) ys h)
  (o:∀ ys H,c xs.length ys H->ys.length<=sizeLine/\∀ p,H p=none->Q (.ref p) (upd H p (.lst ys))):qd9 (Itl K a) g tc te σ' H1 Q:=by
 show⟨fun i m ys H=>m=xs.length-i/\i<=xs.length/\c i ys H,⟨xs.length,by simp,YQ _,n⟩,?_⟩;rintro i m ys H ⟨rfl,r,p⟩;have q:=hl i ys H r p;by_cases d:i<xs.length
 .show .inr ⟨⟨xs,xs[i],q,by simp[d]⟩,c (i+1),fun ys' H' t=>⟨xs.length-(i+1),by lk,rfl,d,t⟩,fun x H' y=>?_⟩;obtain⟨e,y⟩:=y;subst e;show s i x ys _ (y xs q) p
 .have e:i=xs.length:=by lk
  subst e;show .inl ⟨⟨xs,q,yh _⟩,o ys H p⟩
theorem jS{lo:Int}(a:Nat->List V->Hp->Prop)(l:a 0 [] H1)
  (q:∀ i ys H,i<n->a i ys H->g (.int (lo+i)) σ' H fun d h=>tc d h fun b f=>if b=true then te d f fun v j=>ys.length<sizeLine/\a (i+1) (ys++[v]) j else a (i+1) ys f)
  (o:∀ ys H,a n ys H->ys.length<=sizeLine/\∀ p,H p=none->Q (.ref p) (upd H p (.lst ys))):qd9 (Itr lo n) g tc te σ' H1 Q:=by
 show⟨fun i m ys H=>m=n-i/\i<=n/\a i ys H,⟨n,by simp,YQ _,l⟩,?_⟩;rintro i m ys H ⟨rfl,s,p⟩;by_cases c:i<n
 .show .inr ⟨c,a (i+1),fun ys' H' r=>⟨n-(i+1),by lk,rfl,c,r⟩,fun x H' y=>?_⟩;obtain⟨e,y⟩:=y;subst e y;show q i ys _ c p
 .have e:i=n:=by lk
  subst e;show .inl ⟨yh _,o ys H p⟩
theorem comp_str(a:Nat->List V->Hp->Prop)(n:a 0 [] H1)
  (q:∀ i c ys H,x.cps[i]?=some c->a i ys H->g (.str ⟨#[c]⟩) σ' H fun f j=>tc f j fun b h=>if b=true then te f h fun v l=>ys.length<sizeLine/\a (i+1) (ys++[v]) l else a (i+1) ys h)
  (o:∀ ys H,a x.cps.size ys H->ys.length<=sizeLine/\∀ p,H p=none->Q (.ref p) (upd H p (.lst ys))):qd9 (Its x) g tc te σ' H1 Q:=by
 show⟨fun i m ys H=>m=x.cps.size-i/\i<=x.cps.size/\a i ys H,⟨x.cps.size,by simp,YQ _,n⟩,?_⟩;rintro i m ys H ⟨rfl,s,p⟩;by_cases d:i<x.cps.size
 .show .inr ⟨d,a (i+1),fun ys' H' r=>⟨x.cps.size-(i+1),by lk,rfl,d,r⟩,fun v H' y=>?_⟩;obtain⟨e,c,hc,y⟩:=y;subst e y;show q i c ys _ hc p
 .have e:i=x.cps.size:=by lk
  subst e;show .inl ⟨rfl,o ys H p⟩
end
noncomputable def qcw:V->Option Value
 | .ty n=>some (.type n)
 | .ref a=>some (.ref a)
 | _=>none
theorem qbL{c:Value}(h:qcw y=some c)(r:RelV y u):u=c:=by
 cases y with
 | ty n=>cases h;show r
 | ref a=>cases h;show r
 | _=>cases h
section
variable{X:Cx}{pins:List (Addr×Obj)}{σ:St}{H:Hp}{s:Shared}
theorem TyOf.kit{x:V}(I:Inv X pins σ H s)(b:RelV x u)(ty:TyOf X.K H x t):∃ P:Heap->Prop,PySem.W.KitX X.K u t P/\P s.heap/\u≠.builtin "__main__.__loader__#opaque":=by
 cases ty with
 | non=>cases (show u=Value.none from b);show⟨_,PySem.W.kitx_none,YZ,(fun z=>nomatch z)⟩
 | bl y=>cases (show u=Value.bool y from b);show⟨_,PySem.W.kitx_bool,YZ,(fun z=>nomatch z)⟩
 | int i=>obtain⟨t,q⟩:=(show ∃ t,u=Value.int i t from b);cases q;show⟨_,PySem.W.kitx_int,YZ,(fun z=>nomatch z)⟩
 | str y=>obtain⟨t,q⟩:=(show ∃ t,u=Value.str y t from b);cases q;show⟨_,PySem.W.kitx_str,YZ,(fun z=>nomatch z)⟩
 | flt y=>obtain⟨t,q⟩:=(show ∃ t,u=Value.float y t from b);cases q;show⟨_,PySem.W.kitx_float,YZ,(fun z=>nomatch z)⟩
 | @lst a xs ea =>
  cases (show u=Value.ref a from b);obtain⟨_,_,n,_,h1⟩:=(show ObjOk X.prog X.w H s.heap a (.lst xs) from I.hok a _ ea);show⟨_,PySem.W.kitx_list,⟨_,h1,rfl⟩,(fun z=>nomatch z)⟩
 | @frz a ob xs ea =>
  cases (show u=Value.ref a from b);obtain⟨_,_,_,n,_,h1⟩:=(show ObjOk X.prog X.w H s.heap a (.frz ob (.lst xs)) from I.hok a _ ea);show⟨_,PySem.W.kitx_list,⟨_,h1,rfl⟩,(fun z=>nomatch z)⟩
 | @tup a xs ea =>
  cases (show u=Value.ref a from b);obtain⟨_,_,_,p⟩:=(show ObjOk X.prog X.w H s.heap a (.tup xs) from I.hok a _ ea);obtain⟨o,h1,c,_⟩:=p;show⟨_,PySem.W.kitx_tuple,⟨o,h1,c⟩,(fun z=>nomatch z)⟩
 | @dK a kvs ea =>
  cases (show u=Value.ref a from b);obtain⟨_,_,vs,_,p⟩:=(show ObjOk X.prog X.w H s.heap a (.dK kvs) from I.hok a _ ea);obtain⟨o,d,ep,h1,c,_⟩:=p;show⟨_,PySem.W.kitx_dict,⟨o,h1,c.1⟩,(fun z=>nomatch z)⟩
 | @dT a kvs ea =>
  cases (show u=Value.ref a from b);obtain⟨_,_,xs,_,o,d,ep,h1,c,_⟩:=(show ObjOk X.prog X.w H s.heap a (.dT kvs) from I.hok a _ ea);show⟨_,PySem.W.kitx_dict,⟨o,h1,c.1⟩,(fun z=>nomatch z)⟩
 | @ins a C dx fs ea cl ha hn htk hm =>
  cases (show u=Value.ref a from b);obtain⟨e,O,_⟩:=qa2 I.hok ea;obtain⟨od,J,_⟩:=O.look;show⟨_,PySem.W.kitx_own (cl.get _) cl.hd ha hn htk hm,J,(fun z=>nomatch z)⟩
end
section
variable{X:Cx}
theorem qbu:∀{ys:List V} {a us:List Value},ys.map qcw=a.map some->Vals ys us->us=a
 | [],[],_,_,.nil=>rfl
 | [],_::_,_,h,_=>by cases h
 | y::ys,[],_,h,_=>by cases h
 | y::ys,c::a,_,h,.cons r t=>by
  rw[YJ,YJ] at h
  injection h with h1 h2
  rw[qbL h1 r,qbu h2 t]
theorem qbV:∀{bs:List Bool} {us:List Value},Vals (bs.map V.bl) us->us=bs.map Value.bool
 | [],_,.nil=>rfl
 | b::bs,_,.cons r t=>by
  have e:=qbV t;rw[e];cases r;rfl
def qgF(K:yg):List V->Hp->VK->Prop:=fun xs H Q=>∃(p:Addr) (bs:List Bool),xs=[.ref p]/\SqL K H p (bs.map V.bl)/\Q (.bl (bs.all id)) H
theorem call_all(hc:X.calm=true):j0 X (.builtin "all") (qgF X.K):=by
 intro pins s σ H xs us Q I r h;obtain⟨p,bs,rfl,n,q⟩:=h;obtain⟨u,rfl,w⟩:=qaa r;cases w;obtain⟨its,x,pl,hz⟩:=I.list n;have e:=qbV x;subst e;have j:X.A.in1.handled=none:=I.ok.hd hc;show call_all_walk (Xx pl.isList ?_)
 have f:p≠s.heap.objs.size:=by
  obtain⟨o,m,_⟩:=pl.isList;show yF (yJ m)
 show⟨s.heap.objs.size,_,_,_,_,_,fun i=>(bs[i]?).getD false,rfl,Walks.list j s.heap.objs.size p f (bs.map Value.bool).toArray,⟨⟨_,yS _ rfl,rfl,rfl⟩,pl.isList.at fun o e=>yv _ e⟩,fun i v s Q E hv t=>?_,fun h' tk l=>?_⟩
 .have a:(bs.map Value.bool)[i]?=some v:=by simpa using hv
  rw[yd] at a
  cases e:bs[i]? with
  | none=>rw[e] at a;cases a
  | some b =>
   rw[e] at a;cases a;have c:Q ((bs[i]?).getD false) s:=t;rw[e] at c;show yu c
 .have e:((List.range (bs.map Value.bool).toArray.size).all fun i=>(bs[i]?).getD false)=bs.all id:=by
   rw[yw,ya]
   have key:∀ bs:List Bool,((List.range bs.length).all fun i=>(bs[i]?).getD false)=bs.all id:=by
    intro bs
    induction bs with
    | nil=>rfl
    | cons b r ih =>
     rw[yH,List.range_succ_eq_map,XH,kQ,XH,<- ih];rfl
   show key bs
  rw[e];show⟨.bl _,H,?_,rfl,q⟩;have g:Inv X pins σ H { s with heap:=s.heap.push { cls:=.type "list_iterator",data:=.fields #[.ref p,.int 0 0] } }:=I.kept (t':=s.toks) fun b o e=>yv _ e;have d:=I.fpOk (b:=s.heap.objs.size) (yh _) (I.hok.fresh (yh _));show g.turned (it:=s.heap.objs.size) (h':=h') (t':=tk) (fun b o hb e=>l b o (by simpa using hb) e) d.1 d.2.1 d.2.2.2.1 d.2.2.2.2.1 d.2.2.2.2.2
theorem op_le_str:OpR X (compareOp .LtE) (fun x y H Q=>∃ i j,x=.str i/\y=.str j/\Q (.bl (!decide (j.cps.toList<i.cps.toList))) H):=by
 intro pins s σ H x y v u Q I a b h;obtain⟨i,j,rfl,rfl,q⟩:=h;obtain⟨t,rfl⟩:=a;obtain⟨t',rfl⟩:=b;show PySem.P.le_str (qdh I q (by rfl))
def qgp:R2:=fun x y H Q=>match x,y with
 | .int i,.int j=>Q (.bl (decide (i<=j))) H
 | .str i,.str j=>Q (.bl (!decide (j.cps.toList<i.cps.toList))) H
 | _,_=>False
theorem qfD:OpR X (compareOp .LtE) qgp:=by
 intro pins s σ H x y v u Q I a b h
 cases x with
 | int i=>cases y with
  | int j=>show op_le pins s σ H _ _ v u Q I a b ⟨i,j,rfl,rfl,h⟩
  | _=>show False.elim h
 | str i=>cases y with
  | str j=>show op_le_str pins s σ H _ _ v u Q I a b ⟨i,j,rfl,rfl,h⟩
  | _=>show False.elim h
 | _=>show False.elim h
theorem op_is_bl:OpR X (compareOp .Is) (fun x y H Q=>∃ i j,x=.bl i/\y=.bl j/\Q (.bl (i==j)) H):=by
 intro pins s σ H x y v u Q I a b h;obtain⟨i,j,rfl,rfl,q⟩:=h;cases a;cases b;show wpAny_is_plain (by cases i<;>cases j<;>rfl) (qdh I q (by cases i<;>cases j<;>rfl))
def qgq:R2:=fun x y H Q=>match x,y with
 | .bl i,.bl j=>Q (.bl (i==j)) H
 | x,.non=>Q (.bl (decide (x=.non))) H
 | _,_=>False
theorem qfE:OpR X (compareOp .Is) qgq:=by
 intro pins s σ H x y v u Q I a b h
 cases y with
 | non=>show op_isN pins s σ H x _ v u Q I a b ⟨rfl,by cases x<;>show h⟩
 | bl j=>cases x with
  | bl i=>show op_is_bl pins s σ H _ _ v u Q I a b ⟨i,j,rfl,rfl,h⟩
  | _=>show False.elim h
 | _=>cases x<;>show False.elim h
theorem op_rep_str:OpR X (binaryOp .Mult) (fun x y H Q=>∃ z k,x=.str z/\y=.int k/\MulOk z k/\Q (.str (Txt.mul z k)) H):=by
 intro pins s σ H x y v u Q I b c h;obtain⟨z,k,rfl,rfl,a,q⟩:=h;obtain⟨t,rfl⟩:=b;obtain⟨t',rfl⟩:=c;show SB.mul a fun t' k'=>⟨.str _,H,I.tok _,⟨_,rfl⟩,q⟩
def qfT:R2:=fun x y H Q=>match x,y with
 | .int i,.int j=>CMul i j/\Q (.int (i*j)) H
 | .str z,.int k=>MulOk z k/\Q (.str (Txt.mul z k)) H
 | .ref a,.int k=>rRep (.ref a) (.int k) H Q
 | _,_=>False
theorem qbW:OpR X (binaryOp .Mult) qfT:=by
 intro pins s σ H x y v u Q I b c h
 cases y with
 | int j=>cases x with
  | int i=>show op_mul pins s σ H _ _ v u Q I b c ⟨i,j,rfl,rfl,h.1,h.2⟩
  | str i=>show op_rep_str pins s σ H _ _ v u Q I b c ⟨i,j,rfl,rfl,h.1,h.2⟩
  | ref a=>show qe1 pins s σ H _ _ v u Q I b c h
  | _=>show False.elim h
 | _=>cases x<;>show False.elim h
def qcS(K:yg):R2:=fun x y H Q=>match x,y with
 | .int i,.int j=>Q (.int (i+j)) H
 | .str i,.str j=>i.length+j.length<=sizeLine/\Q (.str (i++j)) H
 | .ref a,.ref b=>rCat (.ref a) (.ref b) H Q\/rCatT K (.ref a) (.ref b) H Q
 | _,_=>False
theorem u_add:OpR X (binaryOp .Add) (qcS X.K):=by
 intro pins s σ H x y v u Q I c d h
 cases x with
 | int i=>cases y with
  | int j=>show op_add pins s σ H _ _ v u Q I c d ⟨i,j,rfl,rfl,h⟩
  | _=>show False.elim h
 | str i=>cases y with
  | str j=>show op_add_str pins s σ H _ _ v u Q I c d ⟨i,j,rfl,rfl,h.1,h.2⟩
  | _=>show False.elim h
 | ref a=>cases y with
  | ref b=>show h.elim (fun h=>op_cat pins s σ H _ _ v u Q I c d h) fun h=>op_catT pins s σ H _ _ v u Q I c d h
  | _=>show False.elim h
 | _=>show False.elim h
def qcT(K:yg):List V->Hp->VK->Prop:=fun xs H Q=>match xs with
 | [.str z]=>z.length<=sizeLine/\Q (.int z.length) H
 | [.ref p]=>(∃ ys,(SqL K H p ys\/SqT K H p ys)/\Q (.int ys.length) H)\/∃ kvs,H p=some (.dK kvs)/\Q (.int kvs.length) H
 | _=>False
theorem call_lenU:j0 X (.builtin "len") (qcT X.K):=by
 intro pins s σ H xs us Q I r h
 match xs,h with
 | [.str z],h=>show call_len_str pins s σ H _ us Q I r ⟨z,rfl,h.1,h.2⟩
 | [.ref p],.inl ⟨ys,h,q⟩=>show call_len_seq pins s σ H _ us Q I r ⟨p,ys,rfl,h,q⟩
 | [.ref p],.inr ⟨kvs,h,q⟩=>show call_lenD pins s σ H _ us Q I r ⟨p,kvs,rfl,h,q⟩
theorem sl_str:SlR X (fun x lo b H Q=>∃ z,x=.str z/\z.length<=sizeLine/\Q (.str (Txt.slice z lo b)) H):=by
 intro pins s σ H x v f g lo b e Q I d a pl c h;obtain⟨z,rfl,hz,q⟩:=h;obtain⟨t,rfl⟩:=d;show⟨"str",_,F.slot_str_getitem.lookup,typeIs_str _ _ _,?_⟩
 cases pl with
 | none =>
  cases c with
  | none=>show xT (l:=none) (u:=none) (st:=none) a rfl (XV ⟨yi (kR z _ _) hz,fun t' k=>⟨.str _,H,I.tok _,⟨_,rfl⟩,q⟩⟩)
  | int j uj=>show xT (l:=none) (u:=some (j,uj)) (st:=none) a rfl (XV ⟨yi (kR z _ _) hz,fun t' k=>⟨.str _,H,I.tok _,⟨_,rfl⟩,q⟩⟩)
 | int i ui =>
  cases c with
  | none=>show xT (l:=some (i,ui)) (u:=none) (st:=none) a rfl (XV ⟨yi (kR z _ _) hz,fun t' k=>⟨.str _,H,I.tok _,⟨_,rfl⟩,q⟩⟩)
  | int j uj=>show xT (l:=some (i,ui)) (u:=some (j,uj)) (st:=none) a rfl (XV ⟨yi (kR z _ _) hz,fun t' k=>⟨.str _,H,I.tok _,⟨_,rfl⟩,q⟩⟩)
def qgG(K:yg):V->Option Int->Option Int->Hp->VK->Prop:=fun x lo b H Q=>match x with
 | .str z=>z.length<=sizeLine/\Q (.str (Txt.slice z lo b)) H
 | .ref a=>rSlL K (.ref a) lo b H Q\/rSlT K (.ref a) lo b H Q
 | _=>False
theorem u_sl:SlR X (qgG X.K):=by
 intro pins s σ H x v g i lo b f Q I e c pl d h
 cases x with
 | str z=>show sl_str pins s σ H _ v g i lo b f Q I e c pl d ⟨z,rfl,h.1,h.2⟩
 | ref a=>show h.elim (fun h=>sl_list pins s σ H _ v g i lo b f Q I e c pl d h) fun h=>sl_tup pins s σ H _ v g i lo b f Q I e c pl d h
 | _=>show False.elim h
theorem qea:∀{ys:LS} {us:List Value},Vals (ys.map V.str) us->StrsAre us ys
 | [],_,.nil=>.nil
 | y::ys,_,.cons r t=>by
  obtain⟨tk,rfl⟩:=r;show .cons y tk (qea t)
def qfU(K:yg):V->List V->Hp->VK->Prop:=fun x vs H Q=>∃(z:Str) (p:Addr) (ys:LS),x=.str z/\vs=[.ref p]/\SqL K H p (ys.map V.str)/\(ys.map (·.length)).sum+ys.length*z.length<=16777216/\Q (.str (Txt.join z ys)) H
theorem mt_join:MtR X "str.join" (qfU X.K):=by
 intro pins s σ H x vs v us Q I d c h;obtain⟨z,p,ys,rfl,rfl,a,hz,q⟩:=h;obtain⟨t,rfl⟩:=d;obtain⟨u,rfl,b⟩:=c.one;cases b;obtain⟨its,r,pl,_⟩:=I.list a;show join_list pl.isList (by simpa using qea r) hz fun t' k=>⟨.str _,H,I.tok _,⟨_,rfl⟩,q⟩
def qgr(K:yg)(te:TE):TI:=fun σ H R=>te σ H fun v b=>match v with
 | .str x=>R (Its x) b
 | .ref a=>((∃ xs,SqL K b a xs)/\R (Itl K a) b)\/((∃ xs,SqT K b a xs)/\R (Itt K a) b)
 | _=>False
theorem pi_any{e:Expr}(u:PE X e te)(g:∀ it v,letOwnedTupleGo tg it v=pure ():=by intro _ _;rfl):PI X tg e (qgr X.K te):=by
 intro pins s σ H R I h;show thn (u pins s σ H _ I h) fun v c ⟨y,f,d,r,j⟩=>?_
 cases y with
 | str x =>
  obtain⟨t,rfl⟩:=r
  have fp:∀ b∈[c.heap.objs.size],qcN X pins f b:=fun b hb=>by
   have e:b=c.heap.objs.size:=by simpa using hb
   subst e;show d.fpOk (yh _) (d.hok.fresh (yh _))
  cases n:x.cps.all (· < 128)
  .show wpAny_pyIter_wide n ⟨c.heap.objs.size,[c.heap.objs.size],_,_,f,rfl,d.kept (t':=c.toks) fun b o e=>yv _ e,
    qdo (T:="str_iterator") (fun A l=>Walks.strWide l _ x t) (fun A i s Q E st h=>wpAny_pyIter_striter_wide st h) (g _),⟨_,yS _ rfl,rfl,rfl⟩,fp,j⟩
  .show wpAny_pyIter_ascii n ⟨c.heap.objs.size,[c.heap.objs.size],_,_,f,rfl,d.kept (t':=c.toks) fun b o e=>yv _ e,
    qdo (T:="str_ascii_iterator") (fun A l=>Walks.strAscii l _ x t) (fun A i s Q E st h=>wpAny_pyIter_striter_ascii st h) (g _),⟨_,yS _ rfl,rfl,rfl⟩,fp,j⟩
 | ref a =>
  cases r
  have fp:∀ b∈[c.heap.objs.size],qcN X pins f b:=fun b hb=>by
   have e:b=c.heap.objs.size:=by simpa using hb
   subst e;show d.fpOk (yh _) (d.hok.fresh (yh _))
  rcases j with⟨⟨xs,m⟩,q⟩ | ⟨⟨xs,m⟩,q⟩
  .obtain⟨its,w,p,hz⟩:=d.list m;show Xx p.isList ⟨c.heap.objs.size,[c.heap.objs.size],_,_,f,rfl,d.kept (t':=c.toks) fun b o e=>yv _ e,qcf a _,⟨_,yS _ rfl,rfl,rfl⟩,fp,q⟩
  .obtain⟨its,w,p,hz⟩:=d.tuple m;show kc (show c.heap.IsTuple a its.toArray from p) ⟨c.heap.objs.size,[c.heap.objs.size],_,_,f,rfl,d.kept (t':=c.toks) fun b o e=>yv _ e,turn_tuple a _,⟨_,yS _ rfl,rfl,rfl⟩,fp,q⟩
 | _=>show False.elim j
end
section
variable{D:Ends}{σ:St}{H:Hp}{Q:VK}{QT:Bool->Hp->Prop}{QA:List V->Hp->Prop}{t u:TS}{te ta tb tc:TE}{c c':TT}{tr tas:TA}{r r':R2}{K:yg}
theorem vSeq(h:t { D with nx:=u D } σ H):qgj t u D σ H:=h
theorem vAsg{i:Nat}(h:te σ H fun x a=>D.nx (σ.set i (some x)) a):qfn te (qbU i) D σ H:=h
theorem vAsgS{to a:TE}{s:qfM}(h:te σ H fun x b=>to σ b fun o c=>a σ c fun i d=>s o i x d fun e=>D.nx σ e):qfn te (qgz to a s) D σ H:=h
theorem vIfS(h:c σ H fun b a=>if b=true then t D σ a else u D σ a):qgx c t u D σ H:=h
theorem vRet(h:te σ H D.rt):qgw te D σ H:=h
theorem vRetN(h:D.rt .non H):qfL D σ H:=h
theorem vDrop(h:te σ H fun _ a=>D.nx σ a):qfK te D σ H:=h
theorem vNext(h:D.nx σ H):qfJ D σ H:=h
theorem vC{v:V}(h:Q v H):tC v σ H Q:=h
theorem vVar{i:Nat}{v:V}(e:σ[i]?=some (some v))(h:Q v H):qgi i σ H Q:=⟨v,e,h⟩
theorem vOp(h:ta σ H fun x a=>tb σ a fun y b=>r x y b Q):tOp r ta tb σ H Q:=h
theorem vUn{f:V->Hp->VK->Prop}(h:ta σ H fun x a=>f x a Q):tUn f ta σ H Q:=h
theorem vChain(h:ta σ H fun x b=>tb σ b fun y c=>r x y c fun z a=>∃ k,z=.bl k/\if k=true then tc σ a fun e d=>r' y e d Q else Q (.bl false) a):qdZ r r' ta tb tc σ H Q:=h
theorem vNil(h:QA [] H):qgg σ H QA:=h
theorem vCons(h:ta σ H fun x a=>tr σ a fun xs b=>QA (x::xs) b):qfQ ta tr σ H QA:=h
theorem vCB{f:List V->Hp->VK->Prop}(h:tas σ H fun vs a=>f vs a Q):tCB f tas σ H Q:=h
theorem vCall{sp:Sp}{E:XK}(h:tas σ H fun vs a=>sp (vs++[]) a Q E):qfq sp [] E tas σ H Q:=h
theorem vLst(h:tas σ H fun xs a=>NewL xs a Q):qgD tas σ H Q:=h
theorem vTup(h:tas σ H fun xs a=>NewT xs a Q):qgC tas σ H Q:=h
theorem vTest(h:te σ H fun x H'=>∃ k,x=.bl k/\QT k H'):qfp te σ H QT:=h
theorem vB(h:te σ H fun x H'=>∃ k,x=.bl k/\QT k H'):tB te σ H QT:=h
theorem vNot(h:c σ H fun b a=>QT (!b) a):qgv c σ H QT:=h
theorem vAnd(h:c σ H fun b a=>if b=true then c' σ a QT else QT false a):qgu c c' σ H QT:=h
theorem vOr(h:c σ H fun b a=>if b=true then QT true a else c' σ a QT):tOr c c' σ H QT:=h
theorem vAndV(h:ta σ H fun x a=>∃ k,x=.bl k/\if k=true then tb σ a Q else Q (.bl false) a):qfH ta tb σ H Q:=h
theorem vOrV(h:ta σ H fun x a=>∃ k,x=.bl k/\if k=true then Q (.bl true) a else tb σ a Q):tOrV ta tb σ H Q:=h
theorem vNotV(h:ta σ H fun x a=>∃ k,x=.bl k/\Q (.bl (!k)) a):qfI ta σ H Q:=h
theorem vIf(h:c σ H fun b a=>if b=true then ta σ a Q else tb σ a Q):tIf c ta tb σ H Q:=h
theorem vYes(h:QT true H):qgE σ H QT:=h
theorem vI0{g:Int->Int->V}(h:Q (g i j) H):rI0 g (.int i) (.int j) H Q:=⟨i,j,rfl,rfl,h⟩
theorem vI{C:Int->Int->Prop}{g:Int->Int->V}(hc:C i j)(h:Q (g i j) H):rI C g (.int i) (.int j) H Q:=⟨i,j,rfl,rfl,hc,h⟩
theorem vU{g:Int->V}(h:Q (g i) H):rU g (.int i) H Q:=⟨i,rfl,h⟩
theorem vEqI(h:Q (.bl (decide (i=j))) H):rEq (.int i) (.int j) H Q:=⟨rfl,by
 have e:decide (V.int i=V.int j)=decide (i=j):=by
  by_cases h:i=j
  .subst h;simp
  .rw [yl h,yl (fun e=>h (V.int.inj e))]
 rw[e];show h⟩
theorem vEqB{i j:Bool}(h:Q (.bl (i==j)) H):rEq (.bl i) (.bl j) H Q:=⟨rfl,by rw[dec_bl];show h⟩
theorem zY{v:V}(b:H p=some (.lst xs))(a:atI xs i=some v)(h:Q v H):rIx K (.ref p) (.int i) H Q:=.inl ⟨p,xs,i,v,rfl,rfl,SqL.of b,a,h⟩
theorem vIxLs{v:V}(b:SqL K H p xs)(a:atI xs i=some v)(h:Q v H):rIx K (.ref p) (.int i) H Q:=.inl ⟨p,xs,i,v,rfl,rfl,b,a,h⟩
theorem zD{v:V}(b:H p=some (.tup xs))(a:atI xs i=some v)(h:Q v H):rIx K (.ref p) (.int i) H Q:=.inr (.inl ⟨p,xs,i,v,rfl,rfl,SqT.of b,a,h⟩)
theorem vIxS{ch:Nat}(hz:z.length<=sizeLine)(a:atI z.cps.toList i=some ch)(h:Q (.str ⟨#[ch]⟩) H):rIx K (.str z) (.int i) H Q:=.inr (.inr ⟨z,i,ch,rfl,rfl,hz,a,h⟩)
theorem qeT{k:Int}{v:V}{j:Nat}{a:Hp->Prop}(c:H p=some (.lst xs))(b:ixN xs.length k=some j)(h:a (upd H p (.lst (xs.set j v)))):rSetL (.ref p) (.int k) v H a:=⟨p,xs,k,j,rfl,rfl,c,b,h⟩
theorem vEx{k:Bool}{P:Bool->Prop}(h:P k):∃ k',V.bl k=.bl k'/\P k':=⟨k,rfl,h⟩
theorem vLeI(h:Q (.bl (decide (i<=j))) H):qgp (.int i) (.int j) H Q:=h
theorem vLeS{i j:Str}(h:Q (.bl (!decide (j.cps.toList<i.cps.toList))) H):qgp (.str i) (.str j) H Q:=h
theorem vIsB{i j:Bool}(h:Q (.bl (i==j)) H):qgq (.bl i) (.bl j) H Q:=h
theorem vAddI(h:Q (.int (i+j)) H):qcS K (.int i) (.int j) H Q:=h
theorem qfV{i j:Str}(hz:i.length+j.length<=sizeLine)(h:Q (.str (i++j)) H):qcS K (.str i) (.str j) H Q:=⟨hz,h⟩
theorem qbX(hc:CMul i j)(h:Q (.int (i*j)) H):qfT (.int i) (.int j) H Q:=⟨hc,h⟩
theorem vLenS(hz:z.length<=sizeLine)(h:Q (.int z.length) H):qcT K [.str z] H Q:=⟨hz,h⟩
theorem qac(a:H p=some (.lst ys))(h:Q (.int ys.length) H):qcT K [.ref p] H Q:=.inl ⟨ys,.inl (SqL.of a),h⟩
theorem qdp(a:SqL K H p ys)(h:Q (.int ys.length) H):qcT K [.ref p] H Q:=.inl ⟨ys,.inl a,h⟩
theorem qeb(a:H p=some (.tup ys))(h:Q (.int ys.length) H):qcT K [.ref p] H Q:=.inl ⟨ys,.inr (SqT.of a),h⟩
theorem vSl{f:V->Option Int->Option Int->Hp->VK->Prop}{tl a:TO}(h:te σ H fun x b=>tl σ b fun l c=>a σ c fun u d=>f x l u d Q):tSl f te tl a σ H Q:=h
theorem vNoPart(h:QO none H):qd3 σ H QO:=h
theorem vPart(h:te σ H fun x a=>∃ i,x=.int i/\QO (some i) a):qfR te σ H QO:=h
theorem vExI{P:Int->Prop}(h:P i):∃ j,V.int i=.int j/\P j:=⟨i,rfl,h⟩
theorem vBM(h:te σ H fun x a=>tyV K T x a/\tas σ a fun xs b=>f x xs b Q):tBM K T f te tas σ H Q:=h
theorem vBM0(h:te σ H fun x a=>tyV K T x a/\f x [] a Q):qgn K T f te σ H Q:=h
theorem vComp(h:wi σ H fun J a=>qd9 J g c te (qdV nl ixs σ) a Q):qeS wi g c te nl ixs σ H Q:=h
theorem vFor (h:wi σ H fun J d=>∃ W:Nat->Nat->St->Hp->Prop,(∃ m,W 0 m σ d)/\∀ i m σ H,W i m σ H ->
 (J.stop i H/\D.nx σ H)\/(J.go i H/\∃ N:St->Hp->Prop,(∀ a H',N a H'->∃ c,c<m/\W (i+1) c a H')/\∀ x H',J.yld i H x H'->g x σ H' fun b e=>t { D with nx:=N,ct:=N,bk:=D.nx } b e)):qgA wi g t D σ H:=h
theorem vRng1(h:tas σ H fun vs a=>∃ j:Int,vs=[.int j]/\-(2 ^ 62)<=j/\j<2 ^ 62/\R (Itr 0 j.toNat) a):qfN tas σ H R:=h
theorem vAny (h:te σ H fun v b=>match v with
 | .str x=>R (Its x) b
 | .ref a=>((∃ xs,SqL K b a xs)/\R (Itl K a) b)\/((∃ xs,SqT K b a xs)/\R (Itt K a) b)
 | _=>False):qgr K te σ H R:=h
theorem vGN{i:Nat}{v:V}{a:St->Hp->Prop}(h:a (σ.set i (some v)) H):qbU i v σ H a:=h
theorem atI_lt{xs:List α}(b:0<=i)(h1:i<xs.length):∃ v,atI xs i=some v/\xs[i.toNat]?=some v:=by
 obtain⟨n,rfl⟩:=YX b;have a:n<xs.length:=by lk
 show⟨xs[n],qu (by simp[a]),by simp[a]⟩
end
section
variable{X:Cx}{K:yg}{o e:Expr}{es:List Expr}{to ta:TE}{t:TA}{name f:Str}{apos cpos pos:Pos}{T id:String}{r:V->List V->Hp->VK->Prop}{tg:Expr}
theorem jK(a:X.K=K):j0 X (.builtin "len") (qcT K):=by subst a;show call_lenU
theorem qfs(a:X.K=K)(hc:X.calm=true):j0 X (.builtin "all") (qgF K):=by subst a;show call_all hc
theorem qec(a:X.K=K):SlR X (qgG K):=by subst a;show u_sl
theorem zu(a:X.K=K):OpR X (binaryOp .Add) (qcS K):=by subst a;show u_add
theorem qe3(a:X.K=K):MtR X "str.join" (qfU K):=by subst a;show mt_join
theorem qR(b:X.K=K)(c:PE X e ta)(a:∀ it v,letOwnedTupleGo tg it v=pure ():=by intro _ _;rfl):PI X tg e (qgr K ta):=by subst b;show pi_any c a
theorem k_bm0(e:X.K=K)(h:PlainAttrs T)(c:Slot T name id)(d:typeOf (.builtin id)=pure (.type "method_descriptor"))(f:MtR X id r)(g:PE X o to)
  (a:attributeBase o name X.env (eval o X.env)=eval o X.env:=by rfl) (b:(apos.endLine==cpos.line)=true:=by rfl):PE X (.Call (.Attribute o name apos) [] [] cpos) (qgn K T r to):=by
 subst e;show pe_bm0 h c d f g a b
theorem qa4(h:X.K=K)(n:PlainAttrs T)(f:Slot T name id)(g:typeOf (.builtin id)=pure (.type "method_descriptor"))(j:MtR X id r)(l:PE X o to)(i:PA X (e::es) t)
  (b:attributeBase o name X.env (eval o X.env)=eval o X.env:=by rfl)
  (d:((backTo cpos (starEach (e::es) X.env)).all (fun x=>!x.1)&&(backToKw cpos (keywordEach [] X.env)).all (fun x=>x.1.isSome)
   && decide ((e::es).length+([]:List Keyword).length+(if ([]:List Keyword).isEmpty then 0 else 1)<30))=true:=by rfl)
  (c:(apos.endLine==cpos.line)=true:=by rfl) (m:starEach (e::es) X.env=(false,eval e X.env)::starEach es X.env:=by rfl) (a:(backTo cpos (starEach es X.env)).any (·.1)=false:=by rfl) :
  PE X (.Call (.Attribute o name apos) (e::es) [] cpos) (tBM K T r to t):=by
 subst h;show pe_bm n f g j l i b d c m a
end
structure DefOk(P:Program)(w:World)(K:yg)(mg:Str->Option Value)(base:Heap)(CX:CXT)(k:Nat)(x:Str)(ps:LS)(sp:Sp):Prop where
 ex:∃ f fd,FnOk P w K mg base CX k f fd ps sp/\mg x=some (.ref f)/\PySem.W.keepIn K (.ref f)=true/\Binds K fd ps []
section
variable{X:Cx}{CX:CXT}{k:Nat}{ps:LS}{sp:Sp}{E:XK}{x:Str}{p pos:Pos}{e:Expr}{es:List Expr}{t:TA}
theorem qp(D:DefOk X.prog X.w X.K X.mg X.base CX k x ps sp)(j:Room k X.A)(l:qba CX X E)(c:PA X (e::es) t)(g:Gl X x:=by rfl)(a:(x==("__debug__":Str))=false:=by decide)
  (d:starEach (e::es) X.env=(false,eval e X.env)::starEach es X.env:=by rfl) (b:(backTo pos (starEach es X.env)).any (·.1)=false:=by rfl):PE X (.Call (.Name x p) (e::es) [] pos) (qfq sp [] E t):=by
 obtain⟨f,m,F,i,h,hb⟩:=D.ex;show pe_call F j g i h hb .nil l c a d b
theorem qbY(c:Gl X x)(a:∃ tk,X.mg x=some (.int i tk))(b:(x==("__debug__":Str))=false:=by decide):PE X (.Name x pos) (tC (.int i)):=by
 obtain⟨tk,a⟩:=a;show pe_glob c a ⟨tk,rfl⟩ b
end
noncomputable def isaT(t c:String):Bool:=t==c||(t=="bool"&&c=="int")
theorem jw(K:yg):∀ t∈["NoneType","bool","int","str","list","tuple","dict"],∀ c∈["bool","int","str","list","tuple","dict"],PySem.W.kitOne K (.type t) (.type c)=some (isaT t c):=by
 intro t a c hc;simp only[yA,Yj,Y6] at a hc;rcases a with rfl | rfl | rfl | rfl | rfl | rfl | rfl<;>rcases hc with rfl | rfl | rfl | rfl | rfl | rfl<;>rfl
noncomputable def qe4:List Value->Bool
 | [.type a,.type b,.type c,.type d]=>a=="ValueError"&&b=="Exception"&&c=="BaseException"&&d=="object"
 | .ref _::r=>qe4 r
 | _=>false
noncomputable def xcIn(K:yg)(C:Addr):Bool:=match K.lookup C with
 | some ⟨.type "type",_,.cls cd,sl⟩=>(match cd.mro,sl.toList with
  | .ref D::bm,[_,_,_,_,some (.builtin n),_]=>D==C&&!cd.hasDel&&qe4 bm&&n=="ValueError.__new__"
  | _,_=>false)
 | _=>false
structure XAt(K:yg)(C:Addr):Prop where
 ga:PySem.W.findIn K (.ref C) "__getattribute__"=some (some (.builtin "BaseException.__getattribute__"))
 gn:PySem.W.findIn K (.ref C) "__getattr__"=some none
 bx:PySem.W.mroIn K C (.type "BaseException")=some true
 ob:PySem.W.mroIn K C (.type "object")=some true
 hd:PySem.W.hasDictIn K C=true
 cl:PySem.W.findIn K (.ref C) "__class__"=some (some (.builtin "object.__class__"))
 cg:PySem.W.specialIn K (.builtin "object.__class__") "__get__"=some (some (.builtin "getset_descriptor.__get__"))
 ct:PySem.W.takesIn K (.builtin "object.__class__")=some true
 sa:PySem.W.findIn K (.ref C) "__setattr__"=some (some (.builtin "object.__setattr__"))
 mr:(PySem.W.clsIn K C).any (fun cd=>qe4 cd.mro)=true
 xc:xcIn K C=true
theorem bexc_ga_slot:Slot "ValueError" "__getattribute__" "BaseException.__getattribute__":=PySem.F.attr_ValueError.ga
section
variable{prog:Program}{w:World}{A:Around}{E:Value->Shared->Prop}{s:Shared}{K:yg}{x C:Addr}{ox:Obj}{od:Option Obj}{name:Str}{v:Value}
theorem xga_value{Q:Fin->Shared->Prop}(X:K.In s.heap)(I:PySem.W.InstAt s.heap x ox C od)(a:PySem.W.findObj K C od name=some (.value v))(h:Q (.done (.ret v)) s) :
  wpAny (model prog w) A (Builtin.«object.__getattribute__» ⟨[.ref x,.str name tk],[]⟩) Q E s:=by
 have F:=PySem.W.looks_find (M:=model prog w) X I a;show yr (yu (yr (yu (yr (I.type.here (yr (F.here ?_)))))));show yu h
theorem xga_call{R:Result->Shared->Prop}(X:K.In s.heap)(I:PySem.W.InstAt s.heap x ox C od)(hb:PySem.W.mroIn K C (.type "BaseException")=some true)
  (h:wpAny (model prog w) A.in1 (Builtin.«object.__getattribute__» ⟨[.ref x,.str name tk],[]⟩) (fun b a=>match b with | .done f=>R (.ok f) a | .again c'=>c'.quiet=true/\codeAny (model prog w) A c' R a) (fun e a=>R (.error e) a) s) :
  codeAny (model prog w) A (.call (.builtin "BaseException.__getattribute__") ⟨[.ref x,.str name tk],[]⟩) R s:=by
 show Xe bexc_ga_slot.plain PySem.F.entry_bexc_ga ?_;show @PySem.W.check_slot (model prog w) _ _ s "BaseException.__getattribute__" "BaseException" "__getattribute__" (.ref x) [.str name tk] [] _ (by room) (by room) (I.type.andThen (xN X hb)) (PySem.F.args_bexc_ga _ _) h
theorem qed{b:Bool}{Q:Value->Shared->Prop}(X:K.In s.heap)(I:PySem.W.InstAt s.heap x ox C od)(c:XAt K C)
  (h:wpAny (model prog w) A.in1 (Builtin.«object.__getattribute__» ⟨[.ref x,.str name tk],[]⟩) (fun a d=>match a with | .done (.ret v)=>wpAny (model prog w) A (handedOut v) Q E d | _=>False) (fun _ _=>False) s) :
  wpAny (model prog w) A (getAttrBy (.ref x) (.str name tk) b expr) Q E s:=by
 unfold getAttrBy;show Yk (yr (I.type.here (yr ((xl X c.ga).here ?_))))
 have e:(onTheHeap (Value.ref C)&&Value.builtin "BaseException.__getattribute__"==Value.builtin "object.__getattribute__")=false:=by
  rw[show(Value.builtin "BaseException.__getattribute__"==Value.builtin "object.__getattribute__")=false by room];rfl
 dsimp only;rw[e,yC (by decide)];unfold getAttrByItsOwn hookBefore;rw[yG (show onTheHeap (Value.ref C)=true from rfl)];show yr ((xl X c.gn).here (yr (kA (Yk ?_))));have f:(expr&&onTheHeap (Value.builtin "BaseException.__getattribute__"))=false:=by cases expr<;>rfl
 unfold callGetattribute;rw[f,yC (by decide)];unfold boundAndCalled;rw[bexc_ga_slot.bind];show yr (yu ?_);show wpAny _ _ (call (.builtin "BaseException.__getattribute__") [.ref x,.str name tk]) _ _ _;show X6 (xga_call X I c.bx (YW h (fun a d z=>?_) fun _ _ z=>z.elim));rcases a with(_ | _ | _ | _) | _<;>first | show z | show z.elim
theorem xget{Q:Value->Shared->Prop}(X:K.In s.heap)(I:PySem.W.InstAt s.heap x ox C od)(c:XAt K C)(a:PySem.W.findObj K C od name=some (.value v))(b:PySem.W.handedIn v=true)
  (h:Q v { s with toks:=s.toks+1 }):wpAny (model prog w) A (getAttr (.ref x) name expr) Q E s:=by
 unfold getAttr;show yr (wpAny_mkText (qed (s:={ s with toks:=s.toks+1 }) X I c (xga_value (s:={ s with toks:=s.toks+1 }) X I a ?_)));show wpAny _ _ (handedOut v) _ _ _;rw[PySem.W.handedOut_of b];show yu h
theorem xclass{Q:Option Value->Shared->Prop}(X:K.In s.heap)(I:PySem.W.InstAt s.heap x ox C od)(c:XAt K C)(a:PySem.W.findObj K C od "__class__"=some (.bind (.builtin "getset_descriptor.__get__") (.builtin "object.__class__")))
  (h:Q (some (.ref C)) { s with toks:=s.toks+1 }):wpAny (model prog w) A (getAttr? (.ref x) "__class__") Q E s:=by
 unfold getAttr? getAttrBy?;show yr (wpAny_mkText (yr (kA (qed (s:={ s with toks:=s.toks+1 }) X I c ?_))));have F:=PySem.W.looks_find (M:=model prog w) X I a;show yr (yu (yr (yu (yr (I.type.here (s:={ s with toks:=s.toks+1 }) (yr (F.here (s:={ s with toks:=s.toks+1 }) ?_)))))));show wpAny _ _ (holding [Value.builtin "object.__class__"] (call (.builtin "getset_descriptor.__get__") [.builtin "object.__class__",.ref x,.ref C])>>=ret) _ _ _;show yr (Yk (X6 (PySem.W.class_get (s:={ s with toks:=s.toks+1 }) X I c.ob ?_)));show yu ?_;show wpAny _ _ (handedOut (.ref C)) _ _ _;show yu (yu h)
theorem findObj_class(c:XAt K C):PySem.W.findObj K C od "__class__"=some (.bind (.builtin "getset_descriptor.__get__") (.builtin "object.__class__")):=by
 obtain⟨a,hc,_⟩:=xQ c.hd;unfold PySem.W.findObj;rw[hc,Option.bind_some,c.cl,Option.bind_some];simp[c.cg,c.ct]
theorem qdq(c:XAt K C):PySem.W.KitX K (.ref x) (.ref C) (fun h=>PySem.W.InstAt h x ox C od) where
 ty:=fun _ _ _ I=>I.type
 it:=fun _ _ X _=>by
  obtain⟨b,hc,_⟩:=xQ c.hd;unfold PySem.W.clsIn at hc;split at hc
  .rename_i c1 d1 cd1 sl1 ho
   intro f i g l k q;unfold isType loadHead;show yr (wpAny_loadPart (k _ _ (X _ _ ho)) (yu q))
  .cases hc
 ne:=fun h d j its n m X a=>by
  obtain⟨b,hc,_⟩:=xQ c.hd;show Bool.eq_false_iff.mpr fun q=>?_;have e:C=d:=Value.ref.inj (Yu.mp q);subst e;unfold PySem.W.clsIn at hc;split at hc
  .rename_i c1 d1 cd1 sl1 ho
   have z:=(X _ _ ho).symm.trans a;cases z
  .cases hc
 ca:=fun X I k=>xclass X I c (findObj_class c) k
end
theorem qcx{r:List Value}(e:qe4 (.ref c::r)=true):qe4 r=true:=by
 cases r with
 | nil=>cases e
 | cons a r=>show e
theorem qcy:∀{l:List Value},qe4 l=true->∃ f:LQ,l=f.map Value.ref++[.type "ValueError",.type "Exception",.type "BaseException",.type "object"]
 | [],e=>by cases e
 | .ref c::r,e=>by
  obtain⟨f,q⟩:=qcy (qcx e);show⟨c::f,by rw[q];rfl⟩
 | .type a::r,e=>by
  match r,e with
  | [.type b,.type c,.type d],e =>
   simp only[qe4,yY,Yu] at e;obtain⟨⟨⟨rfl,rfl⟩,rfl⟩,rfl⟩:=e;show⟨[],rfl⟩
theorem refuse_exc(self:Value){l:List Value}(e:qe4 l=true):refuseLoop self "__setattr__" l=pure ():=by
 obtain⟨a,rfl⟩:=qcy e
 induction a with
 | nil=>show PySem.F.store_ValueError.passes self
 | cons c a ih=>rw[YJ,kE,refuseLoop_ref];show ih (qcx e)
section
variable{prog:Program}{w:World}{A:Around}{E:Value->Shared->Prop}{s:Shared}{K:yg}{x C:Addr}{name:Str}{v:Value}{R:Result->Shared->Prop}
theorem xosa(X:K.In s.heap)(I:PySem.W.InstAt s.heap x ox C od)(c:XAt K C)(n:NoAttr K C name)
  (h:wpAny (model prog w) A.in1 (Builtin.ObjectAttr.storeInOwnDict (.ref x) (.ref C) (.str name tk) name v false)
   (fun d b=>match d with | .done f=>R (.ok f) b | .again c'=>c'.quiet=true/\codeAny (model prog w) A c' R b) (fun e b=>R (.error e) b) s) :
  codeAny (model prog w) A (.call (.builtin "object.__setattr__") ⟨[.ref x,.str name tk,v],[]⟩) R s:=by
 have a:=PySem.F.store_object;obtain⟨g,hc,j⟩:=xQ c.mr;have i:PySem.W.Looks (model prog w) s.heap (mroOf (.ref C)) g.mro:=(X4 X hc).andThen .now;show Xe a.slot.plain a.entry (@PySem.W.check_slot (model prog w) _ _ s "object.__setattr__" "object" "__setattr__" (.ref x) [.str name tk,v] [] _ a.kind a.split (I.type.andThen (xN X c.ob)) (a.args (.ref x) (.str name tk) v) ?_);rw[PySem.W.osa_eq,refuse_eq];show yr (yr (I.type.here (yr (i.here ?_))));rw[refuse_exc _ j];show yu (yr (I.type.here (yr ((xl X n).here (yr (yu ?_))))));show h
theorem xset{vs:Array Value}(X:K.In s.heap)(m:s.heap.get? x=some ⟨.ref C,none,.fields vs,#[]⟩)(c:XAt K C)(n:NoAttr K C name){Q:Unit->Shared->Prop}
  (h:∀ h',h'.get? x=some ⟨.ref C,some s.heap.objs.size,.fields vs,#[]⟩->h'.Ns1 s.heap.objs.size (fun y=>if y=name then some v else none)->(∀ b o,b≠x->s.heap.get? b=some o->h'.get? b=some o) ->
   Q () { s with heap:=h',toks:=s.toks+2 }):wpAny (model prog w) A (setAttr (.ref x) name v) Q E s:=by
 have I:PySem.W.InstAt s.heap x ⟨.ref C,none,.fields vs,#[]⟩ C none:=⟨m,rfl,rfl,YZ⟩;obtain⟨H,hc,D⟩:=xQ c.hd;show PySem.W.set_plain X I c.sa (xosa (s:={ s with toks:=s.toks+1 }) X I c n ?_);show yr (yu (yr (yr (wpAny_loadPart m (yr ((X4 X hc).here (s:={ s with toks:=s.toks+1 }) ?_))))));rw[D];obtain⟨a,g,J,tk,M⟩:=s;show wpAny _ _ (alloc { cls:=.type "dict",data:=.dict #[] }>>=fun d=>update x (fun o=>{ cls:=o.cls,dict:=some d,data:=o.data,slots:=o.slots })>>=fun _=>pure (some d)) _ _ _;have l:x≠a.objs.size:=yF (yJ m);have i:=yv { cls:=.type "dict",data:=.dict #[] } m;show yr (wpAny_alloc' (yr (wpAny_update' i (yu ?_))));have j:=Y5 (fun o:Obj=>{ cls:=o.cls,dict:=some a.objs.size,data:=o.data,slots:=o.slots }) i rfl;have f:=(xO (a.push { cls:=.type "dict",data:=.dict #[] }) a.objs.size x (fun o:Obj=>{ cls:=o.cls,dict:=some a.objs.size,data:=o.data,slots:=o.slots }) l.symm).trans (Heap.get?_push_at rfl rfl);generalize G:(a.push { cls:=.type "dict",data:=.dict #[] }).update x (fun o:Obj=>{ cls:=o.cls,dict:=some a.objs.size,data:=o.data,slots:=o.slots })=h2 at j f ⊢;have nd:h2.Ns a.objs.size (fun _=>none):=⟨_,#[],_,f,rfl,fun e F=>absurd F (by simp),fun _=>rfl⟩;show wpAny _ _ (Builtin.ObjectAttr.storeInDict a.objs.size (.str name tk) name v) _ _ _;unfold Builtin.ObjectAttr.storeInDict Builtin.ObjectAttr.newKeyGuard;show yr (yu (yr (wpAny_nsSet1 (Heap.Ns1.of_empty nd) fun h' u z=>?_)));obtain⟨L,p,B,t,r,q⟩:=u.count (PySem.Within.cons name v PySem.Within.nil);have hz:p.size<=sizeLine:=yi q (by rw[yH,YV,Yy];lk);show yr (wpAny_lookBehind t (by rw[r];show pastItsLine_dict (kj hz)) ?_);show yu (h h' ((z.2 x l).trans j) u fun b o hb e=>(z.2 b (yF (yJ e))).trans ?_);rw[<- G];show(xO _ _ _ _ hb).trans (yv _ e)
noncomputable abbrev xfs(a:Addr):Array Value:=#[.ref a,.none,.none,.none,.bool false,.none]
end
section
variable{prog:Program}{w:World}{A:Around}{R:Result->Shared->Prop}{E:Value->Shared->Prop}{h:Heap}{g:Array GenState}{d:Drawn}{t:Nat}{os:OsState}
variable{nm q:Str}{C N:Addr}{bs bm:List Value}{hdct:Bool}{sn:LS}{sub:List Value}{ab:Bool}{col:Option Bool}{dd:Option Addr}{k0 k1 k2 k3 k5:Option Value}
end
noncomputable def XN(e C:Addr)(dx:Option Addr):HO:=.ext fun h=>∃ a,h.get? e=some ⟨.ref C,dx,.fields (xfs a),#[]⟩
noncomputable def XO(e C:Addr)(dx:Option Addr):HO:=.ext fun h=>∃ vs,h.get? e=some ⟨.ref C,dx,.fields vs,#[]⟩
theorem XN.ok{b:Addr}(q:h.get? e=some ⟨.ref C,dx,.fields (xfs b),#[]⟩):ObjOk P w H h e (XN e C dx):=
 ⟨⟨b,q⟩,⟨_,q⟩,fun _ _ ⟨a,x⟩ k=>⟨a,k _ x⟩⟩
def IsX(H:Hp)(e C:Addr)(dx:Option Addr):Prop:=H e=some (XN e C dx)\/H e=some (XO e C dx)
theorem IsX.get(q:IsX H e C dx)(b:HOk P w H h):∃ vs,h.get? e=some ⟨.ref C,dx,.fields vs,#[]⟩:=by
 rcases q with q | q
 .obtain⟨⟨a,x⟩,_⟩:=(show ObjOk P w H h e (XN e C dx) from b e _ q);show⟨_,x⟩
 .obtain⟨⟨a,x⟩,_⟩:=(show ObjOk P w H h e (XO e C dx) from b e _ q);show⟨_,x⟩
section
variable{X:Cx}{pins:List (Addr×Obj)}{σ:St}{H:Hp}{s:Shared}{e C:Addr}{dx:Option Addr}
theorem qe5(I:Inv X pins σ H s){d:Addr}{fs:List (Str×V)}(h:H d=some (.xd fs)):∃(od:Obj) (a:Str->Option Value),s.heap.get? d=some od/\(∀ name,PySem.W.lookIn name od=some (a name))/\∀ f,RelO (fs.lookup f) (a f):=by
 obtain⟨a,n,r⟩:=(show ObjOk X.prog X.w H s.heap d (.xd fs) from I.hok d _ h);obtain⟨od,h1,b⟩:=qci n;show⟨od,a,h1,b,r⟩
end
section
variable{X:Cx}{pins:List (Addr×Obj)}{σ:St}{H:Hp}{s:Shared}{a d:Addr}{h':Heap}{o u:HO}{t':Nat}
theorem Inv.both(I:Inv X pins σ H s)(h:Mut (H a))(j:s.heap.objs.size<=d)(k:∀ b v,b≠a->s.heap.get? b=some v->h'.get? b=some v)(l:∃ v,h'.get? a=some v)
  (m:ObjOk X.prog X.w (upd (upd H d u) a o) h' a o) (p:ObjOk X.prog X.w (upd (upd H d u) a o) h' d u) (ne:d≠a):Inv X pins σ (upd (upd H d u) a o) { s with heap:=h',toks:=t' }:=by
 have nd:H d=none:=I.hok.fresh j;have f:∀ b q,H b=some q->¬ Mut (some q)->b≠a:=fun b q e t z=>by subst z;rw[e] at h;show t h
 have i:∀ b,H b=none->b≠a:=fun b e z=>by subst z;rw[e] at h;show h
 have big:∀ b v,s.heap.get? b=some v->b≠d:=fun b v e=>yF (yj (yJ e) j);have up:∀ b q,H b=some q->b≠a->upd (upd H d u) a o b=some q:=fun b q e n=>by rw[qf n,qf (qy e nd)];show e
 show I.un ⟨fun b v e n _ _=>k b v (i b n) e,fun b v e n _ _=>⟨v.slots,k b v (i b n) e⟩,fun b v e n _=>by rw[qf (i b n),qf (big b v e)];show n,fun b v e _=>?_,fun b xs e=>up b _ e (f b _ e fun z=>z),fun b q xs e=>up b _ e (f b _ e fun z=>z),
  fun b ps e=>⟨#[],by rw[up b _ e (f b _ e fun z=>z)];simp⟩⟩ fun b q e=>?_
 .by_cases hb:b=a
  .subst hb;show l
  .show⟨v,k b v hb e⟩
 .by_cases hb:b=a
  .subst hb;rw[qb] at e;cases e;show m
  .rw [qf hb] at e;by_cases g:b=d
   .subst g;rw[qb] at e;cases e;show p
   .rw [qf g] at e;show(I.hok b q e).stay (fun c v hc r=>k c v ?_ r) (fun c r=>up c _ r (f c _ r fun z=>z)) fun c xs r=>up c _ r (f c _ r fun z=>z);rcases hc with rfl | hc
    .show hb
    .show f c _ hc fun z=>z
end
inductive FldR(K:yg)(f:Str)(x:V)(H:Hp)(Q:VK):Prop|mk (a C dx:Addr) (fs:List (Str×V)) (v:V) (_:x=.ref a) (_:H a=some (.ins C dx fs)) (_:Cls K C) (_:NoAttr K C f) (_:fs.lookup f=some v) (_:Q v H)
inductive XFlR(K:yg)(f:Str)(x:V)(H:Hp)(Q:VK):Prop|mk (a C dx:Addr) (fs:List (Str×V)) (v:V) (_:x=.ref a) (_:IsX H a C (some dx)) (_:XAt K C) (_:NoAttr K C f) (_:H dx=some (.xd fs)) (_:fs.lookup f=some v) (_:Q v H)
inductive FlUR(K:yg)(f:Str)(x:V)(H:Hp)(Q:VK):Prop | inl (_:FldR K f x H Q) | inr (_:XFlR K f x H Q)
inductive SFdR(K:yg)(f:Str)(x y:V)(H:Hp)(k:Hp->Prop):Prop|mk (a C dx:Addr) (fs:List (Str×V)) (_:x=.ref a) (_:H a=some (.ins C dx fs)) (_:Cls K C) (_:NoAttr K C f) (_:fs.length<1000) (_:k (upd H a (.ins C dx (qJ f y fs))))
inductive SXdR(K:yg)(f:Str)(x y:V)(H:Hp)(k:Hp->Prop):Prop|mk (a C:Addr) (_:x=.ref a) (_:H a=some (XN a C none)) (_:XAt K C) (_:NoAttr K C f) (_:∀ dx,H dx=none->k (upd (upd H dx (.xd [(f,y)])) a (XN a C (some dx))))
inductive SFUR(K:yg)(f:Str)(x y:V)(H:Hp)(k:Hp->Prop):Prop | inl (_:SFdR K f x y H k) | inr (_:SXdR K f x y H k)
def qfW(K:yg)(b:TE)(f:Str):TE:=fun σ H Q=>b σ H fun x a=>FlUR K f x a Q
def qfX(K:yg)(c d:TE)(f:Str):TS:=fun D σ H=>d σ H fun y a=>c σ a fun x b=>SFUR K f x y b (D.nx σ)
section
variable{X:Cx}{o e value:Expr}{f:Str}{pos pos':Pos}{ta tv:TE}{K:yg}
theorem qC(w:X.K=K)(z:PE X e ta)(hb:attributeBase e f X.env (eval e X.env)=eval e X.env):PE X (.Attribute e f pos) (qfW K ta f):=by
 subst w;intro pins s σ H Q I h;show attr_of hb (thn (z pins s σ H _ I h) fun u E ⟨x,j,b,m,i⟩=>?_);rcases i with⟨a,C,dx,fs,v,rfl,g,c,n,l,q⟩ | ⟨a,C,dx,fs,v,rfl,g,c,n,y,l,q⟩
 .obtain rfl:u=Value.ref a:=m;show getattr_ok b g c n l fun D F p d=>⟨v,j,p,d,q⟩
 .obtain rfl:u=Value.ref a:=m;obtain⟨vs,i⟩:=g.get b.hok;obtain⟨od,B,h1,t,r⟩:=qe5 b y;obtain⟨D,A,d⟩:=RelO.some_of (v:=v) (o:=B f) (by rw[<- l];show r f);show xget b.kIn (od:=some od) ⟨i,rfl,rfl,h1⟩ c (PySem.W.findObj_own c.hd n rfl (by rw[t,A])) (qcj d) ⟨v,j,b.tok _,d,q⟩
theorem j6(L:X.K=K)(M:PE X o ta)(hv:PE X value tv)(N:swapsWith value (some (.Attribute o f pos')) pos.line X.env=pure false):PS X (.Assign [.Attribute o f pos'] value pos) (qfX K ta tv f):=by
 subst L;intro pins s σ H D I h;show plainObj_wpAny_Assign_Attribute (thn (hv pins s σ H _ I h) fun u O ⟨y,B,E,A,q⟩=>thn (M pins O σ B _ E q) fun t i ⟨x,p,b,z,e⟩=>?_) N;rcases e with⟨a,C,dx,fs,rfl,d,c,n,l,m⟩ | ⟨a,C,rfl,d,c,n,m⟩
 .obtain rfl:t=Value.ref a:=z;show setattr_ok b d c n l A fun R F=>⟨σ,_,F,m⟩
 .obtain rfl:t=Value.ref a:=z;obtain⟨⟨P,e⟩,_⟩:=(show ObjOk X.prog X.w p i.heap a (XN a C none) from b.hok a _ d);show xset b.kIn e c n fun h' r G J=>?_;have nd:p i.heap.objs.size=none:=b.hok.fresh (yh _);have ne:i.heap.objs.size≠a:=Yq (yJ e);show⟨σ,_,b.both (o:=XN a C (some i.heap.objs.size)) (u:=.xd [(f,y)]) (by rw[d];show YZ) (yh _) J ⟨_,r⟩ (XN.ok r) ⟨_,G,fun g=>?_⟩ ne,m _ nd⟩;by_cases j:g=f
  .subst j;simp only[List.lookup,Y8,Xv];show A
  .have hb:(g==f)=false:=YO.mpr j;simp only[List.lookup,hb,yC j];show YZ
end
def tXMake(C:Addr)(sp:Sp)(E:XK)(t:TA):TE:=fun σ H Q=>t σ H fun vs a=>vs.length<=1000/\∀ x,a x=none->sp (.ref x::vs) (upd a x (XN x C none)) (fun v b=>v=.non/\Q (.ref x) b) E
structure XMk(K:yg)(C f:Addr):Prop where
 at_:XAt K C
 init:PySem.W.findIn K (.ref C) "__init__"=some (some (.ref f))
 fn:PySem.W.isFn K (.ref f)=true
 kp:PySem.W.keepIn K (.ref C)=true
section
variable{X:Cx}{CX:CXT}{k:Nat}{f C:Addr}{fd:FuncData}{ps:LS}{sp:Sp}{E:XK}{x m:Str}{p pos apos:Pos}{e o:Expr}{es:List Expr}{ta:TE}{t:TA}
structure CMeth(K:yg)(C:Addr)(m:Str)(f:Addr):Prop where
 rd:PySem.W.readsIn K C (.type "type")=true
 at_:PySem.W.findCls K (.ref C) (.type "type") m=some (.val (.ref f))
 ga:PySem.W.specialIn K (.ref C) "__getattribute__"=some (some (.builtin "type.__getattribute__"))
 kp:PySem.W.keepIn K (.ref f)=true
end
def tVinit(K:yg)(t:TA):TE:=fun σ H Q=>t σ H fun vs b=>∃ a C y,vs=[.ref a,y]/\b a=some (XN a C none)/\XAt K C/\Q .non b
structure VInit(K:yg):Prop where
 ga:PySem.W.findIn K (.type "type") "__getattribute__"=some (some (.builtin "type.__getattribute__"))
 su:PySem.W.subIn K (.type "type") (.type "type")=some true
 at_:PySem.W.findCls K (.type "ValueError") (.type "type") "__init__"=some (.val (.builtin "ValueError.__init__"))
section
variable{X:Cx}{p pos apos:Pos}{e:Expr}{es:List Expr}{t:TA}{K:yg}
end
structure Keep(fs zs:LQ)(h h':Heap):Prop where
 keep:∀ b o,h.get? b=some o->b∉zs->b∉fs->h'.get? b=some o
 slot:∀ b o,h.get? b=some o->b∉zs->b∈fs->∃ sl,h'.get? b=some { o with slots:=sl }
structure Trc(h:Heap)(e:Addr)(C:Value)(dx:Option Addr)(T:Addr)(fl:Value):Prop where
 ex:∃ vs,h.get? e=some ⟨C,dx,.fields vs,#[]⟩/\vs[1]?=some (.ref T)/\vs[2]?=some .none
 tb:∃ ts,h.get? T=some ⟨.type "traceback",none,.fields ts,#[]⟩/\ts[3]?=some fl
 ne:T≠e
section
variable{M:Model}{A:Around}{E:Value->Shared->Prop}{s:Shared}{base:Heap}{env:Env}{outer:List Env}{L e:Addr}{C:Value}{dx:Option Addr}{vs:Array Value}
end
def CX1(P:Program)(w:World):CXT:=fun b H s E d c=>∃(a C:Addr) (dx:Option Addr) (T:Addr) (H':Hp),d=.ref a/\c.os=s.os/\AllBare c.gens/\Un (frs b) [] H H' s.heap c.heap/\HOk P w H' c.heap /\
 H' a=some (XO a C dx)/\Trc c.heap a (.ref C) dx T .none/\s.heap.objs.size<=T/\H' T=none/\E (.ref C) dx H'
section
variable{X:Cx}{pins:List (Addr×Obj)}{σ:St}{H:Hp}{s:Shared}
end
structure XOk(X:Cx)(EK:St->XK):Prop where
 pass:∀(pins:List (Addr×Obj)) (σ:St) (H:Hp) (s:Shared) (e:Value) (s':Shared),Inv X pins σ H s->CX1 X.prog X.w X.stack H s (EK σ) e s'->X.xe e s'
 rais:∀(pins:List (Addr×Obj)) (σ:St) (H:Hp) (s:Shared) (a C:Addr) (dx:Option Addr),Inv X pins σ H s->H a=some (XN a C dx)->EK σ (.ref C) dx (upd H a (XO a C dx))->X.xe (.ref a) s
 calm:X.calm=true
section
variable{P:Program}{w:World}{K:yg}{mg:Str->Option Value}{base:Heap}{N:LS}{qual:Str}{scope:Scope}{f:Addr}{cd:Value}{A:Around}{outer:List Env}{s0:Shared}{H0:Hp}{E:XK}
end
def tRaise(K:yg)(c:St->XK)(te:TE):TS:=fun _ σ H=>te σ H fun x b=>∃ a C dx,x=.ref a/\b a=some (XN a C dx)/\XAt K C/\c σ (.ref C) dx (upd b a (XO a C dx))
section
variable{X:Cx}{EK:St->XK}{e:Expr}{te:TE}{pos:Pos}{K:yg}
end
def tCallS(sp:Sp)(a:St->XK)(t:TA):TE:=fun σ H Q=>t σ H fun vs b=>sp vs b Q (a σ)
def tMethS(C:Addr)(m:Str)(sp:Sp)(b:St->XK)(d:TE)(t:TA):TE:=fun σ H Q=>d σ H fun x a=>MeR C m x a (t σ a fun vs c=>sp (x::vs) c Q (b σ))
def tMakeS(C:Addr)(sp:Sp)(b:St->XK)(t:TA):TE:=fun σ H Q=>t σ H fun vs a=>∀ x dx,a x=none->a dx=none->dx≠x ->
 sp (.ref x::vs) (upd (upd a dx (.own x)) x (.ins C dx [])) (fun v c=>v=.non/\Q (.ref x) c) (b σ)
structure MethOk(P:Program)(w:World)(K:yg)(mg:Str->Option Value)(base:Heap)(CX:CXT)(k:Nat)(C:Addr)(m:Str)(ps:LS)(sp:Sp):Prop where
 ex:∃ f fd,FnOk P w K mg base CX k f fd ps sp/\Meth K C m f/\Binds K fd ps []
 cl:Cls K C
structure MakeOk(P:Program)(w:World)(K:yg)(mg:Str->Option Value)(base:Heap)(CX:CXT)(k:Nat)(C:Addr)(x:Str)(ps:LS)(sp:Sp):Prop where
 ex:∃ f fd,FnOk P w K mg base CX k f fd ps sp/\Mk K C f/\Binds K fd ps []
 mg_:mg x=some (.ref C)
structure XMakeOk(P:Program)(w:World)(K:yg)(mg:Str->Option Value)(base:Heap)(k:Nat)(C:Addr)(x:Str)(ps:LS)(sp:Sp):Prop where
 ex:∃ f fd,FnOk P w K mg base CX0 k f fd ps sp/\XMk K C f/\Binds K fd ps []
 mg_:mg x=some (.ref C)
section
variable{X:Cx}{EK:St->XK}{k:Nat}{f C:Addr}{fd:FuncData}{ps:LS}{sp:Sp}{x m:Str}{p pos apos:Pos}{e o:Expr}{es:List Expr}{ta:TE}{t:TA}
theorem qI(D:MethOk X.prog X.w X.K X.mg X.base CX0 k C m ps sp)(h:Room k X.A)(d:PE X o ta)(c:PA X (e::es) t)
  (b:starEach (e::es) X.env=(false,eval e X.env)::starEach es X.env:=by rfl) (a:(backTo pos (starEach es X.env)).any (·.1)=false:=by rfl)
  (i:eval (.Call (.Attribute o m apos) (e::es) [] pos) X.env=(do
   let ov <- eval o X.env
   standAt apos.atName
   let (f,first) <- holding [ov] (getMethod ov m pl)
   callWith pos f first (backTo pos (starEach (e::es) X.env)) (backToKw pos (keywordEach [] X.env))):=by rfl) :
  PE X (.Call (.Attribute o m apos) (e::es) [] pos) (qd0 C m sp [] E0 ta t):=by
 obtain⟨f,fd,F,g,hb⟩:=D.ex;show pe_meth (pl:=pl) d D.cl g F h hb .nil qB c b a i
theorem jk(D:MethOk X.prog X.w X.K X.mg X.base CX0 k C m ps sp)(c:Room k X.A)(a:PE X o ta)
  (d:eval (.Call (.Attribute o m apos) [] [] pos) X.env=(do
   let ov <- eval o X.env
   standAt apos.atName
   let (f,first) <- holding [ov] (getMethod ov m pl)
   callWith pos f first (backTo pos (starEach [] X.env)) (backToKw pos (keywordEach [] X.env))):=by rfl) :
  PE X (.Call (.Attribute o m apos) [] [] pos) (qd0 C m sp [] E0 ta qgg):=by
 obtain⟨f,fd,F,b,hb⟩:=D.ex;show pe_meth0 (pl:=pl) a D.cl b F c hb .nil qB d
end
section
variable{P:Program}{w:World}{K:yg}{mg:Str->Option Value}{base:Heap}
end
noncomputable abbrev Cx.tried(X:Cx)(pn:List (Addr×Obj))(E:Value->Shared->Prop):Cx:={ X with pn:=pn,xe:=E }
noncomputable abbrev Cx.hand(X:Cx)(a:Addr):Cx:={ X with A:=X.A.mark (some (.ref a)),calm:=false,xe:=fun _ _=>False }
section
variable{X:Cx}{pins pins':List (Addr×Obj)}{σ:St}{H:Hp}{s:Shared}{E:Value->Shared->Prop}{a:Addr}
structure Loose(X:Cx)(pins:List (Addr×Obj))(H:Hp)(T:Addr):Prop where
 hn:H T=none
 lo:X.s₀.heap.objs.size<=T
 nl:T≠X.env.locals
 nf:T∉X.fs
 nc:∀ x c,X.env.cells.lookup x=some c->c≠T
 np:∀ p∈X.pn++pins,p.1≠T
end
structure Held(X:Cx)(pins:List (Addr×Obj))(H:Hp)(h:Heap)(a C:Addr)(dx:Option Addr):Prop where
 at_:H a=some (XO a C dx)
 tr:∃ T,Trc h a (.ref C) dx T .none/\Loose X pins H T
section
variable{X:Cx}{a C D:Addr}{dx:Option Addr}{c n:Str}{cp pos:Pos}{b0:Stmt}{body:List Stmt}{qdX:List ExceptHandler}{tb tr:TS}{i:Nat}{K:yg}
end
section
variable{X:Cx}{body orelse:List Stmt}{h0:ExceptHandler}{hs:List ExceptHandler}{pos:Pos}{te:TS}
end
def TyX(K:yg)(H:Hp)(x:V)(t:Value):Prop:=TyOf K H x t\/∃ a C dx,x=.ref a/\t=.ref C/\IsX H a C dx/\XAt K C/\∀ d,dx=some d->∃ fs,H d=some (.xd fs)
theorem TyX.kit{x:V}(I:Inv X pins σ H s)(e:RelV x u)(ty:TyX X.K H x t):∃ P:Heap->Prop,PySem.W.KitX X.K u t P/\P s.heap/\u≠.builtin "__main__.__loader__#opaque":=by
 rcases ty with ty | ⟨a,C,dx,rfl,rfl,hx,c,hd⟩
 .show ty.kit I e
 .cases e;obtain⟨vs,b⟩:=hx.get I.hok
  cases dx with
  | none=>show⟨_,qdq (od:=none) c,⟨b,rfl,rfl,YZ⟩,fun z=>nomatch z⟩
  | some d =>
   obtain⟨fs,f⟩:=hd d rfl;obtain⟨od,g,h1,_⟩:=qe5 I f;show⟨_,qdq (od:=some od) c,⟨b,rfl,rfl,h1⟩,fun z=>nomatch z⟩
def qfY(K:yg):List V->Hp->VK->Prop:=fun xs H Q=>∃ x y t c b,xs=[x,y]/\TyX K H x t/\qcw y=some c/\PySem.W.kitOne K t c=some b/\Q (.bl b) H
def qee(K:yg):List V->Hp->VK->Prop:=fun xs H Q=>∃ x p ys t a b,xs=[x,.ref p]/\TyX K H x t/\H p=some (.tup ys)/\ys.map qcw=a.map some/\PySem.W.kitAny K t a=some b/\Q (.bl b) H
section
variable{X:Cx}{K:yg}
theorem j8(a:X.K=K):j0 X (.builtin "isinstance") (qfY K):=by
 subst a;intro pins s σ H xs us Q I r h;obtain⟨x,y,t,c,b,rfl,ty,d,hb,q⟩:=h;obtain⟨u,v,rfl,f,g⟩:=qdQ r;have e:=qbL d g;subst e;obtain⟨P,Z,p,ne⟩:=ty.kit I f;show PySem.W.kia_one Z I.kIn p hb ne fun tk=>⟨.bl b,H,I.tok tk,rfl,q⟩
theorem qcU(i:X.K=K):j0 X (.builtin "isinstance") (qee K):=by
 subst i;intro pins s σ H xs us Q I r h;obtain⟨x,p,ys,t,B,b,rfl,ty,m,y,hb,q⟩:=h;obtain⟨u,v,rfl,A,f⟩:=qdQ r;cases f;obtain⟨P,Z,z,ne⟩:=ty.kit I A;obtain⟨_,its,f,o,l,hc,n,j⟩:=(show ObjOk X.prog X.w H s.heap p (.tup ys) from I.hok p _ m);have e:=qbu y f;subst e;obtain⟨c,C,g,D⟩:=o;have a:c=.type "tuple":=hc;have d:g=.seq its.toArray n:=j;subst a d;show PySem.W.kia_tup Z I.kIn z l hb ne fun tk=>⟨.bl b,H,I.tok tk,rfl,q⟩
end
mutual
inductive EqD(K:yg)(H:Hp):Nat->V->V->Bool->Prop
 | flat {n:Nat} {x y:V} (fx:zB x=true) (fy:zB y=true):EqD K H n x y (eqV x y)
 | self {n:Nat} {a:Addr}:EqD K H n (.ref a) (.ref a) true
 | deep {n:Nat} {a b:Addr} {k:Bool} (h:EqT K H n a b k) (ne:a≠b):EqD K H n (.ref a) (.ref b) k
inductive EqT(K:yg)(H:Hp):Nat->Addr->Addr->Bool->Prop
 | lst {n:Nat} {a b:Addr} {xs ys:List V} {e:Nat->Bool} (ha:SqL K H a xs) (hb:SqL K H b ys) (hl:xs.length=ys.length) (he:∀ j x y,xs[j]?=some x->ys[j]?=some y->EqD K H n x y (e j)):EqT K H (n+1) a b ((List.range xs.length).all e)
 | lstL {n:Nat} {a b:Addr} {xs ys:List V} (ha:SqL K H a xs) (hb:SqL K H b ys) (hl:xs.length≠ys.length):EqT K H (n+1) a b false
 | tup {n:Nat} {a b:Addr} {xs ys:List V} {e:Nat->Bool} (ha:SqT K H a xs) (hb:SqT K H b ys) (he:∀ j x y,xs[j]?=some x->ys[j]?=some y->EqD K H n x y (e j)):EqT K H (n+1) a b ((List.range (min xs.length ys.length)).all e&&xs.length==ys.length)
 | lt {n:Nat} {a b:Addr} {xs ys:List V} (ha:SqL K H a xs) (hb:SqT K H b ys):EqT K H (n+1) a b false
 | tl {n:Nat} {a b:Addr} {xs ys:List V} (ha:SqT K H a xs) (hb:SqL K H b ys):EqT K H (n+1) a b false
end
theorem jy:∀{xs:List V} {us:List Value} {j:Nat} {u:Value},Vals xs us->us[j]?=some u->∃ x,xs[j]?=some x/\RelV x u
 | _,_,_,_,.nil,e=>by simp at e
 | _,_,0,_,.cons r _,e=>by simp at e;subst e;show⟨_,rfl,r⟩
 | _,_,j+1,u,.cons _ t,e=>by
  obtain⟨x,h1,a⟩:=jy (j:=j) (u:=u) t (by simpa using e);show⟨x,by simpa using h1,a⟩
section
variable{X:Cx}{pins:List (Addr×Obj)}{σ:St}{H:Hp}{s:Shared}
theorem qcV(I:Inv X pins σ H s):∀ n,(∀(A:Around) (x y:V) (k:Bool) (u v:Value),EqD X.K H n x y k->RelV x u->RelV y v->A.units+n<cLine->SeqAt.EqAt A s u v k)/\(∀(A:Around) (a b:Addr) (k:Bool),EqT X.K H n a b k->A.units+n<cLine->SeqAt.RcAt A s (.ref a) (.ref b) k):=by
 intro n
 induction n with
 | zero =>
  have F:∀(A:Around) (a b:Addr) (k:Bool),EqT X.K H 0 a b k->A.units+0<cLine->SeqAt.RcAt A s (.ref a) (.ref b) k:=fun A a b k h=>by cases h
  show⟨fun A x y k u v h g i z=>?_,F⟩
  cases h with
  | flat fx fy=>show qd5 g i fx fy
  | self=>cases g;cases i;show XT _
  | deep h ne=>cases h
 | succ n ih =>
  have D:∀(A:Around) (a b:Addr) (k:Bool),EqT X.K H (n+1) a b k->A.units+(n+1)<cLine->SeqAt.RcAt A s (.ref a) (.ref b) k:=fun A a b k h z=>by
   have f:A.units<cLine:=by lk
   have o:A.in1.units+n<cLine:=by show A.units+1+n<cLine;lk
   cases h with
   | @lst _ _ _ xs ys e ha hb hl he =>
    obtain⟨its,r,pl,hz⟩:=I.list ha;obtain⟨c,m,d,l⟩:=I.list hb;have p:xs.length=its.toArray.size:=by rw[yw];show r.length
    have q:ys.length=c.toArray.size:=by rw[yw];show m.length
    rw[p];show SeqAt.RcAt.lists pl.isList d.isList (by rw[<- p,<- q,hl]) f fun j h1 E=>?_;have t:its[j]?=some its.toArray[j]:=by simp
    have w:c[j]?=some c.toArray[j]:=by simp
    obtain⟨x,B,g⟩:=jy r t;obtain⟨y,C,i⟩:=jy m w;show ih.1 A.in1 x y (e j) _ _ (he j x y B C) g i o
   | @lstL _ _ _ xs ys ha hb hl =>
    obtain⟨its,r,pl,hz⟩:=I.list ha;obtain⟨c,m,d,l⟩:=I.list hb;show SeqAt.RcAt.lists_lengths pl.isList d.isList ?_ f;rw[yw,yw,<- r.length,<- m.length];simp[hl]
   | @tup _ _ _ xs ys e ha hb he =>
    obtain⟨its,r,pl,hz⟩:=I.tuple ha;obtain⟨c,m,d,l⟩:=I.tuple hb;have p:xs.length=its.toArray.size:=by rw[yw];show r.length
    have q:ys.length=c.toArray.size:=by rw[yw];show m.length
    rw[p,q];show SeqAt.RcAt.tuples pl d f fun j h1 E=>?_;have t:its[j]?=some its.toArray[j]:=by simp
    have w:c[j]?=some c.toArray[j]:=by simp
    obtain⟨x,B,g⟩:=jy r t;obtain⟨y,C,i⟩:=jy m w;show ih.1 A.in1 x y (e j) _ _ (he j x y B C) g i o
   | lt ha hb =>
    obtain⟨its,r,pl,hz⟩:=I.list ha;obtain⟨c,m,d,l⟩:=I.tuple hb;show SeqAt.RcAt.list_tuple pl.isList d f
   | tl ha hb =>
    obtain⟨its,r,pl,hz⟩:=I.tuple ha;obtain⟨c,m,d,l⟩:=I.list hb;show SeqAt.RcAt.tuple_list pl d.isList f
  show⟨fun A x y k u v h g i z=>?_,D⟩
  cases h with
  | flat fx fy=>show qd5 g i fx fy
  | self=>cases g;cases i;show XT _
  | deep h ne=>cases g;cases i;show SeqAt.EqAt.of_refs ne (D A _ _ k h z)
theorem ne_refs(I:Inv X pins σ H s){n:Nat}{A:Around}{a b:Addr}{k:Bool}(h:EqT X.K H n a b k)(B:A.units+n<cLine):SeqAt.RcNeAt A s (.ref a) (.ref b) (!k):=by
 cases n with
 | zero=>cases h
 | succ n =>
  have w:=qcV I n;have f:A.units<cLine:=by lk
  have l:A.in1.units+n<cLine:=by show A.units+1+n<cLine;lk
  cases h with
  | @lst _ _ _ xs ys e ha hb hl he =>
   obtain⟨its,r,pl,hz⟩:=I.list ha;obtain⟨c,i,d,g⟩:=I.list hb;have m:xs.length=its.toArray.size:=by rw[yw];show r.length
   have o:ys.length=c.toArray.size:=by rw[yw];show i.length
   rw[m];show SeqAt.RcNeAt.lists pl.isList d.isList (by rw[<- m,<- o,hl]) f fun j h1 z=>?_;obtain⟨x,p,t⟩:=jy r (show its[j]?=some its.toArray[j] by simp);obtain⟨y,q,u⟩:=jy i (show c[j]?=some c.toArray[j] by simp);show w.1 A.in1 x y (e j) _ _ (he j x y p q) t u l
  | @lstL _ _ _ xs ys ha hb hl =>
   obtain⟨its,r,pl,hz⟩:=I.list ha;obtain⟨c,i,d,g⟩:=I.list hb;show SeqAt.RcNeAt.lists_lengths pl.isList d.isList ?_ f;rw[yw,yw,<- r.length,<- i.length];simp[hl]
  | @tup _ _ _ xs ys e ha hb he =>
   obtain⟨its,r,pl,hz⟩:=I.tuple ha;obtain⟨c,i,d,g⟩:=I.tuple hb;have m:xs.length=its.toArray.size:=by rw[yw];show r.length
   have o:ys.length=c.toArray.size:=by rw[yw];show i.length
   rw[m,o];show SeqAt.RcNeAt.tuples pl d f fun j h1 z=>?_;obtain⟨x,p,t⟩:=jy r (show its[j]?=some its.toArray[j] by simp);obtain⟨y,q,u⟩:=jy i (show c[j]?=some c.toArray[j] by simp);show w.1 A.in1 x y (e j) _ _ (he j x y p q) t u l
  | lt ha hb =>
   obtain⟨its,r,pl,hz⟩:=I.list ha;obtain⟨c,i,d,g⟩:=I.tuple hb;show SeqAt.RcNeAt.list_tuple pl.isList d f
  | tl ha hb =>
   obtain⟨its,r,pl,hz⟩:=I.tuple ha;obtain⟨c,i,d,g⟩:=I.list hb;show SeqAt.RcNeAt.tuple_list pl d.isList f
theorem qe6{A:Around}{x y:V}{u v:Value}(e:RelV x u)(c:RelV y v)(f:zB x=true)(d:zB y=true):SeqAt.RcAt A s u v (eqV x y)/\SeqAt.RcNeAt A s u v (!eqV x y):=by
 cases x with
 | non =>
  cases e
  cases y with
  | non=>cases c;show⟨SeqAt.RcAt.none_none,SeqAt.RcNeAt.none_none⟩
  | bl b=>cases c;show⟨SeqAt.RcAt.none_bool b,SeqAt.RcNeAt.none_bool b⟩
  | int b=>obtain⟨t,rfl⟩:=c;show⟨SeqAt.RcAt.none_int b t,SeqAt.RcNeAt.none_int b t⟩
  | str b=>obtain⟨t,rfl⟩:=c;show⟨SeqAt.RcAt.none_str b t,SeqAt.RcNeAt.none_str b t⟩
  | _=>cases d
 | bl a =>
  cases e
  cases y with
  | non=>cases c;show⟨SeqAt.RcAt.bool_none a,SeqAt.RcNeAt.bool_none a⟩
  | bl b=>cases c;show⟨SeqAt.RcAt.bool_bool a b,SeqAt.RcNeAt.bool_bool a b⟩
  | int b=>obtain⟨t,rfl⟩:=c;show⟨SeqAt.RcAt.bool_int a b t,SeqAt.RcNeAt.bool_int a b t⟩
  | str b=>obtain⟨t,rfl⟩:=c;show⟨SeqAt.RcAt.bool_str a b t,SeqAt.RcNeAt.bool_str a b t⟩
  | _=>cases d
 | int a =>
  obtain⟨t',rfl⟩:=e
  cases y with
  | non=>cases c;show⟨SeqAt.RcAt.int_none a t',SeqAt.RcNeAt.int_none a t'⟩
  | bl b=>cases c;show⟨SeqAt.RcAt.int_bool a t' b,SeqAt.RcNeAt.int_bool a t' b⟩
  | int b=>obtain⟨t,rfl⟩:=c;show⟨SeqAt.RcAt.int_int a t' b t,SeqAt.RcNeAt.int_int a t' b t⟩
  | str b=>obtain⟨t,rfl⟩:=c;show⟨SeqAt.RcAt.int_str a t' b t,SeqAt.RcNeAt.int_str a t' b t⟩
  | _=>cases d
 | str a =>
  obtain⟨t',rfl⟩:=e
  cases y with
  | non=>cases c;show⟨SeqAt.RcAt.str_none a t',SeqAt.RcNeAt.str_none a t'⟩
  | bl b=>cases c;show⟨SeqAt.RcAt.str_bool a t' b,SeqAt.RcNeAt.str_bool a t' b⟩
  | int b=>obtain⟨t,rfl⟩:=c;show⟨SeqAt.RcAt.str_int a t' b t,SeqAt.RcNeAt.str_int a t' b t⟩
  | str b=>obtain⟨t,rfl⟩:=c;show⟨SeqAt.RcAt.str_str a t' b t,SeqAt.RcNeAt.str_str a t' b t⟩
  | _=>cases d
 | _=>cases f
end
def qft(K:yg)(c:Bool):R2:=fun x y H Q=>(zB x=true/\zB y=true/\Q (.bl (if c then !eqV x y else eqV x y)) H) \/
 (∃ a b k n,x=.ref a/\y=.ref b/\n<=60/\EqT K H n a b k/\Q (.bl (if c then !k else k)) H) \/
 (∃ a kvs,x=.ref a/\y=.ref a/\H a=some (.dK kvs)/\Q (.bl (!c)) H)
theorem qbv{b:Type}[DecidableEq b]:∀{a:List (b×Value)} {k:b} {v:Value},(a.map (·.1)).Nodup->(k,v)∈a->valueAt a k=some v
 | [],_,_,_,h=>by cases h
 | (k',v')::r,k,v,hn,h=>by
  obtain⟨h1,c⟩:=yo.mp (show(k'::r.map (·.1)).Nodup from hn);unfold valueAt;rw[xE];by_cases e:k'=k
  .subst e;simp only[decide_true];rcases yA.mp h with z | z
   .cases z;rfl
   .show absurd (yN.mpr ⟨(k',v),z,rfl⟩) h1
  .simp only[e,k9];rcases yA.mp h with z | z
   .cases z;show absurd rfl e
   .show qbv c z
theorem qcW{A:Around}{s:Shared}{c:Type}[DecidableEq c](a:List (c×Value))(d:(a.map (·.1)).Nodup):∀ f:List (c×Value),(∀ p∈f,p∈a)->PySem.W.KeqHits A s a f true
 | [],_=>.nil
 | (k,v)::r,h=>by
  have hv:valueAt a k=some v:=qbv d (h (k,v) yE);show .hit (e:=true) (b:=true) hv (XT v) (qcW a d r fun p g=>h p (yy _ g))
section
variable{X:Cx}{K:yg}
theorem k_eqU(m:X.K=K)(p:X.A.units+100<cLine):OpR X (compareOp .Eq) (qft K false):=by
 subst m;intro pins s σ H x y u v Q I c f h;rcases h with⟨j,l,q⟩ | ⟨a,b,k,n,rfl,rfl,o,e,q⟩ | ⟨a,kvs,rfl,rfl,i,q⟩
 .show(qe6 c f j l).1 _ _ _ _ ⟨.bl _,H,I,rfl,q⟩
 .cases c;cases f;show(qcV I n).2 X.A a b k e (by lk) _ _ _ _ ⟨.bl _,H,I,rfl,q⟩
 .cases c;cases f;obtain⟨_,g,vs,r,d⟩:=(show ObjOk X.prog X.w H s.heap a (.dK kvs) from I.hok a _ i);obtain⟨_,_,_,_,_,_,_,_,nd⟩:=id d;show PySem.W.keq_eq g g d d (by lk) (fun _=>qcW vs nd vs fun _ h=>h) ?_;rw[Y8];show⟨.bl true,H,I,rfl,q⟩
theorem zO(m:X.K=K)(p:X.A.units+100<cLine):OpR X (compareOp .NotEq) (qft K true):=by
 subst m;intro pins s σ H x y u v Q I c f h;rcases h with⟨j,l,q⟩ | ⟨a,b,k,n,rfl,rfl,o,e,q⟩ | ⟨a,kvs,rfl,rfl,i,q⟩
 .show(qe6 c f j l).2 _ _ _ _ ⟨.bl _,H,I,rfl,q⟩
 .cases c;cases f;show ne_refs I e (by lk) _ _ _ _ ⟨.bl _,H,I,rfl,q⟩
 .cases c;cases f;obtain⟨_,g,vs,r,d⟩:=(show ObjOk X.prog X.w H s.heap a (.dK kvs) from I.hok a _ i);obtain⟨_,_,_,_,_,_,_,_,nd⟩:=id d;show PySem.W.keq_ne g g d d (by lk) (fun _=>qcW vs nd vs fun _ h=>h) ?_;rw[Y8];show⟨.bl false,H,I,rfl,q⟩
end
section
variable{X:Cx}{K:yg}
def qfZ(K:yg):R2:=fun x y H Q=>rIx K x y H Q\/∃ a v,x=.ref a/\DGet H a y (some v)/\Q v H
theorem qw(f:X.K=K)(m:X.A.units+100<cLine):IxR X (qfZ K):=by
 subst f;show IxR.or ix_seq ?_;intro d c pins s σ H x y v u Q I j l h i;obtain⟨a,z,rfl,g,q⟩:=h;cases j;show tail_any (dict_typeIs I g) PySem.F.slot_dict_getitem.lookup (d_getItem (by lk) I g l fun o n e b=>⟨z,H,e,b,q⟩) i
def rSetU:qfM:=fun o i v H Q=>rSetL o i v H Q\/∃ a H',o=.ref a/\DPut H a i v H'/\Q H'
theorem j9(l:X.A.units+100<cLine):qgk X rSetU:=by
 intro pins s σ H o i v j f u Q I c b d h;rcases h with h | ⟨a,H',rfl,g,q⟩
 .show set_list pins s σ H o i v j f u Q I c b d h
 .cases c;show d_setItem (by lk) I g b d fun m e=>⟨H',e,q⟩
def qdW(K:yg)(b:Bool):R2:=fun x y H Q=>rIn K b x y H Q\/(∃ a o,y=.ref a/\DGet H a x o/\Q (.bl (if b then !o.isSome else o.isSome)) H) \/
 (∃ p xs e n,y=.ref p/\SqL K H p xs/\n<=60/\(∀ z∈xs,EqD K H n z x (e z))/\Q (.bl (if b then !xs.any e else xs.any e)) H)
theorem qef{pins:List (Addr×Obj)}{σ:St}{H:Hp}{s:Shared}{xs:List V}{its:List Value}{x:V}{u:Value}{e:V->Bool}{n:Nat}{A:Around}(I:Inv X pins σ H s)(r:Vals xs its)(p:RelV x u)(o:A.units+n<cLine)(m:∀ z∈xs,EqD X.K H n z x (e z)) :
  ∃ g:Value->Bool,(∀ w,w∈its.toArray->SeqAt.EqAt A s w u (g w))/\its.toArray.any g=xs.any e:=by
 classical
 show⟨fun w=>decide (∃ z∈xs,RelV z w/\e z=true),fun w hw=>?_,?_⟩
 .have d:w∈its:=by simpa using hw
  obtain⟨j,c⟩:=Xb.mp d;obtain⟨z,hz,a⟩:=jy r c;have i:=ye hz
  have eq:decide (∃ z∈xs,RelV z w/\e z=true)=e z:=by
   cases q:e z with
   | true=>show yD ⟨z,i,a,q⟩
   | false =>
    show yl fun⟨t,_,f,l⟩=>?_;rw[RelV.inj f a,q] at l;cases l
  show SeqAt.EqAt A s w u (decide (∃ z∈xs,RelV z w/\e z=true));rw[eq];show(qcV I n).1 A z x (e z) w u (m z i) a p o
 .rw [YA,YH];constructor
  .intro h;have h':its.any (fun w=>decide (∃ z∈xs,RelV z w/\e z=true))=true:=by simpa using h
   obtain⟨w,_,q⟩:=YH.mp h';obtain⟨z,hz,_,b⟩:=yk q;show⟨z,hz,b⟩
  .rintro ⟨z,hz,b⟩;obtain⟨j,c⟩:=Xb.mp hz;obtain⟨w,hw,a⟩:=r.get c;have:its.any (fun w=>decide (∃ z∈xs,RelV z w/\e z=true))=true:=YH.mpr ⟨w,ye hw,yD ⟨z,hz,a,b⟩⟩;simpa using this
theorem zC(j:X.K=K)(l:X.A.units+100<cLine):OpR X (compareOp .In) (qdW K false):=by
 subst j;intro pins s σ H x y u v Q I b c h;rcases h with h | ⟨a,o,rfl,g,q⟩ | ⟨p,xs,e,n,rfl,hl,hn,he,q⟩
 .show op_in_seq pins s σ H x y u v Q I b c h
 .cases c;show d_in (by lk) I g b fun m d=>⟨.bl _,H,d,rfl,q⟩
 .cases c;obtain⟨its,r,pl,hz⟩:=I.list hl;obtain⟨f,h1,i⟩:=qef (A:=X.A.in1) I r b (by show X.A.units+1+n<cLine;lk) he;show SeqAt.in_listAt f pl.isList h1 (by rw[i];show⟨.bl _,H,I,rfl,q⟩)
theorem jB(j:X.K=K)(l:X.A.units+100<cLine):OpR X (compareOp .NotIn) (qdW K true):=by
 subst j;intro pins s σ H x y u v Q I b c h;rcases h with h | ⟨a,o,rfl,g,q⟩ | ⟨p,xs,e,n,rfl,hl,hn,he,q⟩
 .show op_notIn_seq pins s σ H x y u v Q I b c h
 .cases c;show d_notIn (by lk) I g b fun m d=>⟨.bl _,H,d,rfl,q⟩
 .cases c;obtain⟨its,r,pl,hz⟩:=I.list hl;obtain⟨f,h1,i⟩:=qef (A:=X.A.in1) I r b (by show X.A.units+1+n<cLine;lk) he;show SeqAt.notIn_listAt f pl.isList h1 (by rw[i];show⟨.bl _,H,I,rfl,q⟩)
def rListU(K:yg):List V->Hp->VK->Prop:=fun xs H Q=>(∃ p ys,xs=[.ref p]/\(SqL K H p ys\/SqT K H p ys)/\∀ l,H l=none->Q (.ref l) (upd H l (.lst ys))) \/
 (∃ p kvs,xs=[.ref p]/\H p=some (.dK kvs)/\∀ l,H l=none->Q (.ref l) (upd H l (.lst (kvs.map fun a=>kV a.1)))) \/
 (∃ x,xs=[.str x]/\x.length<=1000/\∀ l,H l=none->Q (.ref l) (upd H l (.lst (x.cps.toList.map fun c=>.str ⟨#[c]⟩))))
theorem qbM{α c:Type}{F:α->c->Prop}:∀{l:List α} {m:List c} {j:Nat} {a:α},Paired F l m->l[j]?=some a->∃ b,m[j]?=some b/\F a b
 | _,_,_,_,.nil,e=>by simp at e
 | _,_,0,_,.cons r _,e=>by simp at e;subst e;show⟨_,rfl,r⟩
 | _,_,j+1,a,.cons _ t,e=>by
  obtain⟨b,h1,d⟩:=qbM (j:=j) (a:=a) t (by simpa using e);show⟨b,by simpa using h1,d⟩
theorem qal:∀{ys:List V} {us:List Value},ys.length=us.length->(∀(j:Nat) y u,ys[j]?=some y->us[j]?=some u->RelV y u)->Vals ys us
 | [],[],_,_=>.nil
 | [],_::_,h,_=>by cases h
 | _::_,[],h,_=>by cases h
 | y::ys,u::us,h,q=>.cons (q 0 y u rfl rfl) (qal (Nat.succ.inj h) fun j c b h1 a=>q (j+1) c b (by simpa using h1) (by simpa using a))
theorem qbw(L:X.K=K)(hc:X.calm=true):j0 X (.type "list") (rListU K):=by
 subst L;intro pins s σ H xs us Q I r h;rcases h with h | ⟨p,kvs,rfl,ea,q⟩ | ⟨x,rfl,hx,q⟩
 .show call_list_of pins s σ H xs us Q I r h
 .obtain⟨u,rfl,N⟩:=qaa r;cases N;obtain⟨hz,M,vs,E,d⟩:=(show ObjOk X.prog X.w H s.heap p (.dK kvs) from I.hok p _ ea);obtain⟨ep,n⟩:=d.dictAt;have hl:kvs.length=vs.length:=E.length;show PySem.W.kdl_call (PySem.W.kdl_dict (knd:=jv X.prog X.w) (kvs:=vs) (ep:=ep) M) (I.ok.hd hc) n (by rw[<- hl];show hz) fun h' tk a f B e it=>?_;obtain⟨o,A⟩:=it
  have hv:Vals (kvs.map fun b=>kV b.1) a.toList:=by
   show qal (by rw[ya,hl,<- o];simp) fun j y u h1 g=>?_;obtain⟨k,x,l,G⟩:=A j u (by simpa using g);rw[yd] at h1
   cases C:kvs[j]? with
   | none=>rw[C] at h1;cases h1
   | some b =>
    rw[C] at h1;cases h1;obtain⟨P,D,J,O⟩:=qbM E C;rw[l] at D;cases D;have F:b.1=k:=J;show RelV (kV b.1) u;rw[F];rcases q9 (show qcL k u=true from G) with⟨i,t,rfl,rfl⟩ | ⟨z,t,rfl,rfl⟩
    .show⟨t,rfl⟩
    .show⟨t,rfl⟩
  show⟨.ref s.heap.objs.size,_,I.laid (t':=tk) B (yh _) (show ObjOk X.prog X.w _ h' _ (.lst (kvs.map fun b=>kV b.1)) from⟨by rw[ya];show hz,a.toList,f,hv,by simpa using e⟩),rfl,q _ (I.hok.fresh (yh _))⟩
 .obtain⟨u,rfl,t,rfl⟩:=qaa r;have hsz:x.cps.size<=sizeLine:=yV (qi hx);show call_list_str (I.ok.hd hc) x t (fun h' tk a f B e it=>?_) hsz;obtain⟨o,A⟩:=it
  have hv:Vals (x.cps.toList.map fun c=>V.str ⟨#[c]⟩) a.toList:=by
   show qal (by rw[ya];simp[o]) fun j y u h1 g=>?_;obtain⟨c,t',l,rfl⟩:=A j u (by simpa using g);rw[yd] at h1;have m:x.cps.toList[j]?=some c:=by simpa using l
   rw[m] at h1;cases h1;show⟨t',rfl⟩
  show⟨.ref s.heap.objs.size,_,I.laid (t':=tk) B (yh _) (show ObjOk X.prog X.w _ h' _ (.lst (x.cps.toList.map fun c=>V.str ⟨#[c]⟩)) from⟨by rw[ya];simpa using hsz,a.toList,f,hv,by simpa using e⟩),rfl,q _ (I.hok.fresh (yh _))⟩
end
structure CMethOk(P:Program)(w:World)(K:yg)(mg:Str->Option Value)(base:Heap)(CX:CXT)(k:Nat)(C:Addr)(x m:Str)(ps:LS)(sp:Sp):Prop where
 ex:∃ f fd,FnOk P w K mg base CX k f fd ps sp/\CMeth K C m f/\Binds K fd ps []
 mg_:mg x=some (.ref C)
section
variable{X:Cx}{k:Nat}{C:Addr}{ps:LS}{sp:Sp}{x m:Str}{p pos apos:Pos}{e:Expr}{es:List Expr}{t:TA}
theorem qam(D:MakeOk X.prog X.w X.K X.mg X.base CX0 k C x ps sp)(h:Room (k+1) X.A)(c:PA X (e::es) t)(g:Gl X x:=by rfl)(a:(x==("__debug__":Str))=false:=by decide)
  (d:starEach (e::es) X.env=(false,eval e X.env)::starEach es X.env:=by rfl) (b:(backTo pos (starEach es X.env)).any (·.1)=false:=by rfl):PE X (.Call (.Name x p) (e::es) [] pos) (qfr C sp [] E0 t):=by
 obtain⟨f,i,F,M,hb⟩:=D.ex;show pe_make M F h g D.mg_ hb .nil qB c a d b
end
theorem own_eq_same{prog:Program}{w:World}{A:Around}{E:Value->Shared->Prop}{s:Shared}{K:yg}{x C:Addr}{ox:Obj}{od:Option Obj}{Q:Value->Shared->Prop}(m:A.units<cLine)(X:K.In s.heap)(I:PySem.W.InstAt s.heap x ox C od)
  (l:PySem.W.findIn K (.ref C) "__eq__"=some (some (.builtin "object.__eq__"))) (i:PySem.W.mroIn K C (.type "object")=some true) (h:Q (.bool true) s):wpAny (model prog w) A (richCompare .Eq (.ref x) (.ref x)) Q E s:=by
 have a:∀{g:Around} {f:Value->Shared->Prop},f (.bool true) s->wpAny (model prog w) g (call (.builtin "object.__eq__") [.ref x,.ref x]) f E s:=fun{g f} q=>by
  show X6 (Xe PySem.F.slot_object_eq.plain PySem.F.entry_object_eq (@PySem.W.check_slot (model prog w) _ _ s "object.__eq__" "object" "__eq__" (.ref x) [.ref x] [] _ (by room) (by room) (I.type.andThen (xN X i)) (PySem.F.args_object_eq_2 _ _) ?_));show yr (yu (yr (wpAny_isSame_ref_self ?_)));show yu q
 have one:wpAny (model prog w) A (tryCompare (.ref x) "__eq__" (.ref x)) (fun r c=>∃ v,r=some v/\Q v c) E s:=by
  unfold tryCompare;show yr ?_;simp only[callSpecialIfBound?,bindSpecialIfBound?];show Yk (yr (yr (yr (I.type.here ((xl X l).here ?_)))));show yr (kF (wpAny_ite ?_));have b:=PySem.F.slot_object_eq.bind (.ref x)
  have d:wpAny (model prog w) A (call (.builtin "object.__eq__") ([.ref x]++[.ref x])>>=fun v=>pure (some v)) (fun r c=>wpAny (model prog w) A (match r with | some .notImplemented | none=>pure none | some v=>pure (some v)) (fun r c=>∃ v,r=some v/\Q v c) E c) E s:=
   yr (a (yu (yu ⟨_,rfl,h⟩)))
  split
  .show yr (Y4 b (yu d))
  .show wpAny_tryCatch (yr (Y4 b (yu d)))
 unfold richCompare;simp only[oneThing_ref];show Yk (yr (wpAny_cRoomFor m ?_));show yr (I.type.here (yr (I.type.here ?_)));rw[yC (by simp)];show yr (yu ?_);simp only[Yx,xA];show yr (YW one (fun r c z=>?_) fun _ _ e=>e);obtain⟨v,rfl,j⟩:=z;show yu j
structure OEq(K:yg)(C:Addr):Prop where
 eq:PySem.W.findIn K (.ref C) "__eq__"=some (some (.builtin "object.__eq__"))
 ob:PySem.W.mroIn K C (.type "object")=some true
def qgH(K:yg):R2:=fun x y H Q=>qft K false x y H Q\/∃ a C dx fs,x=.ref a/\y=.ref a/\H a=some (.ins C dx fs)/\OEq K C/\Q (.bl true) H
theorem k_eqW{X:Cx}{K:yg}(d:X.K=K)(e:X.A.units+100<cLine):OpR X (compareOp .Eq) (qgH K):=by
 subst d;intro pins s σ H x y u v Q I b c h;rcases h with h | ⟨a,C,dx,fs,rfl,rfl,ea,oe,q⟩
 .show k_eqU rfl e pins s σ H x y u v Q I b c h
 .cases b;cases c;obtain⟨f,O,_⟩:=qa2 I.hok ea;obtain⟨od,J,_⟩:=O.look;show own_eq_same (by lk) I.kIn J oe.eq oe.ob ⟨.bl true,H,I,rfl,q⟩
theorem qS{X:Cx}:MtR X "list.append" rAppend:=mt_append
theorem qbN{X:Cx}:MtR X "list.extend" rExtend:=mt_extend
theorem mtR_popAt{X:Cx}:MtR X "list.pop" rPopAt:=mt_popAt
theorem mtR_clear{X:Cx}:MtR X "list.clear" rClear:=mt_clear
section
variable{D:Ends}{σ:St}{H:Hp}{Q:VK}{t u:TS}{te ta tb tc:TE}{tas:TA}{K:yg}{sp:Sp}{E:XK}{EK:St->XK}{C:Addr}{f m:Str}
theorem vFldU(h:ta σ H fun x a=>FlUR K f x a Q):qfW K ta f σ H Q:=h
theorem vSFldU(h:te σ H fun y a=>ta σ a fun x b=>SFUR K f x y b (D.nx σ)):qfX K ta te f D σ H:=h
theorem vXMake(h:tas σ H fun vs a=>vs.length<=1000/\∀ x,a x=none->sp (.ref x::vs) (upd a x (XN x C none)) (fun v b=>v=.non/\Q (.ref x) b) E):tXMake C sp E tas σ H Q:=h
theorem vMake(h:tas σ H fun vs a=>∀ x dx,a x=none->a dx=none->dx≠x->sp (.ref x::(vs++[])) (upd (upd a dx (.own x)) x (.ins C dx [])) (fun v b=>v=.non/\Q (.ref x) b) E):qfr C sp [] E tas σ H Q:=h
theorem vMeth(h:ta σ H fun x a=>MeR C m x a (tas σ a fun vs b=>sp (x::(vs++[])) b Q E)):qd0 C m sp [] E ta tas σ H Q:=h
theorem vVinit(h:tas σ H fun vs b=>∃ a C y,vs=[.ref a,y]/\b a=some (XN a C none)/\XAt K C/\Q .non b):tVinit K tas σ H Q:=h
theorem vCallS(h:tas σ H fun vs a=>sp vs a Q (EK σ)):tCallS sp EK tas σ H Q:=h
theorem vMethS(h:ta σ H fun x a=>MeR C m x a (tas σ a fun vs b=>sp (x::vs) b Q (EK σ))):tMethS C m sp EK ta tas σ H Q:=h
theorem vMakeS(h:tas σ H fun vs a=>∀ x dx,a x=none->a dx=none->dx≠x->sp (.ref x::vs) (upd (upd a dx (.own x)) x (.ins C dx [])) (fun v b=>v=.non/\Q (.ref x) b) (EK σ)):tMakeS C sp EK tas σ H Q:=h
theorem vRaise(h:te σ H fun x b=>∃ a C dx,x=.ref a/\b a=some (XN a C dx)/\XAt K C/\EK σ (.ref C) dx (upd b a (XO a C dx))):tRaise K EK te D σ H:=h
theorem qaz{x y:V}{t a:Value}{b:Bool}(ty:TyX K H x t)(c:qcw y=some a)(hb:PySem.W.kitOne K t a=some b)(h:Q (.bl b) H):qfY K [x,y] H Q:=⟨x,y,t,a,b,rfl,ty,c,hb,h⟩
end
section
variable{prog:Program}{w:World}{A:Around}{E:Value->Shared->Prop}{s:Shared}
theorem none_dict{a:Addr}{Q:Value->Shared->Prop}(d:s.TypeIs (.ref a) "dict")(e:A.units<cLine)(h:Q (.bool false) s):wpAny (model prog w) A (richCompare .Eq .none (.ref a)) Q E s:=by
 show SeqAt.rc_eq_decline_or (k:=false) rfl d (by decide) PySem.F.sub_dict_NoneType YU PySem.F.slot_dict_eq_refl
  (fun _ c=>call_gives YU rfl PySem.F.entry_NoneType_eq (PySem.F.args_NoneType_eq_2 _ _) (SeqAt.NoneType___eq___none_ref_0 a) c) (fun f c=>?_) (fun _ c=>Y4 (rfl:isSame .none (.ref a)=pure false) c) (.inr e) h
 show xx PySem.F.slot_dict_eq_refl d PySem.F.entry_dict_eq ?_ (PySem.F.args_dict_eq_2 _ _);show wpAny _ _ (Builtin.Dict.dictSlotArgs "__eq__" ⟨[.ref a,.none],[]⟩>>=_) _ _ s;show yr ?_;unfold Builtin.Dict.dictSlotArgs;show yr (wpAny_notOrdered_dict d ?_);show wpAny _ _ (pure (Value.ref a,Value.none)) _ _ s;show yu ?_;show yr (wpAny_isInstance (T:="NoneType") (b:=false) rfl PySem.F.sub_NoneType_dict ?_);simp only[ke,Xv];show yr (wpAny_rule (yu ⟨_,rfl,c⟩))
theorem none_own{K:yg}{x C:Addr}{ox:Obj}{od:Option Obj}{Q:Value->Shared->Prop}(j:A.units<cLine)(X:K.In s.heap)(I:PySem.W.InstAt s.heap x ox C od)(g:OEq K C)(i:PySem.W.mroIn K C (.type "NoneType")=some false)
  (h:Q (.bool false) s):wpAny (model prog w) A (richCompare .Eq .none (.ref x)) Q E s:=by
 have l:wpAny (model prog w) A (tryCompare .none "__eq__" (.ref x)) (fun r a=>r=none/\a=s) E s:=by
  unfold tryCompare;show yr ?_;simp only[callSpecialIfBound?,bindSpecialIfBound?];show Yk (yr (yr ?_));show yr (Y4 (rfl:typeOf .none=pure (.type "NoneType")) ?_);show Y4 YU.lookup ?_;show yr (kF (wpAny_ite ?_))
  have d:wpAny (model prog w) A (call (.builtin "NoneType.__eq__") ([.none]++[.ref x])>>=fun v=>pure (some v)) (fun r a=>wpAny (model prog w) A (match r with | some .notImplemented | none=>pure none | some v=>pure (some v)) (fun r a=>r=none/\a=s) E a) E s:=
   yr (call_gives YU rfl PySem.F.entry_NoneType_eq (PySem.F.args_NoneType_eq_2 _ _) (SeqAt.NoneType___eq___none_ref_0 x) (yu (yu ⟨rfl,rfl⟩)))
  split
  .show yr (Y4 (YU.bind .none) (yu d))
  .show wpAny_tryCatch (yr (Y4 (YU.bind .none) (yu d)))
 have m:wpAny (model prog w) A (tryCompare (.ref x) "__eq__" .none) (fun r a=>r=none/\a=s) E s:=by
  unfold tryCompare;show yr ?_;simp only[callSpecialIfBound?,bindSpecialIfBound?];show Yk (yr (yr (yr (I.type.here ((xl X g.eq).here ?_)))));show yr (kF (wpAny_ite ?_));have b:=PySem.F.slot_object_eq.bind (.ref x)
  have c:∀{f:Value->Shared->Prop},f .notImplemented s->wpAny (model prog w) A (call (.builtin "object.__eq__") [.ref x,.none]) f E s:=fun{f} q=>by
   show X6 (Xe PySem.F.slot_object_eq.plain PySem.F.entry_object_eq (@PySem.W.check_slot (model prog w) _ _ s "object.__eq__" "object" "__eq__" (.ref x) [.none] [] _ (by room) (by room) (I.type.andThen (xN X g.ob)) (PySem.F.args_object_eq_2 _ _) ?_));show yr (yu (yr (Y4 (rfl:isSame (.ref x) .none=pure false) ?_)));show yu q
  have d:wpAny (model prog w) A (call (.builtin "object.__eq__") ([.ref x]++[.none])>>=fun v=>pure (some v)) (fun r a=>wpAny (model prog w) A (match r with | some .notImplemented | none=>pure none | some v=>pure (some v)) (fun r a=>r=none/\a=s) E a) E s:=
   yr (c (yu (yu ⟨rfl,rfl⟩)))
  split
  .show yr (Y4 b (yu d))
  .show wpAny_tryCatch (yr (Y4 b (yu d)))
 unfold richCompare;show Yk (yr (wpAny_cRoomFor j ?_));show wpAny _ _ (typeOf .none>>=_) _ _ _;show yr (Y4 (rfl:typeOf .none=pure (.type "NoneType")) (yr (I.type.here ?_)));rw[yG (by rfl)];show yr ((xN X i).here ?_);simp only[Yx,xA];show yr (YW l (fun r a z=>?_) fun _ _ e=>e);obtain⟨rfl,rfl⟩:=z;simp only[ke,Xv];show yr (YW m (fun r a z=>?_) fun _ _ e=>e);obtain⟨rfl,rfl⟩:=z;show yr (wpAny_rule (yr (Y4 (rfl:isSame .none (.ref x)=pure false) (yu h))))
end
def rNoneRef(K:yg):R2:=fun x y H Q=>∃ a,x=.non/\y=.ref a/\((∃ xs,SqL K H a xs\/SqT K H a xs)\/(∃ kvs,H a=some (.dK kvs))\/∃ C dx fs,H a=some (.ins C dx fs)/\OEq K C/\PySem.W.mroIn K C (.type "NoneType")=some false)/\Q (.bl false) H
def qfu(K:yg):R2:=fun x y H Q=>qgH K x y H Q\/rNoneRef K x y H Q
theorem j3{X:Cx}{K:yg}(e:X.K=K)(j:X.A.units+100<cLine):OpR X (compareOp .Eq) (qfu K):=by
 intro pins s σ H x y u v Q I f g h;rcases h with h | ⟨a,rfl,rfl,h,q⟩
 .show k_eqW e j pins s σ H x y u v Q I f g h
 .subst e;cases f;cases g;have b:EP X pins σ Q (.bool false) s:=⟨.bl false,H,I,rfl,q⟩;rcases h with⟨xs,hl | hl⟩ | ⟨kvs,c⟩ | ⟨C,dx,fs,c,l,i⟩
  .obtain⟨its,r,pl,_⟩:=I.list hl;show SeqAt.RcAt.none_list pl.isList (by lk) _ _ _ _ b
  .obtain⟨its,r,pl,_⟩:=I.tuple hl;show SeqAt.RcAt.none_tuple pl (by lk) _ _ _ _ b
  .obtain⟨_,_,vs,_,d⟩:=(show ObjOk X.prog X.w H s.heap a (.dK kvs) from I.hok a _ c);show none_dict d.typeIs (by lk) b
  .obtain⟨m,O,_⟩:=qa2 I.hok c;obtain⟨od,J,_⟩:=O.look;show none_own (by lk) I.kIn J l i b
def XL(K:yg)(C:Addr)(d:List Value):Prop:=∃ l m N bs a sn sub c b e f g h i j,K.lookup C=some (excClassObj l m C N bs d a sn sub c b e f g h i j "ValueError.__new__")
section
variable{K:yg}{C D:Addr}{bm bn:List Value}
end
end L2
namespace HT
open PySem PySem.Spec PyProof.Rows
variable{sl:Addr}{vs:Value}
section
variable{prog:Program}{w:World}{A:Around}{E:Value->Shared->Prop}{s:Shared}
theorem sliceApplied_rev{Q:Int×Int×Nat->Shared->Prop}(d:s.heap.IsSliceOf sl .none .none vs)(ps:IsPart vs (some (-1)))
  (h:Q (1,-1,2) s):wpAny (model prog w) A (Builtin.Slice.sliceApplied (.ref sl) (pure ((2:Nat):Int))) Q E s:=by
 obtain⟨e,b,c,a⟩:=id d;unfold Builtin.Slice.sliceApplied Builtin.Slice.sliceFields;show yr (yr (xm b a (x:=.none) rfl (yr (xm b a (x:=.none) rfl (yr (xm b a (x:=vs) rfl (yu ?_)))))));show yr (qa3 ps ?_);show wpAny _ _ (if ((-1:Int)==0)=true then _ else _) _ _ s;rw[yC (by decide)];show yr (X8 (yr (X8 (yr (yu ?_)))));show yu h
theorem getItem_pair_rev{t:Addr}{x y:Value}{Q:Value->Shared->Prop}(b:IsTup s.heap t #[x,y])(f:s.heap.IsSliceOf sl .none .none vs)(ps:IsPart vs (some (-1)))
  (h:Q (.ref s.heap.objs.size) { s with heap:=s.heap.push { cls:=.type "tuple",data:=.seq #[y,x] } }):wpAny (model prog w) A (getItem (.ref t) (.ref sl)) Q E s:=by
 have a:sizeOk (.seq #[y,x]):=by
  show 2<=sizeLine
  decide
 obtain⟨i,e,d,g⟩:=id f;have c:s.TypeIs (.ref sl) "slice":=⟨i,e,d⟩;unfold getItem
 try with_reducible show Yk ?_
 first | show yr (yu ?_) | skip
 show yr (wpAny_sequenceKey b.typeIs (by decide) ?_);show yr (xS (name:=Str.ofString "__getitem__") b.typeIs YE
  (xx YE b.typeIs entry_tuple_getitem ?_ (args_tuple_getitem _ _)))
 show wpAny _ _ (Builtin.Tuple.tupleItemsOf (.ref t)>>=_) _ _ s;show yr (tupleItemsOf_ b ?_);show yr (wpAny_typeOf c ?_);rw[yG (by decide)];show yr (sliceApplied_rev f ps ?_);show wpAny _ _ (if ((1:Int)==0&&(-1:Int)==1&&2==2)=true then _ else _) _ _ s;rw[yC (by decide)]
 first
  | show yr (m:=Builtin.Tuple.tupleExact _) (YR (yu ⟨_,rfl,yu h⟩) a)
  | show yr (m:=Builtin.Tuple.tupleExact _) (YR (yr (yu (yu ⟨_,rfl,yu h⟩))) a)
  | show yr (yr (m:=Builtin.Tuple.tupleExact _) (YR (yu (yu ⟨_,rfl,yu h⟩)) a))
  | show yr (yr (m:=Builtin.Tuple.tupleExact _) (YR (yu ⟨_,rfl,yu h⟩) a))
end
end HT
namespace L2
open PySem PySem.Spec PyProof.Rows
variable{H:Hp}{σ:St}
def qgI(K:yg)(d:TE)(e:TO):TE:=fun σ H Q=>d σ H fun x c=>e σ c fun o b=>o=some (-1)/\∃ a y z,x=.ref a/\SqT K b a [y,z]/\∀ p,b p=none->Q (.ref p) (upd b p (.tup [z,y]))
theorem vRev{K:yg}{c:TE}{d:TO}{Q:VK}(h:c σ H fun x e=>d σ e fun o b=>o=some (-1)/\∃ a y z,x=.ref a/\SqT K b a [y,z]/\∀ p,b p=none->Q (.ref p) (upd b p (.tup [z,y]))):qgI K c d σ H Q:=h
section
variable{X:Cx}{K:yg}{e st:Expr}{te:TE}{ts:TO}{p2 pos:Pos}
theorem pe_rev(B:X.K=K)(C:PE X e te)(D:PO X (some st) ts):PE X (.Subscript e (.Slice none none (some st) p2) pos) (qgI K te ts):=by
 subst B;intro c s σ H Q I h;show Subscript_ (thn (C c s σ H _ I h) fun v M ⟨x,m,p,L,J⟩=>?_);show wpAny_Slice ?_;rw[ky];show yu ?_;show yu ?_;show thn (D c M σ m _ p J) fun l d ⟨o,n,t,pt,u,a,y,z,ex,E,q⟩=>?_;subst u ex;cases L;have f:Inv X c σ n { d with heap:=d.heap.push { cls:=.type "slice",data:=.fields #[.none,.none,l] } }:=t.kept (t':=d.toks) fun b G q=>yv _ q;obtain⟨F,r,j,hz⟩:=f.tuple E;obtain⟨N,O,rfl,g,i⟩:=qdQ r;show wpAny (model X.prog X.w) X.A (subscriptTail e (.Slice none none (some st) p2) (.ref a) (.ref d.heap.objs.size)) (EP X c σ Q) X.xe { d with heap:=d.heap.push { cls:=.type "slice",data:=.fields #[.none,.none,l] } };show tail_any (ops:=[.ref a,.ref d.heap.objs.size]) j.typeIs YE.lookup (HT.getItem_pair_rev j (X9 ..) pt ?_) (by with_unfolding_all rfl);show⟨.ref _,_,f.laid (t':=d.toks) (o:=.tup [z,y]) (fun b G q=>yv _ q) (yh _) ?_,rfl,q _ (f.hok.fresh (yh _))⟩;show⟨by show 2<=sizeLine;decide,_,.cons i (.cons g .nil),IsTup.new _ _⟩
def rTupleU(K:yg):List V->Hp->VK->Prop:=fun xs H Q=>∃ p ys,xs=[.ref p]/\((SqL K H p ys/\∀ l,H l=none->Q (.ref l) (upd H l (.tup ys)))\/(SqT K H p ys/\Q (.ref p) H))
theorem qdr(a:X.K=K):j0 X (.type "tuple") (rTupleU K):=by subst a;show call_tuple_of
end
theorem Inv.turnedL{X:Cx}{a:List (Addr×Obj)}{s:Shared}{h':Heap}{t':Nat}{fp:LQ}(I:Inv X a σ H s)(k:∀ b o,b∉fp->s.heap.get? b=some o->h'.get? b=some o)(f:∀ b∈fp,qcN X a H b):Inv X a σ H { s with heap:=h',toks:=t' }:=by
 have d:∀ b u,H b=some u->b∉fp:=fun b u e z=>by rw[(f b z).1] at e;cases e
 have p:X.env.locals∉fp:=fun z=>(f _ z).2.1 rfl;show I.step (g':=s.gens) (d':=s.drawn) (ch:=fp) (fun b hb=>?_) (fun b o _ _ hc e _=>k b o hc e) (fun b o _ _ hc e _=>⟨o.slots,k b o hc e⟩) (fun _ _ _ _ n=>n)
  (fun b o hc e=>⟨o,k b o hc e⟩) (fun _ _ e=>e) (fun _ _ _ e=>e) (fun b ps e=>⟨#[],by rw[e];simp⟩) (fun m t=>?_) (fun b u e=>?_) I.bare
 .obtain⟨x,h,y,i,j,l⟩:=f b hb;show⟨i,h,j,l⟩
 .obtain⟨o,g,ep,w,r⟩:=t;show⟨o,g,ep,k _ o p w,r⟩
 .show(I.hok b u e).stay (fun c v hc q=>k c v ?_ q) (fun _ q=>q) fun _ _ q=>q;rcases hc with z | z
  .rw [z];show d b u e
  .show d c _ z
noncomputable def Ite(K:yg)(a:Addr):It:=
 ⟨fun i H=>∃ xs x,SqL K H a xs/\xs[i]?=some x,fun i H x H'=>∃ t y,x=.ref t/\H t=none/\H'=upd H t (.tup [.int i,y])/\∀ xs,SqL K H a xs->xs[i]?=some y,fun i H=>∃ xs,SqL K H a xs/\xs.length<=i⟩
theorem push_some{h:Heap}{o v:Obj}{b:Addr}(e:(h.push o).get? b=some v)(ne:b≠h.objs.size):h.get? b=some v:=(Heap.get?_push_cases e).elim (fun z=>absurd z.1 ne) fun z=>z
def iEnum(K:yg)(c:TA):TI:=fun σ H R=>c σ H fun vs b=>∃ a xs,vs=[.ref a]/\SqL K b a xs/\R (Ite K a) b
theorem vEnum{K:yg}{b:TA}{R:It->Hp->Prop}(h:b σ H fun vs c=>∃ a xs,vs=[.ref a]/\SqL K c a xs/\R (Ite K a) c):iEnum K b σ H R:=h
section
variable{X:Cx}
end
end L2
namespace L2
open PySem PySem.Spec PyProof.Rows PySem.Builtin PySem.Builtin.Str
noncomputable def jl(c:LN):List (LN)->LN
 | []=>[]
 | [x]=>x
 | x::y::r=>x++c++jl c (y::r)
theorem qf0{a c:Nat}(h:a+100<c):a+1<c:=by lk
theorem vDGet2{e ty f:TE}{b:St}{H:Hp}{Q:VK}(h:e b H fun x c=>∃ a,x=.ref a/\IsD c a/\ty b c fun y g=>f b g fun z d=>∃ o,DGet d a y o/\Q (o.getD z) d):tDGet2 e ty f b H Q:=h
end L2
namespace L2
open PySem PySem.Spec PyProof.Rows
theorem eqV_strD(a b:Str):eqV (.str a) (.str b)=decide (a=b):=by
 have e:eqV (.str a) (.str b)=(a==b):=by simp[eqV]
 rw[e,YA,Yu,yO]
theorem qcz:∀(ys:LS) (y:Str) (m:Nat) (b:m<ys.length),m<ys.idxOf y->ys[m]≠y
 | [],_,_,b,_=>by simp at b
 | a::r,y,m,b,h=>by
  rw[List.idxOf_cons] at h;by_cases e:a=y
  .subst e;simp at h
  .have hb:(a==y)=false:=YO.mpr e;rw[hb] at h
   cases m with
   | zero=>show e
   | succ k =>
    have c:k<r.idxOf y:=by
     have h:k+1<r.idxOf y+1:=h;lk
    show qcz r y k (by simpa using b) c
section
variable{X:Cx}{K:yg}
def rIndex(K:yg):V->List V->Hp->VK->Prop:=fun x vs H Q=>∃(p:Addr) (ys:LS) (y:Str),x=.ref p/\vs=[.str y]/\SqL K H p (ys.map V.str)/\y∈ys/\Q (.int (ys.idxOf y:Nat)) H
theorem qad(A:X.K=K):MtR X "list.index" (rIndex K):=by
 subst A;intro t s N H x vs v us Q I J G h;obtain⟨p,ys,y,rfl,rfl,B,D,q⟩:=h;cases J;obtain⟨u,rfl,E⟩:=G.one;obtain⟨a,r,pl,hz⟩:=I.list B;obtain⟨⟨cls,z,data,L⟩,o,hc,n,l⟩:=id pl.isList;simp only at hc l;subst hc l;have fs:(ys.map V.str).all zB=true:=by rw[kQ];show YG.mpr fun _ _=>rfl
 have b:(ys.map V.str).length=a.length:=r.length;rw[ya] at b;have d:ys.idxOf y<ys.length:=List.idxOf_lt_length_iff.mpr D
 have at_:∀(m:Nat) (i:m<ys.length) (c:m<a.toArray.size),eqU (.str y) a.toArray[m]=decide (ys[m]=y):=fun m i c=>by
  have g:(ys.map V.str)[m]?=some (.str ys[m]):=by rw[yd,yb i];rfl
  obtain⟨w,hw,j⟩:=r.get g
  have e:a.toArray[m]=w:=by
   have:a.toArray[m]?=some w:=by simpa using hw
   rw[Xh c] at this;show ym this
  rw[e,qd6 j rfl,eqV_strD]
 have M:ys.length<=sizeLine:=by rw[ya] at hz;show hz
 have C:sizeLine<2 ^ 63-1:=by decide
 show XG Yz ⟨_,o,rfl⟩ PySem.F.entry_list_index (PySem.F.args_list_index_2 _ _)
  (SeqAt.list_indexAt p a.toArray n z L u (eqU (.str y)) (ys.idxOf y) (by simpa [<- b] using d) (by lk) ?_ ?_) ⟨o,fun w hw=>qaj E rfl r fs w (by simpa using hw),.int _,H,I.tok _,⟨_,rfl⟩,q⟩
 .rw [at_ _ d];show yD (Yo d)
 .intro m i f;rw[at_ m (by lk)];show yl fun e=>qcz ys y m (by lk) f e
end
theorem qae(xs:List V)(k:Nat):qco xs none (some (k:Int))=xs.take k:=by
 unfold qco;rw[HT.sIx_none,HT.sIx_nat,List.drop_zero,Ka];by_cases h:k<=xs.length
 .rw [XW h]
 .rw [kG (by lk),Xy (yh _),Xy (by lk)]
theorem qcA(xs:List V)(k:Nat):qco xs (some (k:Int)) none=xs.drop k:=by
 unfold qco;rw[HT.sIx_none,HT.sIx_nat];by_cases h:k<=xs.length
 .rw [XW h,Xy (by rw[kD];lk)]
 .rw [kG (by lk),List.drop_length,List.drop_of_length_le (by lk)];simp
section
variable{X:Cx}{K:yg}
def rNotT(K:yg):R2:=fun x y H Q=>∃ p xs e n,y=.ref p/\SqT K H p xs/\n<=60/\(∀ z∈xs,EqD K H n z x (e z))/\Q (.bl (!xs.any e)) H
theorem k_notinT(d:X.K=K)(m:X.A.units+100<cLine):OpR X (compareOp .NotIn) (rNotT K):=by
 subst d;intro a s o H x y u v Q I i j h;obtain⟨p,xs,e,n,rfl,hl,l,f,q⟩:=h;cases j;obtain⟨g,r,pl,hz⟩:=I.tuple hl;obtain⟨b,h1,c⟩:=qef (A:=X.A.in1) I r i (by show X.A.units+1+n<cLine;lk) f;show SeqAt.notIn_tupleAt b pl h1 (by rw[c];show⟨.bl _,H,I,rfl,q⟩)
theorem qds:∀{ns:LX} {us:List Value},Vals (ns.map V.int) us->IntsAre us ns
 | [],_,.nil=>.nil
 | n::ns,_,.cons r t=>by
  obtain⟨tk,rfl⟩:=r;show .cons n tk (qds t)
end
end L2
namespace HT
open PySem PySem.Spec PyProof.Rows
section
variable{prog:Program}{w:World}{A:Around}{E:Value->Shared->Prop}{s:Shared}
end
end HT
namespace L2
open PySem PySem.Spec PyProof.Rows
def tStep(K:yg)(e:TE)(f:TO):TE:=fun c H Q=>e c H fun x d=>f c d fun o b=>∃ a y z,x=.ref a/\SqT K b a [y,z]/\((o=some (-1)/\∀ p,b p=none->Q (.ref p) (upd b p (.tup [z,y])))\/(o=some 1/\Q (.ref a) b))
theorem vStep{K:yg}{d:TE}{e:TO}{c:St}{H:Hp}{Q:VK}(h:d c H fun x f=>e c f fun o b=>∃ a y z,x=.ref a/\SqT K b a [y,z]/\((o=some (-1)/\∀ p,b p=none->Q (.ref p) (upd b p (.tup [z,y])))\/(o=some 1/\Q (.ref a) b))):tStep K d e c H Q:=h
section
variable{X:Cx}{K:yg}{e st:Expr}{te:TE}{ts:TO}{p2 pos:Pos}
end
def FG(K:yg)(a:Str)(st:Stmt):Prop:=∃ f b,PySem.W.nsIn K mainGlobals a=some (some (.ref f))/\Fun K a a st f b
def FM(K:yg)(C:Addr)(m b:Str)(st:Stmt):Prop:=∃ f a,PySem.W.findIn K (.ref C) m=some (some (.ref f))/\PySem.W.isFn K (.ref f)=true/\Fun K m b st f a
structure XQ(K:yg)(C:Addr):Prop where
 xa:PySem.W.findIn K (.ref C) "__getattribute__"=some (some (.builtin "BaseException.__getattribute__"))
 xb:PySem.W.findIn K (.ref C) "__getattr__"=some none
 xd:PySem.W.mroIn K C (.type "BaseException")=some true
 xe:PySem.W.mroIn K C (.type "object")=some true
 xf:PySem.W.hasDictIn K C=true
 xg:PySem.W.findIn K (.ref C) "__class__"=some (some (.builtin "object.__class__"))
 xh:PySem.W.findIn K (.ref C) "__setattr__"=some (some (.builtin "object.__setattr__"))
 p:PySem.W.keepIn K (.ref C)=true
section
variable{P:Program}{w:World}{K:yg}{mg:Str->Option Value}{base h:Heap}{CX:CXT}{k:Nat}{sp:Sp}{st:Stmt}{f:Addr}{fd:FuncData}{ps:LS}{nm m ql x:Str}{C:Addr}
theorem lN0{P:List Value->Prop}(h:P []):∀ us:List Value,us.length=0->P us:=fun us e=>by rw[List.eq_nil_of_length_eq_zero e];show h
theorem lNs{P:List Value->Prop}{n:Nat}(h:∀ a r,r.length=n->P (a::r)):∀ us:List Value,us.length=n+1->P us:=fun us e=>by
 cases us with
 |nil=>cases e
 |cons a r=>show h a r (Nat.succ.inj e)
theorem lN1{P:List Value->Prop}(h:∀ a,P [a]):∀ us:List Value,us.length=1->P us:=lNs fun a=>lN0 (h a)
theorem lN2{P:List Value->Prop}(h:∀ a b,P [a,b]):∀ us:List Value,us.length=2->P us:=lNs fun a=>lN1 (h a)
theorem lN3{P:List Value->Prop}(h:∀ a b c,P [a,b,c]):∀ us:List Value,us.length=3->P us:=lNs fun a=>lN2 (h a)
theorem lN4{P:List Value->Prop}(h:∀ a b c d,P [a,b,c,d]):∀ us:List Value,us.length=4->P us:=lNs fun a=>lN3 (h a)
theorem lN5{P:List Value->Prop}(h:∀ a b c d e,P [a,b,c,d,e]):∀ us:List Value,us.length=5->P us:=lNs fun a=>lN4 (h a)
abbrev BA(x ql:Str)(st:Stmt)(ps:LS):Prop:=∀(kV b d:Value) (c:Option Addr) (a ct:Value) (us:List Value),us.length=ps.length->bindArgs (PySem.W.fnOf x ql (qaF st) (qab st) (qh st) .none kV b d c a ct) ⟨us,[]⟩=pure (ps.zip us)
theorem fg_mk(X:K.In h)(G:h.Ns mainGlobals mg)(a:PySem.W.nsIn K mainGlobals nm=some (some (.ref f)))(F:Fun K nm nm st f fd)(o:FnOk P w K mg base CX k f fd ps sp)
  (hb:BA nm nm st ps:=by first | (show fun _ _ _ _ _ _=>lN1 fun _=>rfl) | (show fun _ _ _ _ _ _=>lN2 fun _ _=>rfl) | (show fun _ _ _ _ _ _=>lN3 fun _ _ _=>rfl) | (show fun _ _ _ _ _ _=>lN4 fun _ _ _ _=>rfl)) :
  DefOk P w K mg base CX k nm ps sp:=⟨_,_,o,PySem.W.mg_of X G a,F.kp,F.binds hb⟩
theorem fm_mk(b:Cls K C)(a:PySem.W.findIn K (.ref C) m=some (some (.ref f)))(n:PySem.W.isFn K (.ref f)=true)(F:Fun K m ql st f fd)(o:FnOk P w K mg base CX k f fd ps sp)
  (hb:BA m ql st ps:=by first | (show fun _ _ _ _ _ _=>lN1 fun _=>rfl) | (show fun _ _ _ _ _ _=>lN2 fun _ _=>rfl) | (show fun _ _ _ _ _ _=>lN3 fun _ _ _=>rfl) | (show fun _ _ _ _ _ _=>lN4 fun _ _ _ _=>rfl)) :
  MethOk P w K mg base CX k C m ps sp:=⟨⟨_,_,o,⟨a,n,F.kp⟩,F.binds hb⟩,b⟩
theorem fw_mk(X:K.In h)(G:h.Ns mainGlobals mg)(c:PySem.W.nsIn K mainGlobals x=some (some (.ref C)))(b:PySem.W.makesIn K C=true)(d:PySem.W.keepIn K (.ref C)=true)(a:PySem.W.findIn K (.ref C) "__init__"=some (some (.ref f)))(n:PySem.W.isFn K (.ref f)=true)(F:Fun K "__init__" ql st f fd)(o:FnOk P w K mg base CX k f fd ps sp)
  (hb:BA "__init__" ql st ps:=by first | (show fun _ _ _ _ _ _=>lN1 fun _=>rfl) | (show fun _ _ _ _ _ _=>lN2 fun _ _=>rfl) | (show fun _ _ _ _ _ _=>lN3 fun _ _ _=>rfl)) :
  MakeOk P w K mg base CX k C x ps sp:=⟨⟨_,_,o,⟨b,a,n,d⟩,F.binds hb⟩,PySem.W.mg_of X G c⟩
end
end L2
namespace HT
open PySem PySem.Spec PyProof.Rows
section
variable{prog:Program}{w:World}{A:Around}{E:Value->Shared->Prop}{s:Shared}
theorem assign_Tuple_list{env:Env}{b:List Expr}{x1}{d:Pos}{l:Addr}{a:Array Value}{Q:Unit->Shared->Prop}(e:A.handled=none)(hl:s.heap.IsList l a)
  (f:(assignEach b env).length=a.size) (c:(assignEach b env).findIdx? (·.1)=none)
  (h:∀ h',Heap.ExtBut s.heap.objs.size s.heap h'->wpAny (model prog w) A (assignInOrder ((assignEach b env).map (·.2)) a.toList) Q E { s with heap:=h' }) :
  wpAny (model prog w) A (assign (.Tuple b x1 d) env (.ref l)) Q E s:=by
 rw[assign_Tuple];show yr (kx ?_);unfold unpack;rw[f,c];show yr (Yk (PySem.W.kun_itemsOf e hl h))
end
end HT
namespace L2
open PySem PySem.Spec PyProof.Rows
variable{H:Hp}{R:It->Hp->Prop}{es:List Expr}{n:Nat}{pos:Pos}{te:TE}{σ:St}
def qfv(K:yg)(n:Nat)(t:TGs):TG:=fun v σ H Q=>∃ a xs,v=.ref a/\(SqT K H a xs\/SqL K H a xs)/\xs.length=n/\t xs σ H Q
theorem vAsgU{K:yg}{a:TGs}{D:Ends}(h:te σ H fun x b=>qfv K n a x σ b D.nx):qfn te (qfv K n a) D σ H:=h
section
variable{X:Cx}{K:yg}{pos p:Pos}{x:Str}
theorem pg_tupU{k:Nat}{t:TGs}(hc:X.calm=true)(h:PGs X es t)
  (g:(assignEach es X.env).length=n:=by rfl) (d:(assignEach es X.env).findIdx? (·.1)=none:=by rfl):PG X (.Tuple es k pos) (qfv X.K n t):=by
 intro c s σ H v u Q I r hw;obtain⟨a,xs,f,hq,hl,hw⟩:=hw;rcases hq with hq | hq
 .show qce hc h g d c s σ H v u Q I r ⟨a,xs,f,hq,hl,hw⟩
 .subst f;cases r;obtain⟨p,i,l,hz⟩:=I.list hq;show HT.assign_Tuple_list (I.ok.hd hc) l.isList (by simp[g,<- hl,i.length]) d fun h' m=>?_;have j:Inv X c σ H { s with heap:=h' }:=I.kept (t':=s.toks) fun b o e=>m b o (yF (yJ e)) e;show h c _ σ H xs _ Q j (by simpa using i) hw
end
section
variable{X:Cx}{K:yg}{e lo st:Expr}{te:TE}{tl ts:TO}{p2 pos:Pos}
def qgJ(K:yg)(te:TE):TI:=fun σ H R=>te σ H fun v b=>∃ a xs,v=.ref a/\SqL K b a xs/\R (Itl K a) b
theorem qf1{K:yg}(h:te σ H fun v b=>∃ a xs,v=.ref a/\SqL K b a xs/\R (Itl K a) b):qgJ K te σ H R:=h
theorem qe7{t:Expr}(j:X.K=K)(l:PE X e te):PI X t e (qgJ K te):=by
 subst j;intro c s σ H R I h;show thn (l c s σ H _ I h) fun v d ⟨y,g,f,r,a,xs,i,m,q⟩=>?_;subst i;cases r
 have fp:∀ b∈[d.heap.objs.size],qcN X c g b:=fun b hb=>by
  have e:b=d.heap.objs.size:=by simpa using hb
  subst e;show f.fpOk (yh _) (f.hok.fresh (yh _))
 obtain⟨n,u,p,hz⟩:=f.list m;show Xx p.isList ⟨d.heap.objs.size,[d.heap.objs.size],_,_,g,rfl,f.kept (t':=d.toks) fun b o e=>yv _ e,qcf a _,⟨_,yS _ rfl,rfl,rfl⟩,fp,q⟩
end
noncomputable def Itz(K:yg)(a b:Addr):It:=
 ⟨fun i H=>∃ xs ys x y,SqL K H a xs/\SqL K H b ys/\xs[i]?=some x/\ys[i]?=some y,fun i H v H'=>∃ t x y,v=.ref t/\H t=none/\H'=upd H t (.tup [x,y])/\(∀ xs,SqL K H a xs->xs[i]?=some x)/\∀ ys,SqL K H b ys->ys[i]?=some y,fun i H=>∃ xs ys,SqL K H a xs/\SqL K H b ys/\(xs.length<=i\/ys.length<=i)⟩
def tnZ(z TI TO c d a b:Addr)(i:Nat)(h:Heap):Prop:=IsZip h z TI TO .none/\IsPair h TI (.ref c) (.ref d)/\(∃ u v,IsPair h TO u v)/\h.IsListIter c a i/\h.IsListIter d b i
theorem turn_zip{P:Program}{w:World}{K:yg}{x1}(a b z TI TO n q:Addr)(D:ZipApart z TI TO n q a b):Turn P w K (.Tuple es x1 pos) (Itz K a b) [z,TI,TO,n,q] z (tnZ z TI TO n q a b) where
 mem:=by simp
 obj:=fun i h st c hc=>by
  obtain⟨hz,d,⟨u,v,g⟩,⟨o1,e1,c1,d1⟩,⟨o2,e2,c2,d2⟩⟩:=st;simp only[yA,Yj,Y6] at hc;rcases hc with rfl | rfl | rfl | rfl | rfl
  .show⟨_,hz,fun v z=>by have F:Data.fields _=Data.cell v:=z;cases F⟩
  .show⟨_,d,fun v z=>by have F:Data.seq _ _=Data.cell v:=z;cases F⟩
  .show⟨_,g,fun v z=>by have F:Data.seq _ _=Data.cell v:=z;cases F⟩
  .show⟨o1,e1,fun v z=>by rw[d1] at z;cases z⟩
  .show⟨o2,e2,fun v z=>by rw[d2] at z;cases z⟩
 keep:=fun i h h' st k=>by
  obtain⟨hz,d,⟨u,v,g⟩,h1,t⟩:=st;show⟨k z (by simp) _ hz,k TI (by simp) _ d,⟨u,v,k TO (by simp) _ g⟩,h1.at fun o x=>k n (by simp) o x,t.at fun o x=>k q (by simp) o x⟩
 item:=by
  intro X S hw R hc i l s σ H E I T st U;subst S hw R;obtain⟨hz,d,⟨u,v,g⟩,h1,t⟩:=st;obtain⟨xs,ys,x,y,J,m,hx,hy⟩:=U;obtain⟨ad,rv,p,_⟩:=I.list J;obtain⟨C,r,p2,_⟩:=I.list m;obtain⟨L,W,ag⟩:=rv.get hx;obtain⟨M,Y,ah⟩:=r.get hy;show wpAny_pyNext_zip_item D hz d g h1 t p.isList p2.isList (x:=L) (y:=M) (by simpa using W) (by simpa using Y) fun h' ab A N O hT hsz G=>?_;show⟨_,rfl,wpAny_letOwnedTupleGo_zip ab fun h3 ac j=>?_⟩;have fre:H s.heap.objs.size=none:=I.hok.fresh (yh _);have lt:∀{c o},s.heap.get? c=some o->s.heap.objs.size≠c:=fun e=>Yq (yJ e);have nz:=lt hz;have ae:=lt d;have af:=lt g;have n1:s.heap.objs.size≠n:=by obtain⟨_,e,_⟩:=h1;show lt e
  have n2:s.heap.objs.size≠q:=by obtain⟨_,e,_⟩:=t;show lt e
  have I1:Inv X l σ (upd H s.heap.objs.size (.tup [x,y])) { s with heap:=s.heap.push { cls:=.type "tuple",data:=.seq #[L,M] },toks:=s.toks }:=
   I.laid (fun b u e=>yv _ e) (yh _) ⟨by show 2<=sizeLine;decide,[L,M],.cons ag (.cons ah .nil),⟨_,yS _ rfl,rfl,_,rfl⟩⟩
  have B:∀ c∈[z,TI,TO,n,q],qcN X l (upd H s.heap.objs.size (.tup [x,y])) c:=fun c hc=>by
   obtain⟨f0,f⟩:=T c hc;show⟨?_,f⟩;rw[qf]
   .show f0
   .simp only[yA,Yj,Y6] at hc;rcases hc with rfl | rfl | rfl | rfl | rfl
    .show nz.symm
    .show ae.symm
    .show af.symm
    .show n1.symm
    .show n2.symm
  have kk:∀ c o,c∉[z,TI,TO,n,q]->(s.heap.push { cls:=.type "tuple",data:=.seq #[L,M] }).get? c=some o->h3.get? c=some o:=fun c o hc e=>by
   simp only[yA,Yj,Y6,not_or] at hc;show j.extBut _ _ hc.1 ?_;by_cases hz:c=s.heap.objs.size
   .subst hz;rw[yS _ rfl] at e;cases e;show hT
   .show G c o hc.1 hc.2.2.1 hc.2.2.2.1 hc.2.2.2.2 (push_some e hz)
  have I2:=I1.turnedL (h':=h3) (t':=s.toks) (fp:=[z,TI,TO,n,q]) kk B;show⟨.ref s.heap.objs.size,_,I2,rfl,⟨_,x,y,rfl,fre,rfl,fun ai Z=>by rw[I.list_inj Z J];show hx,fun ys' aa=>by rw[I.list_inj aa m];show hy⟩,⟨ac,?_,⟨_,_,j.extBut _ _ D.TOz A⟩,N.extBut j.extBut D.i1z,O.extBut j.extBut D.i2z⟩,fun c hc=>(B c hc).1⟩;show j.extBut _ _ D.TIz (G _ _ D.TIz D.TITO D.TIi1 D.TIi2 d)
 done:=by
  intro X S hw R hc i l s σ H E I T st U;subst S hw R;obtain⟨hz,d,⟨u,v,g⟩,h1,t⟩:=st;obtain⟨xs,ys,J,m,he⟩:=U;obtain⟨ad,rv,p,_⟩:=I.list J;obtain⟨C,r,p2,_⟩:=I.list m;have l1:=rv.length;have l2:=r.length;show wpAny_pyNext_zip_end (I.ok.hd hc) D hz d g h1 t p.isList p2.isList (he.imp (fun e=>xY (by simp;lk)) fun e=>xY (by simp;lk)) fun h' G=>⟨rfl,I.turnedL (t':=s.toks) (fp:=[z,TI,TO,n,q]) (fun c o hc e=>?_) T⟩;simp only[yA,Yj,Y6,not_or] at hc;show G c o hc.1 hc.2.2.1 hc.2.2.2.1 hc.2.2.2.2 e
 self:=fun _ _ _ _ _ st h=>kH st.1 h
theorem qdt:bootBuiltins "zip"=some (.type "zip"):=by room
def qgK(K:yg)(d:TA):TI:=fun σ H R=>d σ H fun vs c=>∃ a b xs ys,vs=[.ref a,.ref b]/\SqL K c a xs/\SqL K c b ys/\R (Itz K a b) c
theorem vZip{K:yg}{c:TA}(h:c σ H fun vs d=>∃ a b xs ys,vs=[.ref a,.ref b]/\SqL K d a xs/\SqL K d b ys/\R (Itz K a b) d):qgK K c σ H R:=h
theorem pi_zip{X:Cx}{K:yg}{a b:Expr}{y:TA}{x1}{O p:Pos}(A:X.K=K)(C:Gl X "zip")(E:X.mg "zip"=none)(B:PA X [a,b] y)(G:starEach [a,b] X.env=[(false,eval a X.env),(false,eval b X.env)]:=by rfl)(g:starEach [b] X.env=[(false,eval b X.env)]:=by rfl):PI X (.Tuple es x1 O) (.Call (.Name "zip" p) [a,b] [] pos) (qgK K y):=by
 subst A;intro i s σ H R I h;show Call_ (qa9 I C E qdt (YL (thn (B pos i s σ H _ I h) fun us f ⟨vs,z,d,M,L⟩=>?_) (by rw[G,g]) (by rw[g];rfl)));obtain⟨a,b,xs,ys,e,F,t,q⟩:=L;subst e
 cases M with
 | cons r rr =>
  cases rr with
  | cons r2 rr =>
   cases rr;cases r;cases r2;obtain⟨J,P,pl,_⟩:=d.list F;obtain⟨x,N,j,_⟩:=d.list t;have u:a<f.heap.objs.size:=by obtain⟨_,e,_⟩:=pl.isList;show yJ e
   have w:b<f.heap.objs.size:=by obtain⟨_,e,_⟩:=j.isList;show yJ e
   show call_zip_2 pl.isList j.isList fun h' hz l m n o hsz D=>kH hz ?_;show⟨_,[f.heap.objs.size+4,f.heap.objs.size+2,f.heap.objs.size+3,f.heap.objs.size,f.heap.objs.size+1],_,_,z,rfl,d.kept (t':=f.toks) D,turn_zip a b _ _ _ _ _ (PySem.W.ktu_apart _ _ _ u w),⟨hz,l,⟨_,_,m⟩,n,o⟩,fun c hc=>?_,q⟩;simp only[yA,Yj,Y6] at hc;rcases hc with rfl | rfl | rfl | rfl | rfl
   .show d.fpOk (xU _ _) (d.hok.fresh (xU _ _))
   .show d.fpOk (xU _ _) (d.hok.fresh (xU _ _))
   .show d.fpOk (xU _ _) (d.hok.fresh (xU _ _))
   .show d.fpOk (yh _) (d.hok.fresh (yh _))
   .show d.fpOk (xH _) (d.hok.fresh (xH _))
def qgL(K:yg)(te:TE)(d:TO):TE:=fun σ H Q=>te σ H fun x c=>d σ c fun o b=>o=some (-1)/\∃ a xs,x=.ref a/\SqL K b a xs/\∀ p,b p=none->Q (.ref p) (upd b p (.lst xs.reverse))
theorem qgs{K:yg}{c:TO}{Q:VK}(h:te σ H fun x d=>c σ d fun o b=>o=some (-1)/\∃ a xs,x=.ref a/\SqL K b a xs/\∀ p,b p=none->Q (.ref p) (upd b p (.lst xs.reverse))):qgL K te c σ H Q:=h
theorem qdu:∀{xs:List V} {us:List Value},Vals xs us->Vals xs.reverse us.reverse
 | _,_,.nil=>.nil
 | _,_,.cons r t=>by
  rw[List.reverse_cons,List.reverse_cons];show(qdu t).append (.cons r .nil)
section
variable{X:Cx}{K:yg}{e st:Expr}{te:TE}{ts:TO}{p2 pos:Pos}
theorem qeg(u:X.K=K)(y:PE X e te)(z:PO X (some st) ts):PE X (.Subscript e (.Slice none none (some st) p2) pos) (qgL K te ts):=by
 subst u;intro c s σ H Q I h;show Subscript_ (thn (y c s σ H _ I h) fun v G ⟨x,l,n,F,E⟩=>?_);show wpAny_Slice ?_;rw[ky];show yu ?_;show yu ?_;show thn (z c G σ l _ n E) fun j d ⟨o,m,p,pt,t,a,xs,ex,B,q⟩=>?_;subst t ex;cases F;have f:Inv X c σ m { d with heap:=d.heap.push { cls:=.type "slice",data:=.fields #[.none,.none,j] } }:=p.kept (t':=d.toks) fun b D q=>yv _ q;obtain⟨C,r,i,hz⟩:=f.list B;have g:=r.length;show wpAny (model X.prog X.w) X.A (subscriptTail e (.Slice none none (some st) p2) (.ref a) (.ref d.heap.objs.size)) (EP X c σ Q) X.xe { d with heap:=d.heap.push { cls:=.type "slice",data:=.fields #[.none,.none,j] } };show tail_any (ops:=[.ref a,.ref d.heap.objs.size]) i.isList.typeIs ki.lookup (wpAny_getItem_list_slice i.isList (X9 ..) .none .none pt (by decide) ?_ (by rw[yw]<;>lk)) (by with_unfolding_all rfl);rw[PySem.W.krv_pick];show⟨.ref _,_,f.laid (t':=d.toks) (o:=.lst xs.reverse) (fun b D q=>yv _ q) (yh _) ?_,rfl,q _ (f.hok.fresh (yh _))⟩;show⟨by rw[Yt];show hz,_,0,qdu r,yS _ rfl⟩
end
section
variable{X:Cx}{a:Expr}{ta:TA}{p p2 pos pos2:Pos}
end
end L2
namespace L2
structure Sb(V:Nat->Prop):Prop where
 z:V 0
 a:∀ x y,V x->V y->V (x ^^^ y)
def jn(V:Nat->Prop)(x:Nat):Nat->Prop:=fun y=>V y\/V (y ^^^ x)
def Spn:LN->Nat->Prop
 | []=>fun y=>y=0
 | a::L=>jn (Spn L) a
open Classical in
def Bnd(b n v:Nat):Prop:=∀ i,v.testBit i=true->b<=i/\i<b+n
open Classical in
noncomputable def swp:Nat->Nat->LN->Nat
 | 0,_,_=>0
 | n+1,b,L=>match L.filter (fun v=>v.testBit b) with
  | []=>swp n (b+1) L
  | p::t=>1+swp n (b+1) (L.filter (fun v=>!v.testBit b)++t.map fun v=>v ^^^ p)
open Classical in
noncomputable def rk(L:LN):Nat:=swp 30 0 L
open Classical in
noncomputable def les:Nat×Nat->List (Nat×Nat)->Nat×Nat
 | s,[]=>s
 | s,o::os=>if s.1 ^^^ o.1<s.1 then les (s.1 ^^^ o.1,s.2 ^^^ o.2) os else les s os
structure Ech(os:List (Nat×Nat)):Prop where
 nz:∀ o∈os,o.1≠0
 pw:os.Pairwise fun a b=>b.1.testBit a.1.log2=false
noncomputable def csm:LN->Nat->Nat->Nat
 | [],_,_=>0
 | a::L,k,c=>(if c.testBit k then a else 0) ^^^ csm L (k+1) c
noncomputable def stp(st:List (Nat×Nat))(n v:Nat):List (Nat×Nat):=if (les (v,1 <<< n) st).1=0 then st else st++[les (v,1 <<< n) st]
structure Stp(L:LN)(n:Nat)(st:List (Nat×Nat)):Prop where
 ech:Ech st
 sum:∀ o∈st,csm L 0 o.2=o.1
 low:∀ o∈st,o.2<2 ^ n
 lt:∀ o∈st,o.1<2 ^ 30
 spn:∀ v,Spn (st.map (·.1)) v↔Spn (L.take n) v
 free:st.map (fun o=>o.2.log2)=(List.range n).filter fun i=>decide (rk (L.take i)<rk (L.take (i+1)))
 len:st.length<=n
end L2
namespace L2
open PySem PySem.Spec PyProof.Rows
variable{i j:Nat}
section
variable{X:Cx}
end
def Fl:V->Prop
 | .non=>True
 | .bl _=>True
 | .int i=>-999999999999<=i/\i<=999999999999
 | _=>False
noncomputable def fD:V->PyData
 | .non=>.none
 | .bl b=>.bool b
 | .int i=>.int i
 | .str x=>.str x
 | _=>.none
def FlS(xs:List V):Prop:=xs.length<=1000/\∀ x∈xs,Fl x
def ShwT(H:Hp)(v:V)(t:Str):Prop:=match v with
 | .non=>t="None"
 | .bl b=>t=if b then Str.ofString "True" else Str.ofString "False"
 | .int i=>i.natAbs.log2<1920/\t=toString i
 | .str x=>(reprText x).length<=sizeLine/\t=reprText x
 | .ref p=>(∃ xs,H p=some (.lst xs)/\FlS xs/\t=(PyData.list (xs.map fD)).shown)\/∃ xs,H p=some (.tup xs)/\FlS xs/\t=(PyData.tuple (xs.map fD)).shown
 | _=>False
section
variable{X:Cx}{K:yg}
end
theorem qe8{b n:Nat}{K:yg}(o:i<b:=by decide)(p:j<b:=by decide):qdS b (qge K n (qfm (qbU i) (qfm (qbU j) qgy))):=by
 intro x t H Q ⟨a,xs,e,h,g,v,r,c,m,l,d,q⟩;obtain⟨f,q⟩:=q;show⟨a,xs,e,h,g,v,r,c,m,l,d,f,q,?_,fun k s=>?_⟩
 .rw [XS,XS]
 .rw [xG (by lk),xG (by lk)]
section
variable{K:yg}{a:Addr}{xs:List V}{g:TG}{tc:TT}{te:TE}{σ':St}{H1:Hp}{Q:V->Hp->Prop}
end
section
variable{K:yg}{a b:Addr}{xs ys:List V}{g:TG}{tc:TT}{te:TE}{σ':St}{H1:Hp}{Q:V->Hp->Prop}
theorem comp_zip(E:ys.length<=xs.length)(d:Nat->List V->Hp->Prop)(s:d 0 [] H1)(hl:∀ i c H,i<=ys.length->d i c H->SqL K H a xs/\SqL K H b ys)
  (A:∀ i x y t c H,xs[i]?=some x->ys[i]?=some y->H t=none->d i c H->g (.ref t) σ' (upd H t (.tup [x,y])) fun h o=>tc h o fun b n=>if b=true then te h n fun v r=>c.length<sizeLine/\d (i+1) (c++[v]) r else d (i+1) c n)
  (w:∀ c H,d ys.length c H->c.length<=sizeLine/\∀ p,H p=none->Q (.ref p) (upd H p (.lst c))):qd9 (Itz K a b) g tc te σ' H1 Q:=by
 show⟨fun i m c H=>m=ys.length-i/\i<=ys.length/\d i c H,⟨ys.length,by simp,YQ _,s⟩,?_⟩;rintro i m c H ⟨rfl,z,p⟩;obtain⟨q,l⟩:=hl i c H z p;by_cases f:i<ys.length
 .have j:i<xs.length:=by lk
  show .inr ⟨⟨xs,ys,xs[i],ys[i],q,l,by simp[j],by simp[f]⟩,d (i+1),fun ys' H' C=>⟨ys.length-(i+1),by lk,rfl,f,C⟩,fun x H' y=>?_⟩;obtain⟨t,v,u,rfl,B,rfl,y,D⟩:=y;show A i v u t c _ (y xs q) (D ys l) B p
 .have e:i=ys.length:=by lk
  subst e;show .inl ⟨⟨xs,ys,q,l,.inr (yh _)⟩,w c H p⟩
end
section
variable{X:Cx}{K:yg}
end
section
variable{X:Cx}{K:yg}{e st:Expr}{te:TE}{ts:TO}{p2 pos:Pos}
end
mutual
inductive Dat(H:Hp):V->PyData->Prop
 | non:Dat H .non .none
 | bl (b:Bool):Dat H (.bl b) (.bool b)
 | int (i:Int):Dat H (.int i) (.int i)
 | str (x:Str):Dat H (.str x) (.str x)
 | lst {a:Addr} {xs:List V} {ds:List PyData}:H a=some (.lst xs)->DatS H xs ds->Dat H (.ref a) (.list ds)
 | tup {a:Addr} {xs:List V} {ds:List PyData}:H a=some (.tup xs)->DatS H xs ds->Dat H (.ref a) (.tuple ds)
 | dnil {a:Addr}:H a=some (.dK [])->Dat H (.ref a) (.dict [])
inductive DatS(H:Hp):List V->List PyData->Prop
 | nil:DatS H [] []
 | cons {v:V} {vs:List V} {d:PyData} {ds:List PyData}:Dat H v d->DatS H vs ds->DatS H (v::vs) (d::ds)
end
structure Shw(d:PyData)(n m:Nat):Prop where
 s:d.showable=true
 l:d.leavesShort 13=true
 b:d.bulk<=n
 p:d.depth<=m
structure ShwS(ds:List PyData)(n m:Nat):Prop where
 s:PyData.showableAll ds=true
 l:PyData.leavesShortAll 13 ds=true
 b:PyData.bulkAll ds<=n
 p:PyData.depthAll ds<=m
section
variable{X:Cx}{K:yg}{pins:List (Addr×Obj)}{σ:List (Option V)}{H:Hp}{s:Shared}
end
theorem qdv{f:Str×NameKind->Str×NameKind}(a:∀ y,(f y).1=y.1)(b:∀ y,(f y).2=y.2\/(f y).2=.cell):∀{ns:List (Str×NameKind)} {x:Str},(ns.lookup x=some .cell\/ns.lookup x=some .free)->((ns.map f).lookup x=some .cell\/(ns.map f).lookup x=some .free)
 | [],x,h=>by simp at h
 | y::r,x,h=>by
  have e:((y::r).map f)=((f y).1,(f y).2)::r.map f:=rfl;have c:y::r=(y.1,y.2)::r:=rfl;rw[c,Y7] at h;rw[e,Y7,a y]
  cases hb:x==y.1 with
  | false=>rw[hb] at h;show qdv a b h
  | true =>
   rw[hb] at h;rcases b y with z | z
   .rw [z];show h
   .rw [z];show .inl rfl
theorem compB_re{sc scope:Scope}{env:Env}(h:qcv sc scope=true):qcv (relabel sc env) scope=true:=by
 unfold qcv at h ⊢;rw[yY] at h ⊢;show⟨h.1,YG.mpr fun y b=>?_⟩;have:=YG.mp h.2 y b
 cases a:y.2 with
 | free =>
  rw[a] at this;simp only[yY,kW,Yu] at this ⊢;show⟨?_,this.2⟩;show qdv (fun y=>by dsimp only;split<;>rfl) (fun y=>by dsimp only;split<;>simp) this.1
 | _=>rw[a] at this;first | done | show this | cases this
section
variable{X:Cx}{tg elt iter:Expr}{ifs:List Expr}{scope sc1:Scope}{pos:Pos}{N N1:LS}{nl:Nat}{ixs:LN}{wi:TI}{g:TG}{tc:TT}{te:TE}{C1:Addr}{s1:Shared}{H1:Hp}{ex1:LQ}
theorem pe_compIn(N:LS)(nl:Nat)(ixs:LN)(hc:X.calm=true)(d:qcv sc1 scope=true)(f:N.length=nl+ixs.length)(a:qgh nl ixs N N1 scope.names=true)
  (j:PI (X.comp N1 sc1 C1 s1 H1 ex1) tg iter wi) (i:∀ C c b ex,PG ((X.comp N1 sc1 C1 s1 H1 ex1).comp N scope C c b ex) tg g) (e:qdS nl g) (m:∀ C c b ex,qfC ((X.comp N1 sc1 C1 s1 H1 ex1).comp N scope C c b ex) ifs tc) (h:∀ C c b ex,PE ((X.comp N1 sc1 C1 s1 H1 ex1).comp N scope C c b ex) elt te)
  (l:∀ x,foldedSetIterable iter (X.comp N1 sc1 C1 s1 H1 ex1).env x=pure x:=by intro _;rfl):PE (X.comp N1 sc1 C1 s1 H1 ex1) (.ListComp elt [⟨tg,iter,ifs,0⟩] scope pos) (qeS wi g tc te nl ixs):=
 jh (sc:=relabel sc1 X.env) (XN:=N1) N nl ixs rfl rfl hc (compB_re d) f a j i e m h l
end
section
variable{X:Cx}{K:yg}
theorem qcB{e ty:TE}{b:St}{H:Hp}{Q:VK}(h:e b H fun x c=>∃ a,x=.ref a/\IsD c a/\ty b c fun y d=>∃ o,DGet d a y o/\Q (o.getD .non) d):qe2 e ty b H Q:=h
end
noncomputable abbrev Cx.soft(X:Cx):Cx:={ X with calm:=false }
structure RoomW(k:Nat)(A:Around):Prop where
 dp:A.depth+3*k+5<recursionLimit
 un:A.units+16*k+200<cLine
 gd:A.guards=some []
theorem RoomW.deeper{k:Nat}{A:Around}(r:RoomW (k+1) A)(env:Env):RoomW k (A.deeper env):=
 ⟨by have:=r.dp;show A.depth+1+3*k+5<_;lk,by have:=r.un;show A.units+3+16*k+200<_;lk,r.gd⟩
theorem Room.soft{j k:Nat}{A:Around}{h:Option Value}(r:Room k A)(l:j<=k):RoomW j (A.mark h):=⟨by have:=r.dp;show A.depth+3*j+5<_;lk,by have:=r.un;show A.units+16*j+200<_;lk,r.gd⟩
structure FnOkW(P:Program)(w:World)(K:yg)(mg:Str->Option Value)(base:Heap)(k:Nat)(f:Addr)(fd:FuncData)(ps:LS)(sp:Sp):Prop where
 len:∀ vs H Q E,sp vs H Q E->vs.length=ps.length
 run:∀(A:Around) (outer:List Env) (s:Shared) (H:Hp) (args:Args) (us:List Value) (vs:List V) (Q:VK) (E:XK),RoomW k A->Env0 P w K mg base A outer s H->BindsTo s fd args (ps.zip us)->Vals vs us->sp vs H Q E ->
  codeAny (model P w) A (.call (.ref f) args) (CR CX0 outer P w H s Q E) s
structure DefOkW(P:Program)(w:World)(K:yg)(mg:Str->Option Value)(base:Heap)(k:Nat)(x:Str)(ps:LS)(sp:Sp):Prop where
 ex:∃ f fd,FnOkW P w K mg base k f fd ps sp/\mg x=some (.ref f)/\PySem.W.keepIn K (.ref f)=true/\Binds K fd ps []
section
variable{X:Cx}{k:Nat}{f C:Addr}{fd:FuncData}{ps:LS}{sp:Sp}{x m:Str}{p pos apos:Pos}{e o:Expr}{es:List Expr}{ta:TE}{t:TA}
end
section
variable{P:Program}{w:World}{K:yg}{mg:Str->Option Value}{base:Heap}
end
theorem Inv.laidM{X:Cx}{a:List (Addr×Obj)}{d:St}{H H':Hp}{s:Shared}{h':Heap}{t':Nat}(I:Inv X a d H s)(k:∀ b u,s.heap.get? b=some u->h'.get? b=some u)
  (old:∀ b,b<s.heap.objs.size->H' b=H b) (new:∀ b u,s.heap.objs.size<=b->H' b=some u->ObjOk X.prog X.w H' h' b u):Inv X a d H' { s with heap:=h',toks:=t' }:=by
 have lt:∀ b u,H b=some u->b<s.heap.objs.size:=fun b u e=>kI fun z=>by rw[I.hok.fresh z] at e;cases e
 have up:∀ b u,H b=some u->H' b=some u:=fun b u e=>(old b (lt b u e)).trans e;show I.step (g':=s.gens) (d':=s.drawn) (ch:=[]) (fun b hb=>by simp at hb) (fun b o _ _ _ e _=>k b o e) (fun b o _ _ _ e _=>⟨o.slots,k b o e⟩) (fun b o _ e n=>(old b (yJ e)).trans n)
  (fun b o _ e=>⟨o,k b o e⟩) (fun b xs e=>up b _ e) (fun b _ _ e=>up b _ e) (fun b ps e=>⟨#[],by rw[up b _ e];simp⟩) (fun m ⟨o,f,ep,g,r⟩=>⟨o,f,ep,k _ o g,r⟩) (fun b u e=>?_) I.bare
 by_cases hb:s.heap.objs.size<=b
 .show new b u hb e
 .rw [old b (kI hb)] at e;show(I.hok b u e).stay (fun c v _ q=>k c v q) (fun c q=>up c _ q) fun c xs q=>up c _ q
section
variable{prog:Program}{w:World}{A:Around}{E:Value->Shared->Prop}{s:Shared}
theorem alive_{a:Addr}{Q:Option Obj->Shared->Prop}(h:Q (s.heap.get? a) s):wpAny (model prog w) A (loadIfAlive a) Q E s:=fun b p _=>by
 show Sem.wp _ _ (.loadIfAlive a .pure) _ _ _ _;rw[Sem.wp_loadIfAlive];simpa using h
abbrev qfF(h:Heap)(z TI TO:Addr)(b:Value)(a:Bool):Prop:=h.get? z=some { cls:=.type "zip",dict:=none,data:=.fields #[b,.bool a,.bool false,.ref TI,.ref TO],slots:=#[] }
theorem qf2{z TI TO T:Addr}{a:Bool}{f:Obj}{Q:Bool->Shared->Prop}(hz:qfF s.heap z TI TO (rawInt T) a)(d:s.heap.get? T=some f)
  (b:∀ h',qfF h' z TI TO (rawInt T) true->Heap.SameBut z s.heap h'->Q false { s with heap:=h' }):wpAny (model prog w) A (Builtin.SmallTypes.ownedTupleIsFree (.ref z)) Q E s:=by
 unfold Builtin.SmallTypes.ownedTupleIsFree;show yr (xm hz rfl (x:=rawInt T) rfl ?_);show wpAny _ _ (loadIfAlive T>>=_) _ _ _;show yr (alive_ ?_);rw[d];show wpAny _ _ (field (.ref z) 1>>=_) _ _ _;show yr (xm hz rfl (x:=.bool a) rfl ?_)
 cases a with
 | true=>show yu (b _ hz ⟨rfl,fun _ _=>rfl⟩)
 | false =>
  show wpAny _ _ (setField (.ref z) 1 (.bool true)>>=_) _ _ _;show yr (wpAny_setField_rec hz (by simp) fun h1 c e=>yu (b h1 c e))
theorem znx{z TI TO d f a b T:Addr}{F:Bool}{M:Obj}{r t:Nat}{xs ys:Array Value}{x y:Value}{Q:Value->Shared->Prop}(D:ZipApart z TI TO d f a b)
  (hz:qfF s.heap z TI TO (rawInt T) F) (I:s.heap.get? T=some M) (n:IsPair s.heap TI (.ref d) (.ref f))
  (h1:s.heap.IsListIter d a r) (G:s.heap.IsListIter f b t) (p:s.heap.IsList a xs) (q:s.heap.IsList b ys) (J:xs[r]?=some x) (K:ys[t]?=some y)
  (H:∀ h',qfF h' z TI TO (rawInt T) true->h'.IsListIter d a (r+1)->h'.IsListIter f b (t+1)->IsPair h' s.heap.objs.size x y->h'.objs.size=s.heap.objs.size+1 ->
   (∀ c o,c≠z->c≠d->c≠f->s.heap.get? c=some o->h'.get? c=some o)->Q (.ref s.heap.objs.size) { s with heap:=h' }) :
  wpAny (model prog w) A (Builtin.«zip.__next__» ⟨[.ref z],[]⟩) (fun l P=>∃ v,l=.done (.ret v)/\Q v P) E s:=by
 show wpAny _ _ (field (.ref z) 2>>=_) _ _ _;show yr <| xm hz rfl (x:=.bool false) rfl ?_;show wpAny _ _ (field (.ref z) 3>>=_) _ _ _;show yr <| xm hz rfl (x:=.ref TI) rfl ?_;show yr <| wpAny_seqItems n rfl ?_;show wpAny _ _ (Builtin.SmallTypes.ownedTupleIsFree _>>=_) _ _ _;show yr <| qf2 hz I fun S R g=>?_;simp only[Yx,xA];show yr ?_;rw[<- Array.forIn_toList];simp only[kU,kY];show yr (yr (Yk ?_));show wpAny _ _ (Builtin.SmallTypes.nextOf (.ref d)>>=_) _ _ _;show yr <| Xz (h1.extBut g.extBut D.i1z) (p.extBut g.extBut D.l1z) J fun U N h=>yu (yu ?_);show yr (yr (Yk ?_));show wpAny _ _ (Builtin.SmallTypes.nextOf (.ref f)>>=_) _ _ _;show yr <| Xz ((G.extBut g.extBut D.i2z).extBut h.extBut D.i12.symm) ((q.extBut g.extBut D.l2z).extBut h.extBut D.l2i1) K fun m O i=>yu (yu (yu ?_));show yr (wpAny_newTuple (yu ⟨_,rfl,?_⟩) (by show 2<=sizeLine;decide));have j:m.objs.size=s.heap.objs.size:=by rw[i.1,h.1,g.1]
 have L:∀ c o,c≠z->c≠d->c≠f->s.heap.get? c=some o->m.get? c=some o:=fun c o u B C e=>i.extBut _ _ C (h.extBut _ _ B (g.extBut _ _ u e));rw[show(Value.ref m.objs.size)=.ref s.heap.objs.size by rw[j]];show H _ (yv _ (i.extBut _ _ D.i2z.symm (h.extBut _ _ D.i1z.symm R))) ((N.extBut i.extBut D.i12).at fun o e=>yv _ e) (O.at fun o e=>yv _ e) ?_ (by rw[Y0,j]) fun c o u B C e=>yv _ (L c o u B C e);rw[<- j];show yS _ rfl
theorem zne{z TI TO h i a b T:Addr}{G:Bool}{M:Obj}{r t:Nat}{xs ys:Array Value}{Q:Fin->Shared->Prop}(F:A.handled=none)(D:ZipApart z TI TO h i a b)
  (hz:qfF s.heap z TI TO (rawInt T) G) (J:s.heap.get? T=some M) (l:IsPair s.heap TI (.ref h) (.ref i))
  (h1:s.heap.IsListIter h a r) (I:s.heap.IsListIter i b t) (g:s.heap.IsList a xs) (n:s.heap.IsList b ys) (f:xs[r]?=none\/ys[t]?=none)
  (C:∀ h' e,(∀ c o,c≠z->c≠h->c≠i->s.heap.get? c=some o->h'.get? c=some o)->(∃ o,h'.get? e=some o/\o.cls=.type "StopIteration")->E (.ref e) { s with heap:=h' }) :
  wpAny (model prog w) A (Builtin.«zip.__next__» ⟨[.ref z],[]⟩) Q E s:=by
 show wpAny _ _ (field (.ref z) 2>>=_) _ _ _;show yr <| xm hz rfl (x:=.bool false) rfl ?_;show wpAny _ _ (field (.ref z) 3>>=_) _ _ _;show yr <| xm hz rfl (x:=.ref TI) rfl ?_;show yr <| wpAny_seqItems l rfl ?_;show wpAny _ _ (Builtin.SmallTypes.ownedTupleIsFree _>>=_) _ _ _;show yr <| qf2 hz J fun O R d=>?_;simp only[Yx,xA];show yr ?_;rw[<- Array.forIn_toList];simp only[kU,kY];show yr (yr (Yk ?_));show wpAny _ _ (Builtin.SmallTypes.nextOf (.ref h)>>=_) _ _ _
 cases p:xs[r]? with
 | none=>show yr <| wpAny_nextOf_list_end F (h1.extBut d.extBut D.i1z) (g.extBut d.extBut D.l1z) p fun B e j m=>C B e (fun c o u y _ q=>j _ _ y (d.extBut _ _ u q)) m
 | some x =>
  have K:ys[t]?=none:=f.elim (fun z=>by rw[p] at z;cases z) id;show yr <| Xz (h1.extBut d.extBut D.i1z) (g.extBut d.extBut D.l1z) p fun B P j=>yu (yu ?_);show yr (yr (Yk ?_));show wpAny _ _ (Builtin.SmallTypes.nextOf (.ref i)>>=_) _ _ _;show yr <| wpAny_nextOf_list_end F ((I.extBut d.extBut D.i2z).extBut j.extBut D.i12.symm) ((n.extBut d.extBut D.l2z).extBut j.extBut D.l2i1) K fun H e N m=>C H e (fun c o u y L q=>N _ _ L (j.extBut _ _ y (d.extBut _ _ u q))) m
def ZAt(z TI TO N:Nat)(h:Heap):Prop:=IsZip h z TI TO .none\/∃ T a o,N<=T/\qfF h z TI TO (rawInt (T:Nat)) a/\h.get? T=some o
theorem ZAt.typ{z TI TO N:Nat}(h:ZAt z TI TO N s.heap):s.TypeIs (.ref z) "zip":=by
 rcases h with e | ⟨_,_,_,_,e,_⟩<;>show⟨_,e,rfl⟩
theorem znx_any{z TI TO h i a b N:Addr}{G H:Nat}{xs ys:Array Value}{x y:Value}{Q:Option Value->Shared->Prop}(D:ZipApart z TI TO h i a b)(O:N<=s.heap.objs.size)
  (hz:ZAt z TI TO N s.heap) (l:IsPair s.heap TI (.ref h) (.ref i)) (d:∃ u v,IsPair s.heap TO u v)
  (h1:s.heap.IsListIter h a G) (I:s.heap.IsListIter i b H) (m:s.heap.IsList a xs) (n:s.heap.IsList b ys) (K:xs[G]?=some x) (L:ys[H]?=some y) (f:z<N/\h<N/\i<N)
  (J:∀ h',ZAt z TI TO N h'->(∃ u v,IsPair h' TO u v)->h'.IsListIter h a (G+1)->h'.IsListIter i b (H+1)->IsPair h' s.heap.objs.size x y->h'.objs.size=s.heap.objs.size+1 ->
   (∀ c o,c≠z->c≠TO->c≠h->c≠i->s.heap.get? c=some o->h'.get? c=some o)->Q (some (.ref s.heap.objs.size)) { s with heap:=h' }) :
  wpAny (model prog w) A (pyNext (.ref z)) Q E s:=by
 obtain⟨u,v,d⟩:=d;have typ:=hz.typ;rcases hz with hz | ⟨T,b1,o,hT,hz,ho⟩
 .show wpAny_pyNext_zip_item D hz l d h1 I m n K L fun g r M t B p C j=>J g (.inr ⟨s.heap.objs.size,false,_,O,r,p⟩) ⟨_,_,M⟩ t B p C j
 .unfold pyNext;show yr (kA (xS (name:=Str.ofString "__next__") typ XX (xx XX typ F.entry_zip_next (znx D hz ho l h1 I m n K L fun g r t B p C j=>yu ?_) (F.args_zip_next_1 _))));show J g (.inr ⟨T,true,o,hT,r,j _ _ (Yq (yj f.1 hT)) (Yq (yj f.2.1 hT)) (Yq (yj f.2.2 hT)) ho⟩) ⟨_,_,j _ _ D.TOz D.TOi1 D.TOi2 d⟩ t B p C fun c q P _ R S e=>j c q P R S e
theorem zne_any{z TI TO l m a b N:Addr}{t x:Nat}{xs ys:Array Value}{Q:Option Value->Shared->Prop}(r:A.handled=none)(D:ZipApart z TI TO l m a b)
  (hz:ZAt z TI TO N s.heap) (h:IsPair s.heap TI (.ref l) (.ref m)) (f:∃ u v,IsPair s.heap TO u v)
  (h1:s.heap.IsListIter l a t) (n:s.heap.IsListIter m b x) (i:s.heap.IsList a xs) (j:s.heap.IsList b ys) (d:xs[t]?=none\/ys[x]?=none)
  (p:∀ h',(∀ c o,c≠z->c≠TO->c≠l->c≠m->s.heap.get? c=some o->h'.get? c=some o)->Q none { s with heap:=h' }):wpAny (model prog w) A (pyNext (.ref z)) Q E s:=by
 obtain⟨u,v,f⟩:=f;have typ:=hz.typ;rcases hz with hz | ⟨T,b1,o,hT,hz,ho⟩
 .show wpAny_pyNext_zip_end r D hz h f h1 n i j d p
 .unfold pyNext;show yr (kA (xS (name:=Str.ofString "__next__") typ XX (xx XX typ F.entry_zip_next (zne r D hz ho h h1 n i j d fun g e k y=>?_) (F.args_zip_next_1 _))));obtain⟨q,B,hc⟩:=y;show yr (wpAny_isInstance (T:="StopIteration") (b:=true) ⟨q,B,hc⟩ isSubtype_stop ?_);show yu (p _ fun c o C _ G H e=>k c o C G H e)
end
structure LZ(z TI TO i1 i2 a b S N:Nat)(xs ys:Array Value)(h0:Heap)(i:Nat)(acc:Array Value)(c:Nat)(h:Heap):Prop where
 zp:ZAt z TI TO N h
 ti:IsPair h TI (.ref i1) (.ref i2)
 tO:∃ u v,IsPair h TO u v
 j1:h.IsListIter i1 a i
 j2:h.IsListIter i2 b i
 la:h.IsList a xs
 lb:h.IsList b ys
 ls:h.get? S=some { cls:=.type "list",dict:=none,data:=.seq acc c,slots:=#[] }
 sz:N<=h.objs.size
 len:acc.size=i
 its:∀(j:Nat) v,acc[j]?=some v->∃ t x y,v=.ref t/\N<=t/\IsPair h t x y/\xs[j]?=some x/\ys[j]?=some y
 nd:∀(j k:Nat) v,acc[j]?=some v->acc[k]?=some v->j=k
 kp:∀ q o,q<N->q≠z->q≠TO->q≠i1->q≠i2->q≠S->h0.get? q=some o->h.get? q=some o
structure LE(z TO i1 i2 S N:Nat)(xs ys:Array Value)(h0:Heap)(n:Nat)(acc:Array Value)(c:Nat)(h:Heap):Prop where
 ls:h.get? S=some { cls:=.type "list",dict:=none,data:=.seq acc c,slots:=#[] }
 len:acc.size=n
 its:∀(j:Nat) v,acc[j]?=some v->∃ t x y,v=.ref t/\N<=t/\IsPair h t x y/\xs[j]?=some x/\ys[j]?=some y
 nd:∀(j k:Nat) v,acc[j]?=some v->acc[k]?=some v->j=k
 kp:∀ q o,q<N->q≠z->q≠TO->q≠i1->q≠i2->q≠S->h0.get? q=some o->h.get? q=some o
structure LA(z TI TO i1 i2 a b S N:Nat):Prop where
 D:ZipApart z TI TO i1 i2 a b
 lt:z<S/\TI<S/\TO<S/\i1<S/\i2<S/\a<S/\b<S
 S:S<N
theorem LZ.at{z TI TO g l a b S N:Nat}{xs ys:Array Value}{w h h':Heap}{i c r:Nat}{acc d:Array Value}(L:LA z TI TO g l a b S N)(x:LZ z TI TO g l a b S N xs ys w i acc c h)
  (k:Heap.SameBut S h h') (R:h'.get? S=some { cls:=.type "list",dict:=none,data:=.seq d r,slots:=#[] }) (len:d.size=i) (m:∀(j:Nat) v,d[j]?=some v->∃ t x y,v=.ref t/\N<=t/\IsPair h t x y/\xs[j]?=some x/\ys[j]?=some y) (nd:∀(j k:Nat) v,d[j]?=some v->d[k]?=some v->j=k):LZ z TI TO g l a b S N xs ys w i d r h':=by
 obtain⟨l1,l2,J,K,M,O,P⟩:=L.lt;have A:=L.S;have f:∀{q o},q≠S->h.get? q=some o->h'.get? q=some o:=fun n e=>k.extBut _ _ n e;show⟨?_,f (yF l2) x.ti,?_,x.j1.at fun o e=>f (yF K) e,x.j2.at fun o e=>f (yF M) e,x.la.extBut k.extBut (yF O),x.lb.extBut k.extBut (yF P),R,by rw[k.1];show x.sz,len,fun j v e=>?_,nd,fun q o B C D E F p e=>f p (x.kp q o B C D E F p e)⟩
 .rcases x.zp with e | ⟨T,b1,o,hT,e,eo⟩
  .show .inl (f (yF l1) e)
  .show .inr ⟨T,b1,o,hT,f (yF l1) e,f (Yq (yj A hT)) eo⟩
 .obtain⟨u,v,e⟩:=x.tO;show⟨u,v,f (yF J) e⟩
 .obtain⟨t,u,v,G,s,H,I⟩:=m j v e;show⟨t,u,v,G,s,f (Yq (yj A s)) H,I⟩
section
variable{prog:Program}{w:World}{A:Around}{R:Result->Shared->Prop}{z TI TO i1 i2 a b S N:Nat}{xs ys:Array Value}{h0:Heap}
theorem zloop(hh:A.handled=none)(L:LA z TI TO i1 i2 a b S N)(hn:min xs.size ys.size<=2 ^ 24)(res:Value):∀(k i:Nat) (s:Shared) (acc:Array Value) (c:Nat),min xs.size ys.size-i=k->i<=min xs.size ys.size->LZ z TI TO i1 i2 a b S N xs ys h0 i acc c s.heap ->
  (∀ h' M O,LE z TO i1 i2 S N xs ys h0 (min xs.size ys.size) M O h'->R (.ok (.ret res)) { s with heap:=h' })->codeAny (model prog w) A (.builtin "list.extend.loop" ⟨[.ref S,.ref z,res],[]⟩) R s:=by
 have C:=L.S;obtain⟨l1,l2,U,E,G,l6,l7⟩:=L.lt;have p:∀{t q:Nat},N<=t->q<S->t≠q:=fun h1 h2=>by lk
 intro k
 induction k with
 | zero =>
  intro i s acc c hk hi x hR;show codeAny_builtin F.entry_extend_loop ?_;rw[Around.under_plainId Xj _];show wpAny _ A.in1 (pyNext _>>=_) _ _ s
  have he:xs[i]?=none\/ys[i]?=none:=by
   rcases Kb xs.size ys.size with q | q
   .show .inl (xY (by lk))
   .show .inr (xY (by lk))
  show yr (zne_any hh L.D x.zp x.ti x.tO x.j1 x.j2 x.la x.lb he fun h' l=>yu (hR h' acc c ⟨?_,by rw[x.len];lk,fun j v e=>?_,x.nd,fun q o H y I J K X e=>l q o y I J K (x.kp q o H y I J K X e)⟩))
  .show l S _ (Yq l1) (Yq U) (Yq E) (Yq G) x.ls
  .obtain⟨t,u,v,m,g,e3,e4⟩:=x.its j v e;show⟨t,u,v,m,g,l t _ (p g l1) (p g U) (p g E) (p g G) e3,e4⟩
 | succ k ih =>
  intro i s acc c hk hi x hR;show codeAny_builtin F.entry_extend_loop ?_;rw[Around.under_plainId Xj _];show wpAny _ A.in1 (pyNext _>>=_) _ _ s;obtain⟨u,hu⟩:∃ u,xs[i]?=some u:=⟨_,Xh (by lk)⟩;obtain⟨v,hv⟩:∃ v,ys[i]?=some v:=⟨_,Xh (by lk)⟩;show yr (znx_any L.D x.sz x.zp x.ti x.tO x.j1 x.j2 x.la x.lb hu hv ⟨kP l1 C,kP E C,kP G C⟩ fun h1 z1 ab m g eP Z l=>?_);have P:=l S _ (Yq l1) (Yq U) (Yq E) (Yq G) x.ls;show wpAny _ A.in1 (updateSeq S (·.push (.ref s.heap.objs.size))>>=_) _ _ _;have f:=x.len;have hN:=x.sz
  have W:∀ j:Nat,acc[j]?≠some (.ref s.heap.objs.size):=fun j e=>by
   obtain⟨t,Y,w',q1,B,q3,_⟩:=x.its j _ e;cases q1;show absurd (yJ q3) (Yv _)
  have aa:∀(j k:Nat) r,(acc.push (.ref s.heap.objs.size))[j]?=some r->(acc.push (.ref s.heap.objs.size))[k]?=some r->j=k:=fun j k r m g=>by
   rw[Array.getElem?_push] at m g;split at m<;>split at g
   .rename_i H y;rw[H,y]
   .cases m;show absurd g (W k)
   .cases g;show absurd m (W j)
   .show x.nd j k r m g
  obtain⟨O,ac⟩:∃ O,(h1.update S (Obj.mapSeq (·.push (.ref s.heap.objs.size)))).get? S=some { cls:=.type "list",dict:=none,data:=.seq (acc.push (.ref s.heap.objs.size)) O,slots:=#[] }:=⟨_,Y5 (Obj.mapSeq (·.push (.ref s.heap.objs.size))) P rfl⟩;show yr (XY P rfl (yu ⟨plainId_quiet Xj _,ih (i+1) _ (acc.push (.ref s.heap.objs.size)) O (by lk) (by lk) ?_ hR⟩) ?_ ?_)
  .have sb:Heap.SameBut S h1 (h1.update S (Obj.mapSeq (·.push (.ref s.heap.objs.size)))):=xu ..;have h:∀{q o},q≠S->h1.get? q=some o->(h1.update S (Obj.mapSeq (·.push (.ref s.heap.objs.size)))).get? q=some o:=fun n e=>sb.extBut _ _ n e;show⟨?_,h (yF l2) (l _ _ L.D.TIz L.D.TITO L.D.TIi1 L.D.TIi2 x.ti),?_,m.at fun o e=>h (yF E) e,g.at fun o e=>h (yF G) e,?_,?_,ac,by rw[sb.1,Z];lk,by rw[Array.size_push,f],fun j r e=>?_,aa,fun q o H y I J K X e=>h X (l q o y I J K (x.kp q o H y I J K X e))⟩
   .rcases z1 with e | ⟨T,b1,o,hT,e,eo⟩
    .show .inl (h (yF l1) e)
    .show .inr ⟨T,b1,o,hT,h (yF l1) e,h (Yq (yj C hT)) eo⟩
   .obtain⟨Y,r,e⟩:=ab;show⟨Y,r,h (yF U) e⟩
   .obtain⟨o,e,d⟩:=x.la;show⟨o,h (yF l6) (l _ _ L.D.l1z L.D.l1TO L.D.l1i1 L.D.l1i2 e),d⟩
   .obtain⟨o,e,d⟩:=x.lb;show⟨o,h (yF l7) (l _ _ L.D.l2z L.D.l2TO L.D.l2i1 L.D.l2i2 e),d⟩
   .rw [Array.getElem?_push] at e;split at e
    .rename_i ej
     cases e;rw[ej,f];show⟨_,u,v,rfl,hN,h (Yq (yj C hN)) eP,hu,hv⟩
    .obtain⟨t,Y,w',q1,B,q3,q4⟩:=x.its j r e;show⟨t,Y,w',q1,B,h (Yq (yj C B)) (l t _ (p B l1) (p B U) (p B E) (p B G) q3),q4⟩
  .rw [f,Yy];lk
  .show(acc.push _).size<=sizeLine+1;rw[Array.size_push,f,Yy];lk
theorem zip_len0:typeLookup (.type "zip") "__len__"=pure none:=by rw[typeLookup_type,builtinLookup_eq_fast];kernel_rfl
theorem zip_hint0:typeLookup (.type "zip") "__length_hint__"=pure none:=by rw[typeLookup_type,builtinLookup_eq_fast];kernel_rfl
theorem zext{s:Shared}{p:Nat}(u:A.handled=none)(L:LA z TI TO i1 i2 a b S N)(y:min xs.size ys.size<=2 ^ 24)(res:Value)(hz:IsZip s.heap z TI TO .none)(x:LZ z TI TO i1 i2 a b S N xs ys h0 0 #[] p s.heap)
  (t:∀ h' c d,LE z TO i1 i2 S N xs ys h0 (min xs.size ys.size) c d h'->R (.ok (.ret res)) { s with heap:=h' }) :
  wpAny (model prog w) A.in1 (Builtin.List.listExtendWith (.ref S) (.ref z) res) (fun h g=>match h with | .done f=>R (.ok f) g | .again d=>d.quiet=true/\codeAny (model prog w) A d R g) (fun e g=>R (.error e) g) s:=by
 obtain⟨l1,_⟩:=L.lt;have typ:s.TypeIs (.ref z) "zip":=⟨_,hz,rfl⟩;unfold Builtin.List.listExtendWith;show yr <| wpAny_typeOf typ ?_;have B:Builtin.List.listSameRef (.ref S) (.ref z)=false:=by simp[Builtin.List.listSameRef,Yq l1]
 have o:(Value.type "zip"==.type "list")=false/\(Value.type "zip"==.type "tuple")=false:=by decide
 simp only[B,o.1,o.2,kz,Yx,xA];show yr <| kH hz <| yr <| Yk ?_;unfold Builtin.List.listLengthHint;show yr <| wpAny_specialOf typ zip_len0 ?_;show wpAny _ _ (specialOf (Value.ref z) (Str.ofString "__length_hint__")>>=_) _ _ _;show yr <| wpAny_specialOf typ zip_hint0 <| yu ?_;show wpAny _ _ (rule "list.extend.makes-room">>=fun _=>Builtin.List.listTouch (.ref S)>>=fun _=>again (.builtin "list.extend.loop" ⟨[.ref S,.ref z,res],[]⟩)) _ _ _;show yr <| wpAny_rule <| yr ?_;show wpAny _ _ (updateSeq S (·.push .none)>>=fun _=>updateSeq S (·.pop)) _ _ _;show yr <| XY x.ls rfl ?_;have i:=Y5 (Obj.mapSeq (·.push Value.none)) x.ls rfl;show XY (hz:=by seq_fits) i rfl ?_;have r:=Y5 (Obj.mapSeq (·.pop)) i rfl
 have C:Heap.SameBut S s.heap ((s.heap.update S (Obj.mapSeq (·.push Value.none))).update S (Obj.mapSeq (·.pop))):=by
  have l:Heap.SameBut S s.heap (s.heap.update S (Obj.mapSeq (·.push Value.none))):=xu ..;have m:Heap.SameBut S (s.heap.update S (Obj.mapSeq (·.push Value.none))) ((s.heap.update S (Obj.mapSeq (·.push Value.none))).update S (Obj.mapSeq (·.pop))):=xu ..;show⟨m.1.trans l.1,fun q n=>(m.2 q n).trans (l.2 q n)⟩
 show yu ⟨plainId_quiet Xj _,zloop u L y res _ 0 _ #[] _ rfl (YQ _) (x.at L C r rfl (fun j v e=>by simp at e) fun j k v e=>by simp at e) t⟩
theorem zinit{s:Shared}{l:Nat}(o:A.handled=none)(L:LA z TI TO i1 i2 a b S N)(p:min xs.size ys.size<=2 ^ 24)(hz:IsZip s.heap z TI TO .none)(x:LZ z TI TO i1 i2 a b S N xs ys h0 0 #[] l s.heap)
  (n:∀ h' c d,LE z TO i1 i2 S N xs ys h0 (min xs.size ys.size) c d h'->R (.ok (.ret .none)) { s with heap:=h' }) :
  wpAny (model prog w) A.in1 (Builtin.«list.__init__» ⟨[.ref S,.ref z],[]⟩) (fun h g=>match h with | .done f=>R (.ok f) g | .again d=>d.quiet=true/\codeAny (model prog w) A d R g) (fun e g=>R (.error e) g) s:=by
 obtain⟨l1,_⟩:=L.lt;show wpAny _ _ (do let old <- Builtin.List.listItems (.ref S);Builtin.List.listUpdate (.ref S) (fun _=>#[]);letGo old.toList.reverse;Builtin.List.listExtendWith (.ref S) (.ref z) .none) _ _ s;show yr ?_;unfold Builtin.List.listItems;show yr <| wpAny_seqItems x.ls rfl <| yu ?_;show wpAny _ _ (updateSeq S (fun _=>#[])>>=fun _=>letGo _>>=fun _=>Builtin.List.listExtendWith (.ref S) (.ref z) .none) _ _ s;show yr <| XY x.ls rfl ?_;have m:=Y5 (Obj.mapSeq (fun _=>(#[]:Array Value))) x.ls rfl;have i:Heap.SameBut S s.heap (s.heap.update S (Obj.mapSeq (fun _=>(#[]:Array Value)))):=xu ..;show yr <| wpAny_letGo ?_;show zext o L p .none (i.extBut _ _ (yF l1) hz) (x.at L i m rfl (fun j v e=>by simp at e) fun j k v e=>by simp at e) n
end
section
variable{prog:Program}{w:World}{A:Around}{E:Value->Shared->Prop}{s:Shared}
theorem call_list_zip{z TI TO h i a b:Nat}{xs ys:Array Value}{Q:Value->Shared->Prop}(H:A.handled=none)(D:ZipApart z TI TO h i a b)(I:min xs.size ys.size<=2 ^ 24)(hz:IsZip s.heap z TI TO .none)(l:IsPair s.heap TI (.ref h) (.ref i))(f:∃ u v,IsPair s.heap TO u v)
  (h1:s.heap.IsListIter h a 0) (y:s.heap.IsListIter i b 0) (m:s.heap.IsList a xs) (n:s.heap.IsList b ys)
  (G:∀ h' c t,LE z TO h i s.heap.objs.size (s.heap.objs.size+1) xs ys s.heap (min xs.size ys.size) c t h'->Q (.ref s.heap.objs.size) { s with heap:=h' }):wpAny (model prog w) A (call (.type "list") [.ref z]) Q E s:=by
 show callType_codes (Q₁:=fun r g=>r=.ref s.heap.objs.size/\g={ s with heap:=s.heap.push { cls:=.type "list",data:=.seq #[] } }) F.called_list (F.typeCall_list_1 _) F.entry_list_init (code_list_new _ ⟨rfl,rfl⟩) fun r g p=>?_;obtain⟨rfl,rfl⟩:=p;have B:(s.heap.push { cls:=.type "list",data:=.seq #[] }).get? s.heap.objs.size=some { cls:=.type "list",data:=.seq #[] }:=yS _ rfl;have up:∀{q o},s.heap.get? q=some o->(s.heap.push { cls:=.type "list",data:=.seq #[] }).get? q=some o:=fun e=>yv _ e;have lt:∀{q o},s.heap.get? q=some o->q<s.heap.objs.size:=fun e=>yJ e;obtain⟨u,v,f⟩:=f
 have L:LA z TI TO h i a b s.heap.objs.size (s.heap.objs.size+1):=by
  show⟨D,⟨lt hz,lt l,lt f,?_,?_,?_,?_⟩,xR _⟩
  .obtain⟨_,e,_⟩:=h1;show lt e
  .obtain⟨_,e,_⟩:=y;show lt e
  .obtain⟨_,e,_⟩:=m;show lt e
  .obtain⟨_,e,_⟩:=n;show lt e
 have x:LZ z TI TO h i a b s.heap.objs.size (s.heap.objs.size+1) xs ys s.heap 0 #[] 0 (s.heap.push { cls:=.type "list",data:=.seq #[] }):=by
  show⟨.inl (up hz),up l,⟨u,v,up f⟩,h1.at fun o e=>up e,y.at fun o e=>up e,?_,?_,B,by rw[Y0];show yh _,rfl,fun j v e=>by simp at e,fun j k v e=>by simp at e,fun q o _ _ _ _ _ _ e=>up e⟩
  .obtain⟨o,e,d⟩:=m;show⟨o,up e,d⟩
  .obtain⟨o,e,d⟩:=n;show⟨o,up e,d⟩
 show⟨⟨_,B,rfl⟩,F.args_list_init_2 _ _,zinit (A:=A.in1) H L I (up hz) x fun h' c t C=>⟨rfl,G h' c t C⟩⟩
end
structure Zl(H H':Hp)(l:Addr)(ts:LQ)(xs ys:List V):Prop where
 sm:L2.Same H H'
 fl:H l=none
 ls:H' l=some (.lst (ts.map V.ref))
 len:ts.length=min xs.length ys.length
 tp:∀(j:Nat) t,ts[j]?=some t->H t=none/\∃ x y,xs[j]?=some x/\ys[j]?=some y/\H' t=some (.tup [x,y])
theorem qf3(H:Hp):∀(a:LQ) (xs ys:List V),a.Nodup->a.length<=xs.length->a.length<=ys.length->∃ G:Hp,(∀(j:Nat) t x y,a[j]?=some t->xs[j]?=some x->ys[j]?=some y->G t=some (.tup [x,y]))/\∀ q,q∉a->G q=H q
 | [],_,_,_,_,_=>⟨H,fun j t x y e=>by simp at e,fun _ _=>rfl⟩
 | t::a,[],_,_,h,_=>by simp at h
 | t::a,_::_,[],_,_,h=>by simp at h
 | t::a,x::xs,y::ys,nd,h1,h2=>by
  obtain⟨m,n⟩:=yo.mp nd;obtain⟨G,i,l⟩:=qf3 H a xs ys n (by simpa using h1) (by simpa using h2);show⟨upd G t (.tup [x,y]),fun j t' o p c d f=>?_,fun q g=>?_⟩
  .cases j with
   | zero=>simp at c d f;subst c d f;show qb
   | succ j =>
    have b:a[j]?=some t':=by simpa using c
    rw[qf fun z=>m (by rw[<- z];show ye b)];show i j t' o p b (by simpa using d) (by simpa using f)
  .rw [qf fun z=>g (by rw[z];show yE)];show l q fun z=>g (yy _ z)
noncomputable def refN:Value->Nat
 | .ref a=>a
 | _=>0
def tLZ(K:yg)(d:TA):TE:=fun f H Q=>d f H fun vs c=>∃ a b xs ys,vs=[.ref a,.ref b]/\SqL K c a xs/\SqL K c b ys/\xs.length<=1000/\∀ l e H',Zl c H' l e xs ys->Q (.ref l) H'
theorem vLZ{K:yg}{d:TA}{e:St}{H:Hp}{Q:VK}(h:d e H fun vs c=>∃ a b xs ys,vs=[.ref a,.ref b]/\SqL K c a xs/\SqL K c b ys/\xs.length<=1000/\∀ l f H',Zl c H' l f xs ys->Q (.ref l) H'):tLZ K d e H Q:=h
theorem qcX{X:Cx}{K:yg}{a b:Expr}{ta:TA}{p p2 an f:Pos}(hK:X.K=K)(hc:X.calm=true)(hg:Gl X "list")(af:Gl X "zip")(F:X.mg "list"=none)(aj:X.mg "zip"=none)(ha:PA X [a,b] ta)(hs:starEach [a,b] X.env=[(false,eval a X.env),(false,eval b X.env)]:=by rfl)(P:starEach [b] X.env=[(false,eval b X.env)]:=by rfl)
  (he:starEach [.Call (.Name "zip" p2) [a,b] [] f] X.env=[(false,eval (.Call (.Name "zip" p2) [a,b] [] f) X.env)]:=by rfl):PE X (.Call (.Name "list" p) [.Call (.Name "zip" p2) [a,b] [] f] [] an) (tLZ K ta):=by
 subst hK;intro Y s σ H Q I h;show Call_ (qa9 I hg F xz (YL (T:="list") ?_ he rfl));rw[he];show wpAny _ _ (spliced ((false,eval (.Call (.Name "zip" p2) [a,b] [] f) X.env)::[])) _ _ s;show X5 ?_;show Call_ (qa9 I af aj qdt (YL (thn (ha f Y s σ H _ I h) fun us w ⟨vs,H1,A,r1,q1⟩=>?_) (by rw[hs,P]) (by rw[P];rfl)));obtain⟨a,b,xs,ys,e,hq,ak,hx,q⟩:=q1;subst e
 cases r1 with
 | cons r rr =>
  cases rr with
  | cons r2 rr =>
   cases rr;cases r;cases r2;obtain⟨C,rv,pl,_⟩:=A.list hq;obtain⟨l,Z,D,_⟩:=A.list ak;have al:a<w.heap.objs.size:=by obtain⟨_,e,_⟩:=pl.isList;show yJ e
   have am:b<w.heap.objs.size:=by obtain⟨_,e,_⟩:=D.isList;show yJ e
   have l1:=rv.length;have l2:=Z.length;show call_zip_2 pl.isList D.isList fun h1 hz ad ae ag ah hsz hk=>kh ?_;have la:h1.IsList a C.toArray:=by obtain⟨o,e,d⟩:=pl.isList;show⟨o,hk _ _ e,d⟩
   have B:h1.IsList b l.toArray:=by obtain⟨o,e,d⟩:=D.isList;show⟨o,hk _ _ e,d⟩
   show call_list_zip (A.ok.hd hc) (PySem.W.ktu_apart _ _ _ al am) (by simp only[yw];lk) hz ad ⟨_,_,ae⟩ ag ah la B fun h2 acc c L=>?_;have L:LE (w.heap.objs.size+4) (w.heap.objs.size+3) w.heap.objs.size (w.heap.objs.size+1) h1.objs.size (h1.objs.size+1) C.toArray l.toArray h1 (min C.toArray.size l.toArray.size) acc c h2:=L;have O:acc.size=min xs.length ys.length:=by rw[L.len,l1,l2,yw,yw]
   obtain⟨g,R⟩:∃ g,g=acc.toList.map refN:=⟨_,rfl⟩;have n:g.length=min xs.length ys.length:=by rw[R,ya,xL,O]
   have J:∀(j:Nat) t,g[j]?=some t->acc[j]?=some (.ref t)/\h1.objs.size+1<=t/\∃ x y,xs[j]?=some x/\ys[j]?=some y/\∃ u v,RelV x u/\RelV y v/\IsPair h2 t u v:=fun j t e=>by
    rw[R,yd,XD] at e;obtain⟨v,ev,et⟩:=yn.mp e;obtain⟨t',u1,u2,q1,q2,q3,q4,q5⟩:=L.its j v ev;subst q1;have ac:t'=t:=et;subst ac;have hj:j<acc.size:=(Array.getElem?_eq_some_iff.mp ev).1;obtain⟨x,S⟩:∃ x,xs[j]?=some x:=⟨_,yb (by lk)⟩;obtain⟨y,U⟩:∃ y,ys[j]?=some y:=⟨_,yb (by lk)⟩;obtain⟨a1,aa,ao⟩:=rv.get S;obtain⟨a2,ab,ap⟩:=Z.get U;have b1:a1=u1:=by rw[List.getElem?_toArray,aa] at q4;cases q4;rfl
    have b2:a2=u2:=by rw[List.getElem?_toArray,ab] at q5;cases q5;rfl
    subst b1 b2;show⟨ev,q2,x,y,S,U,a1,a2,ao,ap,q3⟩
   have nd:g.Nodup:=by
    show Yl.mpr fun i j hi hj ai e=>?_;have M:=(J i g[i] (yb hi)).1;have N:=(J j g[j] (yb hj)).1;rw[e] at M;show absurd (L.nd i j _ M N) (yF ai)
   have mem:∀ t∈g,h1.objs.size+1<=t:=fun t ht=>by
    obtain⟨j,e⟩:=Xb.mp ht;show(J j t e).2.1
   obtain⟨G,g1,g2⟩:=qf3 H1 g xs ys nd (by lk) (by lk)
   have old:∀ q,q<w.heap.objs.size->upd G h1.objs.size (.lst (g.map V.ref)) q=H1 q:=fun q hq=>by
    rw[qf (yF (by lk))];show g2 q fun z=>by have:=mem q z;lk
   have tl:∀ t∈g,t≠h1.objs.size:=fun t ht=>by have:=mem t ht;show Yq this
   show⟨.ref _,_,A.laidM (t':=w.toks) (H':=upd G h1.objs.size (.lst (g.map V.ref))) (fun b u e=>?_) old fun b u hb e=>?_,rfl,q _ g _ ⟨fun b o e=>?_,A.hok.fresh (by show(w.heap.objs.size:Nat)<=h1.objs.size;lk),qb,n,fun j t e=>?_⟩⟩
   .have B:∀ m:Nat,w.heap.objs.size<=m->b<m:=fun m F=>yj (yJ e) F;show L.kp b u (B _ (by lk)) (yF (B _ (by lk))) (yF (B _ (by lk))) (yF (B _ (by lk))) (yF (B _ (by lk))) (yF (B _ (by lk))) (hk b u e)
   .by_cases hl:b=h1.objs.size
    .subst hl;rw[qb] at e;cases e;show⟨by rw[ya,n,Yy];lk,acc.toList,c,qal (by rw[ya,n];show O.symm) fun j y u M N=>?_,by rw[Array.toArray_toList];show L.ls⟩;rw[yd] at M;obtain⟨t,et,E⟩:=yn.mp M;subst E;rw[XD,(J j t et).1] at N;cases N;rfl
    .rw [qf hl] at e;by_cases F:b∈g
     .obtain⟨j,ej⟩:=Xb.mp F;obtain⟨_,_,x,y,ex,E,u1,u2,r1,r2,ep⟩:=J j b ej;rw[g1 j b x y ej ex E] at e;cases e;show⟨by show 2<=sizeLine;decide,[u1,u2],.cons r1 (.cons r2 .nil),⟨_,ep,rfl,_,rfl⟩⟩
     .rw [g2 b F,A.hok.fresh hb] at e;cases e
   .rw [old b (kI fun z=>by rw[A.hok.fresh z] at e;cases e)];show e
   .obtain⟨_,N,x,y,ex,E,_⟩:=J j t e;show⟨A.hok.fresh (by lk),x,y,ex,E,?_⟩;rw[qf (tl t (ye e))];show g1 j t x y e ex E
section
variable{X:Cx}
def qgM(K:yg):List V->Hp->VK->Prop:=fun xs H Q=>∃(p:Addr) (bs:List Bool),xs=[.ref p]/\SqL K H p (bs.map V.bl)/\Q (.bl (bs.any id)) H
theorem call_any(hc:X.calm=true):j0 X (.builtin "any") (qgM X.K):=by
 intro f s B H xs us Q I r h;obtain⟨p,bs,rfl,t,q⟩:=h;obtain⟨u,rfl,y⟩:=qaa r;cases y;obtain⟨x,z,pl,hz⟩:=I.list t;have e:=qbV z;subst e;have l:X.A.in1.handled=none:=I.ok.hd hc;show call_any_walk (Xx pl.isList ?_)
 have g:p≠s.heap.objs.size:=by
  obtain⟨o,n,_⟩:=pl.isList;show yF (yJ n)
 show⟨s.heap.objs.size,_,_,_,_,_,fun i=>(bs[i]?).getD false,rfl,Walks.list l s.heap.objs.size p g (bs.map Value.bool).toArray,⟨⟨_,yS _ rfl,rfl,rfl⟩,pl.isList.at fun o e=>yv _ e⟩,fun i v s Q E hv w=>?_,fun h' tk m=>?_⟩
 .have a:(bs.map Value.bool)[i]?=some v:=by simpa using hv
  rw[yd] at a
  cases e:bs[i]? with
  | none=>rw[e] at a;cases a
  | some b =>
   rw[e] at a;cases a;have c:Q ((bs[i]?).getD false) s:=w;rw[e] at c;show yu c
 .have e:((List.range (bs.map Value.bool).toArray.size).any fun i=>(bs[i]?).getD false)=bs.any id:=by
   rw[yw,ya]
   have key:∀ bs:List Bool,((List.range bs.length).any fun i=>(bs[i]?).getD false)=bs.any id:=by
    intro bs
    induction bs with
    | nil=>rfl
    | cons b r ih =>
     rw[yH,List.range_succ_eq_map,Xa,Kc,Xa,<- ih];rfl
   show key bs
  rw[e];show⟨.bl _,H,?_,rfl,q⟩;have j:Inv X f B H { s with heap:=s.heap.push { cls:=.type "list_iterator",data:=.fields #[.ref p,.int 0 0] } }:=I.kept (t':=s.toks) fun b o e=>yv _ e;have d:=I.fpOk (b:=s.heap.objs.size) (yh _) (I.hok.fresh (yh _));show j.turned (it:=s.heap.objs.size) (h':=h') (t':=tk) (fun b o hb e=>m b o (by simpa using hb) e) d.1 d.2.1 d.2.2.2.1 d.2.2.2.2.1 d.2.2.2.2.2
end
theorem k_any{X:Cx}{K:yg}(a:X.K=K)(hc:X.calm=true):j0 X (.builtin "any") (qgM K):=by subst a;show call_any hc
end L2
namespace L2
open PySem PySem.Spec PySem.W PyProof.Rows
variable{h:Heap}{n:Nat}{p:Array Nat}{vs:List Value}{α:Type}
def KOk{α:Type}(n:Nat)(P:α->Prop):KasT α->Prop
 | .ret a=>P a
 | .ask i j k=>i<n/\j<n/\∀ b,KOk n P (k b)
theorem KOk.bind{c:Type}{P:α->Prop}{R:c->Prop}{f:α->KasT c}:∀{t:KasT α},KOk n P t->(∀ a,P a->KOk n R (f a))->KOk n R (t.bind f)
 | .ret a,h,g=>g a h
 | .ask i j k,h,g=>⟨h.1,h.2.1,fun b=>KOk.bind (h.2.2 b) g⟩
theorem KOk.wp{P:α->Prop}{c:Nat->Nat->(Bool->Shared->Prop)->Shared->Prop}{Q:α->Shared->Prop}{s:Shared}(hc:∀ i j C,i<n->j<n->(∀ b,C b s)->c i j C s)(d:∀ a,P a->Q a s):∀{t:KasT α},KOk n P t->t.kasWp c Q s
 | .ret a,h=>d a h
 | .ask i j k,h=>hc i j _ h.1 h.2.1 fun b=>KOk.wp hc d (h.2.2 b)
def PmA(n:Nat)(p:Array Nat):Prop:=p.toList.Perm (List.range n)
theorem PmA.of{q:Array Nat}(h:PmA n p)(e:q.Perm p):PmA n q:=(Array.perm_iff_toList_perm.mp e).trans h
theorem PmA.at_(h:PmA n p)(c:0<n)(i:Nat):p.getD i 0<n:=by
 by_cases a:i<p.size
 .have b:p.getD i 0∈p.toList:=by
   have:p.getD i 0=p[i]:=by simp[Array.getD,a]
   rw[this];simp
  show YT.mp (h.mem_iff.mp b)
 .have:p.getD i 0=0:=by simp[Array.getD,a]
  lk
section
variable{n:Nat}(h0:0<n)
include h0
theorem qcY(h:PmA n p):∀ f k,KOk n (fun _=>True) (kas_asc p f k)
 | 0,k=>trivial
 | f+1,k=>by
  show⟨h.at_ h0 _,h.at_ h0 _,fun b=>?_⟩
  (try dsimp only)
  split
  .trivial
  .show qcY h f (k+1)
theorem qbc:∀ f {p:Array Nat} (_:PmA n p) k q,KOk n (fun r=>PmA n r.1) (kas_desc f p k q)
 | 0,p,h,k,q=>h
 | f+1,p,h,k,q=>by
  show⟨h.at_ h0 _,h.at_ h0 _,fun b=>?_⟩
  (try dsimp only)
  split
  .split
   .show qbc f (h.of (kn _ _ _ _)) _ _
   .show qbc f h _ _
  .show⟨h.at_ h0 _,h.at_ h0 _,fun b=>?_⟩
   (try dsimp only)
   split
   .show h
   .show qbc f h _ _
theorem qdw(h:PmA n p)(k m:Nat):KOk n (fun r=>PmA n r.2) (kas_tail3 k m p):=(qcY h0 (h.of (kn _ _ _ _)) _ _).bind fun _ _=>h.of (kn _ _ _ _)
theorem qdx(h:PmA n p)(k m:Nat):KOk n (fun r=>PmA n r.2) (kas_descPart k m p):=(qbc h0 _ h _ _).bind fun r a=>by
 split
 .show qdw h0 (a.of (kn _ _ _ _)) _ _
 .show qdw h0 a _ _
theorem kok_count(h:PmA n p)(m:Nat):KOk n (fun r=>PmA n r.2) (kas_count m p):=(qcY h0 h _ _).bind fun k _=>by
 split
 .show h
 .split
  .show⟨h.at_ h0 _,h.at_ h0 _,fun b=>?_⟩
   (try dsimp only)
   split
   .show h
   .show qdx h0 (h.of (kn _ _ _ _)) _ _
  .show qdx h0 h _ _
theorem qbx(h:PmA n p)(k:Nat):∀ f l r,KOk n (fun _=>True) (kas_place p k f l r)
 | 0,l,r=>trivial
 | f+1,l,r=>by
  unfold kas_place;split
  .trivial
  .show⟨h.at_ h0 _,h.at_ h0 _,fun b=>?_⟩
   (try dsimp only)
   split
   .show qbx h k f _ _
   .show qbx h k f _ _
theorem qeh:∀ f {p:Array Nat} (_:PmA n p) k,KOk n (PmA n) (kas_bin f p k)
 | 0,p,h,k=>h
 | f+1,p,h,k=>(qbx h0 h k _ _ _).bind fun l _=>qeh f (h.of (bubble_perm _ _ _)) _
theorem kok_sort:KOk n (PmA n) (kas_sort n):=(kok_count h0 (p:=(List.range n).toArray) (List.Perm.refl _) n).bind fun r a=>by
 split
 .show qeh h0 _ a _
 .show a
end
def Tw(h:Heap)(v:Value):Prop:=∃(t:Addr) (o:Obj) (x y:Int) (a ty:Tok) (k:Nat),v=.ref t/\h.get? t=some o/\o.cls=.type "tuple"/\o.data=.seq #[.int x a,.int y ty] k
theorem Tw.keep{h':Heap}{v:Value}(w:Tw h v)(k:∀ b o,(∀ x n,o≠seqObj "list" x n)->h.get? b=some o->h'.get? b=some o):Tw h' v:=by
 obtain⟨t,o,x,y,a,ty,m,e,g,c,d⟩:=w;show⟨t,o,x,y,a,ty,m,e,k _ _ (fun z n q=>by rw[q] at c;injection c with c;show absurd c (by decide)) g,c,d⟩
section
variable{prog:Program}{w:World}{A:Around}{E:Value->Shared->Prop}{s:Shared}
theorem tw_lt{u v:Value}{Q:Bool->Shared->Prop}(a:Tw s.heap u)(hv:Tw s.heap v)(h:∀ b,Q b s):wpAny (model prog w) A (keyLt' (tuples' true) u v) Q E s:=by
 obtain⟨t,o,x,y,l,ty,k,rfl,g,c,d⟩:=a;obtain⟨t',j,m,n,e,f,k',rfl,g',i,d'⟩:=hv;show kat_lt g d g' d' ?_;show kat_cons (XF (kat_go (fun _=>kat_yes ?_) fun _=>kat_no ?_))
 .show kat_cons (XF (kat_go (fun _=>kat_yes (kat_nil (h _))) fun _=>kat_no ?_));show kat_one _ _ (lt_int (show W.BoolBack Q (.bool _) s from h _))
 .show oneLt_int (h _)
theorem qcZ:∀{vs:List Value},(∀ v∈vs,Tw h v)->∃ fs,KatTups h vs fs/\fs.length=vs.length/\∀ f∈fs,∃ x t,f=.int x t
 | [],_=>⟨[],.nil,rfl,fun _ z=>by cases z⟩
 | v::vs,hv=>by
  obtain⟨fs,h1,b,e⟩:=qcZ fun v i=>hv v (yy _ i);obtain⟨t,o,x,y,a,ty,k,rfl,g,c,d⟩:=hv v yE;show⟨.int x a::fs,.cons g c d rfl h1,by rw[yH,yH,b],fun f hf=>?_⟩;rcases yA.mp hf with rfl | hf
  .show⟨x,a,rfl⟩
  .show e f hf
theorem pick_perm(h:PmA vs.length p):(p.toList.map fun i=>vs.getD i Value.none).Perm vs:=by
 have e:(List.range vs.length).map (fun i=>vs.getD i Value.none)=vs:=by
  apply kJ
  .simp
  .intro i h1 a;simp[a]
 have:=h.map fun i=>vs.getD i Value.none
 rwa[e] at this
theorem sort_tups{a:Addr}{P:PySem.Fin->Shared->Prop}(m:s.heap.get? a=some (seqObj "list" vs.toArray n))(hv:∀ v∈vs,Tw s.heap v)(H:vs.length<64)
  (h:∀ out:Array Value,out.toList.Perm vs->P (.done (.ret .none)) { s with heap:=sortedHeap s.heap a vs out }) :
  wpAny (model prog w) A (Builtin.«list.sort» ⟨[.ref a],[]⟩) P E s:=by
 rw[list_sort_plain];have N:a<s.heap.objs.size:=yJ m;show yr (listItems_at m rfl ?_);show yr (Xm m rfl ?_);obtain⟨F,q⟩:∃ F,(s.heap.update a (Obj.mapSeq fun _=>#[])).get? a=some (seqObj "list" #[] F):=⟨_,get?_update_seq m (fun _=>#[])⟩;show yr (XI q rfl ?_);show yr (wpAny_newTuple ?_);show yr (kB ?_);show Yk ?_
 have c:(((s.heap.update a (Obj.mapSeq fun _=>#[])).push (seqObj "tuple" vs.toArray 0)).push (seqObj "list" #[] 0)).get? a=some (seqObj "list" #[] F):=by
  rw[YM _ _ _ (by rw[size_push',xV];show yF (Y1 N)),YM _ _ _ (by rw[xV];show yF N)];show q
 have s1:=xu s.heap a (Obj.mapSeq fun _=>(#[]:Array Value));have g:∀ v∈vs,Tw (((s.heap.update a (Obj.mapSeq fun _=>#[])).push (seqObj "tuple" vs.toArray 0)).push (seqObj "list" #[] 0)) v:=fun v W=>(hv v W).keep fun b o nl e=>yv _ (yv _ ((s1.2 b (fun z=>by rw[z,m] at e;show nl _ _ (ym e).symm)).trans e));show wpAny (model prog w) A _ P E { s with heap:=((s.heap.update a (Obj.mapSeq fun _=>#[])).push (seqObj "tuple" vs.toArray 0)).push (seqObj "list" #[] 0) };dsimp only;have hsz:vs.toArray.size=vs.length:=by simp
 have l:=h;by_cases y:vs.toArray.size<2
 .rw [yG y,yG y];show yr (yu ?_);rw[StateT.run_pure];show yr (yu ?_);dsimp only;show yr (XI c rfl ?_);show yr (Xm c rfl ?_ (hsz2:=by rw[Array.size_map];show(pairsOf vs).size<=_;rw[pairsOf_size,Yy];lk));simp only[XA,Yx,xA];show yu (l _ ?_);show((pairsOf vs).map (·.2)).toList.Perm vs
  have:((pairsOf vs).map (·.2)).toList=vs:=by
   rw[Array.toList_map];show(vs.toArray.zip vs.toArray).toList.map Prod.snd=vs;simp[List.map_snd_zip]
  rw[this]
 .rw [yC y,yC y];have X:2<=vs.length:=by lk
  obtain⟨fs,Y,k2,Z⟩:=qcZ g;show yr (kat_kind (T:=.type "int") Y (by lk) (fun f J=>?_) (by room) ?_)
  .obtain⟨x,t,rfl⟩:=Z f J;show Looks.of_pure rfl
  show yr (YW (kat_run (ks:=vs) (Q:=fun d u=>u={ s with heap:=((s.heap.update a (Obj.mapSeq fun _=>#[])).push (seqObj "tuple" vs.toArray 0)).push (seqObj "list" #[] 0) }/\∃ p:Array Nat,PmA vs.length p/\arrOf d=p.map (kas_item (vs.toArray.zip vs.toArray))/\failedOf d=none)
   (G:=fun p u=>u={ s with heap:=((s.heap.update a (Obj.mapSeq fun _=>#[])).push (seqObj "tuple" vs.toArray 0)).push (seqObj "list" #[] 0) }/\PmA vs.length p) rfl X H (fun p' d u a1 O R L=>⟨L.1,p',L.2,O,R⟩) ((kok_sort (by lk)).wp (fun i j C B U S=>?_) fun p D=>⟨rfl,D⟩)) ?_ fun _ _ e=>e)
  .have M:∀ i,i<vs.length->vs.getD i Value.none∈vs:=fun i B=>by
    have:vs.getD i Value.none=vs[i]:=by simp[B]
    rw[this];show YN B
   show tw_lt (g _ (M i B)) (g _ (M j U)) S
  rintro⟨⟨⟩,d⟩ u ⟨rfl,p,D,I,J⟩;dsimp only;have r:=kat_snds rfl I;have K:p.toList.length=vs.length:=by rw[D.length_eq,XB]
  show yr (XI c rfl ?_);rw[r];show yr (Xm c rfl ?_ (hsz2:=by rw[yw,ya,K,Yy];lk));rw[J];simp only[XA,Yx,xA];show yu (l _ (pick_perm D))
theorem sorted_tups{l:Addr}{Q:Value->Shared->Prop}(hl:s.heap.IsList l vs.toArray)(hv:∀ v∈vs,Tw s.heap v)(d:vs.length<64)
  (h:∀ out:Array Value,out.toList.Perm vs->Q (.ref (s.heap.objs.size+1)) { s with heap:=sortedAll s.heap vs out }) :
  wpAny (model prog w) A (call (.builtin "sorted") [.ref l]) Q E s:=by
 show Calls.call_function_entry kind_sorted plain_sorted entry_sorted (args_sorted1 _) ?_;unfold Builtin.«sorted»;show yr (m:=checkCount "sorted" 1 1 _) (yu ?_);show yr (collect_list hl ?_);show yr (kB ?_)
 have hsz:((s.heap.push (seqObj "list" #[] 0)).update s.heap.objs.size (Obj.mapSeq (·++vs.toArray))).objs.size=s.heap.objs.size+1:=by
  rw[xV,size_push']
 have c:(((s.heap.push (seqObj "list" #[] 0)).update s.heap.objs.size (Obj.mapSeq (·++vs.toArray))).push (seqObj "list" vs.toArray 0)).get? (s.heap.objs.size+1)=some (seqObj "list" vs.toArray 0):=by
  rw[<- hsz];show yS _ rfl
 have f:∀ v∈vs,Tw (((s.heap.push (seqObj "list" #[] 0)).update s.heap.objs.size (Obj.mapSeq (·++vs.toArray))).push (seqObj "list" vs.toArray 0)) v:=fun v g=>(hv v g).keep fun b o _ e=>by
  have a:b<s.heap.objs.size:=yJ e;rw[YM _ _ _ (by rw[hsz];show yF (Y1 a)),xO _ _ _ _ (yF a),YM _ _ _ (yF a)];show e
 show wpAny _ _ _ _ _ { s with heap:=((s.heap.push (seqObj "list" #[] 0)).update s.heap.objs.size (Obj.mapSeq (·++vs.toArray))).push (seqObj "list" vs.toArray 0) };rw[hsz];show yr (Yk (xx slot_list_sort ⟨_,c,rfl⟩ entry_list_sort (sort_tups c f d fun out i=>⟨_,rfl,?_⟩) (args_list_sort _)));show yu ⟨_,rfl,h out i⟩
end
theorem qby:∀{a:LQ} {us:List Value},Vals (a.map V.ref) us->us=a.map Value.ref
 | [],_,.nil=>rfl
 | t::a,_,.cons r h=>by
  have e:_=Value.ref t:=r;rw[e,qby h];rfl
theorem qbz:∀(a:LQ),Vals (a.map V.ref) (a.map Value.ref)
 | []=>.nil
 | t::a=>.cons rfl (qbz a)
noncomputable def qeU:Value->Addr
 | .ref a=>a
 | _=>0
theorem perm_refs{b:LQ}{out:List Value}(h:out.Perm (b.map Value.ref)):∃ us:LQ,us.Perm b/\out=us.map Value.ref:=by
 show⟨out.map qeU,?_,?_⟩
 .have:=h.map qeU;rw[kS] at this;have e:(qeU ∘ Value.ref)=id:=by funext a;rfl
  rwa[e,List.map_id] at this
 .rw [kS]
  have:out.map id=out.map (Value.ref ∘ qeU):=List.map_congr_left fun v hv=>by
   obtain⟨t,_,rfl⟩:=yN.mp (h.mem_iff.mp hv);rfl
  rwa[List.map_id] at this
section
variable{X:Cx}{K:yg}
def rSortT:List V->Hp->VK->Prop:=fun xs H Q=>∃(p:Addr) (a:LQ),xs=[.ref p]/\H p=some (.lst (a.map V.ref))/\a.length<64/\(∀ t∈a,∃ x y:Int,H t=some (.tup [.int x,.int y]))/\∀(l:Addr) (us:LQ),H l=none->us.Perm a->Q (.ref l) (upd H l (.lst (us.map V.ref)))
theorem k_sortT:j0 X (.builtin "sorted") rSortT:=by
 intro z s L H xs us Q I r h;obtain⟨p,l,rfl,E,f,F,q⟩:=h;obtain⟨u,rfl,G⟩:=qaa r;cases G;obtain⟨j,J,pl,hz⟩:=I.list (SqL.of E);have A:=qby J;subst A;show sorted_tups (vs:=l.map Value.ref) pl.isList (fun v hv=>?_) (by rw[ya];show f) fun out a=>?_
 .obtain⟨t,i,rfl⟩:=yN.mp hv;obtain⟨x,y,e⟩:=F t i;obtain⟨_,j,rt,o,g,c,n,d⟩:=I.hok _ _ e
  cases rt with
  | cons r1 rt =>
   cases rt with
   | cons r2 rt =>
    cases rt;obtain⟨K,rfl⟩:=r1;obtain⟨ty,rfl⟩:=r2;show⟨t,o,x,y,K,ty,n,rfl,g,c,d⟩
 .obtain⟨us,m,B⟩:=perm_refs a;obtain⟨e,C⟩:=PyProof.Rows.sortedAll_at s.heap (l.map Value.ref) out;have D:H (s.heap.objs.size+1)=none:=I.hok.fresh (xH _)
  have new:ObjOk X.prog X.w (upd H (s.heap.objs.size+1) (.lst (us.map V.ref))) (PyProof.Rows.sortedAll s.heap (l.map Value.ref) out) (s.heap.objs.size+1) (.lst (us.map V.ref)):=by
   show⟨?_,out.toList,e,by rw[B];show qbz us,?_⟩
   .rw [ya,m.length_eq];show yV (qi (by lk))
   .rw [C]
  show⟨.ref (s.heap.objs.size+1),_,I.laid (t':=s.toks) (fun b o e=>PyProof.Rows.sortedAll_old e) (xH _) new,rfl,q _ us D m⟩
end
end L2
namespace L2
open PySem PySem.Spec PySem.W PyProof.Rows
variable{h h':Heap}{n:Nat}{u:Value}{vs:List Value}{α:Type}
def KTo{α:Type}(n:Nat)(P:α->Prop):KasT α->Prop
 | .ret a=>P a
 | .ask i j k=>i=j+1/\i<n/\KTo n P (k false)
theorem KTo.bind{b:Type}{P:α->Prop}{R:b->Prop}{f:α->KasT b}:∀{t:KasT α},KTo n P t->(∀ a,P a->KTo n R (f a))->KTo n R (t.bind f)
 | .ret a,h,g=>g a h
 | .ask i j k,h,g=>⟨h.1,h.2.1,KTo.bind h.2.2 g⟩
theorem KTo.wp{P:α->Prop}{b:Nat->Nat->(Bool->Shared->Prop)->Shared->Prop}{Q:α->Shared->Prop}{s:Shared}(hc:∀ i j C,i=j+1->i<n->C false s->b i j C s)(c:∀ a,P a->Q a s):∀{t:KasT α},KTo n P t->t.kasWp b Q s
 | .ret a,h=>c a h
 | .ask i j k,h=>hc i j _ h.1 h.2.1 (KTo.wp hc c h.2.2)
theorem qdy{i:Nat}(h:i<n):(List.range n).toArray.getD i 0=i:=by simp[Array.getD,h]
theorem qei:∀ f k,1<=k->k+f<=n->KTo n (fun m=>m=k+f) (kas_asc (List.range n).toArray f k)
 | 0,k,_,_=>rfl
 | f+1,k,h1,h2=>by
  unfold kas_asc;rw[qdy (show k<n by lk),qdy (show k-1<n by lk)];show⟨by lk,by lk,?_⟩
  (try dsimp only)
  rw[yC (by decide)];have e:k+(f+1)=k+1+f:=by lk
  rw[e];show qei f (k+1) (by lk) (by lk)
theorem kto_sort(h:2<=n):KTo n (fun p=>p=(List.range n).toArray) (kas_sort n):=by
 unfold kas_sort;show KTo.bind (P:=fun r=>r=(n,(List.range n).toArray)) ?_ fun r e=>?_
 .unfold kas_count;show(qei (n-1) 1 (by lk) (by lk)).bind fun m e=>?_;have e:m=n:=by rw[e];lk
  rw[yG (by rw[e];show Y8 n),e];show rfl
 .rw [e];rw[yC (by show ¬ n<n;lk)];show rfl
def TwX(h:Heap)(v:Value)(x:Int):Prop:=∃(t:Addr) (o:Obj) (y:Int) (a ty:Tok) (k:Nat),v=.ref t/\h.get? t=some o/\o.cls=.type "tuple"/\o.data=.seq #[.int x a,.int y ty] k
theorem TwX.keep{v:Value}{x:Int}(w:TwX h v x)(k:∀ b o,(∀ x n,o≠seqObj "list" x n)->h.get? b=some o->h'.get? b=some o):TwX h' v x:=by
 obtain⟨t,o,y,a,ty,m,e,g,c,d⟩:=w;show⟨t,o,y,a,ty,m,e,k _ _ (fun z n q=>by rw[q] at c;injection c with c;show absurd c (by decide)) g,c,d⟩
def As(h:Heap)(u v:Value):Prop:=∃ x a:Int,x<a/\TwX h u x/\TwX h v a
theorem As.keep{v:Value}(w:As h u v)(k:∀ b o,(∀ x n,o≠seqObj "list" x n)->h.get? b=some o->h'.get? b=some o):As h' u v:=by
 obtain⟨x,c,l,a,b⟩:=w;show⟨x,c,l,a.keep k,b.keep k⟩
def AsL(h:Heap)(vs:List Value):Prop:=∀ j,j+1<vs.length->As h (vs.getD j Value.none) (vs.getD (j+1) Value.none)
section
variable{prog:Program}{w:World}{A:Around}{E:Value->Shared->Prop}{s:Shared}
theorem as_lt{v:Value}{Q:Bool->Shared->Prop}(a:As s.heap v u)(h:Q false s):wpAny (model prog w) A (keyLt' (tuples' true) u v) Q E s:=by
 obtain⟨j,x,b,⟨t',m,p,f,i,k',rfl,g',l,d'⟩,⟨t,o,y,n,ty,k,rfl,g,c,d⟩⟩:=a;show kat_lt g d g' d' ?_;show kat_cons (XF (kat_go (fun e=>?_) fun _=>kat_no ?_))
 .exfalso;simp at e;lk
 .show oneLt_int ?_;have e:decide (x<j)=false:=yl (by lk);rw[e];show h
theorem pick_eq(vs:List Value):((List.range vs.length).toArray.toList.map fun i=>vs.getD i Value.none)=vs:=by
 apply kJ
 .simp
 .intro i h1 a;simp[a]
theorem sort_tupR{a:Addr}{P:PySem.Fin->Shared->Prop}(g:s.heap.get? a=some (seqObj "list" vs.toArray n))(hv:∀ v∈vs,Tw s.heap v)(y:AsL s.heap vs)(F:vs.length<64)
  (h:∀ out:Array Value,out.toList=vs->P (.done (.ret .none)) { s with heap:=sortedHeap s.heap a vs out }) :
  wpAny (model prog w) A (Builtin.«list.sort» ⟨[.ref a],[]⟩) P E s:=by
 rw[list_sort_plain];have J:=y;have y:a<s.heap.objs.size:=yJ g;show yr (listItems_at g rfl ?_);show yr (Xm g rfl ?_);obtain⟨D,m⟩:∃ D,(s.heap.update a (Obj.mapSeq fun _=>#[])).get? a=some (seqObj "list" #[] D):=⟨_,get?_update_seq g (fun _=>#[])⟩;show yr (XI m rfl ?_);show yr (wpAny_newTuple ?_);show yr (kB ?_);show Yk ?_
 have c:(((s.heap.update a (Obj.mapSeq fun _=>#[])).push (seqObj "tuple" vs.toArray 0)).push (seqObj "list" #[] 0)).get? a=some (seqObj "list" #[] D):=by
  rw[YM _ _ _ (by rw[size_push',xV];show yF (Y1 y)),YM _ _ _ (by rw[xV];show yF y)];show m
 have U:=xu s.heap a (Obj.mapSeq fun _=>(#[]:Array Value));have N:∀ v∈vs,Tw (((s.heap.update a (Obj.mapSeq fun _=>#[])).push (seqObj "tuple" vs.toArray 0)).push (seqObj "list" #[] 0)) v:=fun v hm=>(hv v hm).keep fun b o O e=>yv _ (yv _ ((U.2 b (fun z=>by rw[z,g] at e;show O _ _ (ym e).symm)).trans e));have H:AsL (((s.heap.update a (Obj.mapSeq fun _=>#[])).push (seqObj "tuple" vs.toArray 0)).push (seqObj "list" #[] 0)) vs:=fun j L=>(J j L).keep fun b o O e=>yv _ (yv _ ((U.2 b (fun z=>by rw[z,g] at e;show O _ _ (ym e).symm)).trans e));show wpAny (model prog w) A _ P E { s with heap:=((s.heap.update a (Obj.mapSeq fun _=>#[])).push (seqObj "tuple" vs.toArray 0)).push (seqObj "list" #[] 0) };dsimp only;have hsz:vs.toArray.size=vs.length:=by simp
 have l:=h;by_cases u:vs.toArray.size<2
 .rw [yG u,yG u];show yr (yu ?_);rw[StateT.run_pure];show yr (yu ?_);dsimp only;show yr (XI c rfl ?_);show yr (Xm c rfl ?_ (hsz2:=by rw[Array.size_map];show(pairsOf vs).size<=_;rw[pairsOf_size,Yy];lk));simp only[XA,Yx,xA];show yu (l _ ?_);show((pairsOf vs).map (·.2)).toList=vs
  have:((pairsOf vs).map (·.2)).toList=vs:=by
   rw[Array.toList_map];show(vs.toArray.zip vs.toArray).toList.map Prod.snd=vs;simp[List.map_snd_zip]
  show this
 .rw [yC u,yC u];have S:2<=vs.length:=by lk
  obtain⟨fs,k1,k2,k3⟩:=qcZ N;show yr (kat_kind (T:=.type "int") k1 (by lk) (fun f K=>?_) (by room) ?_)
  .obtain⟨x,t,rfl⟩:=k3 f K;show Looks.of_pure rfl
  show yr (YW (kat_run (ks:=vs) (Q:=fun d r=>r={ s with heap:=((s.heap.update a (Obj.mapSeq fun _=>#[])).push (seqObj "tuple" vs.toArray 0)).push (seqObj "list" #[] 0) }/\∃ p:Array Nat,p=(List.range vs.length).toArray/\arrOf d=p.map (kas_item (vs.toArray.zip vs.toArray))/\failedOf d=none)
   (G:=fun p r=>r={ s with heap:=((s.heap.update a (Obj.mapSeq fun _=>#[])).push (seqObj "tuple" vs.toArray 0)).push (seqObj "list" #[] 0) }/\p=(List.range vs.length).toArray) rfl S F (fun p' d r a1 W X R=>⟨R.1,p',R.2,W,X⟩) ((kto_sort S).wp (fun i j C Z L Y=>?_) fun p B=>⟨rfl,B⟩)) ?_ fun _ _ e=>e)
  .subst Z;show as_lt (H j L) Y
  rintro⟨⟨⟩,d⟩ r ⟨rfl,p,B,I,K⟩;dsimp only;have q:=kat_snds rfl I;have M:p.toList.length=vs.length:=by rw[B];simp
  show yr (XI c rfl ?_);rw[q];show yr (Xm c rfl ?_ (hsz2:=by rw[yw,ya,M,Yy];lk));rw[K];simp only[XA,Yx,xA];show yu (l _ (by rw[B];show pick_eq vs))
theorem sorted_tupR{l:Addr}{Q:Value->Shared->Prop}(hl:s.heap.IsList l vs.toArray)(hv:∀ v∈vs,Tw s.heap v)(i:AsL s.heap vs)(d:vs.length<64)
  (h:∀ out:Array Value,out.toList=vs->Q (.ref (s.heap.objs.size+1)) { s with heap:=sortedAll s.heap vs out }) :
  wpAny (model prog w) A (call (.builtin "sorted") [.ref l]) Q E s:=by
 show Calls.call_function_entry kind_sorted plain_sorted entry_sorted (args_sorted1 _) ?_;unfold Builtin.«sorted»;show yr (m:=checkCount "sorted" 1 1 _) (yu ?_);show yr (collect_list hl ?_);show yr (kB ?_)
 have hsz:((s.heap.push (seqObj "list" #[] 0)).update s.heap.objs.size (Obj.mapSeq (·++vs.toArray))).objs.size=s.heap.objs.size+1:=by
  rw[xV,size_push']
 have c:(((s.heap.push (seqObj "list" #[] 0)).update s.heap.objs.size (Obj.mapSeq (·++vs.toArray))).push (seqObj "list" vs.toArray 0)).get? (s.heap.objs.size+1)=some (seqObj "list" vs.toArray 0):=by
  rw[<- hsz];show yS _ rfl
 have g:∀ v∈vs,Tw (((s.heap.push (seqObj "list" #[] 0)).update s.heap.objs.size (Obj.mapSeq (·++vs.toArray))).push (seqObj "list" vs.toArray 0)) v:=fun v p=>(hv v p).keep fun b o _ e=>by
  have a:b<s.heap.objs.size:=yJ e;rw[YM _ _ _ (by rw[hsz];show yF (Y1 a)),xO _ _ _ _ (yF a),YM _ _ _ (yF a)];show e
 have f:AsL (((s.heap.push (seqObj "list" #[] 0)).update s.heap.objs.size (Obj.mapSeq (·++vs.toArray))).push (seqObj "list" vs.toArray 0)) vs:=fun j n=>(i j n).keep fun b o _ e=>by
  have a:b<s.heap.objs.size:=yJ e;rw[YM _ _ _ (by rw[hsz];show yF (Y1 a)),xO _ _ _ _ (yF a),YM _ _ _ (yF a)];show e
 show wpAny _ _ _ _ _ { s with heap:=((s.heap.push (seqObj "list" #[] 0)).update s.heap.objs.size (Obj.mapSeq (·++vs.toArray))).push (seqObj "list" vs.toArray 0) };rw[hsz];show yr (Yk (xx slot_list_sort ⟨_,c,rfl⟩ entry_list_sort (sort_tupR c g f d fun out q=>⟨_,rfl,?_⟩) (args_list_sort _)));show yu ⟨_,rfl,h out q⟩
end
section
variable{X:Cx}{K:yg}
def rSortR:List V->Hp->VK->Prop:=fun xs H Q=>∃(p:Addr) (c:LQ) (d:List (Int×Int)),xs=[.ref p]/\H p=some (.lst (c.map V.ref))/\c.length<64/\c.length=d.length/\(∀(j:Nat) (t:Addr) (q:Int×Int),c[j]?=some t->d[j]?=some q->H t=some (.tup [.int q.1,.int q.2]))/\(∀ j a b,d[j]?=some a->d[j+1]?=some b->a.1<b.1)/\∀(l:Addr),H l=none->Q (.ref l) (upd H l (.lst (c.map V.ref)))
theorem k_sortR:j0 X (.builtin "sorted") rSortR:=by
 intro G s σ H xs us Q I r h;obtain⟨p,f,l,rfl,T,A,E,F,U,q⟩:=h;obtain⟨u,rfl,W⟩:=qaa r;cases W;obtain⟨C,Y,pl,hz⟩:=I.list (SqL.of T);have K:=qby Y;subst K
 have J:∀{t:Addr} {a:Int×Int},H t=some (.tup [.int a.1,.int a.2])->TwX s.heap (.ref t) a.1:=fun{t a} e=>by
  obtain⟨_,C,rt,o,g,c,n,d⟩:=I.hok _ _ e
  cases rt with
  | cons r1 rt =>
   cases rt with
   | cons r2 rt =>
    cases rt;obtain⟨D,rfl⟩:=r1;obtain⟨ty,rfl⟩:=r2;show⟨t,o,_,D,ty,n,rfl,g,c,d⟩
 have m:∀ j,j<f.length->∃ t a,(f.map Value.ref).getD j Value.none=.ref t/\l[j]?=some a/\TwX s.heap (.ref t) a.1:=fun j i=>by
  have h1:f[j]?=some f[j]:=yb i;have z:l[j]?=some l[j]:=yb (by lk);show⟨f[j],l[j],by simp[i],z,J (F j _ _ h1 z)⟩
 show sorted_tupR (vs:=f.map Value.ref) pl.isList (fun v hv=>?_) (fun j i=>?_) (by rw[ya];show A) fun out x=>?_
 .obtain⟨t,B,rfl⟩:=yN.mp hv;obtain⟨j,i⟩:=yf B;have S:=(yc.mp i).1;have z:l[j]?=some l[j]:=yb (by lk);obtain⟨t',o,y,D,ty,n,e,g,c,d⟩:=J (F j _ _ i z);show⟨t',o,_,y,D,ty,n,e,g,c,d⟩
 .rw [ya] at i;obtain⟨t,a,L,N,Z⟩:=m j (by lk);obtain⟨t',b,M,O,w2⟩:=m (j+1) i;rw[L,M];show⟨a.1,b.1,U j a b N O,Z,w2⟩
 .obtain⟨e,P⟩:=PyProof.Rows.sortedAll_at s.heap (f.map Value.ref) out;have R:H (s.heap.objs.size+1)=none:=I.hok.fresh (xH _)
  have new:ObjOk X.prog X.w (upd H (s.heap.objs.size+1) (.lst (f.map V.ref))) (PyProof.Rows.sortedAll s.heap (f.map Value.ref) out) (s.heap.objs.size+1) (.lst (f.map V.ref)):=by
   show⟨?_,out.toList,e,by rw[x];show qbz f,?_⟩
   .rw [ya];show yV (qi (by lk))
   .rw [P]
  show⟨.ref (s.heap.objs.size+1),_,I.laid (t':=s.toks) (fun b o e=>PyProof.Rows.sortedAll_old e) (xH _) new,rfl,q _ R⟩
end
end L2
namespace L2
open PySem PySem.Spec PyProof.Rows
variable{t:Tok}
section
variable{prog:Program}{w:World}{A:Around}{E:Value->Shared->Prop}{s:Shared}{l:Addr}
theorem qdz{a b:Int}{u:Tok}{v:Value}{c:Int->Int->Bool}(h:(intItems #[(a,t),(b,u)])[argBest (fun i j=>c (numAt #[(a,t),(b,u)] i) (numAt #[(a,t),(b,u)] j)) 1]?=some v):v=if c b a=true then Value.int b u else .int a t:=by
 by_cases d:c b a=true
 .have e:argBest (fun i j=>c (numAt #[(a,t),(b,u)] i) (numAt #[(a,t),(b,u)] j)) 1=1:=by simp[argBest,numAt,d]
  rw[e] at h;simpa [intItems,d] using h.symm
 .have e:argBest (fun i j=>c (numAt #[(a,t),(b,u)] i) (numAt #[(a,t),(b,u)] j)) 1=0:=by simp[argBest,numAt,d]
  rw[e] at h;simpa [intItems,d] using h.symm
end
section
variable{X:Cx}{K:yg}
def rMM(c:Int->Int->Bool):List V->Hp->VK->Prop:=fun xs H Q=>∃(p:Addr) (i j:Int),xs=[.ref p]/\(H p=some (.lst [.int i,.int j])\/H p=some (.tup [.int i,.int j]))/\Q (.int (if c j i=true then j else i)) H
theorem qdA{x y:V}{c:List Value}(r:Vals [x,y] c):∃ a b,c=[a,b]/\RelV x a/\RelV y b:=by
 obtain⟨a,b,rfl,h1,d⟩:=qdQ r;show⟨a,b,rfl,h1,d⟩
theorem it2{i j:Int}{t':Tok}:intItems #[(i,t),(j,t')]=#[Value.int i t,.int j t']:=by simp[intItems]
theorem qgN{s:Shared}{N:Addr}{x:Obj}{h':Heap}(a:N=s.heap.objs.size)(c:∀ b o,b∉[N]->(s.heap.push x).get? b=some o->h'.get? b=some o):∀ b o,s.heap.get? b=some o->h'.get? b=some o:=fun b o e=>by
 show c b o (fun d=>?_) (yv _ e);rw[yz.mp d,a] at e;show absurd (yJ e) (Yv _)
theorem qe9(D:X.K=K)(hc:X.calm=true):j0 X (.builtin "max") (rMM fun i j=>decide (i>j)):=by
 intro l s C H xs us Q I r h;obtain⟨p,i,j,rfl,hp,q⟩:=h;obtain⟨u,rfl,B⟩:=qaa r;cases B
 have d:∀{t u:Tok} {v:Value} {h':Heap} {tk:Nat},(intItems #[(i,t),(j,u)])[argBest (fun y z=>decide (numAt #[(i,t),(j,u)] y>numAt #[(i,t),(j,u)] z)) 1]?=some v->(∀ b o,s.heap.get? b=some o->h'.get? b=some o)->EP X l C Q v { s with heap:=h',toks:=tk }:=fun{t u v h' tk} hv f=>by
  have:=qdz (c:=fun i j=>decide (i>j)) hv;subst this;show⟨_,H,I.kept f,?_,q⟩;dsimp only;split<;>show⟨_,rfl⟩
 rcases hp with hp | hp
 .obtain⟨n,w,pl,hz⟩:=I.list (SqL.of hp);obtain⟨a,b,rfl,⟨t,rfl⟩,⟨t',rfl⟩⟩:=qdA w;show max_intList (xs:=#[(i,t),(j,t')]) (I.ok.hd hc) (by rw[it2];show pl.isList) (by simp) fun v h' tk hv f=>d hv f
 .obtain⟨n,w,pl,hz⟩:=I.tuple (SqT.of hp);obtain⟨a,b,rfl,⟨t,rfl⟩,⟨t',rfl⟩⟩:=qdA w;have m:s.heap.IsTuple p (intItems #[(i,t),(j,t')]):=by rw[it2];show pl
  have g:p<s.heap.objs.size:=by obtain⟨_,e,_⟩:=m;show yJ e
  show call_max_walk (kc m ?_);show⟨_,[_,p],[_],_,_,_,_,rfl,Walks.tuple (A:=X.A.in1) (I.ok.hd hc) _ p (yF g) (intItems #[(i,t),(j,t')]),⟨⟨_,yS _ rfl,rfl,rfl⟩,m.push _⟩,fun c hcm=>?_,by simp[intItems],CmpOf.ints_gt (numAt #[(i,t),(j,t')]) (fun _ _=>intItems_at),fun v h' tk x f=>?_⟩
  .show c<(s.heap.push _).objs.size;rw[Y0];rcases yA.mp hcm with rfl | hcm
   .show xR _
   .rw [yz.mp hcm];show Y1 g
  .rw [show(intItems #[(i,t),(j,t')]).size-1=1 by simp[intItems]] at x;show d x (qgN rfl f)
theorem qfa(D:X.K=K)(hc:X.calm=true):j0 X (.builtin "min") (rMM fun i j=>decide (i<j)):=by
 intro l s C H xs us Q I r h;obtain⟨p,i,j,rfl,hp,q⟩:=h;obtain⟨u,rfl,B⟩:=qaa r;cases B
 have d:∀{t u:Tok} {v:Value} {h':Heap} {tk:Nat},(intItems #[(i,t),(j,u)])[argBest (fun y z=>decide (numAt #[(i,t),(j,u)] y<numAt #[(i,t),(j,u)] z)) 1]?=some v->(∀ b o,s.heap.get? b=some o->h'.get? b=some o)->EP X l C Q v { s with heap:=h',toks:=tk }:=fun{t u v h' tk} hv f=>by
  have:=qdz (c:=fun i j=>decide (i<j)) hv;subst this;show⟨_,H,I.kept f,?_,q⟩;dsimp only;split<;>show⟨_,rfl⟩
 rcases hp with hp | hp
 .obtain⟨n,w,pl,hz⟩:=I.list (SqL.of hp);obtain⟨a,b,rfl,⟨t,rfl⟩,⟨t',rfl⟩⟩:=qdA w;show min_intList (xs:=#[(i,t),(j,t')]) (I.ok.hd hc) (by rw[it2];show pl.isList) (by simp) fun v h' tk hv f=>d hv f
 .obtain⟨n,w,pl,hz⟩:=I.tuple (SqT.of hp);obtain⟨a,b,rfl,⟨t,rfl⟩,⟨t',rfl⟩⟩:=qdA w;have m:s.heap.IsTuple p (intItems #[(i,t),(j,t')]):=by rw[it2];show pl
  have g:p<s.heap.objs.size:=by obtain⟨_,e,_⟩:=m;show yJ e
  show call_min_walk (kc m ?_);show⟨_,[_,p],[_],_,_,_,_,rfl,Walks.tuple (A:=X.A.in1) (I.ok.hd hc) _ p (yF g) (intItems #[(i,t),(j,t')]),⟨⟨_,yS _ rfl,rfl,rfl⟩,m.push _⟩,fun c hcm=>?_,by simp[intItems],CmpOf.ints_lt (numAt #[(i,t),(j,t')]) (fun _ _=>intItems_at),fun v h' tk x f=>?_⟩
  .show c<(s.heap.push _).objs.size;rw[Y0];rcases yA.mp hcm with rfl | hcm
   .show xR _
   .rw [yz.mp hcm];show Y1 g
  .rw [show(intItems #[(i,t),(j,t')]).size-1=1 by simp[intItems]] at x;show d x (qgN rfl f)
theorem dedup_nd:∀{ns:LX},ns.Nodup->∀ i,i<=ns.length->firstMet (fun i=>ns.getD i 0) i=ns.take i:=fun{ns} l i=>by
 induction i with
 | zero=>intro _;rw[firstMet_zero];rfl
 | succ i ih =>
  intro f;have hl:i<ns.length:=f;have e:ns.getD i 0=ns[i]:=by simp[List.getD,hl]
  rw[firstMet_succ,ih (by lk),e,List.take_succ_eq_append_getElem hl];unfold step_dedup;rw[yC];intro h;obtain⟨x,c,a⟩:=YH.mp h;have a:x=ns[i]:=by simpa using a
  rw[a] at c;obtain⟨j,g,d⟩:=List.mem_take_iff_getElem.mp c;have b:j<i:=yj g (Nat.min_le_left _ _);have:=(Yl.mp l) j i (by lk) hl b;show this d
def rSetI(K:yg):List V->Hp->VK->Prop:=fun xs H Q=>∃(p:Addr) (ns:LX),xs=[.ref p]/\SqL K H p (ns.map V.int)/\ns.Nodup/\ns.length<=100/\∀(l:Addr) (S:Int->Bool),H l=none->Q (.ref l) (upd H l (.set S ns.length))
theorem k_setI(g:X.K=K)(hc:X.calm=true):j0 X (.type "set") (rSetI K):=by
 subst g;intro d s w H xs us Q I r h;obtain⟨p,ns,rfl,n,m,h1,q⟩:=h;obtain⟨u,rfl,t⟩:=qaa r;cases t;obtain⟨a,f,pl,hz⟩:=I.list n;have j:=qds f;have hl:a.length=ns.length:=by rw[<- f.length,ya]
 show call_set_list (ns:=ns) (I.ok.hd hc) pl.isList j (by unfold scanBound;simp only[yw];lk) fun h' tk c l=>?_;have i:=I.hok.fresh (yh s.heap.objs.size);simp only[yw,hl,dedup_nd m ns.length (yh _),yQ] at c;show⟨.ref _,_,I.laid (o:=.set (fun k'=>ns.any fun x=>x==k') ns.length) (t':=tk) (fun b o e=>l b o (yJ e) e) (yh _) c,rfl,q _ _ i⟩
def rLenS:List V->Hp->VK->Prop:=fun xs H Q=>∃(p:Addr) (S:Int->Bool) (n:Nat),xs=[.ref p]/\H p=some (.set S n)/\Q (.int (n:Int)) H
theorem k_lenS:j0 X (.builtin "len") rLenS:=by
 intro a s l H xs us Q I r h;obtain⟨p,S,n,rfl,f,q⟩:=h;obtain⟨u,rfl,i⟩:=qaa r;cases i;obtain⟨o,j,ep,t,e,g,b,_,_,hb,c,d⟩:=(I.hok p _ f:s.heap.SetOf (intKind X.prog X.w) p S n);show call_len_set e g b c (by unfold scanBound at hb;lk) ?_;subst d;show⟨.int _,H,I.tok _,⟨_,rfl⟩,q⟩
end
end L2
namespace K56
open PySem L2 PyProof.Rows
variable{A:Str->Str->Prop}{D:Ends}{E:XK}{G H H' H0 H1 H2 J J':Hp}{K:W.Frag}{L0 left ms ns pc:LN}{Pd:Str->Prop}{S S' S1 S2:FS}{a cw dx l ln p t x:Addr}{ab:Str×Str}{b c s u y z:Str}{bar dn gs l' l1 l2 m1 m2 r rs rv rw rz ss wt:LS}{d lo ol:V}{g:Str->Option Str}{h h1:Int}{i j m n:Nat}{kps qs rs' tps:LP}{kvs:List (Key×V)}{neg:Bool}{o:HO}{o':Option (LS)}{ps:List (LN)}{q q' q0:Nat×Nat}{ts us:LQ}{xs ys:List V}{α β:Type}{σ:L2.St}
theorem Sr(H:Hp):L2.Same H H:=L2.Same.refl H
theorem zd{k:Nat}{A:Around}(a:Room k A):A.units+100<cLine:=by have:=a.un;lk
theorem hmR{k:Nat}{A:Around}(a:Room k A)(h:j<=k:=by decide):Room j A:=a.mono h
local macro_rules | `(tactic| walk_at "w")=>`(tactic| first
 | with_reducible refine vSeq ?_ | with_reducible refine vAsg ?_ | with_reducible refine vAsgS ?_ | with_reducible refine vIfS ?_ | with_reducible refine vRet ?_ | with_reducible refine vNext ?_ | with_reducible refine vC ?_
 | ((with_reducible refine' vVar ?hv ?_);(case hv=>rfl)) | with_reducible refine vOp ?_ | with_reducible refine vChain ?_ | with_reducible refine vNil ?_ | with_reducible refine vCons ?_ | with_reducible refine vCB ?_ | with_reducible refine vCall ?_
 | with_reducible refine vLst ?_ | with_reducible refine vTup ?_ | with_reducible refine vTest ?_ | with_reducible refine vB ?_ | with_reducible refine vNot ?_ | with_reducible refine vAnd ?_ | with_reducible refine vOr ?_
 | with_reducible refine vAndV ?_ | with_reducible refine vOrV ?_ | with_reducible refine vNotV ?_ | with_reducible refine vYes ?_ | with_reducible refine vLeI ?_ | with_reducible refine vLeS ?_ | with_reducible refine vIsB ?_ | with_reducible refine vAddI ?_ | with_reducible refine vSl ?_ | with_reducible refine vNoPart ?_ | with_reducible refine vPart ?_ | with_reducible refine vExI ?_ | with_reducible refine vBM ?_ | with_reducible refine vBM0 ?_ | with_reducible refine vComp ?_ | with_reducible refine vFor ?_ | with_reducible refine vRng1 ?_ | with_reducible refine vAny ?_ | with_reducible refine vGN ?_ | with_reducible refine vI0 ?_ | with_reducible refine vEqI ?_ | with_reducible refine vEqB ?_ | with_reducible refine vEx ?_ | with_reducible refine vDrop ?_ | with_reducible refine vRetN ?_ | with_reducible refine vFldU ?_ | with_reducible refine vSFldU ?_ | with_reducible refine vXMake ?_ | with_reducible refine vMake ?_ | with_reducible refine vMeth ?_ | with_reducible refine vVinit ?_ | with_reducible refine vCallS ?_ | with_reducible refine vRaise ?_ | with_reducible refine vMethS ?_ | with_reducible refine vMakeS ?_ | with_reducible refine vUn ?_ | with_reducible refine vIf ?_ | with_reducible refine vRev ?_ | with_reducible refine vEnum ?_ | with_reducible refine vDGet2 ?_ | with_reducible refine vStep ?_)
local macro_rules | `(tactic| walk_at "v")=>`(tactic| repeat walk_at "w")
local macro_rules | `(tactic| ext)=>`(tactic| walk_at "v")
local macro_rules | `(tactic| apply $e)=>`(tactic| (ext;refine $e))
noncomputable def fAtt:LS:=["board","partners","rows","parents","bases","rings","waiting","longer"]
structure Txt(K:W.Frag)(mg:Str->Option Value)(cc:Nat->Addr)(cw:Addr):Prop where
 b_len:mg "len"=none
 b_int:mg "int"=none
 b_enumerate:mg "enumerate"=none
 b_all:mg "all"=none
 b_max:mg "max"=none
 b_min:mg "min"=none
 b_isinstance:mg "isinstance"=none
 b_bool:mg "bool"=none
 b_str:mg "str"=none
 b_range:mg "range"=none
 b_list:mg "list"=none
 b_tuple:mg "tuple"=none
 g_LONGEST_NAME:∃ tk,mg "LONGEST_NAME"=some (.int 6 tk)
 g_MOST_PLACES:∃ tk,mg "MOST_PLACES"=some (.int 14 tk)
 g_MOST_TIES:∃ tk,mg "MOST_TIES"=some (.int 30 tk)
 wcl:Cls K cw
 wn:NoAttr K cw "numbers"
 wo:NoAttr K cw "order"
 wr:NoAttr K cw "near"
 m_Web:mg "Web"=some (.ref cw)
 m_Forest:mg "Forest"=some (.ref (cc 9))
 fcl:Cls K (cc 9)
 fa:∀ a∈fAtt,NoAttr K (cc 9) a
 b_zip:mg "zip"=none
 b_sorted:mg "sorted"=none
 b_any:mg "any"=none
 b_set:mg "set"=none
theorem u9:FnScope ["thing"] ["thing"] (qh qaf):=fS
theorem Ua:FnScope ["bits","number"] ["bits","number"] (qh qaT):=fS
theorem uX:FnScope ["numbers","thing"] ["numbers","thing"] (qh qan):=fS
theorem KY:FnScope ["numbers","thing","both"] ["numbers","thing"] (qh jC):=fS
theorem qF(a:L2.Same H H1)(hl:H1 l=none):L2.Same H (upd H1 l o):=fun c u e=>by
 have q:=a c u e;rw[qf (qy q hl)];show q
theorem qaE(a:L2.Same H H1)(hl:H l=none):L2.Same H (upd H1 l o):=fun c u e=>by
 rw[qf (qy e hl)];show a c u e
noncomputable def sg(c:Nat):Bool:=if (!decide (([c]:LN)<("a":Str).cps.toList))=true then !decide (("z":Str).cps.toList < [c]) else false
noncomputable def zP(x:Str):Bool:=if 1<=x.length/\x.length<=6 then x.cps.toList.all sg else false
theorem nameS_at{x:Str}(h:zP x=true):1<=x.length/\x.length<=6/\x.cps.toList.all sg=true:=by
 unfold zP at h;split at h
 .rename_i z;show⟨z.1,z.2,h⟩
 .cases h
structure All2{α β:Type}(R:α->β->Prop)(l:List α)(m:List β):Prop where
 len:l.length=m.length
 at_:∀(k:Nat) a b,l[k]?=some a->m[k]?=some b->R a b
theorem All2.nil{R:α->β->Prop}:All2 R [] []:=⟨rfl,fun k a b h=>by simp at h⟩
theorem All2.mono{R S:α->β->Prop}{l:List α}{m:List β}(h:All2 R l m)(f:∀ a b,R a b->S a b):All2 S l m:=⟨h.len,fun k a b x y=>f a b (h.at_ k a b x y)⟩
theorem All2.snoc{R:α->β->Prop}{l:List α}{m:List β}{x:α}{y:β}(h:All2 R l m)(r:R x y):All2 R (l++[x]) (m++[y]):=by
 show⟨by rw[yt,yt,h.len];rfl,fun k a b c hb=>?_⟩;by_cases d:k<l.length
 .rw [y0 d] at c;rw[y0 (by rw[<- h.len];show d)] at hb;show h.at_ k a b c hb
 .rw [yI (by lk)] at c;rw[yI (by rw[<- h.len];lk)] at hb
  have e:k-l.length=0:=by
   have:=(yc.mp c).1;simp at this;lk
  rw[<- h.len] at hb;rw[e] at c hb;cases c;cases hb;show r
theorem All2.mem{R:α->β->Prop}{l:List α}{m:List β}(h:All2 R l m){x:α}(c:x∈l):∃ y∈m,R x y:=by
 obtain⟨k,b,e⟩:=Xk c;have a:k<m.length:=by rw[<- h.len];show b
 show⟨m[k],YN a,h.at_ k x m[k] (by rw[yb b,e]) (yb a)⟩
def PL(H:Hp)(l:Addr)(ts:LQ)(tps:LP):Prop:=H l=some (.lst (ts.map V.ref))/\All2 (fun t ab=>H t=some (.tup [.str ab.1,.str ab.2])) ts tps
theorem PL.same(h:PL H l ts tps)(s:L2.Same H H'):PL H' l ts tps:=⟨s _ _ h.1,h.2.mono fun _ _ z=>s _ _ z⟩
section
variable{P:Program}{w:World}{K:W.Frag}{mg:Str->Option Value}{base:Heap}{cc:Nat->Addr}{cw:Addr}{f:Addr}{fd:FuncData}
inductive spName(vs:List V)(H:Hp)(Q:VK)(E:XK):Prop|mk (x:Str) (_:vs=[.str x]) (_:zP x=true) (_:∀ H',L2.Same H H'->Q (.bl true) H')
theorem ok_name(F:Fun K "is_name" "is_name" qaf f fd)(T:Txt K mg cc cw):FnOk P w K mg base CX0 1 f fd ["thing"] spName:=by
 show F.ok u9 fun _ _ _ _ H vs Q E r h=>?_
 .obtain⟨x,rfl,j,q⟩:=h;obtain⟨s,n,p⟩:=nameS_at j;show⟨_,(qc (qH (PW.pt (zK (qX (qO (qj (j8 (K:=K) rfl) rfl T.b_isinstance Ym (qa (pv 0) (qa (qY (v:=.ty "str") rfl T.b_str boot_str rfl) qd))))) (zn (qX (pt_chain qfD qfD qg (qj (jK (K:=K) rfl) rfl T.b_len YC (qa (pv 0) qd)) (qbY rfl T.g_LONGEST_NAME)))))) (qe (qm jH)) qr)
 (qe (qm (qj (qfs (K:=K) rfl rfl) rfl T.b_all boot_all (qa (jh (sc:=qh qaf) (XN:=["thing"]) ["sign"] 1 [] rfl rfl rfl (by room) rfl (by room)
  (qR (K:=K) rfl (pv 0)) (fun _ _ _ _=>(qt (i:=0) (show(["sign"]:LS).Nodup by room) rfl (yK rfl))) qN
  (fun _ _ _ _=>jA)
  (fun _ _ _ _=>(qdi qfD qfD qaA (pv 0) qaA))) qd))))),?_⟩
  apply qaz (.inl (.str x)) rfl (jw K "str" (by simp) "str" (by simp)) ?_;apply yq ?_;apply vLenS (yi n (by decide)) ?_;apply qL (fun h1=>?_) fun h1=>absurd (yD (by lk)) h1;apply qL (fun e=>by simp only[xJ,xq] at e;lk) fun e=>?_;apply comp_str (fun i ys H'=>H'=H/\ys=((x.cps.toList.take i).map sg).map V.bl) ⟨rfl,by simp⟩ (fun i c ys H' hc d=>?_) fun ys H' d=>?_
  .obtain⟨rfl,rfl⟩:=d;apply zm ?_;ext
   have hl:(List.map V.bl (List.map sg (List.take i x.cps.toList))).length<sizeLine:=by
    rw[ya,ya,yT];show qi (yi (Nat.min_le_right _ _) (by simpa [Str.length] using(show x.length<=1000 by lk)))
   have key:∀ b,b=sg c->(List.map V.bl (List.map sg (List.take i x.cps.toList)))++[V.bl b]=List.map V.bl (List.map sg (List.take (i+1) x.cps.toList)):=by
    intro b hb;have g:x.cps.toList[i]?=some c:=by simpa using hc
    rw[hb,yR,g];simp
   show qL (fun a=>?_) fun a=>⟨hl,rfl,key _ (by unfold sg;rw[yC a])⟩;apply⟨hl,rfl,key _ (by unfold sg;rw[yG a])⟩
  .obtain⟨rfl,rfl⟩:=d;have m:x.cps.toList.take x.cps.size=x.cps.toList:=by rw[<- xL,yQ]
   rw[m];show⟨?_,fun l hl=>?_⟩
   .rw [ya,ya];show yV (qi (by simpa [Str.length] using(show x.length<=1000 by lk)))
   .ext;show⟨l,x.cps.toList.map sg,rfl,SqL.of qb,?_⟩;have z:=q _ (qF (Sr H') (o:=.lst ((x.cps.toList.map sg).map V.bl)) hl);rw[kQ];rw[<- p] at z;show z
inductive spBit(vs:List V)(H:Hp)(Q:VK)(E:XK):Prop|mk (b n:Int) (_:vs=[.int b,.int n]) (_:0<=n) (_:Q (.bl (decide (Builtin.bitAnd (b / 2 ^ n.toNat) 1=1))) H)
theorem ok_bit(F:Fun K "has_bit" "has_bit" qaT f fd):FnOk P w K mg base CX0 1 f fd ["bits","number"] spBit:=by
 show F.ok Ua fun _ _ _ _ H vs Q E c h=>?_
 .obtain⟨b,n,rfl,a,q⟩:=h;have d:=zd c;show⟨_,(qe (qm (jg (j3 (K:=K) rfl d) (qG op_and (qG op_shr (pv 0) (pv 1)) qg) qg (qz _)))),?_⟩;apply vI a ?_;apply .inl (.inl (.inl ⟨rfl,rfl,?_⟩));show q
noncomputable def qbE:LS->Nat->List (Key×V)
 | [],_=>[]
 | s::r,i=>(.inr s,.int i)::qbE r (i+1)
theorem qcC(y:Str):∀(ss:LS) (i:Nat),qbE (ss++[y]) i=qbE ss i++[(.inr y,.int (i+ss.length:Nat))]
 | [],i=>rfl
 | s::r,i=>by
  show(_::qbE (r++[y]) (i+1))=_::(qbE r (i+1)++_);rw[qcC y r (i+1)];have:i+1+r.length=i+(s::r).length:=by simp;lk
  rw[this]
theorem zQ:∀(ss:LS) (i:Nat),(qbE ss i).length=ss.length
 | [],_=>rfl
 | _::r,i=>congrArg (· + 1) (zQ r (i+1))
theorem qbA:∀{ss:LS} {i:Nat},y∉ss->jR (qbE ss i) (.inr y:Key)=none
 | [],_,_=>rfl
 | s::r,i,h=>by
  have h1:¬ s=y:=fun e=>h (by rw[e];show yE);show jR ((.inr s,V.int i)::qbE r (i+1)) _=none;rw[qW (p:=((.inr s:Key),V.int i)) (fun e=>h1 (xk e))];show qbA fun m=>h (yy _ m)
theorem j4:∀{ss:LS} {i:Nat},y∈ss->∃ j,j<ss.length/\ss[j]?=some y/\jR (qbE ss i) (.inr y:Key)=some (.int (i+j:Nat))
 | [],_,h=>by cases h
 | s::r,i,h=>by
  by_cases e:s=y
  .subst e;show⟨0,by simp,rfl,ji (p:=((.inr s:Key),V.int i)) rfl⟩
  .rcases yA.mp h with z | z
   .show absurd z.symm e
   .obtain⟨j,h1,b,c⟩:=j4 (i:=i+1) z;show⟨j+1,by simp;lk,by simpa using b,?_⟩;show jR ((.inr s,V.int i)::qbE r (i+1)) _=_;rw[qW (p:=((.inr s:Key),V.int i)) (fun a=>e (xk a)),c];have:i+1+j=i+(j+1):=by lk
    rw[this]
theorem qbB(y:Str)(ss:LS)(i:Nat):(jR (qbE ss i) (.inr y:Key)).isSome=decide (y∈ss):=by
 by_cases h:y∈ss
 .obtain⟨j,_,_,e⟩:=j4 (i:=i) h;rw[e,yD h];rfl
 .rw [qbA h,yl h];rfl
inductive spPlace(vs:List V)(H:Hp)(Q:VK)(E:XK):Prop|mk (d:Addr) (ss:LS) (x:Str) (_:vs=[.ref d,.str x]) (_:H d=some (.dK (qbE ss 0))) (_:zP x=true) (_:x∈ss) (_:∀ H',L2.Same H H'->Q (.bl true) H')
theorem ok_place(F:Fun K "is_place" "is_place" qan f fd)(j:DefOk P w K mg base CX0 1 "is_name" ["thing"] spName):FnOk P w K mg base CX0 2 f fd ["numbers","thing"] spPlace:=by
 show F.ok uX fun _ _ _ _ H vs Q E a h=>?_
 .obtain⟨d,ss,x,rfl,c,e,i,q⟩:=h;have g:=zd a;show⟨_,(qe (qm (qaC (qp j (hmR a) qB (qa (pv 1) qd)) (qaB (jg (zC (K:=K) rfl g) (pv 1) (pv 0) (by with_unfolding_all rfl)))))),?_⟩;apply⟨x,rfl,e,fun H1 b=>?_⟩;apply zm ?_;apply .inr (.inl ⟨d,_,rfl,DGet.k (k:=Sum.inr x) (b d _ c),?_⟩);rw[qbB,yD i];show q H1 b
inductive spTwo(vs:List V)(H:Hp)(Q:VK)(E:XK):Prop|mk (d t:Addr) (ss:LS) (a b:Str) (_:vs=[.ref d,.ref t]) (_:H d=some (.dK (qbE ss 0))) (_:H t=some (.tup [.str a,.str b])) (_:zP a=true) (_:zP b=true) (_:a∈ss) (_:b∈ss) (_:a≠b) (_:∀ H',L2.Same H H'->Q (.bl true) H')
theorem ok_two(F:Fun K "are_two_places" "are_two_places" jC f fd)(T:Txt K mg cc cw)(o:DefOk P w K mg base CX0 2 "is_place" ["numbers","thing"] spPlace):FnOk P w K mg base CX0 3 f fd ["numbers","thing"] spTwo:=by
 show F.ok KY fun _ _ _ _ H vs Q E m h=>?_
 .obtain⟨d,t,ss,a,b,rfl,p,c,s,u,r,hb,l,q⟩:=h;have g:=zd m;show⟨_,(qc (qH (PW.pt (zK (qX (qO (qj (j8 (K:=K) rfl) rfl T.b_isinstance Ym (qa (pv 1) (qa (qY (v:=.ty "tuple") rfl T.b_tuple Xf rfl) qd))))) (zn (qk (zO (K:=K) rfl g) (qj (jK (K:=K) rfl) rfl T.b_len YC (qa (pv 1) qd)) qg (qz _))))) (qe (qm jH)) qr)
 (qc (qo (i:=2) KY.nd rfl (yK rfl) (qaC (qp o (hmR m) qB (qa (pv 0) (qa (qv (qw (K:=K) rfl g) (pv 1) qg (fun _ _=>rfl)) qd))) (qaB (qp o (hmR m) qB (qa (pv 0) (qa (qv (qw (K:=K) rfl g) (pv 1) qg (fun _ _=>rfl)) qd))))))
 (qe (qm (qaC (pv 2) (qaB (jg (zO (K:=K) rfl g) (qv (qw (K:=K) rfl g) (pv 1) qg (fun _ _=>rfl)) (qv (qw (K:=K) rfl g) (pv 1) qg (fun _ _=>rfl)) (qz _)))))))),?_⟩
  apply qaz (.inl (.tup c)) rfl (jw K "tuple" (by simp) "tuple" (by simp)) ?_;apply yq ?_;apply qeb c ?_;apply .inl ⟨rfl,rfl,?_⟩;apply yq ?_;apply .inl (zD c rfl ?_);apply⟨d,ss,a,rfl,p,s,r,fun H1 j=>?_⟩;apply zm ?_;apply .inl (zD (j _ _ c) rfl ?_);apply⟨d,ss,b,rfl,j _ _ p,u,hb,fun H2 n=>?_⟩;apply zm ?_;apply .inl (zD (n _ _ (j _ _ c)) rfl ?_);apply .inl (zD (n _ _ (j _ _ c)) rfl ?_);show .inl ⟨rfl,rfl,?_⟩;have z:=q H2 (j.trans n);have e:(if true=true then !eqV (V.str a) (V.str b) else eqV (V.str a) (V.str b))=true:=by simp[eqV,l]
  rw[e];show z
theorem KS:FnScope ["names","numbers","name"] ["names"] (qh zw):=fS
theorem qc0(m j:Nat):decide (Builtin.bitAnd ((m:Int) / 2 ^ (j:Int).toNat) 1=1)=m.testBit j:=by
 rw[PyProof.Rows.bitAnd_m1,Nat.testBit_eq_decide_div_mod_eq];rw[Yw];have e:(m:Int) / 2 ^ j=((m / 2 ^ j:Nat):Int):=by rw[Int.natCast_ediv,Int.natCast_pow];rfl
 rw[e]
 congr 1
 apply propext;lk
theorem qfb(m j:Nat):Builtin.bitOr (m:Int) (1*2 ^ (j:Int).toNat)=((m ||| 2 ^ j:Nat):Int):=by
 have e:(1*2 ^ (j:Int).toNat:Int)=((2 ^ j:Nat):Int):=by rw[Yw,Int.one_mul,Int.natCast_pow];rfl
 rw[e];generalize 2 ^ j=k;have c:Builtin.bitNot (m:Int)=-(m:Int)-1:=rfl;have d:Builtin.bitNot (k:Int)=-(k:Int)-1:=rfl;unfold Builtin.bitOr Builtin.bitAnd;rw[c,d,yl (by lk),yl (by lk)];dsimp only;unfold Builtin.bitNot;have a:(-(-(m:Int)-1)-1).toNat=m:=by lk
 have b:(-(-(k:Int)-1)-1).toNat=k:=by lk
 rw[a,b];lk
def But(x:Addr)(H H':Hp):Prop:=∀ b o,b≠x->H b=some o->H' b=some o
theorem But.refl(x:Addr)(H:Hp):But x H H:=fun _ _ _ e=>e
theorem But.same(a:But x H H1)(b:L2.Same H1 H2):But x H H2:=fun c o n e=>b c o (a c o n e)
theorem But.put(a:But x H H1):But x H (upd H1 x o):=fun c u n e=>by rw[qf n];show a c u n e
theorem But.new(a:But x H H1)(hl:H1 l=none):But x H (upd H1 l o):=a.same (qF (Sr H1) hl)
theorem qej{q:Addr}{Q:VK}(h:H a=some (.lst xs))(b:H q=some (.tup [.ty "list",.ty "tuple"]))(k:Q (.bl true) H):qee K [.ref a,.ref q] H Q:=
 ⟨_,q,_,_,[.type "list",.type "tuple"],true,rfl,.inl (.lst h),b,rfl,rfl,k⟩
def LTu(H:Hp)(a:Addr)(xs:List V):Prop:=H a=some (.lst xs)\/H a=some (.tup xs)
theorem LTu.same(h:LTu H a xs)(s:L2.Same H H'):LTu H' a xs:=h.imp (s _ _) (s _ _)
theorem qfc{q:Addr}{Q:VK}(h:LTu H a xs)(b:H q=some (.tup [.ty "list",.ty "tuple"]))(k:Q (.bl true) H):qee K [.ref a,.ref q] H Q:=
 h.elim (fun h=>qej h b k) fun h=>⟨_,q,_,_,[.type "list",.type "tuple"],true,rfl,.inl (.tup h),b,rfl,rfl,k⟩
theorem qfd{Q:VK}(h:LTu H a xs)(q:Q (.int xs.length) H):qcT K [.ref a] H Q:=h.elim (fun e=>qac e q) fun e=>qeb e q
def qgO(g:TG)(t:TS)(D:Ends)(σ:L2.St)(J:It)(H1:Hp):Prop:=∃ W:Nat->Nat->L2.St->Hp->Prop,(∃ m,W 0 m σ H1)/\∀ i m σ H,W i m σ H ->
 (J.stop i H/\D.nx σ H)\/(J.go i H/\∃ N:L2.St->Hp->Prop,(∀ a H',N a H'->∃ c,c<m/\W (i+1) c a H')/\∀ x H',J.yld i H x H'->g x σ H' fun b H2=>t { D with nx:=N,ct:=N,bk:=D.nx } b H2)
theorem qfe{g:TG}{d:TS}(h:LTu H a xs)(n:L2.Same H H1)(b:Nat->L2.St->Hp->Prop)(j:b 0 σ H1)(hl:∀ i σ H',b i σ H'->L2.Same H H')
  (m:∀ i x σ H,xs[i]?=some x->b i σ H->g x σ H fun f H2=>d { D with nx:=b (i+1),ct:=b (i+1),bk:=D.nx } f H2) (l:∀ σ H,b xs.length σ H->D.nx σ H) :
  ((∃ xs,SqL K H1 a xs)/\qgO g d D σ (Itl K a) H1)\/((∃ xs,SqT K H1 a xs)/\qgO g d D σ (Itt K a) H1):=by
 rcases h with e | e
 .show .inl ⟨⟨_,SqL.of (n _ _ e)⟩,jo (K:=K) b j (fun i σ H' _ c=>SqL.of (hl i σ H' c _ _ e)) m l⟩
 .show .inr ⟨⟨_,SqT.of (n _ _ e)⟩,for_tup (K:=K) b j (fun i σ H' _ c=>SqT.of (hl i σ H' c _ _ e)) m l⟩
inductive spNums(vs:List V)(H:Hp)(Q:VK)(E:XK):Prop|mk (a:Addr) (ss:LS) (_:vs=[.ref a]) (_:LTu H a (ss.map V.str)) (_:ss.length<=14) (_:ss.Nodup) (_:(∀ s∈ss,zP s=true)) (_:∀ d H',L2.Same H H'->H d=none->H' d=some (.dK (qbE ss 0))->Q (.ref d) H')
theorem ok_nums(F:Fun K "numbers_of" "numbers_of" zw f fd)(T:Txt K mg cc cw)(R:DefOk P w K mg base CX0 1 "is_name" ["thing"] spName) :
  FnOk P w K mg base CX0 4 f fd ["names"] spNums:=by
 show F.ok KS fun _ _ _ _ H vs Q E D h=>?_
 .obtain⟨a,ss,rfl,n,L,p,r,q⟩:=h;have G:=zd D;show⟨_,(qc (qH (qX (qO (qj (qcU (K:=K) rfl) rfl T.b_isinstance Ym (qa (pv 0) (qa (qZ (qa (qY (v:=.ty "list") rfl T.b_list xz rfl) (qa (qY (v:=.ty "tuple") rfl T.b_tuple Xf rfl) qd))) qd))))) (qe jr) qr)
 (qc (qH (qk qdP (qj (jK (K:=K) rfl) rfl T.b_len YC (qa (pv 0) qd)) (qbY rfl T.g_MOST_PLACES) (qz _)) (qe jr) qr)
 (qc (qo (i:=1) KS.nd rfl (yK rfl) zc)
 (qc (jp yZ rfl (qR (K:=K) rfl (pv 0)) (qt (i:=2) KS.nd rfl (yK rfl))
 (qc (qH (qX (qO (qp R (hmR D) qB (qa (pv 2) qd)))) (qe jr) qr)
 (qc (qH (qk (zC (K:=K) rfl G) (pv 2) (pv 1) (by with_unfolding_all rfl)) (qe jr) qr)
 (qe (jQ (qj (jK (K:=K) rfl) rfl T.b_len YC (qa (pv 1) qd)) (j7 (pv 1) (pv 2) (j9 G)))))))
 (qe (qm (pv 1))))))),?_⟩
  apply⟨by show 2<=sizeLine;decide,fun g M=>?_⟩;have l:=qF (Sr H) (o:=.tup [.ty "list",.ty "tuple"]) M;apply qfc (n.same l) qb ?_;apply yq ?_;apply qfd (n.same l) ?_;rw[ya];apply qL (fun h=>by have:=yk h;lk) fun _=>?_;ext;intro d B;have J:=qF l (o:=.dK []) B;have c:H d=none:=l.free B;apply qfe (K:=K) n J (fun i σ H'=>∃ u,σ=[some (.ref a),some (.ref d),u]/\L2.Same H H'/\H' d=some (.dK (qbE (ss.take i) 0))) ⟨none,rfl,J,qb⟩ (fun i σ H' e=>by obtain⟨_,_,z,_⟩:=e;show z) (fun i y σ H' I e=>?_) fun σ H' e=>?_
  .obtain⟨u,rfl,t,b⟩:=e;rw[yd] at I;obtain⟨x,s,rfl⟩:=yn.mp I;have N:i<ss.length:=(yc.mp s).1;have j:ss.take (i+1)=ss.take i++[x]:=by rw[yR,s];rfl
   have C:x∉ss.take i:=fun z=>by
    have A:(ss.take (i+1)).Nodup:=p.sublist (Xu _ _);rw[j] at A;show(Yc.mp A).2.2 _ z x (by simp) rfl
   apply⟨x,rfl,r x (ye s),fun H1 m=>?_⟩;have O:=t.trans m;apply yq ?_;apply .inr (.inl ⟨d,_,rfl,DGet.k (k:=Sum.inr x) (m _ _ b),?_⟩);rw[qbB,yl C];apply yq ?_;apply .inr ⟨_,m _ _ b,?_⟩;apply .inr ⟨d,_,rfl,DPut.k (k:=Sum.inr x) (m _ _ b) (qi (by rw[zQ,yT];lk)),?_⟩;show⟨_,rfl,qaE O c,?_⟩;rw[qb,qaO _ (qbA C),j,qcC,zQ];simp only[xK]
  .obtain⟨u,rfl,t,b⟩:=e;ext;rw[ya,yQ] at b;show q d H' t c b
theorem uY:FnScope ["self","names","ties"] ["self","names","ties"] (qh qao):=fS
theorem KF:FnScope ["numbers","ties","near","tie","one","other"] ["numbers","ties"] (qh qaU):=fS
def qbb(ss:LS)(ns:LN)(c:LP):Prop:=ns.length=ss.length/\(∀ a,ns.getD a 0<2 ^ ss.length)/\∀ a b s t,ss[a]?=some s->ss[b]?=some t->(ns.getD a 0).testBit b=decide ((s,t)∈c\/(t,s)∈c)
theorem qA(h:ss.Nodup){a b:Nat}(i:ss[a]?=some s)(hb:ss[b]?=some s):a=b:=by
 have e:=Yl.mp h;obtain⟨f,c⟩:=yc.mp i;obtain⟨g,d⟩:=yc.mp hb;rcases ko a b with q | q | q
 .show absurd (c.trans d.symm) (e a b f g q)
 .show q
 .show absurd (d.trans c.symm) (e b a g f q)
theorem bits_zero:qbb ss (List.replicate ss.length 0) []:=by
 have z:∀ a,(List.replicate ss.length 0).getD a 0=0:=fun a=>by
  simp only[List.getD,Xs];split<;>rfl
 show⟨by simp,fun a=>by rw[z a];show Nat.two_pow_pos _,fun a b s t c hb=>?_⟩;rw[z a];simp
theorem qaV{v:Nat}(h:i<ns.length):(ns.set i v).getD j 0=if i=j then v else ns.getD j 0:=by
 simp only[List.getD,List.getElem?_set];by_cases e:i=j
 .subst e;simp[h]
 .simp [e]
theorem bits_step{f:LP}(hb:qbb ss ns f)(o:ss.Nodup){t:Str}(d:ss[i]?=some s)(l:ss[j]?=some t)(n:s≠t) :
  qbb ss ((ns.set i (ns.getD i 0 ||| 2 ^ j)).set j (ns.getD j 0 ||| 2 ^ i)) (f++[(s,t)]):=by
 obtain⟨hl,m,h⟩:=hb;have B:i<ns.length:=by rw[hl];show(yc.mp d).1
 have C:j<ns.length:=by rw[hl];show(yc.mp l).1
 have D:i≠j:=fun e=>by rw[e,l] at d;cases d;show n rfl
 have y:i<ss.length:=(yc.mp d).1;have A:j<ss.length:=(yc.mp l).1;show⟨by simp[hl],fun a=>?_,fun a b u v g c=>?_⟩
 .rw [qaV (by simpa using C),qaV B];split
  .show Nat.or_lt_two_pow (m _) (Nat.pow_lt_pow_right (by decide) y)
  .split
   .show Nat.or_lt_two_pow (m _) (Nat.pow_lt_pow_right (by decide) A)
   .show m _
 rw[qaV (by simpa using C),qaV B];have p:=h a b u v g c;have key:∀ P Q:Prop,(P↔Q)->∀ [Decidable P] [Decidable Q],decide P=decide Q:=fun P Q e=>by intro _ _;show YB.mpr e
 by_cases w:j=a
 .subst w;rw[l] at g;cases g;rw[yG rfl,Nat.testBit_or,p,Nat.testBit_two_pow];by_cases r:i=b
  .subst r;rw[d] at c;cases c;simp
  .have vs:v≠s:=fun e=>by subst e;show r (qA o d c)
   simp only[r,k9,kz];apply YB.mpr;simp only[yB,yz,Xn];constructor
   .rintro (z | z)
    .show .inl (.inl z)
    .show .inr (.inl z)
   .rintro ((z | ⟨z,_⟩) | (z | ⟨z,_⟩))
    .show .inl z
    .show absurd z.symm n
    .show .inr z
    .show absurd z vs
 .rw [yC w];by_cases q:i=a
  .subst q;rw[d] at g;cases g;rw[yG rfl,Nat.testBit_or,p,Nat.testBit_two_pow];by_cases x:j=b
   .subst x;rw[l] at c;cases c;simp
   .have F:v≠t:=fun e=>by subst e;show x (qA o l c)
    simp only[x,k9,kz];apply YB.mpr;simp only[yB,yz,Xn];constructor
    .rintro (z | z)
     .show .inl (.inl z)
     .show .inr (.inl z)
    .rintro ((z | ⟨_,z⟩) | (z | ⟨_,z⟩))
     .show .inl z
     .show absurd z F
     .show .inr z
     .show absurd z n
  .rw [yC q,p];have us:u≠s:=fun e=>by subst e;show q (qA o d g)
   have E:u≠t:=fun e=>by subst e;show w (qA o l g)
   apply YB.mpr;simp only[yB,yz,Xn];constructor
   .rintro (z | z)
    .show .inl (.inl z)
    .show .inr (.inl z)
   .rintro ((z | ⟨z,_⟩) | (z | ⟨_,z⟩))
    .show .inl z
    .show absurd z us
    .show .inr z
    .show absurd z E
noncomputable def qdB(ns:LN):List V:=ns.map fun(n:Nat)=>.int (n:Int)
theorem qbd(h:i<ns.length):(qdB ns)[i]?=some (.int (ns.getD i 0:Nat)):=by
 unfold qdB;rw[yd,yb h];simp[List.getD,h]
theorem qdC(ns:LN)(i m:Nat):(qdB ns).set i (.int m)=qdB (ns.set i m):=by
 unfold qdB;rw[List.map_set]
theorem natV_zero(k:Nat):(List.replicate k [V.int 0]).flatten=qdB (List.replicate k 0):=by
 induction k with
 | zero=>rfl
 | succ k ih=>rw[xt,xp,ih];rfl
theorem qek(h:j<n):ixN n (j:Int)=some j:=by
 unfold ixN;rw[yG (by lk),yG (by lk)];rfl
def UN(x y:Str×Str):Prop:=x≠y/\x≠(y.2,y.1)
structure TGo(ss:LS)(tps:LP):Prop where
 few:tps.length<=30
 inn:∀ ab∈tps,ab.1∈ss/\ab.2∈ss/\ab.1≠ab.2
 un:tps.Pairwise UN
structure WOk(ss:LS)(ns:LN):Prop where
 len:ns.length=ss.length
 few:ss.length<=14
 nd:ss.Nodup
 lt:∀ a,ns.getD a 0<2 ^ ss.length
 nm:∀ s∈ss,zP s=true
inductive WebAt(cw:Addr)(H:Hp)(x:Addr)(ss:LS)(ns:LN):Prop|mk (dx d ol n:_) (_:H x=some (.ins cw dx (qJ "near" (.ref n) (qJ "order" (.ref ol) (qJ "numbers" (.ref d) []))))) (_:H d=some (.dK (qbE ss 0))) (_:H ol=some (.lst (ss.map V.str))) (_:H n=some (.lst (qdB ns))) (_:WOk ss ns)
theorem WebAt.same(h:WebAt cw H x ss ns)(s:L2.Same H H'):WebAt cw H' x ss ns:=by
 obtain⟨dx,d,ol,n,h1,a,b,c,e⟩:=h;show⟨dx,d,ol,n,s _ _ h1,s _ _ a,s _ _ b,s _ _ c,e⟩
inductive WebN(H0:Hp)(cw:Addr)(H:Hp)(x:Addr)(ss:LS)(ns:LN):Prop|mk (dx d ol n:_) (_:H x=some (.ins cw dx (qJ "near" (.ref n) (qJ "order" (.ref ol) (qJ "numbers" (.ref d) []))))) (_:H d=some (.dK (qbE ss 0))) (_:H ol=some (.lst (ss.map V.str))) (_:H n=some (.lst (qdB ns))) (_:WOk ss ns) (_:H0 d=none) (_:H0 ol=none) (_:H0 n=none)
theorem WebN.web(h:WebN H0 cw H x ss ns):WebAt cw H x ss ns:=by
 obtain⟨dx,d,ol,n,h1,a,b,c,e,_⟩:=h;show⟨dx,d,ol,n,h1,a,b,c,e⟩
inductive WebP(A:Addr->Prop)(cw:Addr)(H:Hp)(x:Addr)(ss:LS)(ns:LN):Prop|mk (dx d ol n:_) (_:H x=some (.ins cw dx (qJ "near" (.ref n) (qJ "order" (.ref ol) (qJ "numbers" (.ref d) []))))) (_:H d=some (.dK (qbE ss 0))) (_:H ol=some (.lst (ss.map V.str))) (_:H n=some (.lst (qdB ns))) (_:WOk ss ns) (_:¬ A x) (_:¬ A d) (_:¬ A ol) (_:¬ A n)
theorem qcD:∀(ss:LS) (i:Nat),(qbE ss i).map (fun a=>kV a.1)=ss.map V.str
 | [],_=>rfl
 | s::r,i=>congrArg (V.str s::·) (qcD r (i+1))
def PLT(H:Hp)(l:Addr)(ts:LQ)(tps:LP):Prop:=LTu H l (ts.map V.ref)/\All2 (fun t ab=>H t=some (.tup [.str ab.1,.str ab.2])) ts tps
inductive spNear(vs:List V)(H:Hp)(Q:VK)(E:XK):Prop|mk (d l:Addr) (ss:LS) (ts:LQ) (tps:LP) (_:vs=[.ref d,.ref l]) (_:H d=some (.dK (qbE ss 0))) (_:ss.length<=14) (_:ss.Nodup) (_:(∀ s∈ss,zP s=true)) (_:PLT H l ts tps) (_:TGo ss tps) (_:∀ n ns H',L2.Same H H'->H n=none->H' n=some (.lst (qdB ns))->qbb ss ns tps->Q (.ref n) H')
theorem ok_near(F:Fun K "near_of" "near_of" qaU f fd)(T:Txt K mg cc cw)(KD:DefOk P w K mg base CX0 3 "are_two_places" ["numbers","thing"] spTwo)(KP:DefOk P w K mg base CX0 1 "has_bit" ["bits","number"] spBit) :
  FnOk P w K mg base CX0 4 f fd ["numbers","ties"] spNear:=by
 show F.ok KF fun _ _ _ _ H vs Q E hr h=>?_
 .obtain⟨d,l,ss,ts,tps,rfl,W,ah,ad,G,⟨hl,D⟩,X,q⟩:=h;have j:=zd hr;have L:=D.len;have few:=X.few;show⟨_,(qc (qH (qX (qO (qj (qcU (K:=K) rfl) rfl T.b_isinstance Ym (qa (pv 1) (qa (qZ (qa (qY (v:=.ty "list") rfl T.b_list xz rfl) (qa (qY (v:=.ty "tuple") rfl T.b_tuple Xf rfl) qd))) qd))))) (qe jr) qr)
 (qc (qH (qk qdP (qj (jK (K:=K) rfl) rfl T.b_len YC (qa (pv 1) qd)) (qbY rfl T.g_MOST_TIES) (qz _)) (qe jr) qr)
 (qc (qo (i:=2) KF.nd rfl (yK rfl) (qG qe1 (qQ (qa qg qd)) (qj (jK (K:=K) rfl) rfl T.b_len YC (qa (pv 0) qd))))
 (qc (jp yZ rfl (qR (K:=K) rfl (pv 1)) (qt (i:=3) KF.nd rfl (yK rfl))
 (qc (qH (qX (qO (qp KD (hmR hr) qB (qa (pv 0) (qa (pv 3) qd))))) (qe jr) qr)
 (qc (qo (i:=4) KF.nd rfl (yK rfl) (qv (qw (K:=K) rfl j) (pv 0) (qv (qw (K:=K) rfl j) (pv 3) qg (fun _ _=>rfl)) (fun _ _=>rfl)))
 (qc (qo (i:=5) KF.nd rfl (yK rfl) (qv (qw (K:=K) rfl j) (pv 0) (qv (qw (K:=K) rfl j) (pv 3) qg (fun _ _=>rfl)) (fun _ _=>rfl)))
 (qc (qH (qO (qp KP (hmR hr) qB (qa (qv (qw (K:=K) rfl j) (pv 2) (pv 4) (fun _ _=>rfl)) (qa (pv 5) qd)))) (qe jr) qr)
 (qc (jQ (qG qfP (qv (qw (K:=K) rfl j) (pv 2) (pv 4) (fun _ _=>rfl)) (qG qeZ qg (pv 5))) (j7 (pv 2) (pv 4) (j9 j)))
 (qe (jQ (qG qfP (qv (qw (K:=K) rfl j) (pv 2) (pv 5) (fun _ _=>rfl)) (qG qeZ qg (pv 4))) (j7 (pv 2) (pv 5) (j9 j))))))))))
 (qe (qm (pv 2))))))),?_⟩
  apply⟨by show 2<=sizeLine;decide,fun g Y=>?_⟩;have s0:=qF (Sr H) (o:=.tup [.ty "list",.ty "tuple"]) Y;apply qfc (hl.same s0) qb ?_;apply yq ?_;apply qfd (hl.same s0) ?_;rw[ya];apply qL (fun h=>by have:=yk h;lk) fun _=>?_;apply⟨by show 1<=sizeLine;decide,fun z af=>?_⟩;have s1:=qF s0 (o:=.lst [.int 0]) af;apply .inr ⟨_,s1 _ _ W,?_⟩;ext;rw[zQ];show⟨z,_,_,rfl,rfl,qb,by lk,by lk,by show 1*_<=sizeLine;rw[Yw];show yV (qi (by lk)),fun n hn=>?_⟩;rw[Yw,natV_zero];have s2:=qF s1 (o:=.lst (qdB (List.replicate ss.length 0))) hn;have n0:H n=none:=s1.free hn;apply qfe (K:=K) hl s2 (fun i σ H'=>∃ v3 v4 v5 ns,σ=[some (.ref d),some (.ref l),some (.ref n),v3,v4,v5]/\L2.Same H H'/\H' n=some (.lst (qdB ns))/\qbb ss ns (tps.take i))
   ⟨none,none,none,_,rfl,s2,qb,bits_zero⟩ (fun i σ H' I=>by obtain⟨_,_,_,_,_,z,_⟩:=I;show z) (fun i y σ H' hy I=>?_) fun σ H' I=>?_
  .obtain⟨v3,v4,v5,ns,rfl,N,A,a⟩:=I;rw[yd] at hy;obtain⟨t,ht,rfl⟩:=yn.mp hy;have Z:i<ts.length:=(yc.mp ht).1;obtain⟨⟨p,r⟩,u⟩:∃ ab,tps[i]?=some ab:=⟨_,yb (by rw[<- L];show Z)⟩;have U:=D.at_ i t _ ht u;obtain⟨m1,m2,c⟩:=X.inn _ (ye u);dsimp only at U m1 m2 c;have J:tps.take (i+1)=tps.take i++[(p,r)]:=by rw[yR,u];rfl
   have ae:¬ ((p,r)∈tps.take i\/(r,p)∈tps.take i):=fun z=>by
    have h3:(tps.take (i+1)).Pairwise UN:=X.un.sublist (Xu _ _);rw[J] at h3;have h4:=(XJ.mp h3).2.2;rcases z with z | z
    .show(h4 _ z (p,r) (by simp)).1 rfl
    .show(h4 _ z (p,r) (by simp)).2 rfl
   obtain⟨C,aa,b,R⟩:=j4 (i:=0) m1;obtain⟨B,ac,s,S⟩:=j4 (i:=0) m2;rw[xK] at R S;have ag:C≠B:=fun e=>by rw[e,s] at b;cases b;show c rfl
   have m:C<ns.length:=by rw[a.1];show aa
   have M:B<ns.length:=by rw[a.1];show ac
   apply⟨d,t,ss,p,r,rfl,N _ _ W,N _ _ U,G _ m1,G _ m2,m1,m2,c,fun H1 t1=>?_⟩;have O:=N.trans t1;have x:=t1 _ _ A;apply yq ?_;apply .inl (zD (O _ _ U) rfl ?_);show .inr ⟨d,.int C,rfl,?_,?_⟩
   .have:=DGet.k (k:=Sum.inr p) (O _ _ W);rw[R] at this;show this
   apply .inl (zD (O _ _ U) rfl ?_);show .inr ⟨d,.int B,rfl,?_,?_⟩
   .have:=DGet.k (k:=Sum.inr r) (O _ _ W);rw[S] at this;show this
   apply .inl (zY x (qu (qbd m)) ?_);apply⟨_,_,rfl,by lk,?_⟩;rw[qc0,a.2.2 C B p r b s,yl ae];apply yq ?_;apply .inl (zY x (qu (qbd m)) ?_);apply vI ⟨by lk,by lk,by decide⟩ ?_;ext;rw[qfb];show .inl (qeT x (qek (by unfold qdB;rw[ya];show m)) ?_);rw[qdC];ext;have e2:(ns.set C (ns.getD C 0 ||| 2 ^ B)).getD B 0=ns.getD B 0:=by rw[qaV m,yC ag]
   show .inl (zY qb (qu (qbd (by simpa using M))) ?_);apply vI ⟨by lk,by lk,by decide⟩ ?_;ext;rw[qfb,e2];show .inl (qeT qb (qek (by unfold qdB;rw[ya];simpa using M)) ?_);rw[qdC];show⟨_,_,_,_,rfl,qaE (qaE O n0) n0,qb,?_⟩;rw[J];show bits_step a ad b s c
  .obtain⟨v3,v4,v5,ns,rfl,N,A,a⟩:=I;ext;rw[ya,L,yQ] at a;show q n _ H' N n0 A a
inductive spWeb(cw:Addr)(vs:List V)(H:Hp)(Q:VK)(E:XK):Prop|mk (x dx a l:Addr) (ss:LS) (ts:LQ) (tps:LP) (_:vs=[.ref x,.ref a,.ref l]) (_:H x=some (.ins cw dx [])) (_:LTu H a (ss.map V.str)) (_:ss.length<=14) (_:ss.Nodup) (_:(∀ s∈ss,zP s=true)) (_:PLT H l ts tps) (_:TGo ss tps) (_:∀ ns H',But x H H'->WebN H cw H' x ss ns->qbb ss ns tps->Q .non H')
theorem PLT.but{C:Addr}{fs:List (Str×V)}(h:PLT H l ts tps)(a:H x=some (.ins C dx fs))(b:But x H H'):PLT H' l ts tps:=
 ⟨h.1.imp (fun e=>b _ _ (zX e a (by intro z;cases z)) e) (fun e=>b _ _ (zX e a (by intro z;cases z)) e),h.2.mono fun t ab e=>b _ _ (zX e a (by intro z;cases z)) e⟩
theorem ok_web(F:Fun K "__init__" "Web.__init__" qao f fd)(T:Txt K mg cc cw)(uU:DefOk P w K mg base CX0 4 "numbers_of" ["names"] spNums)(Y:DefOk P w K mg base CX0 4 "near_of" ["numbers","ties"] spNear) :
  FnOk P w K mg base CX0 5 f fd ["self","names","ties"] (spWeb cw):=by
 show F.ok uY fun _ _ _ _ H vs Q E O h=>?_
 .obtain⟨x,dx,a,l,ss,ts,tps,rfl,W,ha,j,nd,p,N,hg,q⟩:=h;have hu:=zd O;show⟨_,(qc (j6 (K:=K) rfl (pv 0) (qp uU (hmR O) qB (qa (pv 1) qd)) rfl)
 (qc (j6 (K:=K) rfl (pv 0) (jq (qbw (K:=K) rfl rfl) rfl T.b_list xz (qa (qC (K:=K) rfl (pv 0) rfl) qd)) rfl)
 (qe (j6 (K:=K) rfl (pv 0) (qp Y (hmR O) qB (qa (qC (K:=K) rfl (pv 0) rfl) (qa (pv 2) qd))) rfl)))),?_⟩
  apply⟨a,ss,rfl,ha,j,nd,p,fun d H1 X M S=>?_⟩;have Z:=(But.refl x H).same X;have B:=X _ _ W;have r:d≠x:=zX S B (by intro z;cases z);apply .inl ⟨x,cw,dx,[],rfl,B,T.wcl,T.wn,by decide,?_⟩;have L:=Z.put (o:=.ins cw dx (qJ "numbers" (.ref d) []));have g:upd H1 x (.ins cw dx (qJ "numbers" (.ref d) [])) d=some (.dK (qbE ss 0)):=by rw[qf r];show S
  have c:upd H1 x (.ins cw dx (qJ "numbers" (.ref d) [])) x=_:=qb;generalize upd H1 x (.ins cw dx (qJ "numbers" (.ref d) []))=H2 at L g c;apply .inl ⟨x,cw,dx,_,.ref d,rfl,c,T.wcl,T.wn,by rw[qD,yG rfl],?_⟩;apply .inr (.inl ⟨d,_,rfl,g,fun ol s=>?_⟩);rw[qcD];have I:ol≠x:=fun e=>by subst e;rw[c] at s;cases s
  have b3:=L.new (o:=.lst (ss.map V.str)) s
  have A:H ol=none:=by
   cases q':H ol with
   | none=>rfl
   | some o'=>rw[L ol o' I q'] at s;cases s
  have R:d≠ol:=qy g s;apply .inl ⟨x,cw,dx,_,rfl,(by rw[qf I.symm];show c),T.wcl,T.wo,YD (jD _ _ _) (by decide),?_⟩;have G:=b3.put (o:=.ins cw dx (qJ "order" (.ref ol) (qJ "numbers" (.ref d) [])));have m:upd (upd H2 ol (.lst (ss.map V.str))) x (.ins cw dx (qJ "order" (.ref ol) (qJ "numbers" (.ref d) []))) d=some (.dK (qbE ss 0)):=by rw[qf r,qf R];show g
  have y:upd (upd H2 ol (.lst (ss.map V.str))) x (.ins cw dx (qJ "order" (.ref ol) (qJ "numbers" (.ref d) []))) ol=some (.lst (ss.map V.str)):=by rw[qf I];show qb
  have i:upd (upd H2 ol (.lst (ss.map V.str))) x (.ins cw dx (qJ "order" (.ref ol) (qJ "numbers" (.ref d) []))) x=_:=qb;generalize upd (upd H2 ol (.lst (ss.map V.str))) x (.ins cw dx (qJ "order" (.ref ol) (qJ "numbers" (.ref d) [])))=H3 at G m y i;apply .inl ⟨x,cw,dx,_,.ref d,rfl,i,T.wcl,T.wn,by rw[qD,yC (by room),qD,yG rfl],?_⟩;apply⟨d,l,ss,ts,tps,rfl,m,j,nd,p,N.but W G,hg,fun n ns H4 J t U b=>?_⟩;have C:=J _ _ i;have D:n≠x:=zX U C (by intro z;cases z);apply .inl ⟨x,cw,dx,_,rfl,C,T.wcl,T.wr,YD (jD _ _ _) (YD (Nat.succ_le_succ (jD _ _ _)) (by decide)),?_⟩
  have u:H n=none:=by
   cases q':H n with
   | none=>rfl
   | some o'=>rw[G n o' D q'] at t;cases t
  show q ns _ (G.same J).put ⟨dx,d,ol,n,qb,by rw[qf r];show J _ _ m,by rw[qf I];show J _ _ y,by rw[qf D];show U,⟨b.1,j,nd,b.2.1,p⟩,M,A,u⟩ b
theorem uK:FnScope ["self"] ["self"] (qh zx):=fS
theorem uq:FnScope ["self","thing"] ["self","thing"] (qh jL):=fS
theorem ur:FnScope ["self","place"] ["self","place"] (qh jM):=fS
theorem uL:FnScope ["self","place"] ["self","place"] (qh zy):=fS
theorem ue:FnScope ["self","place"] ["self","place"] (qh js):=fS
theorem um:FnScope ["self","one","other","bits"] ["self","one","other"] (qh qap):=fS
theorem uw:FnScope ["self","bits"] ["self","bits"] (qh jz):=fS
theorem jT{n:V}:(qJ "near" n (qJ "order" ol (qJ "numbers" d []))).lookup ("numbers":Str)=some d:=by
 rw[qD,yC (by room),qD,yC (by room),qD,yG rfl]
theorem qbe{n:V}:(qJ "near" n (qJ "order" ol (qJ "numbers" d []))).lookup ("order":Str)=some ol:=by
 rw[qD,yC (by room),qD,yG rfl]
theorem lk_near{n:V}:(qJ "near" n (qJ "order" ol (qJ "numbers" d []))).lookup ("near":Str)=some n:=by
 rw[qD,yG rfl]
theorem zq{f:Str}{n:V}(h:(f=="near"||f=="order"||f=="numbers")=false):(qJ "near" n (qJ "order" ol (qJ "numbers" d []))).lookup f=none:=by
 simp only[Bool.or_eq_false_iff,YO] at h;rw[qD,yC h.1.1,qD,yC h.1.2,qD,yC h.2];rfl
noncomputable def inB:LS->Nat->Nat->LS
 | [],_,_=>[]
 | s::r,i,b=>if b.testBit i=true then s::inB r (i+1) b else inB r (i+1) b
theorem qbf(y:Str)(b:Nat):∀(l:LS) (k:Nat),inB (l++[y]) k b=inB l k b++(if b.testBit (k+l.length)=true then [y] else [])
 | [],k=>by simp[inB]
 | s::r,k=>by
  have a:=qbf y b r (k+1);have e:k+1+r.length=k+(s::r).length:=by simp;lk
  rw[e] at a;simp only[kE,inB,a];split<;>simp
theorem qa5(b:Nat):∀(l:LS) (k:Nat),(inB l k b).length<=l.length
 | [],_=>yh _
 | s::r,k=>by
  have a:=qa5 b r (k+1);simp only[inB];split
  .simp;lk
  .simp;lk
inductive spHas(cw:Addr)(vs:List V)(H:Hp)(Q:VK)(E:XK):Prop|mk (x:Addr) (ss:LS) (ns:LN) (y:Str) (_:vs=[.ref x,.str y]) (_:WebAt cw H x ss ns) (_:y∈ss) (_:∀ H',L2.Same H H'->Q (.bl true) H')
inductive spNum(cw:Addr)(vs:List V)(H:Hp)(Q:VK)(E:XK):Prop|mk (x:Addr) (ss:LS) (ns:LN) (y:Str) (j:Nat) (_:vs=[.ref x,.str y]) (_:WebAt cw H x ss ns) (_:ss[j]?=some y) (_:∀ H',L2.Same H H'->Q (.int (j:Nat)) H')
inductive spBB(cw:Addr)(vs:List V)(H:Hp)(Q:VK)(E:XK):Prop|mk (x:Addr) (ss:LS) (ns:LN) (y:Str) (j:Nat) (_:vs=[.ref x,.str y]) (_:WebAt cw H x ss ns) (_:ss[j]?=some y) (_:∀ H',L2.Same H H'->Q (.int (ns.getD j 0:Nat)) H')
inductive spNIn(cw:Addr)(vs:List V)(H:Hp)(Q:VK)(E:XK):Prop|mk (x:Addr) (ss:LS) (ns:LN) (b:Nat) (_:vs=[.ref x,.int b]) (_:WebAt cw H x ss ns) (_:∀ l,H l=none->Q (.ref l) (upd H l (.lst ((inB ss 0 b).map V.str))))
inductive spBs(cw:Addr)(vs:List V)(H:Hp)(Q:VK)(E:XK):Prop|mk (x:Addr) (ss:LS) (ns:LN) (y:Str) (j:Nat) (_:vs=[.ref x,.str y]) (_:WebAt cw H x ss ns) (_:ss[j]?=some y) (_:∀ H',L2.Same H H'->∀ l,H' l=none->Q (.ref l) (upd H' l (.lst ((inB ss 0 (ns.getD j 0)).map V.str))))
inductive spTied(cw:Addr)(vs:List V)(H:Hp)(Q:VK)(E:XK):Prop|mk (x:Addr) (ss:LS) (ns:LN) (y z:Str) (j i:Nat) (_:vs=[.ref x,.str y,.str z]) (_:WebAt cw H x ss ns) (_:ss[j]?=some y) (_:ss[i]?=some z) (_:∀ H',L2.Same H H'->Q (.bl ((ns.getD j 0).testBit i)) H')
inductive spPls(cw:Addr)(vs:List V)(H:Hp)(Q:VK)(E:XK):Prop|mk (x:Addr) (ss:LS) (ns:LN) (_:vs=[.ref x]) (_:WebAt cw H x ss ns) (_:∀ l,H l=none->Q (.ref l) (upd H l (.lst (ss.map V.str))))
theorem ok_has(F:Fun K "has_place" "Web.has_place" jL f fd)(T:Txt K mg cc cw)(b:DefOk P w K mg base CX0 2 "is_place" ["numbers","thing"] spPlace):FnOk P w K mg base CX0 3 f fd ["self","thing"] (spHas cw):=by
 show F.ok uq fun _ _ _ _ H vs Q E e h=>?_
 .obtain⟨x,ss,ns,y,rfl,⟨dx,d,ol,n,g,c,j,i,hw⟩,a,q⟩:=h;show⟨_,(qe (qm (qp b (hmR e) qB (qa (qC (K:=K) rfl (pv 0) rfl) (qa (pv 1) qd))))),?_⟩;apply .inl ⟨x,cw,dx,_,.ref d,rfl,g,T.wcl,T.wn,jT,?_⟩;apply⟨d,ss,y,rfl,c,hw.nm _ a,a,q⟩
theorem ok_num(F:Fun K "number_of" "Web.number_of" jM f fd)(T:Txt K mg cc cw)(o:MethOk P w K mg base CX0 3 cw "has_place" ["self","thing"] (spHas cw)):FnOk P w K mg base CX0 4 f fd ["self","place"] (spNum cw):=by
 show F.ok ur fun _ _ _ _ H vs Q E e h=>?_
 .obtain⟨x,ss,ns,y,j,rfl,c,b,q⟩:=h;obtain⟨dx,d,ol,n,g,r,z,u,hw⟩:=id c;have l:=ye b;have s:=zd e;show⟨_,(qc (qH (qX (qO (qI o (hmR e) (pv 0) (qa (pv 1) qd)))) (qe jr) qr)
 (qe (qm (qv (qw (K:=K) rfl s) (qC (K:=K) rfl (pv 0) rfl) (pv 1) (fun _ _=>rfl))))),?_⟩
  apply⟨x,dx,_,rfl,g,zq (by room),?_⟩;apply⟨x,ss,ns,y,rfl,c,l,fun H1 a=>?_⟩;apply yq ?_;obtain⟨i,t,p,m⟩:=j4 (i:=0) l;rw[xK,qA hw.nd p b] at m;apply .inl ⟨x,cw,dx,_,.ref d,rfl,a _ _ g,T.wcl,T.wn,jT,?_⟩;apply .inr ⟨d,.int j,rfl,?_,q H1 a⟩;have:=DGet.k (k:=Sum.inr y) (a _ _ r);rw[m] at this;show this
theorem ok_bb(F:Fun K "bits_beside" "Web.bits_beside" js f fd)(T:Txt K mg cc cw)(i:MethOk P w K mg base CX0 4 cw "number_of" ["self","place"] (spNum cw)):FnOk P w K mg base CX0 5 f fd ["self","place"] (spBB cw):=by
 show F.ok ue fun _ _ _ _ H vs Q E c h=>?_
 .obtain⟨x,ss,ns,y,j,rfl,b,a,q⟩:=h;obtain⟨dx,d,ol,n,e,o,p,l,hw⟩:=id b;have m:=zd c;show⟨_,(qe (qm (qv (qw (K:=K) rfl m) (qC (K:=K) rfl (pv 0) rfl) (qI i (hmR c) (pv 0) (qa (pv 1) qd)) (fun _ _=>rfl)))),?_⟩;apply .inl ⟨x,cw,dx,_,.ref n,rfl,e,T.wcl,T.wr,lk_near,?_⟩;apply⟨x,dx,_,rfl,e,zq (by room),?_⟩;apply⟨x,ss,ns,y,j,rfl,b,a,fun H1 g=>?_⟩;show .inl (zY (g _ _ l) (qu (qbd (by rw[hw.len];show(yc.mp a).1))) (q H1 g))
theorem ok_nin(F:Fun K "names_in" "Web.names_in" jz f fd)(T:Txt K mg cc cw)(A:DefOk P w K mg base CX0 1 "has_bit" ["bits","number"] spBit):FnOk P w K mg base CX0 2 f fd ["self","bits"] (spNIn cw):=by
 show F.ok uw fun _ _ _ _ H vs Q E t h=>?_
 .obtain⟨x,ss,ns,b,rfl,⟨dx,d,ol,n,u,D,s,L,hw⟩,q⟩:=h;have I:=zd t;show⟨_,(qe (qm (jh (sc:=qh jz) (XN:=["self","bits"]) ["name","bits","self"] 1 [1,0] rfl rfl rfl (by room) rfl (by room)
  (qR (K:=K) rfl (qC (K:=K) rfl (pv 0) rfl)) (fun _ _ _ _=>(qt (i:=0) (show(["name","bits","self"]:LS).Nodup by room) rfl (yK rfl))) qN
  (fun _ _ _ _=>(q8 (qO (qp A (hmR t) qB (qa (pv 1) (qa (qv (qw (K:=K) rfl I) (qC (K:=K) rfl (pv 2) rfl) (pv 0) (fun _ _=>rfl)) qd))))))
  (fun _ _ _ _=>(pv 0))))),?_⟩
  apply .inl ⟨x,cw,dx,_,.ref ol,rfl,u,T.wcl,T.wo,qbe,?_⟩;show .inl ⟨⟨_,SqL.of s⟩,qK (K:=K) (fun i ys H'=>H'=H/\ys=(inB (ss.take i) 0 b).map V.str) ⟨rfl,by simp[inB]⟩ (fun i ys H' _ e=>by rw[e.1];show SqL.of s) (fun i y ys H' p e=>?_) fun ys H' e=>?_⟩
  .obtain⟨rfl,rfl⟩:=e;have G:i<ss.length:=by simpa using(yc.mp p).1
   have c:ss[i]?=some ss[i]:=yb G;generalize ss[i]=r at c;have B:y=.str r:=by rw[yd,c] at p;cases p;rfl
   subst B;obtain⟨j,J,C,z⟩:=j4 (i:=0) (ye c);rw[xK] at z;have o:j=i:=qA hw.nd C c;subst o;have g:ss.take (j+1)=ss.take j++[r]:=by rw[yR,c];rfl
   have a:(ss.take j).length=j:=by rw[yT];lk
   apply .inl ⟨x,cw,dx,_,.ref d,rfl,u,T.wcl,T.wn,jT,?_⟩;apply .inr ⟨d,.int j,rfl,?_,?_⟩
   .have:=DGet.k (k:=Sum.inr r) D;rw[z] at this;show this
   apply⟨_,_,rfl,by lk,?_⟩;rw[qc0];ext
   have few:((inB (ss.take j) 0 b).map V.str).length<sizeLine:=by
    rw[ya];show qi (yi (qa5 _ _ _) (by rw[a];have:=hw.few;lk))
   show qL (fun hb=>?_) fun hb=>?_
   .ext;show⟨few,rfl,?_⟩;rw[g,qbf,a,xK,yG hb];simp
   .show⟨rfl,?_⟩;rw[g,qbf,a,xK,yC hb];simp
  .obtain⟨rfl,rfl⟩:=e;have m:ss.take (ss.map V.str).length=ss:=by rw[ya,yQ]
   rw[m];show⟨?_,fun l hl=>q l hl⟩;rw[ya];show yV (qi (yi (qa5 _ _ _) (by have:=hw.few;lk)))
theorem ok_bs(F:Fun K "beside" "Web.beside" zy f fd)(T:Txt K mg cc cw)(g:MethOk P w K mg base CX0 5 cw "bits_beside" ["self","place"] (spBB cw))(l:MethOk P w K mg base CX0 2 cw "names_in" ["self","bits"] (spNIn cw)):FnOk P w K mg base CX0 6 f fd ["self","place"] (spBs cw):=by
 show F.ok uL fun _ _ _ _ H vs Q E b h=>?_
 .obtain⟨x,ss,ns,y,j,rfl,a,i,q⟩:=h;obtain⟨dx,d,ol,n,c,_⟩:=id a;show⟨_,(qe (qm (qI l (hmR b) (pv 0) (qa (qI g (hmR b) (pv 0) (qa (pv 1) qd)) qd)))),?_⟩;apply⟨x,dx,_,rfl,c,zq (by room),?_⟩;apply⟨x,dx,_,rfl,c,zq (by room),?_⟩;apply⟨x,ss,ns,y,j,rfl,a,i,fun H1 e=>?_⟩;apply⟨x,ss,ns,_,rfl,a.same e,q H1 e⟩
theorem ok_tied(F:Fun K "tied" "Web.tied" qap f fd)(T:Txt K mg cc cw)(g:MethOk P w K mg base CX0 5 cw "bits_beside" ["self","place"] (spBB cw))(m:MethOk P w K mg base CX0 4 cw "number_of" ["self","place"] (spNum cw))
  (l:DefOk P w K mg base CX0 1 "has_bit" ["bits","number"] spBit):FnOk P w K mg base CX0 6 f fd ["self","one","other"] (spTied cw):=by
 show F.ok um fun _ _ _ _ H vs Q E b h=>?_
 .obtain⟨x,ss,ns,y,z,j,i,rfl,a,p,o,q⟩:=h;obtain⟨dx,d,ol,n,e,_⟩:=id a;show⟨_,(qc (qo (i:=3) um.nd rfl (yK rfl) (qI g (hmR b) (pv 0) (qa (pv 1) qd)))
 (qe (qm (qp l (hmR b) qB (qa (pv 3) (qa (qI m (hmR b) (pv 0) (qa (pv 2) qd)) qd)))))),?_⟩
  apply⟨x,dx,_,rfl,e,zq (by room),?_⟩;apply⟨x,ss,ns,y,j,rfl,a,p,fun H1 c=>?_⟩;apply⟨x,dx,_,rfl,c _ _ e,zq (by room),?_⟩;apply⟨x,ss,ns,z,i,rfl,a.same c,o,fun H2 r=>?_⟩;apply⟨_,_,rfl,by lk,?_⟩;rw[qc0];show q H2 (c.trans r)
theorem ok_pls(F:Fun K "places" "Web.places" zx f fd)(T:Txt K mg cc cw):FnOk P w K mg base CX0 1 f fd ["self"] (spPls cw):=by
 show F.ok uK fun _ _ _ _ H vs Q E g h=>?_
 .obtain⟨x,ss,ns,rfl,⟨dx,d,ol,n,b,c,a,e,hw⟩,q⟩:=h;show⟨_,(qe (qm (jq (qbw (K:=K) rfl rfl) rfl T.b_list xz (qa (qC (K:=K) rfl (pv 0) rfl) qd)))),?_⟩;apply .inl ⟨x,cw,dx,_,.ref ol,rfl,b,T.wcl,T.wo,qbe,?_⟩;apply .inl ⟨ol,_,rfl,.inl (SqL.of a),q⟩
theorem qbO(b:ss.Nodup)(h:ss[i]?=some s):ss.idxOf s=i:=by
 have a:s∈ss:=ye h;have hl:ss.idxOf s<ss.length:=yX a;show qA b (by rw[yb hl,Yo]) h
theorem qaq(e:ss.Nodup)(b:Nat):inB ss 0 b=ss.filter fun s=>b.testBit (ss.idxOf s):=by
 have key:∀ k,k<=ss.length->inB (ss.take k) 0 b=(ss.take k).filter fun s=>b.testBit (ss.idxOf s):=fun k=>by
  induction k with
  | zero=>intro _;simp[inB]
  | succ k ih =>
   intro g;have a:ss[k]?=some ss[k]:=yb (by lk);generalize ss[k]=f at a;have d:ss.take (k+1)=ss.take k++[f]:=by rw[yR,a];rfl
   have c:(ss.take k).length=k:=by rw[yT];lk
   rw[d,qbf,Yh,ih (by lk),c,xK]
   congr 1
   rw[yU,YF,qbO e a]
 have:=key ss.length (yh _)
 rwa[yQ] at this
theorem KM:FnScope ["self","ties","one","other"] ["self"] (qh qar):=fS
theorem qc1(a:ss.Nodup){b:Nat}(h:s∈inB ss 0 b):s∈ss/\b.testBit (ss.idxOf s)=true:=by
 rw[qaq a] at h;show yp.mp h
noncomputable def qeV(ss:LS)(ns:LN)(i:Nat):LP:=((inB ss 0 (ns.getD i 0)).filter fun o=>decide (i<ss.idxOf o)).map fun o=>(ss.getD i "",o)
noncomputable def qE(ss:LS)(ns:LN)(i:Nat):LP:=(List.range i).flatMap (qeV ss ns)
def PrAt(H H':Hp)(l:Addr)(t:Addr)(ab:Str×Str):Prop:=H t=none/\t≠l/\H' t=some (.tup [.str ab.1,.str ab.2])
theorem PrAt.same(h:PrAt H H1 l t ab)(s:L2.Same H1 H2):PrAt H H2 l t ab:=⟨h.1,h.2.1,s _ _ h.2.2⟩
inductive spTs(cw:Addr)(vs:List V)(H:Hp)(Q:VK)(E:XK):Prop|mk (x:Addr) (ss:LS) (ns:LN) (_:vs=[.ref x]) (_:WebAt cw H x ss ns) (_:∀(l:Addr) (ts:LQ) (H':Hp),L2.Same H H'->H l=none->H' l=some (.lst (ts.map V.ref))->ts.length<=196->All2 (PrAt H H' l) ts (qE ss ns ss.length)->Q (.ref l) H')
theorem ok_ts(F:Fun K "ties" "Web.ties" qar f fd)(T:Txt K mg cc cw)(Ky:MethOk P w K mg base CX0 6 cw "beside" ["self","place"] (spBs cw)):FnOk P w K mg base CX0 7 f fd ["self"] (spTs cw):=by
 show F.ok KM fun _ _ _ _ H vs Q E hr h=>?_
 .obtain⟨x,ss,ns,rfl,hW,q⟩:=h;have hu:=zd hr;obtain⟨dx,d,ol,n,hx,hd,ho,hn,hw⟩:=id hW;have few:=hw.few
  have Y:∀(H1:Hp) (y:Str) (i:Nat),L2.Same H H1->ss[i]?=some y->DGet H1 d (.str y) (some (.int (i:Nat))):=fun H1 y i R G=>by
   obtain⟨j,hj,gj,vj⟩:=j4 (i:=0) (ye G);rw[xK] at vj;have af:j=i:=qA hw.nd gj G;subst af;have:=DGet.k (k:=Sum.inr y) (R _ _ hd);rw[vj] at this;show this
  show⟨_,(qc (qo (i:=1) KM.nd rfl (yK rfl) (qQ qd))
 (qc (jp yZ rfl (qR (K:=K) rfl (qC (K:=K) rfl (pv 0) rfl)) (qt (i:=2) KM.nd rfl (yK rfl))
 (qe (jp yZ rfl (qR (K:=K) rfl (qI Ky (hmR hr) (pv 0) (qa (pv 2) qd))) (qt (i:=3) KM.nd rfl (yK rfl))
 (qe (qH (qk qdY (qv (qw (K:=K) rfl hu) (qC (K:=K) rfl (pv 0) rfl) (pv 2) (fun _ _=>rfl)) (qv (qw (K:=K) rfl hu) (qC (K:=K) rfl (pv 0) rfl) (pv 3) (fun _ _=>rfl)) (qz _)) (qe (qU (qa4 (K:=K) rfl yL Yd Ye qS (pv 1) (qa (qZ (qa (pv 2) (qa (pv 3) qd))) qd)))) qr)))))
 (qe (qm (pv 1))))),?_⟩
  apply⟨by decide,fun l hl=>?_⟩;have s0:=qF (Sr H) (o:=.lst []) hl;apply .inl ⟨x,cw,dx,_,.ref ol,rfl,s0 _ _ hx,T.wcl,T.wo,qbe,?_⟩;show .inl ⟨⟨_,SqL.of (s0 _ _ ho)⟩,jo (K:=K) (fun i σ H'=>∃(ts:LQ) (x2 U:Option V),σ=[some (.ref x),some (.ref l),x2,U]/\L2.Same H H'/\H' l=some (.lst (ts.map V.ref))/\ts.length<=i*14/\All2 (PrAt H H' l) ts (qE ss ns i))
   ⟨[],none,none,rfl,s0,qb,by simp,All2.nil⟩ (fun i σ H' _ C=>by obtain⟨_,_,_,_,z,_⟩:=C;show SqL.of (z _ _ ho)) (fun i y σ H1 hy C=>?_) fun σ H1 C=>?_⟩
  .obtain⟨ts,x2,U,rfl,R,I,s,c⟩:=C;have hi:i<ss.length:=by simpa using(yc.mp hy).1
   have G:ss[i]?=some ss[i]:=yb hi;generalize ss[i]=p at G;have ey:y=.str p:=by rw[yd,G] at hy;cases hy;rfl
   subst ey;have al:=hw.nm p (ye G);apply⟨x,dx,_,rfl,R _ _ hx,zq (by room),?_⟩;apply⟨x,ss,ns,p,i,rfl,hW.same R,G,fun H2 s2 b hb=>?_⟩;have s3:=R.trans s2;have s4:=qF s3 (o:=.lst ((inB ss 0 (ns.getD i 0)).map V.str)) hb;have S:=qF s2 (o:=.lst ((inB ss 0 (ns.getD i 0)).map V.str)) hb;have eb:upd H2 b (.lst ((inB ss 0 (ns.getD i 0)).map V.str)) b=some (.lst ((inB ss 0 (ns.getD i 0)).map V.str)):=qb;have ah:b≠l:=fun e=>by rw[e,s2 _ _ I] at hb;cases hb
   have aj:H b=none:=s3.free hb;show .inl ⟨⟨_,SqL.of qb⟩,?_⟩;generalize upd H2 b (.lst ((inB ss 0 (ns.getD i 0)).map V.str))=H3 at s4 S eb ⊢;have L:∀ o,o∈inB ss 0 (ns.getD i 0)->o∈ss:=fun o h=>(qc1 hw.nd h).1;have ad:=qa5 (ns.getD i 0) ss 0;have r:qeV ss ns i=((inB ss 0 (ns.getD i 0)).filter fun o=>decide (i<ss.idxOf o)).map fun o=>(ss.getD i "",o):=rfl;have aa:ss.getD i ""=p:=by simp[List.getD,G]
   rw[aa] at r;generalize ak:inB ss 0 (ns.getD i 0)=bs at eb L ad r ⊢;show jo (K:=K) (fun k σ H'=>∃(us:LQ) (U:Option V),σ=[some (.ref x),some (.ref l),some (.str p),U]/\L2.Same H H'/\H' b=some (.lst (bs.map V.str))/\H' l=some (.lst (us.map V.ref))/\us.length<=i*14+k/\All2 (PrAt H H' l) us (qE ss ns i++((bs.take k).filter fun o=>decide (i<ss.idxOf o)).map fun o=>(p,o)))
    ⟨ts,_,rfl,s4,eb,S _ _ I,s,by simpa using c.mono fun _ _ h=>h.same S⟩ (fun k σ H' _ C=>by obtain⟨_,_,_,_,z,_⟩:=C;show SqL.of z) (fun k u σ Z N C=>?_) fun σ Z C=>?_
   .obtain⟨us,U,rfl,J,D,g,A,a⟩:=C;have hk:k<bs.length:=by simpa using(yc.mp N).1
    have gk:bs[k]?=some bs[k]:=yb hk;generalize bs[k]=m at gk;have eu:u=.str m:=by rw[yd,gk] at N;cases N;rfl
    subst eu;have ag:=L m (ye gk);have ae:=yX ag;have ac:ss[ss.idxOf m]?=some m:=by rw[yb ae,Yo]
    have X:bs.take (k+1)=bs.take k++[m]:=by rw[yR,gk];rfl
    apply .inl ⟨x,cw,dx,_,.ref d,rfl,J _ _ hx,T.wcl,T.wn,jT,?_⟩;apply .inr ⟨d,.int i,rfl,Y Z p i J G,?_⟩;apply .inl ⟨x,cw,dx,_,.ref d,rfl,J _ _ hx,T.wcl,T.wn,jT,?_⟩;apply .inr ⟨d,.int (ss.idxOf m:Nat),rfl,Y Z m _ J ac,?_⟩;apply qL (fun M=>?_) fun M=>?_
    .have B:i<ss.idxOf m:=by have:=yk M;lk
     apply⟨.inl ⟨rfl,_,SqL.of g⟩,?_⟩;apply⟨by show 2<=sizeLine;decide,fun t ht=>?_⟩;have O:l≠t:=qy g ht;have ai:b≠t:=qy D ht;have s6:=qF (Sr Z) (o:=.tup [.str p,.str m]) ht;apply⟨l,_,_,rfl,rfl,by rw[qf O];show g,by rw[ya];show qi (by have:i*14<=14*14:=Nat.mul_le_mul_right 14 (by lk);lk),?_⟩;show⟨us++[t],_,rfl,qaE (J.trans s6) hl,by rw[qf ah,qf ai];show D,by rw[qb,yx];rfl,by rw[yt];show us.length+1<=_;lk,?_⟩;rw[X,Yh,yx,<- Yi];have W:([m].filter fun o=>decide (i<ss.idxOf o)).map (fun o=>(p,o))=[(p,m)]:=by simp[B]
     rw[W];show All2.snoc (a.mono fun t' ab h=>⟨h.1,h.2.1,?_⟩) ⟨J.free ht,O.symm,?_⟩
     .rw [qf h.2.1];show s6 _ _ h.2.2
     .rw [qf O.symm,qb]
    .have B:¬ i<ss.idxOf m:=fun h=>M (yD (by lk));show⟨us,_,rfl,J,D,g,by lk,?_⟩;have W:([m].filter fun o=>decide (i<ss.idxOf o)).map (fun o=>(p,o))=[]:=by simp[B]
     rw[X,Yh,yx,W,Yb];show a
   .obtain⟨us,U,rfl,J,D,g,A,a⟩:=C;rw[ya,yQ] at a;rw[ya] at A;show⟨us,_,_,rfl,J,g,by lk,?_⟩;unfold qE at a ⊢;rw[XZ,xP];have W:[i].flatMap (qeV ss ns)=(bs.filter fun o=>decide (i<ss.idxOf o)).map fun o=>(p,o):=by rw[<- r];simp
    rw[W];show a
  .obtain⟨ts,x2,U,rfl,R,I,s,c⟩:=C;rw[ya] at s c;apply q l ts H1 R hl I (by have:ss.length*14<=14*14:=Nat.mul_le_mul_right 14 few;lk) c
def Box(H:Hp)(p:Addr):Prop:=∃ a b c:Int,H p=some (.lst [.int a,.int b,.int c])
def BB(p:Addr)(H H':Hp):Prop:=(∀ b o,b≠p->H b=some o->H' b=some o)/\Box H' p
theorem BB.refl(h:Box H p):BB p H H:=⟨fun _ _ _ e=>e,h⟩
theorem BB.trans(a:BB p H H1)(b:BB p H1 H2):BB p H H2:=⟨fun c o n e=>b.1 c o n (a.1 c o n e),b.2⟩
theorem BB.new(a:BB p H H1)(hl:H1 l=none):BB p H (upd H1 l o):=by
 obtain⟨x,y,z,b⟩:=a.2;show⟨fun c u n e=>?_,x,y,z,?_⟩
 .have q:=a.1 c u n e;rw[qf (qy q hl)];show q
 .rw [qf (qy b hl)];show b
inductive spTake(vs:List V)(H:Hp)(Q:VK)(E:XK):Prop|mk (p:Addr) (m:Int) (_:vs=[.ref p,.int m]) (_:Box H p) (_:0<m) (_:m<1073741824) (_:∀(r:Int) (H':Hp),0<=r->r<m->BB p H H'->Q (.int r) H')
inductive spCell(K:W.Frag)(vs:List V)(H:Hp)(Q:VK)(E:XK):Prop|mk (a:Addr) (ns:LX) (k:Int) (_:vs=[.ref a,.int k]) (_:SqL K H a (ns.map V.int)) (_:0<=k) (_:k<1000) (_:∀ i:Int,Q (.int i) H)
inductive spBox(vs:List V)(H:Hp)(Q:VK)(E:XK):Prop|mk (i:Int) (_:vs=[.int i]) (_:∀(p:Addr) (a b c:Int),H p=none->Q (.ref p) (upd H p (.lst [.int a,.int b,.int c])))
theorem BB.apart(a:BB p H H1)(hl:H1 l=none):l≠p:=fun e=>by subst e;obtain⟨_,_,_,z⟩:=a.2;rw[z] at hl;cases hl
theorem BB.free(a:BB p H H1)(hl:H1 l=none):H l=none:=by
 cases q:H l with
 | none=>rfl
 | some o=>rw[a.1 l o (a.apart hl) q] at hl;cases hl
theorem BB.put(a:BB p H H1)(hl:H l=none)(d:l≠p):BB p H (upd H1 l o):=by
 obtain⟨x,y,z,b⟩:=a.2;show⟨fun c u n e=>by rw[qf (qy e hl)];show a.1 c u n e,x,y,z,by rw[qf d.symm];show b⟩
theorem BB.same(a:BB p H H1)(s:L2.Same H1 H2):BB p H H2:=by
 obtain⟨x,y,z,b⟩:=a.2;show⟨fun c u n e=>s c u (a.1 c u n e),x,y,z,s _ _ b⟩
noncomputable def NewH(H H':Hp):Hp:=fun a=>match H a with | none=>H' a | some _=>none
theorem zE:∀{l m:LS},l.Nodup->(∀ x∈l,x∈m)->l.length<=m.length
 | [],_,_,_=>YQ _
 | x::r,m,hn,h=>by
  obtain⟨h1,c⟩:=yo.mp hn;have a:=h x yE;have d:=zE (l:=r) (m:=m.erase x) c fun y b=>(XM (fun e=>h1 (by rw[<- e];show b))).mpr (h y (yy _ b));rw[xi a] at d;have:0<m.length:=xv a;simp only[yH];lk
theorem qc2(c:Str)(ss:LS):inV (.str c) (ss.map V.str)=decide (c∈ss):=by
 unfold inV;rw[Kc,YA,YH,yO];constructor
 .rintro ⟨y,a,e⟩;have:y=c:=eq_of_beq e;rw[<- this];show a
 .intro h;show⟨c,h,Y8 c⟩
theorem flat_strs(ss:LS):(ss.map V.str).all zB=true:=by rw[kQ];show YG.mpr fun _ _=>rfl
inductive spFresh(vs:List V)(H:Hp)(Q:VK)(E:XK):Prop|mk (l:Addr) (ss:LS) (_:vs=[.ref l]) (_:H l=some (.lst (ss.map V.str))) (_:ss.length<=14) (_:∀(x:Str) (H':Hp),L2.Same H H'->zP x=true->x∉ss->Q (.str x) H')
noncomputable def signs:LS:=("abcdefghijklmno":Str).cps.toList.map fun c=>⟨#[c]⟩
theorem qbg(a b:Str):(a++b).cps.toList=a.cps.toList++b.cps.toList:=by
 show(a.cps++b.cps).toList=_;show Array.toList_append
theorem qdD:∀{xs:LS},(∀ x∈xs,x.cps.toList.all sg=true)->(Str.join "" xs).cps.toList.all sg=true
 | [],_=>rfl
 | [x],h=>h x (by simp)
 | x::y::r,h=>by
  have e:Str.join "" (x::y::r)=x++""++Str.join "" (y::r):=rfl;rw[e,qbg,qbg,X0,X0,h x (by simp),qdD fun z hz=>h z (yy _ hz)]
  room
theorem qfw{c:Nat}(h:97<=c)(a:c<=122):sg c=true:=by
 have key:∀ i,i<26->sg (97+i)=true:=by room
 have:=key (c-97) (by lk)
 rwa[show 97+(c-97)=c by lk] at this
theorem join_len{xs:LS}(h:∀ x∈xs,x.length=1):(Txt.join "" xs).length=xs.length:=by
 have e:Txt.join "" xs=Str.join "" xs:=Yu.mp (join_plain_closes "" xs);rw[e]
 cases xs with
 | nil=>rfl
 | cons a l =>
  rw[len_join_cons]
  have key:∀ l:LS,(∀ x∈l,x.length=1)->(l.map (·.length)).sum=l.length:=by
   intro l
   induction l with
   | nil=>intro _;rfl
   | cons a l ih =>
    intro h;rw[YJ,List.sum_cons,h a yE,ih fun x b=>h x (yy _ b),yH];lk
  have z:("":Str).length=0:=by room
  rw[key _ h,z];lk
theorem qdE{xs:LS}(h:∀ x∈xs,x.length=1):(xs.map (·.length)).sum=xs.length:=by
 induction xs with
 | nil=>rfl
 | cons a l ih =>
  rw[YJ,List.sum_cons,h a yE,ih fun x b=>h x (yy _ b),yH];lk
def Signs(p:Addr)(H:Hp)(i:Nat)(ys:List V)(H':Hp):Prop:=BB p H H'/\∃ xs:LS,ys=xs.map V.str/\xs.length=i/\∀ x∈xs,x.length=1/\x.cps.toList.all sg=true
theorem Signs.start(h:Box H p):Signs p H 0 [] H:=⟨BB.refl h,[],rfl,rfl,fun _ h=>by cases h⟩
theorem Signs.more{c:Nat}(h:Signs p H i ys H1)(b:BB p H1 H2)(hc:sg c=true):Signs p H (i+1) (ys++[.str ⟨#[c]⟩]) H2:=by
 obtain⟨hb,xs,rfl,hl,h1⟩:=h;show⟨hb.trans b,xs++[⟨#[c]⟩],by rw[yx];rfl,by rw[yt,hl];rfl,fun x a=>?_⟩;rcases yB.mp a with z | z
 .show h1 x z
 .rw [yz.mp z];show⟨rfl,by simp[hc]⟩
theorem Signs.len(h:Signs p H i ys H1):ys.length=i:=by
 obtain⟨_,xs,rfl,hl,_⟩:=h;rw[ya,hl]
noncomputable def L26:Str:="abcdefghijklmnopqrstuvwxyz"
theorem L26_at{i:Int}(a:0<=i)(h1:i<26):atI L26.cps.toList i=some (97+i.toNat):=by
 obtain⟨n,rfl⟩:=YX a;have key:∀ n,n<26->L26.cps.toList[n]?=some (97+n):=by room
 rw[Yw];show qu (key n (by lk))
theorem nameS_of{x:Str}{l:LN}(e:x.cps.toList=l)(h1:1<=l.length)(a:l.length<=6)(h:l.all sg=true):zP x=true:=by
 have hl:x.length=l.length:=by rw[<- e];simp[Str.length]
 unfold zP;rw[yG ⟨by lk,by lk⟩,e];show h
theorem nodup_key(h:∀(i j:Nat) (s:Str),ss[i]?=some s->ss[j]?=some s->i=j):ss.Nodup:=by
 show Yl.mpr fun i j a c b e=>?_;have:=h i j ss[j] (by rw[yb a,e]) (yb c);lk
def NL(p:Addr)(H':Hp)(l:Addr)(ss:LS):Prop:=H' l=some (.lst (ss.map V.str))/\l≠p
structure NOk(ss:LS):Prop where
 few:ss.length<=14
 nd:ss.Nodup
 nm:∀ s∈ss,zP s=true
def PrT(p:Addr)(H:Hp)(t:Addr)(ab:Str×Str):Prop:=t≠p/\H t=some (.tup [.str ab.1,.str ab.2])
def TL(p:Addr)(H:Hp)(l:Addr)(ts:LQ)(tps:LP):Prop:=H l=some (.lst (ts.map V.ref))/\l≠p/\All2 (PrT p H) ts tps
structure TOk(ss:LS)(tps:LP):Prop where
 few:tps.length<=30
 ok:∀ ab∈tps,∃ j k:Nat,j<k/\ss[j]?=some ab.1/\ss[k]?=some ab.2
 nd:tps.Nodup
inductive spTies(vs:List V)(H:Hp)(Q:VK)(E:XK):Prop|mk (p n:Addr) (ss:LS) (_:vs=[.ref p,.ref n]) (_:Box H p) (_:NL p H n ss) (_:NOk ss) (_:∀(l:Addr) (ts:LQ) (tps:LP) (H':Hp),BB p H H'->H l=none->TL p H' l ts tps->TOk ss tps->Q (.ref l) H')
def Shuf(tps d:LP):Prop:=∃ c,d.Perm c/\All2 (fun a b=>b=a\/b=(a.2,a.1)) tps c
inductive spShuf(vs:List V)(H:Hp)(Q:VK)(E:XK):Prop|mk (p l:Addr) (ts:LQ) (tps:LP) (_:vs=[.ref p,.ref l]) (_:Box H p) (_:TL p H l ts tps) (_:tps.length<=30) (_:∀(l':Addr) (us:LQ) (ups:LP) (H':Hp),BB p H H'->H l'=none->TL p H' l' us ups->Shuf tps ups->Q (.ref l') H')
theorem all_true(n:Nat):(List.range n).all (fun _=>true)=true:=by simp
theorem qdF{b:Addr}{t c t':Str}(hb:H b=some (.tup [.str c,.str t']))(g:H a=some (.tup [.str s,.str t])):EqD K H 1 (.ref b) (.ref a) (decide ((c,t')=(s,t))):=by
 by_cases e:b=a
 .subst e;rw[hb] at g;cases g;rw[yD rfl];show .self
 .have z:=EqT.tup (K:=K) (H:=H) (n:=0) (e:=fun j=>if j=0 then eqV (.str c) (.str s) else eqV (.str t') (.str t)) (SqT.of hb) (SqT.of g) fun j x y d f=>by
   match j,d,f with
   | 0,d,f=>cases d;cases f;show .flat rfl rfl
   | 1,d,f=>cases d;cases f;show .flat rfl rfl
  have h:((List.range (min [V.str c,V.str t'].length [V.str s,V.str t].length)).all (fun j=>if j=0 then eqV (.str c) (.str s) else eqV (.str t') (.str t))&&[V.str c,V.str t'].length==[V.str s,V.str t].length)=decide ((c,t')=(s,t)):=by
   show((c==s)&&((t'==t)&&true)&&true)=_;rw[YA];simp
  rw[h] at z;show .deep z e
noncomputable def qdT(H:Hp)(z:V):Option (Str×Str):=match z with
 | .ref t=>(match H t with
  | some (.tup [.str a,.str b])=>some (a,b)
  | _=>none)
 | _=>none
theorem qbZ{a:Str}(h:H t=some (.tup [.str a,.str b])):qdT H (.ref t)=some (a,b):=by
 unfold qdT;dsimp only;rw[h]
theorem any_in(h:All2 (fun t ab=>H t=some (.tup [.str ab.1,.str ab.2])) ts tps)(st:Str×Str):((ts.map V.ref).any fun z=>decide (qdT H z=some st))=decide (st∈tps):=by
 rw[YA,YH,yO];constructor
 .rintro ⟨z,hz,e⟩;obtain⟨t,f,rfl⟩:=yN.mp hz;obtain⟨ab,b,r⟩:=h.mem f;have e:=yk e;rw[qbZ r] at e;cases e;show b
 .intro d;obtain⟨k,c,e⟩:=Xk d;have a:k<ts.length:=by rw[h.len];show c
  have r:=h.at_ k ts[k] tps[k] (yb a) (yb c);show⟨.ref ts[k],yN.mpr ⟨_,YN a,rfl⟩,yD ?_⟩;rw[qbZ r,e]
theorem pl_in{t:Str}{Q:VK}(h:PL H l ts tps)(d:H a=some (.tup [.str s,.str t]))(q:Q (.bl (decide ((s,t)∈tps))) H):qdW K false (.ref a) (.ref l) H Q:=by
 show .inr (.inr ⟨l,ts.map V.ref,fun z=>decide (qdT H z=some (s,t)),1,rfl,SqL.of h.1,by decide,fun z hz=>?_,?_⟩)
 .obtain⟨b,hb,rfl⟩:=yN.mp hz;obtain⟨ab,_,r⟩:=h.2.mem hb;have e:=qdF (K:=K) r d
  have c:decide (qdT H (.ref b)=some (s,t))=decide ((ab.1,ab.2)=(s,t)):=by
   rw[qbZ r];apply YB.mpr;rw[Option.some.injEq]
  show EqD K H 1 (.ref b) (.ref a) (decide (qdT H (.ref b)=some (s,t)));rw[c];show e
 .rw [any_in h.2];show q
theorem jU{y:V}(a:(ss.map V.str)[i]?=some y):∃ s,ss[i]?=some s/\y=.str s:=by
 rw[yd] at a
 cases h:ss[i]? with
 | none=>rw[h] at a;cases a
 | some s=>rw[h] at a;cases a;show⟨s,rfl,rfl⟩
def Adj(ss:LS)(ns:LN)(tps:LP):Prop:=∀ a b s t,ss[a]?=some s->ss[b]?=some t->((ns.getD a 0).testBit b=true↔((s,t)∈tps\/(t,s)∈tps))
theorem qc3{b:Addr}(c:H a=some (.lst xs))(hb:H b=some (.lst ys))(hl:xs.length=ys.length)(h:∀(j:Nat) x y,xs[j]?=some x->ys[j]?=some y->EqD K H n x y true):EqT K H (n+1) a b true:=by
 have z:=EqT.lst (K:=K) (H:=H) (n:=n) (e:=fun _=>true) (SqL.of c) (SqL.of hb) hl h;rw[all_true] at z;show z
theorem eqT_pl{r:Addr}(h:PL H l ts tps)(g:PL H r us tps):EqT K H 2 l r true:=by
 show qc3 h.1 g.1 (by rw[ya,ya,h.2.len,g.2.len]) fun j x y c d=>?_;rw[yd] at c d
 cases a:ts[j]? with
 | none=>rw[a] at c;cases c
 | some t =>
  cases b:us[j]? with
  | none=>rw[b] at d;cases d
  | some u =>
   rw[a] at c;rw[b] at d;cases c;cases d;have f:j<tps.length:=by rw[<- h.2.len];show(yc.mp a).1
   have e:=qdF (K:=K) (h.2.at_ j t tps[j] a (yb f)) (g.2.at_ j u tps[j] b (yb f));rw[yD rfl] at e;show e
theorem K0:FnScope ["web","thing","paired","tie"] ["web","thing"] (qh zR):=fS
theorem uE:FnScope ["self","thing"] ["self","thing"] (qh ze):=fS
noncomputable def qb0(a:LS):List (Key×V):=a.map fun s=>(.inr s,.bl true)
theorem qag(y:Str):∀ a:LS,(jR (qb0 a) (.inr y:Key)).isSome=decide (y∈a)
 | []=>rfl
 | s::r=>by
  by_cases e:s=y
  .subst e;show(jR (((.inr s:Key),V.bl true)::qb0 r) _).isSome=_;rw[yD (by simp)];simp[jR]
  .show(jR (((.inr s:Key),V.bl true)::qb0 r) _).isSome=_;rw[qW (p:=((.inr s:Key),V.bl true)) (fun z=>e (xk z)),qag y r];apply YB.mpr;simp[Yn e]
theorem qb1{a:LS}(h:y∉a):zJ (qb0 a) (.inr y:Key) (.bl true)=qb0 (a++[y]):=by
 have:jR (qb0 a) (.inr y:Key)=none:=by
  have:=qag y a;rw[yl h] at this;show Option.isNone_iff_eq_none.mp (by rw[<- Option.not_isSome,this];rfl)
 rw[qaO _ this];unfold qb0;rw[yx];rfl
noncomputable def qx(qs:LP):LS:=qs.flatMap fun q=>[q.1,q.2]
noncomputable def prK(qs:LP):List (Key×V):=qs.flatMap fun q=>[(.inr q.1,.str q.2),(.inr q.2,.str q.1)]
noncomputable def pt:LP->Str->Option Str
 | [],_=>none
 | q::r,s=>if q.1=s then some q.2 else if q.2=s then some q.1 else pt r s
theorem jV(s:Str):∀ qs,jR (prK qs) (.inr s:Key)=(pt qs s).map V.str
 | []=>rfl
 | q::r=>by
  show jR (((.inr q.1:Key),V.str q.2)::((.inr q.2:Key),V.str q.1)::prK r) _=(pt (q::r) s).map V.str;unfold pt;by_cases h1:q.1=s
  .rw [ji (p:=((.inr q.1:Key),V.str q.2)) (congrArg Sum.inr h1),yG h1];rfl
  .rw [qW (p:=((.inr q.1:Key),V.str q.2)) (fun z=>h1 (xk z)),yC h1];by_cases a:q.2=s
   .rw [ji (p:=((.inr q.2:Key),V.str q.1)) (congrArg Sum.inr a),yG a];rfl
   .rw [qW (p:=((.inr q.2:Key),V.str q.1)) (fun z=>a (xk z)),yC a,jV s r]
theorem pt_none:∀{qs:LP},pt qs s=none↔s∉qx qs
 | []=>by simp[pt,qx]
 | q::r=>by
  have e:qx (q::r)=q.1::q.2::qx r:=rfl;rw[e];unfold pt;by_cases h1:q.1=s
  .rw [yG h1];simp[h1]
  .rw [yC h1];by_cases a:q.2=s
   .rw [yG a];simp[a]
   .rw [yC a,pt_none];simp only[yA,not_or];show⟨fun z=>⟨Yn h1,Yn a,z⟩,fun z=>z.2.2⟩
structure PGo(ss:LS)(tps qs:LP):Prop where
 inn:∀ q∈qs,(q∈tps\/(q.2,q.1)∈tps)/\q.1∈ss/\q.2∈ss/\q.1≠q.2
 nd:(qx qs).Nodup
 few:qs.length<=30
theorem jW(qs:LP):(qx qs).length=2*qs.length:=by
 induction qs with
 | nil=>rfl
 | cons q r ih=>show(q.1::q.2::qx r).length=_;simp only[yH];lk
theorem zz(qs:LP)(q:Str×Str):qx (qs++[q])=qx qs++[q.1,q.2]:=by
 unfold qx;rw[xP];rfl
theorem PGo.new(g:PGo ss tps qs)(h:qs[i]?=some ab):qs.take (i+1)=qs.take i++[ab]/\(qx (qs.take i++[ab])).Nodup/\ab.1∉qx (qs.take i)/\ab.2∉qx (qs.take i):=by
 have b:qs.take (i+1)=qs.take i++[ab]:=by rw[yR,h];rfl
 have a:(qx (qs.take i++[ab])).Nodup:=by
  rw[<- b];have:qx qs=qx (qs.take (i+1))++qx (qs.drop (i+1)):=by unfold qx;rw[<- xP,List.take_append_drop]
  have e:=g.nd;rw[this] at e;show(Yc.mp e).1
 have c:=a;rw[zz] at c;have d:=(Yc.mp c).2.2;show⟨b,a,fun z=>d _ z ab.1 (by simp) rfl,fun z=>d _ z ab.2 (by simp) rfl⟩
inductive spHt(cw:Addr)(vs:List V)(H:Hp)(Q:VK)(E:XK):Prop|mk (x t:Addr) (ss:LS) (ns:LN) (tps:LP) (ab:Str×Str) (_:vs=[.ref x,.ref t]) (_:WebAt cw H x ss ns) (_:Adj ss ns tps) (_:H t=some (.tup [.str ab.1,.str ab.2])) (_:(ab∈tps\/(ab.2,ab.1)∈tps)) (_:ab.1∈ss) (_:ab.2∈ss) (_:ab.1≠ab.2) (_:∀ H',L2.Same H H'->Q (.bl true) H')
inductive spAp(cw:Addr)(vs:List V)(H:Hp)(Q:VK)(E:XK):Prop|mk (x l:Addr) (ss:LS) (ns:LN) (us:LQ) (tps qs:LP) (_:vs=[.ref x,.ref l]) (_:WebAt cw H x ss ns) (_:Adj ss ns tps) (_:PL H l us qs) (_:PGo ss tps qs) (_:∀ H',L2.Same H H'->Q (.bl true) H')
theorem ok_ht(F:Fun K "has_tie" "Web.has_tie" ze f fd)(T:Txt K mg cc cw)(u:DefOk P w K mg base CX0 3 "are_two_places" ["numbers","thing"] spTwo)(y:MethOk P w K mg base CX0 6 cw "tied" ["self","one","other"] (spTied cw)):FnOk P w K mg base CX0 7 f fd ["self","thing"] (spHt cw):=by
 show F.ok uE fun _ _ _ _ H vs Q E g h=>?_
 .obtain⟨x,t,ss,ns,tps,ab,rfl,p,z,m,c,m1,m2,e,q⟩:=h;have r:=zd g;obtain⟨s,l,ol,D,hb,d,B,A,hw⟩:=id p;show⟨_,(qe (qm (qaC (qp u (hmR g) qB (qa (qC (K:=K) rfl (pv 0) rfl) (qa (pv 1) qd))) (qaB (qI y (hmR g) (pv 0) (qa (qv (qw (K:=K) rfl r) (pv 1) qg (fun _ _=>rfl)) (qa (qv (qw (K:=K) rfl r) (pv 1) qg (fun _ _=>rfl)) qd))))))),?_⟩;apply .inl ⟨x,cw,s,_,.ref l,rfl,hb,T.wcl,T.wn,jT,?_⟩;apply⟨l,t,ss,ab.1,ab.2,rfl,d,m,hw.nm _ m1,hw.nm _ m2,m1,m2,e,fun H1 b=>?_⟩;show⟨true,rfl,zm ?_⟩;have a:=b _ _ m;apply⟨x,s,_,rfl,b _ _ hb,zq (by room),?_⟩;apply .inl (zD a (v:=.str ab.1) (qu (j:=0) rfl) ?_);apply .inl (zD a (v:=.str ab.2) (qu (j:=1) rfl) ?_);ext;obtain⟨j,o⟩:=yf m1;obtain⟨i,n⟩:=yf m2;show⟨x,ss,ns,ab.1,ab.2,j,i,rfl,p.same b,o,n,fun H2 C=>?_⟩;rw[(z j i ab.1 ab.2 o n).mpr c];show q H2 (b.trans C)
theorem ok_ap(F:Fun K "are_pairs" "are_pairs" zR f fd)(T:Txt K mg cc cw)(KU:MethOk P w K mg base CX0 7 cw "has_tie" ["self","thing"] (spHt cw)):FnOk P w K mg base CX0 8 f fd ["web","thing"] (spAp cw):=by
 show F.ok K0 fun _ _ _ _ H vs Q E W h=>?_
 .obtain⟨x,l,ss,ns,us,tps,qs,rfl,U,hA,⟨hl,r⟩,g,q⟩:=h;have e:=zd W;obtain⟨wx,dd,ol,nn,hb,_⟩:=id U;have few:=g.few;have M:=r.len;show⟨_,(qc (qH (qX (qO (qj (j8 (K:=K) rfl) rfl T.b_isinstance Ym (qa (pv 1) (qa (qY (v:=.ty "list") rfl T.b_list xz rfl) qd))))) (qe (qm jH)) qr)
 (qc (qo (i:=2) K0.nd rfl (yK rfl) zc)
 (qc (jp yZ rfl (qR (K:=K) rfl (pv 1)) (qt (i:=3) K0.nd rfl (yK rfl))
 (qc (qH (PW.pt (zK (qX (qO (qI KU (hmR W) (pv 0) (qa (pv 3) qd)))) (zK (qk (zC (K:=K) rfl e) (qv (qw (K:=K) rfl e) (pv 3) qg (fun _ _=>rfl)) (pv 2) (by with_unfolding_all rfl)) (zn (qk (zC (K:=K) rfl e) (qv (qw (K:=K) rfl e) (pv 3) qg (fun _ _=>rfl)) (pv 2) (by with_unfolding_all rfl)))))) (qe (qm jH)) qr)
 (qc (jQ jH (j7 (pv 2) (qv (qw (K:=K) rfl e) (pv 3) qg (fun _ _=>rfl)) (j9 e)))
 (qe (jQ jH (j7 (pv 2) (qv (qw (K:=K) rfl e) (pv 3) qg (fun _ _=>rfl)) (j9 e)))))))
 (qe (qm jH))))),?_⟩
  apply qaz (.inl (.lst hl)) rfl (jw K "list" (by simp) "list" (by simp)) ?_;apply yq ?_;ext;intro d C;have N:=qF (Sr H) (o:=.dK []) C;have S:upd H d (.dK []) d=some (.dK (qb0 [])):=qb;generalize upd H d (.dK [])=H1 at N S;apply .inl ⟨⟨_,.of (N _ _ hl)⟩,jo (xs:=us.map V.ref) (fun i σ J=>L2.Same H J/\∃ O,σ=[some (.ref x),some (.ref l),some (.ref d),O]/\J d=some (.dK (qb0 (qx (qs.take i))))) ⟨N,_,rfl,S⟩ (fun i σ J _ u=>.of (u.1 _ _ hl)) (fun i y σ J X u=>?_) fun σ J u=>?_⟩
  .obtain⟨n,O,rfl,c⟩:=u;rw[yd] at X;obtain⟨b,s,rfl⟩:=yn.mp X;have hi:i<us.length:=(yc.mp s).1;obtain⟨ab,m⟩:∃ ab,qs[i]?=some ab:=⟨_,yb (by rw[<- M];show hi)⟩;have B:=r.at_ i b ab s m;obtain⟨ht,m1,m2,t⟩:=g.inn ab (ye m);obtain⟨L,aa,Y,Z⟩:=g.new m;have ac:(qx (qs.take i)).length<=60:=by rw[jW,yT];lk
   have I:b≠d:=fun z=>by rw[z,C] at B;cases B
   apply⟨x,wx,_,rfl,n _ _ hb,zq (by room),?_⟩;apply⟨x,b,ss,ns,tps,ab,rfl,U.same n,hA,n _ _ B,ht,m1,m2,t,fun G D=>?_⟩;have A:=n.trans D;have a:=A _ _ B;apply yq ?_;apply .inl (zD a (v:=.str ab.1) (qu (j:=0) rfl) ?_);apply .inr (.inl ⟨d,_,rfl,DGet.k (k:=Sum.inr ab.1) (D _ _ c),?_⟩);rw[yC (by decide),qag,yl Y];apply yq ?_;apply .inl (zD a (v:=.str ab.2) (qu (j:=1) rfl) ?_);apply .inr (.inl ⟨d,_,rfl,DGet.k (k:=Sum.inr ab.2) (D _ _ c),?_⟩);rw[yC (by decide),qag,yl Z];apply yq ?_;apply .inl (zD a (v:=.str ab.1) (qu (j:=0) rfl) ?_);apply .inr ⟨d,_,rfl,DPut.k (k:=Sum.inr ab.1) (D _ _ c) (by unfold qb0;rw[ya,Yy];lk),?_⟩;rw[qb1 Y];have s3:=qaE A (o:=.dK (qb0 (qx (qs.take i)++[ab.1]))) C;have R:upd G d (.dK (qb0 (qx (qs.take i)++[ab.1]))) d=some (.dK (qb0 (qx (qs.take i)++[ab.1]))):=qb;have p:upd G d (.dK (qb0 (qx (qs.take i)++[ab.1]))) b=some (.tup [.str ab.1,.str ab.2]):=by rw[qf I];show a
   generalize upd G d (.dK (qb0 (qx (qs.take i)++[ab.1])))=J3 at s3 R p;apply .inl (zD p (v:=.str ab.2) (qu (j:=1) rfl) ?_);apply .inr ⟨d,_,rfl,DPut.k (k:=Sum.inr ab.2) R (by unfold qb0;rw[ya,yt,Yy];simp only[yH,YV];lk),?_⟩;rw[qb1 (fun z=>by rcases yB.mp z with z | z;show Z z;show t (yz.mp z).symm)];show⟨qaE s3 C,_,rfl,by rw[qb,L,zz,Yi];rfl⟩
  .obtain⟨n,O,rfl,c⟩:=u;apply q J n
theorem KJ:FnScope ["web","pairs","partners","pair"] ["web","pairs"] (qh zf):=fS
theorem prK_len(qs:LP):(prK qs).length=2*qs.length:=by
 induction qs with
 | nil=>rfl
 | cons q r ih=>show(_::_::prK r).length=_;simp only[yH];rw[ih];lk
theorem prK_snoc(qs:LP)(q:Str×Str):prK (qs++[q])=prK qs++[(.inr q.1,.str q.2),(.inr q.2,.str q.1)]:=by
 unfold prK;rw[xP];rfl
theorem prK_put{q:Str×Str}(h:(qx (qs++[q])).Nodup):zJ (zJ (prK qs) (.inr q.1:Key) (.str q.2)) (.inr q.2:Key) (.str q.1)=prK (qs++[q]):=by
 rw[zz] at h;obtain⟨h1,b,c⟩:=Yc.mp h;have e:q.1∉qx qs:=fun z=>c _ z _ (by simp) rfl;have f:q.2∉qx qs:=fun z=>c _ z q.2 (by simp) rfl;have g:q.1≠q.2:=by simp at b;show b
 have i:jR (prK qs) (.inr q.1:Key)=none:=by rw[jV,pt_none.mpr e];rfl
 rw[qaO _ i]
 have a:jR (prK qs++[((.inr q.1:Key),V.str q.2)]) (.inr q.2:Key)=none:=by
  have a:jR (prK qs) (.inr q.2:Key)=none:=by rw[jV,pt_none.mpr f];rfl
  unfold jR at a ⊢;rw[List.find?_append];have:(prK qs).find? (fun d=>decide (d.1=(.inr q.2:Key)))=none:=by simpa using a
  rw[this];simp[g]
 rw[qaO _ a,prK_snoc];simp
inductive spPn(cw:Addr)(vs:List V)(H:Hp)(Q:VK)(E:XK):Prop|mk (x l:Addr) (ss:LS) (ns:LN) (us:LQ) (tps qs:LP) (_:vs=[.ref x,.ref l]) (_:WebAt cw H x ss ns) (_:Adj ss ns tps) (_:PL H l us qs) (_:PGo ss tps qs) (_:∀(d:Addr) (H':Hp),L2.Same H H'->H d=none->H' d=some (.dK (prK qs))->Q (.ref d) H')
theorem ok_pn(F:Fun K "partners_in" "partners_in" zf f fd)(T:Txt K mg cc cw)(uZ:DefOk P w K mg base CX0 8 "are_pairs" ["web","thing"] (spAp cw)):FnOk P w K mg base CX0 9 f fd ["web","pairs"] (spPn cw):=by
 show F.ok KJ fun _ _ _ _ H vs Q E R h=>?_
 .obtain⟨x,l,ss,ns,us,tps,qs,rfl,Y,X,⟨hl,n⟩,g,q⟩:=h;have p:=zd R;have few:=g.few;have u:=n.len;show⟨_,(qc (qH (qX (qO (qp uZ (hmR R) qB (qa (pv 0) (qa (pv 1) qd))))) (qe jr) qr)
 (qc (qo (i:=2) KJ.nd rfl (yK rfl) zc)
 (qc (jp yZ rfl (qR (K:=K) rfl (pv 1)) (qt (i:=3) KJ.nd rfl (yK rfl))
 (qc (jQ (qv (qw (K:=K) rfl p) (pv 3) qg (fun _ _=>rfl)) (j7 (pv 2) (qv (qw (K:=K) rfl p) (pv 3) qg (fun _ _=>rfl)) (j9 p)))
 (qe (jQ (qv (qw (K:=K) rfl p) (pv 3) qg (fun _ _=>rfl)) (j7 (pv 2) (qv (qw (K:=K) rfl p) (pv 3) qg (fun _ _=>rfl)) (j9 p))))))
 (qe (qm (pv 2)))))),?_⟩
  apply⟨x,l,ss,ns,us,tps,qs,rfl,Y,X,⟨hl,n⟩,g,fun H1 U=>?_⟩;apply yq ?_;ext;intro d O;have c:=U.free O;have I:=qF U (o:=.dK []) O;have N:upd H1 d (.dK []) d=some (.dK (prK [])):=qb;generalize upd H1 d (.dK [])=H2 at I N;apply .inl ⟨⟨_,.of (I _ _ hl)⟩,jo (xs:=us.map V.ref) (fun i σ J=>L2.Same H J/\∃ L,σ=[some (.ref x),some (.ref l),some (.ref d),L]/\J d=some (.dK (prK (qs.take i)))) ⟨I,_,rfl,N⟩ (fun i σ J _ t=>.of (t.1 _ _ hl)) (fun i y σ J S t=>?_) fun σ J t=>?_⟩
  .obtain⟨A,L,rfl,a⟩:=t;rw[yd] at S;obtain⟨b,s,rfl⟩:=yn.mp S;have Z:i<us.length:=(yc.mp s).1;obtain⟨ab,r⟩:∃ ab,qs[i]?=some ab:=⟨_,yb (by rw[<- u];show Z)⟩;have B:=n.at_ i b ab s r;obtain⟨G,D,n1,n2⟩:=g.new r;have C:b≠d:=fun z=>by rw[z,c] at B;cases B
   have m:=A _ _ B;have aa:(prK (qs.take i)).length<=2000:=by rw[prK_len,yT];lk
   apply .inl (zD m (v:=.str ab.2) (qu (j:=1) rfl) ?_);apply .inl (zD m (v:=.str ab.1) (qu (j:=0) rfl) ?_);apply .inr ⟨d,_,rfl,DPut.k (k:=Sum.inr ab.1) a (by rw[Yy];lk),?_⟩;have W:=qaE A (o:=.dK (zJ (prK (qs.take i)) (Sum.inr ab.1) (.str ab.2))) c;have M:upd J d (.dK (zJ (prK (qs.take i)) (Sum.inr ab.1) (.str ab.2))) d=some (.dK (zJ (prK (qs.take i)) (Sum.inr ab.1) (.str ab.2))):=qb;have e:upd J d (.dK (zJ (prK (qs.take i)) (Sum.inr ab.1) (.str ab.2))) b=some (.tup [.str ab.1,.str ab.2]):=by rw[qf C];show m
   generalize upd J d (.dK (zJ (prK (qs.take i)) (Sum.inr ab.1) (.str ab.2)))=J3 at W M e;apply .inl (zD e (v:=.str ab.1) (qu (j:=0) rfl) ?_);apply .inl (zD e (v:=.str ab.2) (qu (j:=1) rfl) ?_);apply .inr ⟨d,_,rfl,DPut.k (k:=Sum.inr ab.2) M ?_,?_⟩
   .have:=jF (prK (qs.take i)) (Sum.inr ab.1:Key) (.str ab.2);rw[Yy];lk
   .show⟨qaE W c,_,rfl,by rw[qb,prK_put D,G]⟩
  .obtain⟨A,L,rfl,a⟩:=t;rw[ya,u,yQ] at a;apply q d J A c a
structure Gr(A:Str->Str->Prop)(f:Str->Option Str):Prop where
 as:∀{a b},A a b->A b a
 ir:∀{a b},A a b->a≠b
 fs:∀{a b},f a=some b->f b=some a
 fa:∀{a b},f a=some b->A a b
structure FS where
 rows:Str->Option (LS)
 par:Str->Option Str
 bas:Str->Str
def Turns(A:Str->Str->Prop)(f:Str->Option Str)(r:LS):Prop:=∀(j:Nat) a b,r[j]?=some a->r[j+1]?=some b->A a b/\(f a=some b↔j % 2=1)
structure Alt(A:Str->Str->Prop)(f:Str->Option Str)(r:LS)(v:Str):Prop where
 nd:r.Nodup
 odd:r.length % 2=1
 hd:∀ s,r[0]?=some s->f s=none
 tl:∃ r0,r=r0++[v]
 st:Turns A f r
structure FI(A:Str->Str->Prop)(f:Str->Option Str)(S:FS):Prop where
 alt:∀ v r,S.rows v=some r->Alt A f r v
 bse:∀ v r,S.rows v=some r->∃ rb t,S.rows (S.bas v)=some rb/\r=rb++t/\∀ u∈t,S.bas u=S.bas v
 idm:∀ v r,S.rows v=some r->S.bas (S.bas v)=S.bas v
 dwn:∀ b r q,S.rows b=some r->S.bas b=b->f b=some q->S.rows q=none/\∃ z rz,S.par q=some z/\S.rows z=some rz/\r=rz++[q,b]
 mat:∀ v,S.bas v≠v->(∃ r,S.rows v=some r)/\∃ u,f v=some u/\S.bas u=S.bas v
 odd:∀ x z,S.par x=some z->A z x/\(∃ r,S.rows z=some r)/\∃ y r,f x=some y/\S.rows y=some r
section
variable{A:Str->Str->Prop}{f:Str->Option Str}{S:FS}
theorem FI.own(I:FI A f S){v:Str}(h:S.rows v=none):S.bas v=v:=Yg fun z=>by
 obtain⟨⟨r,e⟩,_⟩:=I.mat v z;rw[h] at e;cases e
theorem FI.evb(I:FI A f S){v:Str}(h:S.rows v=some r):∃ a,S.rows (S.bas v)=some a:=(I.bse v r h).elim fun a z=>⟨a,z.elim fun _ y=>y.1⟩
theorem FI.pair(I:FI A f S){v w:Str}{s:LS}(hv:S.rows v=some r)(hw:S.rows w=some s)(h:f v=some w):S.bas v=S.bas w:=by
 by_cases z:S.bas v=v
 .have:=(I.dwn v r w hv z h).1;rw[hw] at this;cases this
 .obtain⟨_,u,a,e⟩:=I.mat v z;rw[h] at a;cases a;show e.symm
inductive Ch(f:Str->Option Str)(S:FS):Str->LS->Prop
 | root {b:Str}:f b=none->Ch f S b [b]
 | step {b q z:Str} {l:LS}:f b=some q->S.par q=some z->Ch f S (S.bas z) l->Ch f S b (b::l)
theorem Ch.one{l:LS}(h:Ch f S b l):∀{m},Ch f S b m->m=l:=by
 induction h with
 | root e=>intro m g;cases g with
  | root _=>rfl
  | step e' _ _=>rw[e] at e';cases e'
 | step e p _ ih=>intro m g;cases g with
  | root e'=>rw[e] at e';cases e'
  | step e' p' g'=>rw[e] at e';cases e';rw[p] at p';cases p';rw[ih g']
theorem Ch.ne{l:LS}(h:Ch f S b l):∃ t,l=b::t:=by cases h<;>show⟨_,rfl⟩
theorem FI.chain(I:FI A f S):∀(n:Nat) {b:Str} {r:LS},r.length<=n->S.rows b=some r->S.bas b=b->∃ l,Ch f S b l
 | n,b,r,hn,hb,hbb=>by
  cases e:f b with
  | none=>show⟨_,.root e⟩
  | some q =>
   obtain⟨_,z,rz,p,hz,c⟩:=I.dwn b r q hb hbb e;obtain⟨a,t,h1,d,_⟩:=I.bse z rz hz;have hl:a.length<n:=by rw[c,d] at hn;simp at hn;lk
   match n,hl with
   | n+1,hl =>
    obtain⟨l,g⟩:=I.chain n (b:=S.bas z) (r:=a) (by lk) h1 (I.idm z rz hz);show⟨_,.step e p g⟩
theorem FI.chainOf(I:FI A f S){v:Str}(h:S.rows v=some r):∃ l,Ch f S (S.bas v) l:=by
 obtain⟨a,e⟩:=I.evb h;show I.chain _ (yh _) e (I.idm v r h)
def Cov(f:Str->Option Str)(S:FS)(l:LS)(u:Str):Prop:=∃ d∈l,S.bas u=d\/f d=some u
theorem Cov.mono{l m:LS}(h:Cov f S l u)(a:∀ d∈l,d∈m):Cov f S m u:=h.elim fun d z=>⟨d,a d z.1,z.2⟩
theorem Ch.up(I:FI A f S){l:LS}(h:Ch f S b l):∀{v:Str} {r:LS},S.rows v=some r->S.bas v=b->∀{l1 l2:LS} {c:Str},l=l1++c::l2->∃ o t,S.rows c=some o/\S.bas c=c/\Ch f S c (c::l2)/\r=o++t/\∀ u∈t,S.bas u=c\/Cov f S l1 u:=by
 induction h with
 | root e =>
  intro v r hv hb l1 l2 c j
  cases l1 with
  | cons x y=>show absurd (congrArg List.length j) (by simp)
  | nil =>
   cases j;obtain⟨n,t,h1,m,i⟩:=I.bse v r hv;rw[hb] at h1 i;show⟨n,t,h1,by rw[<- hb];show I.idm v r hv,.root e,m,fun u hu=>.inl (i u hu)⟩
 | @step b q z l e p g ih =>
  intro v r hv hb l1 l2 c j;obtain⟨n,t,h1,m,i⟩:=I.bse v r hv;rw[hb] at h1 i;have a:S.bas b=b:=by rw[<- hb];show I.idm v r hv
  cases l1 with
  | nil =>
   cases j;show⟨n,t,h1,a,.step e p g,m,fun u hu=>.inl (i u hu)⟩
  | cons x y =>
   cases j;obtain⟨H,J,rz,s,hz,w⟩:=I.dwn b n q h1 a e;rw[p] at s;cases s;obtain⟨o,t',C,D,E,F,G⟩:=ih hz rfl rfl;show⟨o,t'++[q,b]++t,C,D,E,by rw[m,w,F];simp,fun u hu=>?_⟩;rcases yB.mp hu with hu | hu
   .rcases yB.mp hu with hu | hu
    .show(G u hu).imp id fun z=>z.mono fun d B=>yy _ B
    .simp only[yA,Yj,Y6] at hu;rcases hu with rfl | rfl
     .show .inr ⟨b,yE,.inr e⟩
     .show .inr ⟨_,yE,.inl a⟩
   .show .inr ⟨b,yE,.inl (i u hu)⟩
theorem Ch.bs0(I:FI A f S){v:Str}{l:LS}(hv:S.rows v=some r)(h:Ch f S (S.bas v) l)(hc:c∈l):∃ a,S.rows c=some a/\S.bas c=c:=by
 obtain⟨l1,l2,e⟩:=Ys hc;obtain⟨a,_,h1,b,_⟩:=h.up I hv rfl e;show⟨a,h1,b⟩
theorem Ch.cov(G:Gr A f)(I:FI A f S){v:Str}{l:LS}(hv:S.rows v=some r)(h:Ch f S (S.bas v) l)(hu:u∈r):Cov f S l u:=by
 have hl:l≠[]:=by obtain⟨t,e⟩:=h.ne;rw[e];show kK _ _
 obtain⟨o,t,h1,s,w,x,y⟩:=h.up I hv rfl (xr hl).symm;have b:l.getLast hl∈l:=List.getLast_mem hl;rw[x] at hu;rcases yB.mp hu with hu | hu
 .have C:f (l.getLast hl)=none:=by
   cases w with
   | root e=>show e
   | step _ _ g=>obtain⟨_,e⟩:=g.ne;cases e
  have c:=I.alt _ _ h1;obtain⟨q,i⟩:=c.tl
  have m:q=[]:=by
   cases j:q.length with
   | zero=>show List.eq_nil_of_length_eq_zero j
   | succ n =>
    exfalso;have p:o.length=n+2:=by rw[i];simp[j]
    obtain⟨a,B⟩:∃ a,o[n]?=some a:=⟨_,yb (by lk)⟩;have hb:o[n+1]?=some (l.getLast hl):=by rw[i,yI (by lk),j];simp
    have:=G.fs ((c.st n a _ B hb).2.mpr (by have:=c.odd;lk));rw[C] at this;cases this
  rw[i,m] at hu;have e:u=l.getLast hl:=by simpa using hu
  show⟨_,b,.inl (by rw[e];show s)⟩
 .rcases y u hu with z | ⟨d,hd,z⟩
  .show⟨_,b,.inl z⟩
  .show⟨d,List.dropLast_subset l hd,z⟩
theorem Cov.apart(G:Gr A f)(I:FI A f S){l m:LS}(hl:∀ d∈l,∃ r,S.rows d=some r/\S.bas d=d)(j:∀ d∈m,∃ r,S.rows d=some r/\S.bas d=d)(q:∀ d∈l,d∉m)(h1:Cov f S l u)(o:Cov f S m u):False:=by
 have key:∀{d e:Str},(∃ r,S.rows d=some r/\S.bas d=d)->(∃ r,S.rows e=some r/\S.bas e=e)->S.bas u=d->f e=some u->False:=fun⟨r,b,p⟩ ⟨s,g,i⟩ h h'=>by
  have n:=(I.dwn _ _ _ g i h').1;have:=I.own n;rw[h] at this;rw[this,n] at b;cases b
 obtain⟨d,b,z⟩:=h1;obtain⟨e,g,y⟩:=o;have c:d≠e:=fun w=>q d b (by rw[w];show g);rcases z with z | z<;>rcases y with y | y
 .show c (z.symm.trans y)
 .show key (hl d b) (j e g) z y
 .show key (j e g) (hl d b) y z
 .have a:=G.fs z;rw[G.fs y] at a;show c (ym a).symm
theorem Turns.app{s:LS}(h:Turns A f r)(g:∀(j:Nat) a b,s[j]?=some a->s[j+1]?=some b->A a b/\(f a=some b↔(r.length+j) % 2=1))(w:∀ a b,r[r.length-1]?=some a->s[0]?=some b->0<r.length->A a b/\(f a=some b↔(r.length-1) % 2=1)):Turns A f (r++s):=fun j a b c hb=>by
 by_cases h1:j+1<r.length
 .rw [y0 (by lk)] at c;rw[y0 h1] at hb;show h j a b c hb
 .by_cases d:j+1=r.length
  .rw [y0 (by lk),show j=r.length-1 by lk] at c;rw[yI (by lk),show j+1-r.length=0 by lk] at hb;rw[show j=r.length-1 by lk];show w a b c hb (by lk)
  .rw [yI (by lk)] at c;rw[yI (by lk),show j+1-r.length=j-r.length+1 by lk] at hb;have:=g _ a b c hb
   rwa[show r.length+(j-r.length)=j by lk] at this
theorem Alt.back(G:Gr A f){s t:LS}{v w q:Str}(hw:Alt A f s w)(hv:Alt A f r v)(i:r=rz++q::c::t)(hz:rz.length % 2=1)(F:A w v)(H:f w≠some v)(B:∀ u∈s,u∉q::c::t):Alt A f (s++(q::c::t).reverse) q:=by
 obtain⟨L,p⟩:=hw.tl;obtain⟨K,l⟩:=hv.tl;have o:0<s.length:=by rw[p];simp
 have I:=hv.odd;have n:r.length=rz.length+(t.length+2):=by rw[i];simp
 have at_:∀{j:Nat} {a:Str},(q::c::t).reverse[j]?=some a->j<t.length+2/\r[r.length-1-j]?=some a:=fun{j a} h=>by
  have hl:=(yc.mp h).1;rw[Yt] at hl;simp only[yH] at hl;rw[Xc (by simp only[yH];lk)] at h;simp only[yH] at h;show⟨by lk,?_⟩;rw[n]
  conv=>lhs;rw[i]
  rw[yI (by lk),show rz.length+(t.length+2)-1-j-rz.length=t.length+1+1-1-j by lk];show h
 show⟨Yc.mpr ⟨hw.nd,?_,fun x J y g e=>B x J (by rw[e];show Xg.mp g)⟩,?_,fun y g=>?_,⟨s++(c::t).reverse,by simp⟩,hw.st.app (fun j a b h1 m=>?_) fun a b h1 m _=>?_⟩
 .show(kq _).nodup_iff.mpr ((Yc.mp (i ▸ hv.nd)).2.1)
 .rw [yt,Yt];simp only[yH];have:=hw.odd;lk
 .rw [y0 o] at g;show hw.hd y g
 .obtain⟨l1,C⟩:=at_ h1;obtain⟨l2,d⟩:=at_ m;have:=hv.st (r.length-1-(j+1)) b a d (by rw[show r.length-1-(j+1)+1=r.length-1-j by lk];show C);show⟨G.as this.1,⟨fun z=>?_,fun z=>?_⟩⟩
  .have:=this.2.mp (G.fs z);have:=hw.odd;lk
  .show G.fs (this.2.mpr (by have:=hw.odd;lk))
 .have D:a=w:=by
   rw[p,yt,yI (by simp)] at h1;simpa using h1.symm
  have E:b=v:=by
   obtain⟨_,d⟩:=at_ m;rw[Ka,l,yt,yI (by simp)] at d;simpa using d.symm
  subst D;subst E;show⟨F,⟨fun z=>absurd z H,fun z=>by have:=hw.odd;lk⟩⟩
end
section
variable{A:Str->Str->Prop}{f:Str->Option Str}{S S':FS}
theorem Ch.nd(I:FI A f S){l:LS}(h:Ch f S b l):∀{v:Str} {r:LS},S.rows v=some r->S.bas v=b->l.Nodup:=by
 induction h with
 | root e=>intro _ _ _ _;simp
 | @step b q z l e p g ih =>
  intro v r hv hb;have a:S.bas b=b:=by rw[<- hb];show I.idm v r hv
  obtain⟨m,h1⟩:=I.evb hv;rw[hb] at h1;obtain⟨_,n,rz,d,hz,_⟩:=I.dwn b m q h1 a e;rw[p] at d;cases d;show yo.mpr ⟨fun i=>?_,ih hz rfl⟩;obtain⟨x,y,c⟩:=Ys i;obtain⟨_,_,_,_,j,_⟩:=g.up I hz rfl c;have:=j.one (.step e p g);rw[c] at this;have:=congrArg List.length this;simp at this;lk
theorem Ch.suf(I:FI A f S){v:Str}{l:LS}(hv:S.rows v=some r)(h:Ch f S (S.bas v) l){q:Str}(e:l=l1++c::l2)(b:f c=some q):∃ rz t,r=rz++q::c::t/\rz.length % 2=1/\S.rows q=none/\∀ u∈q::c::t,Cov f S (l1++[c]) u:=by
 obtain⟨p,t,h1,a,_,g,i⟩:=h.up I hv rfl e;obtain⟨m,z,rz,_,n,o⟩:=I.dwn c p q h1 a b;show⟨rz,t,by rw[g,o];simp,(I.alt z rz n).odd,m,fun u hu=>?_⟩;rcases yA.mp hu with rfl | hu
 .show⟨c,by simp,.inr b⟩
 .rcases yA.mp hu with rfl | hu
  .show⟨u,by simp,.inl a⟩
  .rcases i u hu with z | z
   .show⟨c,by simp,.inl z⟩
   .show z.mono fun d j=>yM _ j
theorem Ch.meet(I:FI A f S){v w:Str}{s l:LS}(hv:S.rows v=some r)(hw:S.rows w=some s)(h:Ch f S (S.bas v) l)(h':Ch f S (S.bas w) l'){m:Str}(j:l=l1++m::l2)(i:l'=m1++m::m2)(H:∀ d∈l1,d∉l'):m2=l2/\∀ d∈m1,d∉l:=by
 obtain⟨_,_,_,_,k,_⟩:=h.up I hv rfl j;obtain⟨_,_,_,_,k',_⟩:=h'.up I hw rfl i;have D:m2=l2:=(xw (k.one k')).2;show⟨D,fun d J hl=>?_⟩;obtain⟨a,b,B⟩:=Ys J;obtain⟨x,y,ex⟩:=Ys hl;obtain⟨_,_,_,_,g,_⟩:=h.up I hv rfl ex;obtain⟨_,_,_,_,g',_⟩:=h'.up I hw rfl (l1:=a) (c:=d) (l2:=b++m::m2) (by rw[i,B];simp);have t:y=b++m::m2:=(xw (g'.one g)).2;have e:=h.nd I hv rfl;have n:d∈l':=by rw[i,B];simp
 have p:d∉l1:=fun z=>H d z n;have o:d∈m::l2:=by rw[j] at hl;show(yB.mp hl).resolve_left p
 rcases yA.mp o with z | z
 .rw [z] at ex;rw[ex,t] at e;have:=(Yc.mp e).2.1;show(yo.mp this).1 (by simp)
 .have q:m∈x:=by
   obtain⟨K,C,E⟩:=Ys z;have u:l=(l1++m::K)++d::C:=by rw[j,E];simp
   obtain⟨_,_,_,_,G,_⟩:=h.up I hv rfl u;have F:C=y:=(xw (g.one G)).2;rw[u,F] at ex;rw[<- List.append_cancel_right ex];simp
  rw[ex,t] at e;show(Yc.mp e).2.2 m q m (by simp) rfl
def NewRow(S:FS)(v w u:Str)(r:LS):Prop:=∃ rv rw rz t,S.rows v=some rv/\S.rows w=some rw/\rv=rz++u::t/\r=rw++(u::t).reverse
def InR(f:Str->Option Str)(m:Str)(a:LS)(u:Str):Prop:=u=m\/∃ c∈a,u=c\/f c=some u
structure Mg(f:Str->Option Str)(S S':FS)(v w m:Str)(l1 m1:LS):Prop where
 par:S'.par=S.par
 old:∀ u r,S.rows u=some r->S'.rows u=some r
 new:∀ u r,S'.rows u=some r->S.rows u=some r\/(∃ c∈l1,f c=some u/\NewRow S v w u r)\/(∃ c∈m1,f c=some u/\NewRow S w v u r)
 all:∀ c∈l1++m1,∀ q,f c=some q->∃ r,S'.rows q=some r
 inn:∀ u,InR f m (l1++m1) (S.bas u)->S'.bas u=m
 out:∀ u,¬ InR f m (l1++m1) (S.bas u)->S'.bas u=S.bas u
theorem qel{a b c d:LS}{x:Str}(h:(a++x::b).Nodup)(e:a++x::b=c++x::d):a=c/\b=d:=by
 induction a generalizing c with
 | nil =>
  cases c with
  | nil=>show⟨rfl,(xw e).2⟩
  | cons y c =>
   obtain⟨f,g⟩:=xw e;show absurd (show x∈b by rw[g];simp) (yo.mp h).1
 | cons y a ih =>
  cases c with
  | nil =>
   obtain⟨f,g⟩:=xw e;show absurd (show y∈a++x::b by rw[f];simp) (yo.mp h).1
  | cons z c =>
   obtain⟨f,g⟩:=xw e;obtain⟨h1,i⟩:=ih (yo.mp h).2 g;show⟨by rw[f,h1],i⟩
theorem NewRow.ok(G:Gr A f)(I:FI A f S){v w:Str}{l:LS}(hv:S.rows v=some rv)(hw:S.rows w=some rw)(h:Ch f S (S.bas v) l)(h':Ch f S (S.bas w) l')(o:l=l1++l2)(H:∀ d∈l1,d∉l')(F:A w v)(hb:S.bas w≠S.bas v)(hc:c∈l1)(K:f c=some u)(J:NewRow S v w u r) :
  Alt A f r u/\S.rows u=none/\∃ t,r=rw++t/\∀ x∈t,Cov f S l1 x:=by
 obtain⟨L,M,rz,t,p,q,s,y⟩:=J;rw[hv] at p;cases p;rw[hw] at q;cases q;obtain⟨a,b,n⟩:=Ys hc;obtain⟨N,t',j,B,C,m⟩:=h.suf I hv (l1:=a) (c:=c) (l2:=b++l2) (by rw[o,n];simp) K;have e:=(I.alt v rv hv).nd;obtain⟨D,E⟩:=qel (by rw[<- s];show e) (s.symm.trans j);subst D;subst E;have sub:∀ d∈a++[c],d∈l1:=fun d z=>by rw[n];rcases yB.mp z with z | z;show yM _ z;rw[yz.mp z];simp
 have inl:∀ d∈l1,d∈l:=fun d z=>by rw[o];show yM _ z
 show⟨?_,C,_,y,fun x g=>(m x (Xg.mp g)).mono sub⟩;rw[y];show Alt.back G (I.alt w rw hw) (I.alt v rv hv) j B F (fun z=>hb (I.pair hw hv z)) fun x g i=>?_;show Cov.apart G I (fun d z=>h.bs0 I hv (inl d (sub d z))) (fun d z=>h'.bs0 I hw z) (fun d z=>H d (sub d z)) (m x i) (h'.cov G I hw g)
theorem FI.merge(G:Gr A f)(I:FI A f S){v w m:Str}(hv:S.rows v=some rv)(hw:S.rows w=some rw)(h:Ch f S (S.bas v) (l1++m::l2))(h':Ch f S (S.bas w) (m1++m::l2))(hd:∀ d∈l1,d∉m1++m::l2)(U:∀ d∈m1,d∉l1++m::l2)(ha:A v w)(hb:S.bas v≠S.bas w)(M:Mg f S S' v w m l1 m1):FI A f S':=by
 have hm:∃ r,S.rows m=some r/\S.bas m=m:=h.bs0 I hv (by simp);obtain⟨P,H,W⟩:=hm
 have B:∀ c∈l1++m1,(∃ r,S.rows c=some r/\S.bas c=c)/\c≠m/\∃ q,f c=some q/\S.rows q=none:=fun c hc=>by
  rcases yB.mp hc with z | z
  .show⟨h.bs0 I hv (yM _ z),fun e=>hd c z (by rw[e];simp),?_⟩;obtain⟨a,b,E⟩:=Ys z;obtain⟨rc,_,D,o,p,_⟩:=h.up I hv rfl (l1:=a) (c:=c) (l2:=b++m::l2) (by rw[E];simp);generalize l:b++m::l2=x at p
   cases p with
   | root _=>show absurd (congrArg List.length l) (by simp)
   | step e _ _=>show⟨_,e,(I.dwn _ _ _ D o e).1⟩
  .show⟨h'.bs0 I hw (yM _ z),fun e=>U c z (by rw[e];simp),?_⟩;obtain⟨a,b,E⟩:=Ys z;obtain⟨rc,_,D,o,p,_⟩:=h'.up I hw rfl (l1:=a) (c:=c) (l2:=b++m::l2) (by rw[E];simp);generalize l:b++m::l2=x at p
   cases p with
   | root _=>show absurd (congrArg List.length l) (by simp)
   | step e _ _=>show⟨_,e,(I.dwn _ _ _ D o e).1⟩
 have cov:∀ u,Cov f S (l1++m1) u->S'.bas u=m:=fun u ⟨d,hd,z⟩=>by
  show M.inn u ?_;rcases z with z | z
  .show .inr ⟨d,hd,.inl z⟩
  .have hn:=(B d hd).2.2;obtain⟨q,e,F⟩:=hn;rw[z] at e;cases e;rw[I.own F];show .inr ⟨d,hd,.inr z⟩
 have K:∀ u,Cov f S l1 u->S'.bas u=m:=fun u z=>cov u (z.mono fun d y=>yM _ y);have L:∀ u,Cov f S m1 u->S'.bas u=m:=fun u z=>cov u (z.mono fun d y=>yP _ y);have bm:∀ u,S.bas u=m->S'.bas u=m:=fun u z=>M.inn u (.inl z);have m0:S'.bas m=m:=bm m W;have Z:=M.old m P H
 have J:∀{x:Str} {rx a b:LS},S.rows x=some rx->Ch f S (S.bas x) (a++m::b)->(∀ d∈a,d∈l1++m1)->∃ t,rx=P++t/\∀ u∈t,S'.bas u=m:=fun{x rx a b} l hc hs=>by
  obtain⟨rc,t,D,_,_,R,g5⟩:=hc.up I l rfl rfl;rw[H] at D;cases D;show⟨t,R,fun u j=>(g5 u j).elim (bm u) fun z=>cov u (z.mono hs)⟩
 have nw:∀ u r,(∃ c∈l1,f c=some u/\NewRow S v w u r)\/(∃ c∈m1,f c=some u/\NewRow S w v u r)->Alt A f r u/\S.rows u=none/\S'.bas u=m/\∃ t,r=P++t/\∀ x∈t,S'.bas x=m:=fun u r z=>by
  rcases z with⟨c,hc,j,C⟩ | ⟨c,hc,j,C⟩
  .obtain⟨D,o,t,p,R⟩:=NewRow.ok G I hv hw h h' rfl hd (G.as ha) (Yn hb) hc j C;obtain⟨t0,p1,p2⟩:=J hw h' fun d y=>yP _ y;show⟨D,o,K u ⟨c,hc,.inr j⟩,t0++t,by rw[p,p1];simp,fun x l=>(yB.mp l).elim (p2 x) fun y=>K x (R x y)⟩
  .obtain⟨D,o,t,p,R⟩:=NewRow.ok G I hw hv h' h rfl U ha hb hc j C;obtain⟨t0,p1,p2⟩:=J hv h fun d y=>yM _ y;show⟨D,o,L u ⟨c,hc,.inr j⟩,t0++t,by rw[p,p1];simp,fun x l=>(yB.mp l).elim (p2 x) fun y=>L x (R x y)⟩
 have af:∀ u r,S.rows u=some r->InR f m (l1++m1) (S.bas u)->S.bas u=m\/S.bas u∈l1++m1:=fun u r j z=>by
  rcases z with z | ⟨c,hc,z | z⟩
  .show .inl z
  .show .inr (by rw[z];show hc)
  .obtain⟨q,e,F⟩:=(B c hc).2.2;rw[z] at e;cases e;obtain⟨rb,n⟩:=I.evb j;rw[F] at n;cases n
 show⟨fun u r j=>?_,fun u r j=>?_,fun u r j=>?_,fun b r q aa O F=>?_,fun u j=>?_,fun x z l=>?_⟩
 .rcases M.new u r j with z | z
  .show I.alt u r z
  .show(nw u r z).1
 .rcases M.new u r j with z | z
  .by_cases i:InR f m (l1++m1) (S.bas u)
   .rw [M.inn u i];show⟨P,?_⟩
    have:∃ t,r=P++t/\∀ x∈t,S'.bas x=m:=by
     rcases af u r z i with y | y
     .obtain⟨rb,t,N,n,e3⟩:=I.bse u r z;rw[y,H] at N;cases N;show⟨t,n,fun x l=>bm x ((e3 x l).trans y)⟩
     .rcases yB.mp y with y | y
      .obtain⟨a,b,E⟩:=Ys y;obtain⟨_,_,_,_,g,_⟩:=h.up I hv rfl (l1:=a) (c:=S.bas u) (l2:=b++m::l2) (by rw[E];simp);show J z (a:=S.bas u::b) (by simpa using g) fun d hd=>by rw[E];rcases yA.mp hd with rfl | hd<;>simp[*]
      .obtain⟨a,b,E⟩:=Ys y;obtain⟨_,_,_,_,g,_⟩:=h'.up I hw rfl (l1:=a) (c:=S.bas u) (l2:=b++m::l2) (by rw[E];simp);show J z (a:=S.bas u::b) (by simpa using g) fun d hd=>by rw[E];rcases yA.mp hd with rfl | hd<;>simp[*]
    obtain⟨t,N,n⟩:=this;show⟨t,Z,N,n⟩
   .rw [M.out u i];obtain⟨rb,t,N,n,e3⟩:=I.bse u r z;show⟨rb,t,M.old _ _ N,n,fun x l=>by rw[M.out x (by rw[e3 x l];show i)];show e3 x l⟩
  .obtain⟨_,_,e,t,N,n⟩:=nw u r z;rw[e];show⟨P,t,Z,N,n⟩
 .by_cases i:InR f m (l1++m1) (S.bas u)
  .rw [M.inn u i];show m0
  .rw [M.out u i];rcases M.new u r j with z | z
   .have e:=I.idm u r z;rw[M.out _ (by rw[e];show i)];show e
   .obtain⟨_,o,_⟩:=nw u r z;have e:=I.own o;rw[e,M.out u (by rw[e] at i ⊢;show i)];show e
 .have ac:S.bas b=b/\(b=m\/¬ InR f m (l1++m1) (S.bas b)):=by
   by_cases i:InR f m (l1++m1) (S.bas b)
   .have:=M.inn b i;rw[O] at this;rw[this];show⟨W,.inl rfl⟩
   .have:=M.out b i;rw[O] at this;show⟨this.symm,.inr i⟩
  obtain⟨T,ad⟩:=ac
  have C:S.rows b=some r:=by
   rcases M.new b r aa with z | z
   .show z
   .exfalso;obtain⟨_,o,p,_⟩:=nw b r z;rw[O] at p;rw[p,H] at o;cases o
  obtain⟨k1,z,rz,k2,k3,k4⟩:=I.dwn b r q C T F;show⟨?_,z,rz,by rw[M.par];show k2,M.old _ _ k3,k4⟩
  cases e:S'.rows q with
  | none=>rfl
  | some s =>
   exfalso
   have Y:∀ c∈l1++m1,f c=some q->False:=fun c hc ae=>by
    have:=G.fs ae;rw[G.fs F] at this;have n:=ym this;subst n;rcases ad with y | y
    .show(B b hc).2.1 y
    .show y (.inr ⟨b,hc,.inl T⟩)
   rcases M.new q s e with y | ⟨c,hc,y,_⟩ | ⟨c,hc,y,_⟩
   .rw [k1] at y;cases y
   .show Y c (yM _ hc) y
   .show Y c (yP _ hc) y
 .by_cases i:InR f m (l1++m1) (S.bas u)
  .rw [M.inn u i] at j ⊢;by_cases X:S.bas u=u
   .rw [X] at i;rcases i with z | ⟨c,hc,z | z⟩
    .show absurd z.symm j
    .subst z;obtain⟨⟨r,C,_⟩,_,q,F,_⟩:=B u hc;show⟨⟨r,M.old _ _ C⟩,q,F,cov q ⟨u,hc,.inr F⟩⟩
    .show⟨M.all c hc u z,c,G.fs z,cov c ⟨c,hc,.inl (B c hc).1.choose_spec.2⟩⟩
   .obtain⟨⟨r,C⟩,y,hy,e⟩:=I.mat u X;show⟨⟨r,M.old _ _ C⟩,y,hy,M.inn y (by rw[e];show i)⟩
  .rw [M.out u i] at j ⊢;obtain⟨⟨r,C⟩,y,hy,e⟩:=I.mat u j;show⟨⟨r,M.old _ _ C⟩,y,hy,by rw[M.out y (by rw[e];show i)];show e⟩
 .rw [M.par] at l;obtain⟨k1,⟨r,k2⟩,y,s,k3,k4⟩:=I.odd x z l;show⟨k1,⟨r,M.old _ _ k2⟩,y,s,k3,M.old _ _ k4⟩
end
structure Aug(A:Str->Str->Prop)(f:Str->Option Str)(r:LS):Prop where
 nd:r.Nodup
 two:2<=r.length
 ev:r.length % 2=0
 st:Turns A f r
 hd:∀ s,r[0]?=some s->f s=none
 tl:∀ s,r[r.length-1]?=some s->f s=none
section
variable{A:Str->Str->Prop}{f:Str->Option Str}{S S':FS}
theorem FI.aug(G:Gr A f)(I:FI A f S){v w:Str}{l:LS}(hv:S.rows v=some rv)(hw:S.rows w=some rw)(h:Ch f S (S.bas v) l)(h':Ch f S (S.bas w) l')(hl:l.getLast?≠l'.getLast?)(E:A v w):Aug A f (rv++rw.reverse):=by
 have n:∀ d∈l,d∉l':=fun d F p=>by
  obtain⟨a,b,e⟩:=Ys F;obtain⟨x,y,q⟩:=Ys p;obtain⟨_,_,_,_,k,_⟩:=h.up I hv rfl e;obtain⟨_,_,_,_,k',_⟩:=h'.up I hw rfl q;have:=k.one k';show hl (by rw[e,q,this,List.getLast?_append,List.getLast?_append];rfl)
 have c:=I.alt v rv hv;have g:=I.alt w rw hw;obtain⟨O,r⟩:=c.tl;obtain⟨P,t⟩:=g.tl;have K:0<rv.length:=by rw[r];simp
 have L:0<rw.length:=by rw[t];simp
 have M:=c.odd;have N:=g.odd
 have H:f v≠some w:=fun z=>by
  have e:=I.pair hv hw z;have:=h.one (e ▸ h');rw[this] at hl;show hl rfl
 have at_:∀{j:Nat} {a:Str},rw.reverse[j]?=some a->j<rw.length/\rw[rw.length-1-j]?=some a:=fun{j a} e=>by
  have hl:=(yc.mp e).1;rw[Yt] at hl;rw[Xc hl] at e;show⟨hl,e⟩
 show⟨Yc.mpr ⟨c.nd,(kq _).nodup_iff.mpr g.nd,fun x J y u e=>?_⟩,by rw[yt,Yt];lk,by rw[yt,Yt];lk,c.st.app (fun j a b h1 o=>?_) fun a b h1 o _=>?_,fun s i=>?_,fun s i=>?_⟩
 .rw [<- e] at u;show Cov.apart G I (fun d z=>h.bs0 I hv z) (fun d z=>h'.bs0 I hw z) n (h.cov G I hv J) (h'.cov G I hw (Xg.mp u))
 .obtain⟨l1,B⟩:=at_ h1;obtain⟨l2,m⟩:=at_ o;have:=g.st (rw.length-1-(j+1)) b a m (by rw[show rw.length-1-(j+1)+1=rw.length-1-j by lk];show B);show⟨G.as this.1,⟨fun z=>?_,fun z=>?_⟩⟩
  .have:=this.2.mp (G.fs z);lk
  .show G.fs (this.2.mpr (by lk))
 .have C:a=v:=by
   rw[r,yt,yI (by simp)] at h1;simpa using h1.symm
  have D:b=w:=by
   obtain⟨_,m⟩:=at_ o;rw[Ka,t,yt,yI (by simp)] at m;simpa using m.symm
  subst C;subst D;show⟨E,⟨fun z=>absurd z H,fun z=>by lk⟩⟩
 .rw [y0 K] at i;show c.hd s i
 .rw [yt,Yt,yI (by lk),show rv.length+rw.length-1-rv.length=rw.length-1 by lk] at i;obtain⟨_,e⟩:=at_ i;rw[XC] at e;show g.hd s e
structure Gw(S S':FS)(p u y:Str)(r:LS):Prop where
 ry:S'.rows y=some (r++[u,y])
 ro:∀ s,s≠y->S'.rows s=S.rows s
 pu:S'.par u=some p
 po:∀ s,s≠u->S'.par s=S.par s
 ba:S'.bas=S.bas
theorem FI.fresh(G:Gr A f)(I:FI A f S)(a:S.rows u=none)(g:S.par u=none)(c:f u=some y):S.rows y=none:=by
 cases e:S.rows y with
 | none=>rfl
 | some s =>
  exfalso;by_cases z:S.bas y=y
  .obtain⟨_,_,_,k,_⟩:=I.dwn y s u e z (G.fs c);rw[g] at k;cases k
  .obtain⟨_,x,b,k⟩:=I.mat y z;rw[G.fs c] at b;cases b;rw[I.own a] at k;obtain⟨h,d⟩:=I.evb e;rw[<- k,a] at d;cases d
theorem FI.grow(G:Gr A f)(I:FI A f S){p:Str}(n:S.rows p=some r)(N:A p u)(o:S.rows u=none)(J:S.par u=none)(m:f u=some y)(W:Gw S S' p u y r):FI A f S':=by
 have c:=I.fresh G o J m;have P:u≠y:=G.ir (G.fa m);have Z:p≠y:=fun z=>by rw[z,c] at n;cases n
 have old:∀ s t,S.rows s=some t->S'.rows s=some t:=fun s t e=>by rw[W.ro s (fun z=>by rw[z,c] at e;cases e)];show e
 have new:∀ s t,S'.rows s=some t->(s=y/\t=r++[u,y])\/(s≠y/\S.rows s=some t):=fun s t e=>by
  by_cases z:s=y
  .subst z;rw[W.ry] at e;show .inl ⟨rfl,(ym e).symm⟩
  .rw [W.ro s z] at e;show .inr ⟨z,e⟩
 obtain⟨l,hl⟩:=I.chainOf n
 have B:∀ x∈r,x≠u/\x≠y:=fun x C=>by
  obtain⟨d,T,z⟩:=hl.cov G I n C;obtain⟨rd,g,i⟩:=hl.bs0 I n T;show⟨fun e=>?_,fun e=>?_⟩
  .rw [e] at z;rcases z with z | z
   .rw [I.own o] at z;rw[z,g] at o;cases o
   .obtain⟨_,_,_,k,_⟩:=I.dwn d rd u g i z;rw[J] at k;cases k
  .rw [e] at z;rcases z with z | z
   .rw [I.own c] at z;rw[z,g] at c;cases c
   .have:=G.fs z;rw[G.fs m] at this;rw[ym this,g] at o;cases o
 have w:=I.alt p r n;obtain⟨r0,M⟩:=w.tl;have K:0<r.length:=by rw[M];simp
 show⟨fun v t e=>?_,fun v t e=>?_,fun v t e=>?_,fun b t q e hb E=>?_,fun v e=>?_,fun x z e=>?_⟩
 .rcases new v t e with⟨rfl,rfl⟩ | ⟨_,e⟩
  .show⟨Yc.mpr ⟨w.nd,by simp[P],fun x C z hz D=>?_⟩,by rw[yt];have:=w.odd;simp only[yH,YV];lk,fun s O=>?_,⟨r++[u],by simp⟩,w.st.app (fun j a b h1 H=>?_) fun a b h1 H _=>?_⟩
   .obtain⟨X,Y⟩:=B x C;simp only[yA,Yj,Y6] at hz;rcases hz with rfl | rfl
    .show X D
    .show Y D
   .rw [y0 K] at O;show w.hd s O
   .have U:j=0:=by have:=(yc.mp H).1;simp at this;lk
    subst U;cases h1;cases H;show⟨G.fa m,⟨fun _=>by have:=w.odd;lk,fun _=>m⟩⟩
   .cases H
    have R:a=p:=by
     rw[M,yt,yI (by simp)] at h1;simpa using h1.symm
    subst R;show⟨N,⟨fun z=>?_,fun z=>by have:=w.odd;lk⟩⟩;have:=G.fs z;rw[m] at this;show absurd (ym this).symm Z
  .show I.alt v t e
 .rw [W.ba];rcases new v t e with⟨rfl,rfl⟩ | ⟨_,e⟩
  .rw [I.own c];show⟨_,[],W.ry,by simp,(fun x h=>by cases h)⟩
  .obtain⟨rb,s,g,i,F⟩:=I.bse v t e;show⟨rb,s,old _ _ g,i,F⟩
 .rw [W.ba];rcases new v t e with⟨rfl,rfl⟩ | ⟨_,e⟩
  .rw [I.own c,I.own c]
  .show I.idm v t e
 .rw [W.ba] at hb;rcases new b t e with⟨rfl,rfl⟩ | ⟨_,e⟩
  .rw [G.fs m] at E;cases E;show⟨by rw[W.ro u P];show o,p,r,W.pu,old _ _ n,rfl⟩
  .obtain⟨g,z,rz,i,F,L⟩:=I.dwn b t q e hb E;show⟨?_,z,rz,?_,old _ _ F,L⟩
   .rw [W.ro q fun z=>?_]
    .show g
    .rw [z] at E;have:=G.fs E;rw[G.fs m] at this;rw[<- ym this,o] at e;cases e
   .rw [W.po q fun z=>?_]
    .show i
    .rw [z,J] at i;cases i
 .rw [W.ba] at e ⊢;obtain⟨⟨t,g⟩,i⟩:=I.mat v e;show⟨⟨t,old _ _ g⟩,i⟩
 .by_cases C:x=u
  .subst C;rw[W.pu] at e;cases e;show⟨N,⟨r,old _ _ n⟩,y,_,m,W.ry⟩
  .rw [W.po x C] at e;obtain⟨g,⟨t,i⟩,y',s,F,L⟩:=I.odd x z e;show⟨g,⟨t,old _ _ i⟩,y',s,F,old _ _ L⟩
theorem FI.start(h1:∀ v r,S.rows v=some r->f v=none/\r=[v])(d:∀ x,S.par x=none)(c:∀ v,S.bas v=v):FI A f S:=by
 show⟨fun v r e=>?_,fun v r e=>?_,fun v r e=>by rw[c,c],fun b r q e _ g=>?_,fun v e=>absurd (c v) e,fun x z e=>by rw[d] at e;cases e⟩
 .obtain⟨k,rfl⟩:=h1 v r e;show⟨by simp,rfl,fun s i=>by cases i;show k,⟨[],rfl⟩,fun j a b h1 d=>?_⟩;simp at d
 .show⟨r,[],by rw[c];show e,by simp,(fun x h=>by cases h)⟩
 .rw [(h1 b r e).1] at g;cases g
end
structure CI(A:Str->Str->Prop)(S:FS)(Pd:Str->Prop):Prop where
 cl:∀ v u,Pd v->A v u->S.bas u=S.bas v\/(S.par u≠none/\¬ Pd u)
 pe:∀ v,Pd v->S.rows v≠none
theorem CI.mono(h:CI A S Pd)(hb:∀ u v,S.bas u=S.bas v->S'.bas u=S'.bas v)(b:∀ u,S.par u≠none->S'.par u≠none)(c:∀ u,S.rows u≠none->S'.rows u≠none):CI A S' Pd:=
 ⟨fun v u k a=>(h.cl v u k a).imp (hb u v) fun z=>⟨b u z.1,z.2⟩,fun v k=>c v (h.pe v k)⟩
theorem qcE:∀{l m:LS},l.Nodup->(∀ x∈l,x∈m)->l.length<=m.length
 | [],_,_,_=>YQ _
 | x::r,m,hn,hs=>by
  obtain⟨h1,c⟩:=yo.mp hn;have a:=hs x yE;have:=qcE (l:=r) (m:=m.erase x) c fun y b=>(XM (fun e=>h1 (by rw[<- e];show b))).mpr (hs y (yy _ b));rw[xi a] at this;have:0<m.length:=xv a;simp only[yH];lk
theorem qeW:∀(n:Nat) {X:LS},X.length<=n->X.Nodup->(∀ x∈X,∃ y∈X,g x=some y/\y≠x/\g y=some x)->X.length % 2=0
 | _,[],_,_,_=>rfl
 | 0,x::r,h,_,_=>by simp at h
 | n+1,x::r,h,hn,hp=>by
  obtain⟨h1,d⟩:=yo.mp hn;obtain⟨y,p,j,i,l⟩:=hp x yE;have c:y∈r:=(yA.mp p).resolve_left i;have hl:=xi c;have t:0<r.length:=xv c
  have:=qeW n (X:=r.erase y) (by simp at h;lk) (d.erase y) fun z hz=>by
   have a:=(d.mem_erase_iff.mp hz);obtain⟨u,o,m,f,b⟩:=hp z (yy _ a.2);have q:u≠x:=fun e=>by rw[e,j] at b;show a.1 (ym b).symm
   have s:u≠y:=fun e=>by rw[e,l] at b;show h1 (by rw[ym b];show a.2)
   show⟨u,d.mem_erase_iff.mpr ⟨s,(yA.mp o).resolve_left q⟩,m,f,b⟩
  simp only[yH];lk
structure Fn(A:Str->Str->Prop)(f:Str->Option Str)(S:FS)(ss:LS):Prop where
 fi:FI A f S
 gr:Gr A f
 inn:∀ a b,A a b->a∈ss
 nd:ss.Nodup
 cl:∀ v u,S.rows v≠none->A v u->S.bas u=S.bas v\/(S.par u≠none/\S.rows u=none)
 sng:∀ z∈ss,f z=none->S.rows z≠none
 es:∀ v,S.rows v≠none->v∈ss
noncomputable def qc4(S:FS)(ss:LS)(b:Str):LS:=ss.filter fun u=>(S.rows u).isSome&&decide (S.bas u=b)
noncomputable def qbC(S:FS)(ss:LS):LS:=ss.filter fun u=>(S.rows u).isSome&&decide (S.bas u=u)
noncomputable def qc5(S:FS)(ss:LS):LS:=ss.filter fun u=>(S.par u).isSome&&!(S.rows u).isSome
noncomputable def snL(g:Str->Option Str)(ss:LS):LS:=ss.filter fun u=>!(g u).isSome
section
variable{A:Str->Str->Prop}{f g:Str->Option Str}{S:FS}{ss:LS}
theorem isS{o:Option α}:o.isSome=true↔o≠none:=by cases o<;>simp
theorem mem_cls:u∈qc4 S ss b↔u∈ss/\S.rows u≠none/\S.bas u=b:=by
 unfold qc4;rw[yp,yY,isS,yO]
theorem mem_bas:u∈qbC S ss↔u∈ss/\S.rows u≠none/\S.bas u=u:=by
 unfold qbC;rw[yp,yY,isS,yO]
theorem mem_bar:u∈qc5 S ss↔u∈ss/\S.par u≠none/\S.rows u=none:=by
 unfold qc5;rw[yp,yY,isS];cases S.rows u<;>simp
theorem mem_sn:u∈snL g ss↔u∈ss/\g u=none:=by
 unfold snL;rw[yp];cases g u<;>simp
theorem some_of{o:Option α}(h:o≠none):∃ r,o=some r:=by cases o with | none=>show absurd rfl h | some r=>show⟨r,rfl⟩
theorem FI.evE(I:FI A f S){v:Str}(hv:S.rows v≠none)(e:S.bas u=S.bas v):S.rows u≠none:=fun a=>by
 obtain⟨r,b⟩:=some_of hv;obtain⟨c,hb⟩:=I.evb b;rw[I.own a] at e;rw[<- e,a] at hb;cases hb
theorem Fn.cls_odd(F:Fn A f S ss)(hb:b∈qbC S ss):(qc4 S ss b).length % 2=1:=by
 obtain⟨o,j,l⟩:=mem_bas.mp hb;have c:b∈qc4 S ss b:=mem_cls.mpr ⟨o,j,l⟩;have a:(qc4 S ss b).Nodup:=F.nd.filter _
 have:=qeW (g:=f) _ (X:=(qc4 S ss b).erase b) (yh _) (a.erase b) fun z hz=>by
  obtain⟨q,hz⟩:=a.mem_erase_iff.mp hz;obtain⟨s,m,n⟩:=mem_cls.mp hz;obtain⟨_,u,d,h⟩:=F.fi.mat z (fun e=>q (e.symm.trans n));have i:=F.fi.evE m h;show⟨u,a.mem_erase_iff.mpr ⟨fun e=>?_,mem_cls.mpr ⟨F.es u i,i,h.trans n⟩⟩,d,Yn (F.gr.ir (F.gr.fa d)),F.gr.fs d⟩;obtain⟨r,p⟩:=some_of j;rw[e] at d;show m (F.fi.dwn b r z p l (F.gr.fs d)).1
 rw[xi c] at this;have:=xv c;lk
theorem Fn.count(F:Fn A f S ss):(qbC S ss).length=(snL f ss).length+(qc5 S ss).length:=by
 have hb:(qbC S ss).Nodup:=F.nd.filter _
 have e:(qbC S ss).length=((qbC S ss).filter fun b=>!(f b).isSome).length+((qbC S ss).filter fun b=>(f b).isSome).length:=by
  generalize qbC S ss=l
  induction l with
  | nil=>rfl
  | cons x r ih =>
   rw[yU,yU,yH,ih];cases (f x).isSome
   .rw [yG (show(!false)=true from rfl),yC Yr,yH];lk
   .rw [yC (show ¬ (!true)=true by decide),yG (show true=true from rfl),yH];lk
 rw[e];have D:((qbC S ss).filter fun b=>!(f b).isSome).length=(snL f ss).length:=Xo
  (qcE (hb.filter _) fun x c=>by
   obtain⟨h1,d⟩:=yp.mp c;show mem_sn.mpr ⟨(mem_bas.mp h1).1,?_⟩
   cases e:f x with
   | none=>rfl
   | some y=>rw[e] at d;cases d)
  (qcE (F.nd.filter _) fun x c=>by
   obtain⟨h1,d⟩:=mem_sn.mp c;show yp.mpr ⟨mem_bas.mpr ⟨h1,F.sng x h1 d,Yg fun z=>?_⟩,by rw[d];rfl⟩;obtain⟨_,u,i,_⟩:=F.fi.mat x z;rw[d] at i;cases i)
 have E:((qbC S ss).filter fun b=>(f b).isSome).length=(qc5 S ss).length:=by
  have inj:(((qbC S ss).filter fun b=>(f b).isSome).map fun b=>(f b).getD "").Nodup:=by
   show Y2.mpr (xj (fun{a b} G g o e=>?_) (hb.filter _));obtain⟨x,c⟩:=Y9.mp (yp.mp G).2;obtain⟨y,w⟩:=Y9.mp (yp.mp g).2;rw[c,w] at e;have n:x=y:=e;have k:=F.gr.fs c;rw[n,F.gr.fs w] at k;show o (ym k).symm
  show Xo ?_ ?_
  .have:=qcE inj (m:=qc5 S ss) fun q p=>?_
   rwa[ya] at this
   obtain⟨b,g,rfl⟩:=yN.mp p;obtain⟨h1,d⟩:=yp.mp g;obtain⟨x,c⟩:=Y9.mp d;obtain⟨L,B,C⟩:=mem_bas.mp h1;obtain⟨r,H⟩:=some_of B;obtain⟨j,z,rz,t,_⟩:=F.fi.dwn b r x H C c;rw[c];have I:S.par x≠none:=by rw[t];show fun e=>by cases e
   show x∈qc5 S ss;show mem_bar.mpr ⟨F.inn _ _ (F.gr.as (F.gr.fa c)),I,j⟩
  .have:(qc5 S ss).length<=(((qbC S ss).filter fun b=>(f b).isSome).map fun b=>(f b).getD "").length:=qcE (F.nd.filter _) fun q p=>?_
   rwa[ya] at this
   obtain⟨M,J,K⟩:=mem_bar.mp p;obtain⟨z,hz⟩:=some_of J;obtain⟨_,_,y,r,j,t⟩:=F.fi.odd q z hz;have h:S.rows y≠none:=by rw[t];show fun e=>by cases e
   show yN.mpr ⟨y,yp.mpr ⟨mem_bas.mpr ⟨F.es y h,h,Yg fun e=>?_⟩,by rw[F.gr.fs j];rfl⟩,by rw[F.gr.fs j];rfl⟩;obtain⟨_,u,i,s⟩:=F.fi.mat y e;rw[F.gr.fs j] at i;cases i;show F.fi.evE h s K
 rw[D,E]
theorem Fn.most(F:Fn A f S ss)(l:Gr A g):(snL f ss).length<=(ss.filter fun u=>!(g u).isSome&&(S.rows u).isSome).length:=by
 have key:∀ b∈qbC S ss,∃ v∈qc4 S ss b,g v=none\/∃ w,g v=some w/\w∈qc5 S ss:=fun b hb=>Yg fun p=>by
  have B:=F.cls_odd hb
  have:=qeW (g:=g) _ (X:=qc4 S ss b) (yh _) (F.nd.filter _) fun v hv=>by
   obtain⟨C,r,D⟩:=mem_cls.mp hv
   cases e:g v with
   | none=>show absurd ⟨v,hv,.inl e⟩ p
   | some w =>
    have hw:=l.as (l.fa e);rcases F.cl v w r (l.fa e) with z | ⟨z1,z2⟩
    .have q:=F.fi.evE r z;show⟨w,mem_cls.mpr ⟨F.es w q,q,z.trans D⟩,rfl,Yn (l.ir (l.fa e)),l.fs e⟩
    .show absurd ⟨v,hv,.inr ⟨w,e,mem_bar.mpr ⟨F.inn _ _ hw,z1,z2⟩⟩⟩ p
  lk
 obtain⟨j,i⟩:∃ j:Str->Str,∀ b∈qbC S ss,j b∈qc4 S ss b/\(g (j b)=none\/∃ w,g (j b)=some w/\w∈qc5 S ss):=
  ⟨fun b=>@dite _ (b∈qbC S ss) (Classical.propDecidable _) (fun h=>(key b h).choose) fun _=>b,fun b hb=>by
   dsimp only;rw[dif_pos hb];show⟨(key b hb).choose_spec.1,(key b hb).choose_spec.2⟩⟩
 have inj:∀ a∈qbC S ss,∀ b∈qbC S ss,j a=j b->a=b:=fun a m b hb e=>by
  have h1:=(mem_cls.mp (i a m).1).2.2;have E:=(mem_cls.mp (i b hb).1).2.2;rw[<- h1,<- E,e]
 have hb:(qbC S ss).Nodup:=F.nd.filter _
 have s:(qbC S ss).length<=((ss.filter fun u=>!(g u).isSome&&(S.rows u).isSome)++qc5 S ss).length:=by
  rw[<- ya (f:=fun b=>(g (j b)).getD (j b))];show qcE (Y2.mpr (xj (fun{a b} m d o e=>?_) hb)) fun x G=>?_
  .have t:∀ c∈qbC S ss,S.rows (j c)≠none:=fun c hc=>(mem_cls.mp (i c hc).1).2.1;rcases(i a m).2 with z | ⟨w,z,hw⟩<;>rcases(i b d).2 with y | ⟨u,y,hu⟩
   .rw [z,y] at e;show o (inj a m b d e)
   .rw [z,y] at e;have n:j a=u:=e;show t a m (by rw[n];show(mem_bar.mp hu).2.2)
   .rw [z,y] at e;have n:w=j b:=e;show t b d (by rw[<- n];show(mem_bar.mp hw).2.2)
   .rw [z,y] at e;have n:w=u:=e;have k:=l.fs z;rw[n,l.fs y] at k;show o (inj a m b d (ym k).symm)
  .obtain⟨b,d,rfl⟩:=yN.mp G;obtain⟨C,r,D⟩:=mem_cls.mp (i b d).1;rcases(i b d).2 with z | ⟨w,z,hw⟩
   .rw [z];show yM _ (yp.mpr ⟨C,by show(!(g (j b)).isSome&&(S.rows (j b)).isSome)=true;rw[z,isS.mpr r];rfl⟩)
   .rw [z];show yP _ hw
 rw[F.count,yt] at s;lk
end
theorem qcF{t:Str}:∀{qs:LP},pt qs s=some t->(s,t)∈qs\/(t,s)∈qs
 | [],h=>by cases h
 | q::r,h=>by
  unfold pt at h;split at h
  .rename_i e;cases h;show .inl (by rw[<- e];simp)
  .split at h
   .rename_i e;cases h;show .inr (by rw[<- e];simp)
   .rcases qcF h with z | z
    .show .inl (yy _ z)
    .show .inr (yy _ z)
theorem qf4:∀{qs:LP},(qx qs).Nodup->∀{a b:Str},(a,b)∈qs\/(b,a)∈qs->pt qs a=some b
 | [],_,a,b,m=>by rcases m with z | z<;>cases z
 | q::r,h,a,b,m=>by
  have d:(q.1::q.2::qx r).Nodup:=h;obtain⟨g,l⟩:=yo.mp d;obtain⟨n,o⟩:=yo.mp l;have inr:∀{x y:Str},(x,y)∈r->x∈qx r/\y∈qx r:=fun c=>⟨YY.mpr ⟨_,c,by simp⟩,YY.mpr ⟨_,c,by simp⟩⟩;unfold pt
  have later:(a,b)∈r\/(b,a)∈r->(if q.1=a then some q.2 else if q.2=a then some q.1 else pt r a)=some b:=fun j=>by
   have i:a∈qx r:=j.elim (fun z=>(inr z).1) fun z=>(inr z).2;rw[yC (fun z=>g (by rw[z];show yy _ i)),yC (fun z=>n (by rw[z];show i))];show qf4 o j
  rcases m with z | z
  .rcases yA.mp z with z | z
   .subst z;rw[yG rfl]
   .show later (.inl z)
  .rcases yA.mp z with z | z
   .subst z;have f:b≠a:=fun e=>g (by show b∈a::_;rw[e];show yE);rw[yC f,yG rfl]
   .show later (.inr z)
theorem qem(h:(qx qs).Nodup){a:Str}:pt qs a=some b↔(a,b)∈qs\/(b,a)∈qs:=⟨qcF,qf4 h⟩
theorem qen(h:(qx qs).Nodup){a:Str}:pt qs a=some b↔pt qs b=some a:=by
 rw[qem h,qem h,Or.comm]
theorem qeo{x y:Option Str}(h:∀ b,x=some b↔y=some b):x=y:=by
 cases x with
 | none=>cases y with
  | none=>rfl
  | some b=>show absurd ((h b).mpr rfl) (fun z=>by cases z)
 | some a=>show((h a).mp rfl).symm
theorem uz:FnScope ["self","place","row"] ["self","place","row"] (qh jY):=fS
structure Fo where
 x:Addr
 b:Addr
 dp:Addr
 dr:Addr
 da:Addr
 ds:Addr
 dg:Addr
 dw:Addr
 ex:LQ
noncomputable def Fo.six(a:Fo):LQ:=[a.x,a.dr,a.da,a.ds,a.dg,a.dw]
noncomputable def Fo.all(a:Fo):LQ:=a.six++a.ex
noncomputable def Fo.tab(a:Fo)(lo:V):List (Str×V):=[("board",.ref a.b),("partners",.ref a.dp),("rows",.ref a.dr),("parents",.ref a.da),("bases",.ref a.ds),("rings",.ref a.dg),("waiting",.ref a.dw),("longer",lo)]
def Bx(l:LQ)(H H':Hp):Prop:=∀ c o,c∉l->H c=some o->H' c=some o
def RowV(H:Hp)(l:LQ)(o:Option V):Option (LS)->Prop
 | none=>o=none
 | some r=>∃ t,o=some (.ref t)/\H t=some (.lst (r.map V.str))/\t∉l
def FoO(b:Addr)(H:Hp)(a:Fo)(lo:V):Prop:=∃ dx fs,H a.x=some (.ins b dx fs)/\fs.length<=9/\(lo=.non->fs.length<=8)/\(∀ f v,(f,v)∈a.tab lo->fs.lookup f=some v)/\∀ f,f∉fAtt->fs.lookup f=none
structure FoA(cf cw:Addr)(H0 H:Hp)(a:Fo)(ss:LS)(ns:LN)(qs:LP)(S:FS)(bs dn wt:LS)(lo:V):Prop where
 sm:L2.Same H0 H
 web:WebAt cw H0 a.b ss ns
 prt:H0 a.dp=some (.dK (prK qs))
 fr:∀ c∈a.six,H0 c=none
 nd:[a.dr,a.da,a.ds,a.dg,a.dw].Nodup
 exf:∀ c∈a.ex,H0 c=none/\c∉a.six/\∃ o,H c=some o
 obj:FoO cf H a lo
 row:∃ kvs,H a.dr=some (.dK kvs)/\kvs.length<=(dn++wt).length/\∀ s,RowV H a.all (jR kvs (.inr s:Key)) (S.rows s)
 par:∃ kvs,H a.da=some (.dK kvs)/\(∃ po:LS,kvs.length<=po.length/\po.Nodup/\∀ u∈po,u∈ss/\S.par u≠none)/\∀ s,jR kvs (.inr s:Key)=(S.par s).map V.str
 bas:∃ kvs,H a.ds=some (.dK kvs)/\kvs.length<=bs.length/\∀ s∈bs,jR kvs (.inr s:Key)=some (.str (S.bas s))
 rng:∃ xs,H a.dg=some (.lst xs)/\xs.length<=(dn++wt).length
 wai:H a.dw=some (.lst (wt.map V.str))
 evn:(dn++wt).Nodup
 evi:∀ v,v∈dn++wt↔S.rows v≠none
 evs:∀ v∈dn++wt,v∈ss
theorem RowV.mono{l:LQ}{o:Option V}{r:Option (LS)}(h:RowV H l o r){m:LQ}(k:Bx m H H')(d:∀ c∈m,c∈l):RowV H' l o r:=by
 cases r with
 | none=>show h
 | some r=>obtain⟨t,h1,b,a⟩:=h;show⟨t,h1,k _ _ (fun z=>a (d _ z)) b,a⟩
theorem Fo.sub{a:Fo}:∀ c∈a.six,c∈a.all:=fun c h=>yM _ h
theorem Bx.of{l:LQ}(s:L2.Same H H'):Bx l H H':=fun c o _ e=>s c o e
theorem Bx.trans{l:LQ}{d:Hp}(a:Bx l H H')(b:Bx l H' d):Bx l H d:=fun c o n e=>b c o n (a c o n e)
section
variable{cf cw:Addr}{H0 H H':Hp}{a:Fo}{ss:LS}{ns:LN}{qs:LP}{S S':FS}{bs dn wt:LS}{lo:V}
theorem FoA.same(h:FoA cf cw H0 H a ss ns qs S bs dn wt lo)(s:L2.Same H H'):FoA cf cw H0 H' a ss ns qs S bs dn wt lo:=by
 obtain⟨dx,fs,h1,i⟩:=h.obj;obtain⟨j,r,t,u⟩:=h.row;obtain⟨m,p,q⟩:=h.par;obtain⟨n,b,d⟩:=h.bas;obtain⟨xs,f,g⟩:=h.rng;show⟨h.sm.trans s,h.web,h.prt,h.fr,h.nd,fun c hc=>⟨(h.exf c hc).1,(h.exf c hc).2.1,(h.exf c hc).2.2.elim fun o e=>⟨o,s _ _ e⟩⟩,⟨dx,fs,s _ _ h1,i⟩,⟨j,s _ _ r,t,fun z=>(u z).mono (Bx.of (l:=[]) s) (fun c h=>by cases h)⟩,⟨m,s _ _ p,q⟩,⟨n,s _ _ b,d⟩,⟨xs,s _ _ f,g⟩,s _ _ h.wai,h.evn,h.evi,h.evs⟩
theorem FoA.six(h:FoA cf cw H0 H a ss ns qs S bs dn wt lo):∀ c∈a.six,∃ o,H c=some o:=fun c hc=>by
 obtain⟨dx,fs,h1,_⟩:=h.obj;obtain⟨g,f,_⟩:=h.row;obtain⟨i,e,_⟩:=h.par;obtain⟨j,b,_⟩:=h.bas;obtain⟨xs,d,_⟩:=h.rng;simp only[Fo.six,yA,Yj,Y6] at hc;rcases hc with rfl | rfl | rfl | rfl | rfl | rfl
 .show⟨_,h1⟩
 .show⟨_,f⟩
 .show⟨_,e⟩
 .show⟨_,b⟩
 .show⟨_,d⟩
 .show⟨_,h.wai⟩
theorem FoA.new(h:FoA cf cw H0 H a ss ns qs S bs dn wt lo){c:Addr}(e:H c=none):c∉a.six:=fun z=>by
 obtain⟨o,k⟩:=h.six c z;rw[e] at k;cases k
theorem FoA.sep(h:FoA cf cw H0 H a ss ns qs S bs dn wt lo):a.six.Nodup:=by
 obtain⟨dx,fs,h1,_⟩:=h.obj;obtain⟨f,e,_⟩:=h.row;obtain⟨g,d,_⟩:=h.par;obtain⟨i,b,_⟩:=h.bas;obtain⟨xs,c,_⟩:=h.rng;show yo.mpr ⟨fun z=>?_,h.nd⟩;simp only[yA,Yj,Y6] at z;rcases z with z | z | z | z | z
 .rw [z,e] at h1;cases h1
 .rw [z,d] at h1;cases h1
 .rw [z,b] at h1;cases h1
 .rw [z,c] at h1;cases h1
 .rw [z,h.wai] at h1;cases h1
theorem FoO.eq(h:FoO cf H a lo)(e:H' a.x=H a.x):FoO cf H' a lo:=by
 obtain⟨dx,fs,h1,b⟩:=h;show⟨dx,fs,e.trans h1,b⟩
theorem Bx.upd{l:LQ}{c:Addr}(k:Bx l H H')(hc:c∈l):Bx l H (upd H' c o):=fun d u n e=>by
 rw[qf (fun z=>n (by rw[z];show hc))];show k d u n e
noncomputable def Fo.add(a:Fo)(c:Addr):Fo:={ a with ex:=c::a.ex }
theorem FoA.add(h:FoA cf cw H0 H a ss ns qs S bs dn wt lo){c:Addr}(e:H c=none):FoA cf cw H0 (upd H c o) (a.add c) ss ns qs S bs dn wt lo:=by
 have g:=h.same (qF (Sr H) (o:=o) e);obtain⟨f,q,x,A⟩:=g.row;obtain⟨n,w,_,B⟩:=h.row
 have s:n=f:=by
  have:=qF (Sr H) (o:=o) e _ _ w;rw[q] at this;show(HO.dK.inj (ym this)).symm
 subst s;show⟨g.sm,g.web,g.prt,g.fr,g.nd,fun d hd=>?_,g.obj,⟨n,q,x,fun z=>?_⟩,g.par,g.bas,g.rng,g.wai,g.evn,g.evi,g.evs⟩
 .rcases yA.mp hd with rfl | hd
  .show⟨h.sm.free e,h.new e,_,qb⟩
  .show g.exf d hd
 .have b:=A z;have j:=B z
  cases i:S.rows z with
  | none=>rw[i] at b;show b
  | some r =>
   rw[i] at b j;obtain⟨t,f,u,p⟩:=b;obtain⟨t',l,m,_⟩:=j;rw[f] at l;cases l;show⟨t,f,u,fun y=>?_⟩;rcases yB.mp y with y | y
   .show p (yM _ y)
   .rcases yA.mp y with y | y
    .rw [y,e] at m;cases m
    .show p (yP _ y)
theorem FoA.updE(h:FoA cf cw H0 H a ss ns qs S bs dn wt lo){c:Addr}(hc:c∈a.ex):FoA cf cw H0 (upd H c o) a ss ns qs S bs dn wt lo:=by
 obtain⟨l,p,_⟩:=h.exf c hc;have ne:∀{d:Addr},d∈a.six->upd H c o d=H d:=fun b=>qf fun z=>p (by rw[<- z];show b);obtain⟨q,x,A,B⟩:=h.row;obtain⟨r,t,w⟩:=h.par;obtain⟨s,f,g⟩:=h.bas;obtain⟨xs,i,j⟩:=h.rng;show⟨qaE h.sm l,h.web,h.prt,h.fr,h.nd,fun d b=>⟨(h.exf d b).1,(h.exf d b).2.1,by by_cases z:d=c;show⟨_,by rw[z,qb]⟩;rw[qf z];show(h.exf d b).2.2⟩,h.obj.eq (ne (by simp[Fo.six])),⟨q,(ne (by simp[Fo.six])).trans x,A,fun z=>(B z).mono (m:=[c]) (fun d u n e=>by rw[qf (fun y=>n (by rw[y];simp))];show e) fun d b=>by rw[yz.mp b];show yP _ hc⟩,⟨r,(ne (by simp[Fo.six])).trans t,w⟩,⟨s,(ne (by simp[Fo.six])).trans f,g⟩,⟨xs,(ne (by simp[Fo.six])).trans i,j⟩,(ne (by simp[Fo.six])).trans h.wai,h.evn,h.evi,h.evs⟩
theorem FoA.drop(h:FoA cf cw H0 H a ss ns qs S bs dn wt lo){l:LQ}(f:∀ c∈l,c∈a.ex):FoA cf cw H0 H { a with ex:=l } ss ns qs S bs dn wt lo:=by
 obtain⟨d,j,m,n⟩:=h.row;show⟨h.sm,h.web,h.prt,h.fr,h.nd,fun c hc=>h.exf c (f c hc),h.obj,⟨d,j,m,fun z=>?_⟩,h.par,h.bas,h.rng,h.wai,h.evn,h.evi,h.evs⟩;have b:=n z
 cases e:S.rows z with
 | none=>rw[e] at b;show b
 | some r =>
  rw[e] at b;obtain⟨t,d,g,i⟩:=b;show⟨t,d,g,fun y=>i ((yB.mp y).elim (fun z=>yM _ z) fun z=>yP _ (f _ z))⟩
theorem FoA.newA(h:FoA cf cw H0 H a ss ns qs S bs dn wt lo){c:Addr}(e:H c=none):c∉a.all:=fun z=>by
 rcases yB.mp z with z | z
 .show h.new e z
 .obtain⟨o,k⟩:=(h.exf c z).2.2;rw[e] at k;cases k
theorem FoA.few(h:FoA cf cw H0 H a ss ns qs S bs dn wt lo):(dn++wt).length<=ss.length:=zE h.evn h.evs
end
noncomputable def FS.setRow(S:FS)(p:Str)(r:LS):FS:=⟨fun s=>if s=p then some r else S.rows s,S.par,S.bas⟩
inductive spRe(cc:Nat->Addr)(cw:Addr)(vs:List V)(H:Hp)(Q:VK)(E:XK):Prop|mk (H0:Hp) (a:Fo) (ss:LS) (ns:LN) (qs:LP) (S:FS) (bs dn wt:LS) (lo:V) (p:Str) (t:Addr) (r:LS) (_:vs=[.ref a.x,.str p,.ref t]) (_:FoA (cc 9) cw H0 H a ss ns qs S bs dn wt lo) (_:ss.length<=14) (_:H t=some (.lst (r.map V.str))) (_:t∉a.all) (_:p∈ss) (_:S.rows p=none) (_:∀ H',FoA (cc 9) cw H0 H' a ss ns qs (S.setRow p r) bs dn (wt++[p]) lo->Bx a.six H H'->(∀ o,H a.dg=some o->H' a.dg=some o)->Q .non H')
inductive spBd(cc:Nat->Addr)(cw:Addr)(vs:List V)(H:Hp)(Q:VK)(E:XK):Prop|mk (H0:Hp) (a:Fo) (ss:LS) (ns:LN) (qs:LP) (S:FS) (dn wt:LS) (lo:V) (p:Str) (r l:LS) (A:Str->Str->Prop) (_:vs=[.ref a.x,.str p]) (_:FoA (cc 9) cw H0 H a ss ns qs S ss dn wt lo) (_:ss.length<=14) (_:FI A (pt qs) S) (_:S.rows p=some r) (_:Ch (pt qs) S (S.bas p) l) (_:l.length<=14) (_:∀(t:Addr) (H':Hp),L2.Same H H'->H t=none->H' t=some (.lst (l.map V.str))->Q (.ref t) H')
section
variable{P:Program}{w:World}{K:W.Frag}{mg:Str->Option Value}{base:Heap}{cc:Nat->Addr}{cw:Addr}{H0 H:Hp}{a:Fo}{ss:LS}{ns:LN}{qs:LP}{S:FS}{bs dn wt:LS}{lo:V}
theorem FoO.rd{Q:VK}{f:Str}{v:V}(h:FoO (cc 9) H a lo)(T:Txt K mg cc cw)(i:Nat)(e:(a.tab lo)[i]?=some (f,v))(q:Q v H):FldR K f (.ref a.x) H Q:=by
 obtain⟨dx,fs,h1,_,_,b,_⟩:=h;show⟨a.x,cc 9,dx,fs,v,rfl,h1,T.fcl,T.fa f ?_,b f v (ye e),q⟩;have:((a.tab lo).map Prod.fst)[i]?=some f:=by rw[yd,e];rfl
 show ye (l:=fAtt) (i:=i) this
theorem ok_re(F:Fun K "reach" "Forest.reach" jY f fd)(T:Txt K mg cc cw):FnOk P w K mg base CX0 1 f fd ["self","place","row"] (spRe cc cw):=by
 show F.ok uz fun _ _ _ _ H vs Q E U h=>?_
 .obtain⟨H0,a,ss,ns,qs,S,bs,dn,wt,lo,p,t,r,rfl,h,R,W,d,s,m,q⟩:=h;have X:=zd U;have b:=h.few;have l:p∉dn++wt:=fun z=>(h.evi p).mp z m;show⟨_,(qc (jQ (pv 2) (j7 (qC (K:=K) rfl (pv 0) rfl) (pv 1) (j9 X)))
 (qe (qU (qa4 (K:=K) rfl yL Yd Ye qS (qC (K:=K) rfl (pv 0) rfl) (qa (pv 1) qd))))),?_⟩
  ext;obtain⟨⟨n1,n2,n3,n4,n5⟩,⟨n6,n7,C,D⟩,⟨aa,ac,A⟩,⟨ad,B⟩,g⟩:=(by simpa [Fo.six] using h.sep:(¬a.x=a.dr/\¬a.x=a.da/\¬a.x=a.ds/\¬a.x=a.dg/\¬a.x=a.dw)/\(¬a.dr=a.da/\¬a.dr=a.ds/\¬a.dr=a.dg/\¬a.dr=a.dw)/\(¬a.da=a.ds/\¬a.da=a.dg/\¬a.da=a.dw)/\(¬a.ds=a.dg/\¬a.ds=a.dw)/\¬a.dg=a.dw);obtain⟨j,r1,r2,r3⟩:=h.row;obtain⟨Z,p1,p2,p3⟩:=h.par;obtain⟨ks,J,L,M⟩:=h.bas;obtain⟨xs,N,O⟩:=h.rng;show .inl (h.obj.rd T 2 rfl ?_);apply .inr ⟨a.dr,_,rfl,DPut.k (k:=Sum.inr p) r1 (by rw[Yy];lk),?_⟩;have G:FoO (cc 9) (upd H a.dr (.dK (zJ j (Sum.inr p) (.ref t)))) a lo:=h.obj.eq (qf n1);have I:upd H a.dr (.dK (zJ j (Sum.inr p) (.ref t))) a.dw=some (.lst (wt.map V.str)):=by rw[qf (Yn D)];show h.wai
  apply .inl (G.rd T 6 rfl ?_);show⟨.inl ⟨rfl,_,.of I⟩,?_⟩;apply⟨a.dw,_,_,rfl,rfl,I,by rw[ya];show qi (by rw[yt] at b;lk),?_⟩;have u:∀{c:Addr} {o o':HO},c∉a.six->upd (upd H a.dr o) a.dw o' c=H c:=fun hc=>by rw[qf (fun z=>hc (by rw[z];simp[Fo.six])),qf (fun z=>hc (by rw[z];simp[Fo.six]))]
  have i:Bx a.six H (upd (upd H a.dr (.dK (zJ j (Sum.inr p) (.ref t)))) a.dw (.lst (wt.map V.str++[.str p]))):=fun c o n e=>by rw[u n];show e
  show q _ ⟨qaE (qaE h.sm (h.fr _ (by simp[Fo.six]))) (h.fr _ (by simp[Fo.six])),h.web,h.prt,h.fr,h.nd,fun c hc=>⟨(h.exf c hc).1,(h.exf c hc).2.1,(h.exf c hc).2.2.elim fun o e=>⟨o,i _ _ (h.exf c hc).2.1 e⟩⟩,G.eq (qf n5),⟨_,by rw[qf D,qb],?_,fun z=>?_⟩,⟨Z,by rw[qf A,qf (Yn n6)];show p1,p2,p3⟩,⟨ks,by rw[qf B,qf (Yn n7)];show J,L,M⟩,⟨xs,by rw[qf g,qf (Yn C)];show N,?_⟩,by rw[qb,yx];rfl,?_,fun v=>?_,fun v hv=>?_⟩ i fun o e=>by(rw[qf g,qf (Yn C)];show e)
  .have:=jF j (Sum.inr p:Key) (.ref t);rw[<- Yi,yt (bs:=[p])];show _<=_+1;lk
  .unfold FS.setRow;dsimp only;rw[qaN];by_cases e:z=p
   .subst e;rw[yG rfl,yG rfl];show⟨t,rfl,i _ _ (fun y=>d (Fo.sub _ y)) W,d⟩
   .rw [yC (fun y=>e (xk y)),yC e];show(r3 z).mono i Fo.sub
  .rw [<- Yi,yt (bs:=[p])];show kj O
  .rw [<- Yi];show Yc.mpr ⟨h.evn,List.pairwise_singleton _ _,fun x u y Y e=>l (by rw[<- yz.mp Y,<- e];show u)⟩
  .rw [<- Yi,yB,yz,h.evi];unfold FS.setRow;dsimp only;by_cases e:v=p
   .subst e;rw[yG rfl];show⟨(fun _ z=>by cases z),fun _=>.inr rfl⟩
   .rw [yC e];show⟨fun z=>z.resolve_right e,.inl⟩
  .rw [<- Yi] at hv;rcases yB.mp hv with z | z
   .show h.evs v z
   .rw [yz.mp z];show s
end
theorem Km:FnScope ["self","place","bases","below"] ["self","place"] (qh qT):=fS
theorem atI_last{xs:LS}:atI ((xs++[c]).map V.str) (-1)=some (.str c):=by
 have e:ixN ((xs++[c]).map V.str).length (-1)=some xs.length:=by
  unfold ixN;rw[yC (by lk),yG (by rw[ya,yt];simp;lk)]
  congr 1
  rw[ya,yt];simp only[yH,YV];lk
 unfold atI;rw[e];show((xs++[c]).map V.str)[xs.length]?=_;rw[yd,yI (yh _),XC];rfl
theorem Ch.cases'{f:Str->Option Str}{t:LS}(h:Ch f S b (b::t)):(f b=none/\t=[])\/∃ q z,f b=some q/\S.par q=some z/\Ch f S (S.bas z) t:=by
 generalize e:b::t=l at h
 cases h with
 | root h=>cases e;show .inl ⟨h,rfl⟩
 | step h1 h2 h3=>cases e;show .inr ⟨_,_,h1,h2,h3⟩
theorem in_prK{d:Addr}{Q:VK}(a:H d=some (.dK (prK qs)))(q:Q (.bl (pt qs s).isSome) H):qdW K false (.str s) (.ref d) H Q:=by
 show .inr (.inl ⟨d,_,rfl,DGet.k (k:=Sum.inr s) a,?_⟩);rw[jV,yC (by decide),Xd];show q
theorem qep{d:Addr}{v:V}{Q:VK}(a:H d=some (.dK kvs))(e:jR kvs (.inr s:Key)=some v)(q:Q v H):qfZ K (.ref d) (.str s) H Q:=.inr ⟨d,v,rfl,by rw[<- e];show DGet.k (k:=Sum.inr s) a,q⟩
theorem ok_bd(F:Fun K "bases_down_from" "Forest.bases_down_from" qT f fd)(T:Txt K mg cc cw):FnOk P w K mg base CX0 1 f fd ["self","place"] (spBd cc cw):=by
 show F.ok Km fun _ _ _ _ H vs Q E hr h=>?_
 .obtain⟨H0,a,ss,ns,qs,S,dn,wt,lo,p,r,l,B,rfl,h,ad,I,hp,y,aa,q⟩:=h;have n:=zd hr;show⟨_,(qc (qo (i:=2) Km.nd rfl (yK rfl) (qQ (qa (qv (qw (K:=K) rfl n) (qC (K:=K) rfl (pv 0) rfl) (pv 1) (fun _ _=>rfl)) qd)))
 (qc (qaK yZ (qk (zC (K:=K) rfl n) (qv (qw (K:=K) rfl n) (pv 2) (qbG qaD qg) (fun _ _=>rfl)) (qC (K:=K) rfl (pv 0) rfl) (by with_unfolding_all rfl))
 (qc (qo (i:=3) Km.nd rfl (yK rfl) (qv (qw (K:=K) rfl n) (qC (K:=K) rfl (pv 0) rfl) (qv (qw (K:=K) rfl n) (qC (K:=K) rfl (pv 0) rfl) (qv (qw (K:=K) rfl n) (pv 2) (qbG qaD qg) (fun _ _=>rfl)) (fun _ _=>rfl)) (fun _ _=>rfl)))
 (qe (qU (qa4 (K:=K) rfl yL Yd Ye qS (pv 2) (qa (qv (qw (K:=K) rfl n) (qC (K:=K) rfl (pv 0) rfl) (pv 3) (fun _ _=>rfl)) qd))))))
 (qe (qm (pv 2))))),?_⟩
  have u:∀{v:Str} {r:LS},S.rows v=some r->v∈ss:=fun e=>h.evs _ ((h.evi _).mpr (by rw[e];show fun z=>by cases z));obtain⟨ks,b1,b2,b3⟩:=h.bas;apply .inl (h.obj.rd T 4 rfl ?_);apply qep b1 (b3 p (u hp)) ?_;apply⟨by show 1<=sizeLine;decide,fun bl j=>?_⟩;have s1:=qF (Sr H) (o:=.lst [.str (S.bas p)]) j;have e1:upd H bl (.lst [.str (S.bas p)]) bl=some (.lst (([]++[S.bas p]).map V.str)):=qb;generalize upd H bl (.lst [.str (S.bas p)])=H1 at s1 e1;ext;obtain⟨W,g⟩:∃ W:Nat->L2.St->Hp->Prop,W=fun m σ J=>∃(l1 l2:LS) (c:Str) (y3:Option V),l=l1++c::l2/\σ=[some (.ref a.x),some (.str p),some (.ref bl),y3]/\L2.Same H J/\J bl=some (.lst ((l1++[c]).map V.str))/\m=l2.length:=⟨_,rfl⟩;obtain⟨t0,R⟩:=y.ne;show⟨W,⟨t0.length,by rw[g];show⟨[],t0,_,_,R,rfl,s1,e1,rfl⟩⟩,fun m σ J hW=>?_⟩;rw[g] at hW;obtain⟨l1,l2,c,y3,M,rfl,sJ,s,hm⟩:=hW;obtain⟨rc,_,Y,U,A,_⟩:=y.up I hp rfl M;have d:=h.same sJ;have D:=d.sm _ _ h.prt;apply⟨1,rfl,?_⟩;show .inl (zY s (v:=.str c) atI_last ?_);apply .inl (d.obj.rd T 1 rfl ?_);show in_prK D ?_;rcases A.cases' with⟨C,rfl⟩ | ⟨q',z,C,G,X⟩
  .rw [C];show⟨_,rfl,qL (fun h=>by cases h) fun _=>?_⟩;apply q bl J sJ j (by rw[M];show s)
  .rw [C];show⟨_,rfl,zm ⟨fun L H'=>∃ m',m'<m/\W m' L H',fun L H' z=>z,?_⟩⟩;obtain⟨_,z',rz,b,Z,_⟩:=I.dwn c rc q' Y U C;rw[G] at b;cases b;obtain⟨ka,p1,p2,p3⟩:=d.par;obtain⟨ae,N,ac,O⟩:=d.bas;apply .inl (d.obj.rd T 3 rfl ?_);apply .inl (d.obj.rd T 1 rfl ?_);apply⟨1,rfl,?_⟩;show .inl (zY s (v:=.str c) atI_last ?_);show qep D (by rw[jV,C];rfl) ?_;show qep p1 (by rw[p3,G];rfl) ?_;apply⟨.inl ⟨rfl,_,.of s⟩,?_⟩;apply .inl (d.obj.rd T 4 rfl ?_);apply qep N (O z (u Z)) ?_;apply⟨bl,_,_,rfl,rfl,s,by rw[ya];show qi (by have:=congrArg List.length M;rw[yt,yH] at this;rw[yt];simp only[yH,YV];lk),?_⟩;obtain⟨t1,t⟩:=X.ne;rw[g];show⟨t1.length,by rw[hm,t];simp,l1++[c],t1,S.bas z,_,by rw[M,t];simp,rfl,qaE sJ j,by rw[qb,yx (l₁:=l1++[c])];rfl,rfl⟩
theorem Ki:FnScope ["self","one","other","bases","side","base","place","row"] ["self","one","other","bases"] (qh jd):=fS
structure RR(f:Str->Option Str)(S S':FS)(v w:Str)(cs:LS):Prop where
 par:S'.par=S.par
 bas:S'.bas=S.bas
 old:∀ u r,S.rows u=some r->S'.rows u=some r
 new:∀ u r,S'.rows u=some r->S.rows u=some r\/∃ c∈cs,f c=some u/\NewRow S v w u r
 all:∀ c∈cs,∀ q,f c=some q->∃ r,S'.rows q=some r
noncomputable def pq(qs:LP)(c:Str):Str:=(pt qs c).getD ""
inductive spRr(cc:Nat->Addr)(cw:Addr)(vs:List V)(H:Hp)(Q:VK)(E:XK):Prop|mk (H0:Hp) (a:Fo) (ss:LS) (ns:LN) (qs:LP) (S:FS) (dn wt:LS) (lo:V) (v w:Str) (lb:Addr) (cs rv rw:LS) (_:vs=[.ref a.x,.str v,.str w,.ref lb]) (_:FoA (cc 9) cw H0 H a ss ns qs S ss dn wt lo) (_:ss.length<=14) (_:H lb=some (.lst (cs.map V.str))) (_:lb∉a.six) (_:S.rows v=some rv) (_:S.rows w=some rw) (_:rv.length<=14) (_:rw.length<=14) (_:rv.Nodup) (_:cs.Nodup) (_:cs.length<=14) (_:(qx qs).Nodup) (_:(∀ c∈cs,∃ q rz t,pt qs c=some q/\S.rows q=none/\q∈ss/\rv=rz++q::t)) (_:∀(t:Addr) (sd more:LS) (H':Hp) (S':FS),FoA (cc 9) cw H0 H' (a.add t) ss ns qs S' ss dn (wt++more) lo->Bx a.six H H'->H t=none->H' t=some (.lst (sd.map V.str))->(∀ u,u∈sd↔∃ c∈cs,u=c\/pt qs c=some u)->sd.length=2*cs.length->more=cs.map (pq qs)->RR (pt qs) S S' v w cs->(∀ o,H a.dg=some o->H' a.dg=some o)->Q (.ref t) H')
theorem qc6{t:LS}{q:Str}(a:(rz++q::t).Nodup):(rz++q::t).idxOf q=rz.length:=by
 show qbO a (by rw[yI (yh _),XC];rfl)
theorem qeX{b:Addr}{Q:VK}(c:G a=some (.lst xs))(d:G b=some (.lst ys))(hl:xs.length+ys.length<=1000)(q:∀ p,G p=none->Q (.ref p) (upd G p (.lst (xs++ys)))):qcS K (.ref a) (.ref b) G Q:=.inl ⟨a,b,_,_,rfl,rfl,c,d,yi hl (by decide),q⟩
theorem ok_rr(F:Fun K "reach_round" "Forest.reach_round" jd f fd)(T:Txt K mg cc cw)(Ks:MethOk P w K mg base CX0 1 (cc 9) "reach" ["self","place","row"] (spRe cc cw)):FnOk P w K mg base CX0 2 f fd ["self","one","other","bases"] (spRr cc cw):=by
 show F.ok Ki fun _ _ _ _ H vs Q E hr h=>?_
 .obtain⟨H0,a,ss,ns,qs,S,dn,wt,lo,v,w,lb,O,rv,b,rfl,h,ap,I,az,hv,hw,bc,bj,ak,aw,bg,aj,ax,q⟩:=h;have hu:=zd hr;show⟨_,(qc (qo (i:=4) Ki.nd rfl (yK rfl) (qQ qd))
 (qc (jp yZ rfl (qR (K:=K) rfl (pv 3)) (qt (i:=5) Ki.nd rfl (yK rfl))
 (qc (qo (i:=6) Ki.nd rfl (yK rfl) (qv (qw (K:=K) rfl hu) (qC (K:=K) rfl (pv 0) rfl) (pv 5) (fun _ _=>rfl)))
 (qc (qo (i:=7) Ki.nd rfl (yK rfl) (qv (qw (K:=K) rfl hu) (qC (K:=K) rfl (pv 0) rfl) (pv 1) (fun _ _=>rfl)))
 (qc (qU (qI Ks (hmR hr) (pv 0) (qa (pv 6) (qa (qG (zu (K:=K) rfl) (qv (qw (K:=K) rfl hu) (qC (K:=K) rfl (pv 0) rfl) (pv 2) (fun _ _=>rfl)) (qeg (K:=K) rfl (jJ (qec (K:=K) rfl) (pv 7) (jE (qa4 (K:=K) rfl yL Yz YI (qad (K:=K) rfl) (pv 7) (qa (pv 6) qd))) zo) (jE (qbG qaD qg)))) qd))))
 (qe (qU (qa4 (K:=K) rfl yL PySem.F.slot_list_extend PySem.F.type_list_extend qbN (pv 4) (qa (qQ (qa (pv 5) (qa (pv 6) qd))) qd))))))))
 (qe (qm (pv 4))))),?_⟩
  apply⟨by show 0<=sizeLine;decide,fun g p=>?_⟩;have s1:=qF (Sr H) (o:=.lst []) p;have h1:=h.add (o:=.lst []) p;have Y:upd H g (.lst []) g=some (.lst (([]:LS).map V.str)):=qb;have bm:lb≠g:=fun z=>by rw[z,p] at I;cases I
  generalize upd H g (.lst [])=H1 at s1 h1 Y;ext;obtain⟨LI,A⟩:∃ LI:Nat->L2.St->Hp->Prop,LI=fun i σ J=>∃(S':FS) (more G:LS) (y5 y6 y7:Option V),σ=[some (.ref a.x),some (.str v),some (.str w),some (.ref lb),some (.ref g),y5,y6,y7]/\FoA (cc 9) cw H0 J (a.add g) ss ns qs S' ss dn (wt++more) lo/\Bx a.six H J/\J g=some (.lst (G.map V.str))/\(∀ u,u∈G↔∃ c∈O.take i,u=c\/pt qs c=some u)/\G.length=2*i/\more=(O.take i).map (pq qs)/\RR (pt qs) S S' v w (O.take i)/\∀ o,H a.dg=some o->J a.dg=some o:=⟨_,rfl⟩;show .inl ⟨⟨_,.of (s1 _ _ I)⟩,jo (xs:=O.map V.str) LI (by rw[A];show⟨S,[],[],_,_,_,rfl,by rw[Yb];show h1,Bx.of s1,Y,fun u=>by simp,rfl,rfl,⟨rfl,rfl,fun _ _ e=>e,fun _ _ e=>.inl e,fun c hc=>by simp at hc⟩,fun o e=>s1 _ _ e⟩) (fun i σ J _ R=>?_) (fun i y σ J hy R=>?_) fun σ J R=>?_⟩
  .rw [A] at R;obtain⟨S',more,G,y5,y6,y7,rfl,s,W,_⟩:=R;show .of (W _ _ az I)
  .rw [A] at R;obtain⟨S',more,G,y5,y6,y7,rfl,s,W,eJ,M,l,L,D,U⟩:=R;rw[yd] at hy;obtain⟨c,hc,rfl⟩:=yn.mp hy;have av:=ye hc;obtain⟨z,rz,t,hz,al,bf,m⟩:=ax c av;have bh:i<O.length:=(yc.mp hc).1;have C:O.take (i+1)=O.take i++[c]:=by rw[yR,hc];rfl
   have ba:=s.sm _ _ h.prt;obtain⟨kr,r1,r2,r3⟩:=s.row
   have rowOf:∀{u:Str} {r:LS},S.rows u=some r->∃ t,jR kr (.inr u:Key)=some (.ref t)/\J t=some (.lst (r.map V.str)):=fun{u r} e=>by
    have:=r3 u;rw[D.old u r e] at this;obtain⟨t,k1,k2,_⟩:=this;show⟨t,k1,k2⟩
   obtain⟨tv,kv,ev⟩:=rowOf hv;obtain⟨tw,kw,ew⟩:=rowOf hw;apply .inl (s.obj.rd T 1 rfl ?_);apply qep ba (by rw[jV,hz];rfl) ?_;apply .inl (s.obj.rd T 2 rfl ?_);apply qep r1 kv ?_;ext;obtain⟨dx,fs,bd,_,_,_,be⟩:=id s.obj;show⟨a.x,dx,fs,rfl,bd,be _ (by room),?_⟩;apply .inl (s.obj.rd T 2 rfl ?_);apply qep r1 kw ?_;apply qgs ?_;apply⟨.inl ⟨rfl,_,.of ev⟩,?_⟩;apply⟨tv,rv,z,rfl,rfl,.of ev,by rw[m];simp,_,rfl,?_⟩;rw[m] at ak;have ao:rv.idxOf z=rz.length:=by rw[m];show qc6 ak
   rw[ao];apply .inl ⟨tv,_,rfl,.of ev,fun c1 ar=>?_⟩;have af:qco (rv.map V.str) (some ((rz.length:Nat):Int)) none=(z::t).map V.str:=by rw[qcA,m,yx,List.drop_left' (by simp)]
   rw[af];have t1:=qF (Sr J) (o:=.lst ((z::t).map V.str)) ar;have aa:upd J c1 (.lst ((z::t).map V.str)) c1=some (.lst ((z::t).map V.str)):=qb;generalize upd J c1 (.lst ((z::t).map V.str))=J1 at t1 aa;apply⟨1,rfl,?_⟩;show⟨_,rfl,rfl,c1,_,rfl,.of aa,fun c2 as=>?_⟩;have t2:=qF t1 (o:=.lst ((z::t).map V.str).reverse) as;have ac:upd J1 c2 (.lst ((z::t).map V.str).reverse) c2=some (.lst ((z::t).reverse.map V.str)):=by rw[qb,kL]
   generalize upd J1 c2 (.lst ((z::t).map V.str).reverse)=J2 at t2 ac;have bi:(z::t).length<=14:=by rw[m,yt] at bc;lk
   show qeX (t2 _ _ ew) ac (by rw[ya,ya,Yt];lk) fun c3 ag=>?_;have aq:=s.same t2;have n3:=aq.newA ag;have t3:=qF t2 (o:=.lst (b.map V.str++(z::t).reverse.map V.str)) ag;have ad:upd J2 c3 (.lst (b.map V.str++(z::t).reverse.map V.str)) c3=some (.lst ((b++(z::t).reverse).map V.str)):=by rw[qb,yx]
   generalize upd J2 c3 (.lst (b.map V.str++(z::t).reverse.map V.str))=J3 at t3 ad
   have ah:c∉O.take i:=fun y=>by
    obtain⟨j,hj⟩:=yf y;have ay:=(yc.mp hj).1;rw[yT] at ay;rw[List.getElem?_take,yG (by lk)] at hj;have:=qA aw hj hc;lk
   have am:S'.rows z=none:=by
    cases e:S'.rows z with
    | none=>rfl
    | some r =>
     exfalso;rcases D.new z r e with y | ⟨N,B,y,_⟩
     .rw [al] at y;cases y
     .have Y:=(qen aj).mp y;rw[(qen aj).mp hz] at Y;rw[<- ym Y] at B;show ah B
   apply⟨H0,a.add g,ss,ns,qs,S',ss,dn,wt++more,lo,z,c3,b++(z::t).reverse,rfl,s.same t3,ap,ad,n3,bf,am,fun J4 h4 X ai=>?_⟩;have an:g∉a.six:=h.new p;have Z:J4 g=some (.lst (G.map V.str)):=X _ _ an (t3 _ _ eJ);apply⟨.inl ⟨rfl,_,.of Z⟩,?_⟩;apply⟨by show 2<=sizeLine;decide,fun c5 au=>?_⟩;have t5:=qF (Sr J4) (o:=.lst [.str c,.str z]) au;have ae:upd J4 c5 (.lst [.str c,.str z]) c5=some (.lst [.str c,.str z]):=qb;generalize upd J4 c5 (.lst [.str c,.str z])=J5 at t5 ae;have h5:=h4.same t5;apply⟨g,c5,_,_,rfl,rfl,t5 _ _ Z,ae,by rw[ya,Yy];show _+2<=_;lk,?_⟩;have h6:=h5.updE (c:=g) (o:=.lst (G.map V.str++[.str c,.str z])) yE;rw[A];show⟨S'.setRow z (b++(z::t).reverse),more++[z],G++[c,z],_,_,_,rfl,by rw[<- Yi wt];show h6,?_,by rw[qb,yx];rfl,fun u=>?_,by rw[yt,l];show _+2=_;lk,by rw[L,C,yx];unfold pq;simp[hz],⟨D.par,D.bas,fun u r e=>?_,fun u r e=>?_,fun N B q' e=>?_⟩,fun o e=>?_⟩
   .show fun d o n e=>by
     have ne:d≠g:=fun y=>by rw[y,p] at e;cases e
     rw[qf ne];show t5 _ _ (X _ _ n (t3 _ _ (W _ _ n e)))
   .rw [C,yB,M];simp only[yB,yA,Yj,Y6];constructor
    .rintro (⟨N,h1,h2⟩ | rfl | rfl)
     .show⟨N,.inl h1,h2⟩
     .show⟨u,.inr rfl,.inl rfl⟩
     .show⟨c,.inr rfl,.inr hz⟩
    .rintro ⟨N,h1 | rfl,h2⟩
     .show .inl ⟨N,h1,h2⟩
     .rcases h2 with h2 | h2
      .show .inr (.inl h2)
      .rw [hz] at h2;show .inr (.inr (ym h2).symm)
   .show(if u=z then _ else S'.rows u)=_;rw[yC (fun y=>by rw[y,al] at e;cases e)];show D.old u r e
   .have e':(if u=z then some (b++(z::t).reverse) else S'.rows u)=some r:=e;by_cases y:u=z
    .subst y;rw[yG rfl] at e';show .inr ⟨c,by rw[C];simp,hz,rv,b,rz,t,hv,hw,m,(ym e').symm⟩
    .rw [yC y] at e';rcases D.new u r e' with x | ⟨N,h1,h2⟩
     .show .inl x
     .show .inr ⟨N,by rw[C];show yM _ h1,h2⟩
   .show ∃ r,(if q'=z then some (b++(z::t).reverse) else S'.rows q')=some r;by_cases y:q'=z
    .rw [yG y];show⟨_,rfl⟩
    .rw [yC y];rw[C] at B;rcases yB.mp B with x | x
     .show D.all N x q' e
     .rw [yz.mp x,hz] at e;show absurd (ym e).symm y
   .have ne:a.dg≠g:=fun y=>an (by rw[<- y];simp[Fo.six]);rw[qf ne];show t5 _ _ (ai o (t3 _ _ (U o e)))
  .rw [A] at R;obtain⟨S',more,G,y5,y6,y7,rfl,s,W,eJ,M,l,L,D,U⟩:=R;rw[ya] at l;rw[ya,yQ] at M D L;apply q g G more J S' s W p eJ M l L D U
theorem KL:FnScope ["self","ring","meeting","within","place"] ["self","ring","meeting"] (qh jN):=fS
noncomputable def FS.setBas(S:FS)(l:LS)(m:Str):FS:=⟨S.rows,S.par,fun u=>if u∈l then m else S.bas u⟩
noncomputable def wnL(S:FS)(ss a:LS)(m:Str):LS:=ss.filter fun u=>decide (S.bas u∈a++[m])
inductive spFd(cc:Nat->Addr)(cw:Addr)(vs:List V)(H:Hp)(Q:VK)(E:XK):Prop|mk (H0:Hp) (a:Fo) (ss:LS) (ns:LN) (qs:LP) (S:FS) (dn wt:LS) (lo:V) (lr:Addr) (rg:LS) (m:Str) (xs:List V) (_:vs=[.ref a.x,.ref lr,.str m]) (_:FoA (cc 9) cw H0 H a ss ns qs S ss dn wt lo) (_:ss.length<=14) (_:H lr=some (.lst (rg.map V.str))) (_:lr∉a.six) (_:rg.length<=100) (_:H a.dg=some (.lst xs)) (_:xs.length<(dn++wt).length) (_:∀ H',FoA (cc 9) cw H0 H' a ss ns qs (S.setBas (wnL S ss rg m) m) ss dn wt lo->Bx a.six H H'->Q .non H')
theorem put_len{k:Key}{v u:V}(h:jR kvs k=some u):(zJ kvs k v).length=kvs.length:=by
 unfold zJ;rw[qak,h];show ya _
theorem qeq{n:Addr}{Q:VK}(a:H n=some (.lst (ss.map V.str)))(q:Q (.bl (decide (z∈ss))) H):qdW K false (.str z) (.ref n) H Q:=
 .inl ⟨n,_,rfl,.inl (.of a),rfl,YG.mpr fun x b=>by(obtain⟨s,_,rfl⟩:=yN.mp b;rfl),by rw[yC (by decide),qc2];show q⟩
theorem FoA.setB{a:Fo}{ks:List (Key×V)}{l:LS}{m:Str}(h:FoA (cc 9) cw H0 H a ss ns qs (S.setBas l m) ss dn wt lo)(t:H a.ds=some (.dK ks))(hz:z∈ss):FoA (cc 9) cw H0 (upd H a.ds (.dK (zJ ks (Sum.inr z) (.str m)))) a ss ns qs (S.setBas (l++[z]) m) ss dn wt lo/\ks.length<=ss.length:=by
 obtain⟨B,L,M,N⟩:=h.row;obtain⟨A,I,J,K⟩:=h.par;obtain⟨k,g,i,j⟩:=h.bas;obtain⟨xs,r,s⟩:=h.rng;rw[t] at g;cases g;obtain⟨⟨O,P,F,R,T⟩,⟨U,G,W,X⟩,⟨b,C,D⟩,⟨d,f⟩,E⟩:=(by simpa [Fo.six] using h.sep:(¬a.x=a.dr/\¬a.x=a.da/\¬a.x=a.ds/\¬a.x=a.dg/\¬a.x=a.dw)/\(¬a.dr=a.da/\¬a.dr=a.ds/\¬a.dr=a.dg/\¬a.dr=a.dw)/\(¬a.da=a.ds/\¬a.da=a.dg/\¬a.da=a.dw)/\(¬a.ds=a.dg/\¬a.ds=a.dw)/\¬a.dg=a.dw);have p:Bx a.six H (upd H a.ds (.dK (zJ ks (Sum.inr z) (.str m)))):=fun c o n e=>by rw[qf (fun y=>n (by rw[y];simp[Fo.six]))];show e
 show⟨⟨qaE h.sm (h.fr _ (by simp[Fo.six])),h.web,h.prt,h.fr,h.nd,fun c hc=>⟨(h.exf c hc).1,(h.exf c hc).2.1,(h.exf c hc).2.2.elim fun o e=>⟨o,p _ _ (h.exf c hc).2.1 e⟩⟩,h.obj.eq (qf F),⟨B,by rw[qf G];show L,M,fun y=>(N y).mono p Fo.sub⟩,⟨A,by rw[qf b];show I,J,K⟩,⟨_,qb,by rw[put_len (j z hz)];show i,fun u w=>?_⟩,⟨xs,by rw[qf (Yn d)];show r,s⟩,by rw[qf (Yn f)];show h.wai,h.evn,h.evi,h.evs⟩,i⟩;rw[qaN,j u w];show(if _ then _ else _)=some (V.str (if u∈l++[z] then m else S.bas u));have q:(S.setBas l m).bas u=if u∈l then m else S.bas u:=rfl;rw[q];by_cases e:u=z
 .subst e;rw[yG rfl,yG (by simp)]
 .rw [yC (fun x=>e (xk x))];by_cases y:u∈l
  .rw [yG y,yG (yM _ y)]
  .rw [yC y,yC (fun x=>(yB.mp x).elim y fun x=>e (yz.mp x))]
theorem FoA.updG{a:Fo}{bs:LS}(h:FoA (cc 9) cw H0 H a ss ns qs S bs dn wt lo)(m:xs.length<=(dn++wt).length):FoA (cc 9) cw H0 (upd H a.dg (.lst xs)) a ss ns qs S bs dn wt lo:=by
 obtain⟨p,B,C,D⟩:=h.row;obtain⟨n,w,z,A⟩:=h.par;obtain⟨k,i,j,l⟩:=h.bas;obtain⟨⟨E,F,G,t,I⟩,⟨J,K,u,L⟩,⟨q,b,r⟩,⟨d,s⟩,f⟩:=(by simpa [Fo.six] using h.sep:(¬a.x=a.dr/\¬a.x=a.da/\¬a.x=a.ds/\¬a.x=a.dg/\¬a.x=a.dw)/\(¬a.dr=a.da/\¬a.dr=a.ds/\¬a.dr=a.dg/\¬a.dr=a.dw)/\(¬a.da=a.ds/\¬a.da=a.dg/\¬a.da=a.dw)/\(¬a.ds=a.dg/\¬a.ds=a.dw)/\¬a.dg=a.dw);have g:Bx a.six H (upd H a.dg (.lst xs)):=(Bx.of (Sr H)).upd (by simp[Fo.six]);show⟨qaE h.sm (h.fr _ (by simp[Fo.six])),h.web,h.prt,h.fr,h.nd,fun c hc=>⟨(h.exf c hc).1,(h.exf c hc).2.1,(h.exf c hc).2.2.elim fun o e=>⟨o,g _ _ (h.exf c hc).2.1 e⟩⟩,h.obj.eq (qf t),⟨p,by rw[qf u];show B,C,fun y=>(D y).mono g Fo.sub⟩,⟨n,by rw[qf b];show w,z,A⟩,⟨k,by rw[qf d];show i,j,l⟩,⟨xs,qb,m⟩,by rw[qf (Yn f)];show h.wai,h.evn,h.evi,h.evs⟩
theorem ok_fdF(F:Fun K "fold" "Forest.fold" jN f fd)(T:Txt K mg cc cw)(Kk:MethOk P w K mg base CX0 1 cw "places" ["self"] (spPls cw)):FnOk P w K mg base CX0 2 f fd ["self","ring","meeting"] (spFd cc cw):=by
 show F.ok KL fun _ _ _ _ H vs Q E hr h=>?_
 .obtain⟨H0,a,ss,ns,qs,S,dn,wt,lo,lr,d,m,xs,rfl,h,an,af,aq,ar,ad,as,q⟩:=h;have C:=zd hr;show⟨_,(qc (zN (sc:=qh jN) (XN:=["self","ring","meeting","within","place"]) ["place","ring","self","meeting"] 1 [1,0,2] rfl rfl rfl (by room) rfl (by room) (i:=3) KL.nd rfl rfl
  (qR (K:=K) rfl (jk Kk (hmR hr) (qC (K:=K) rfl (pv 0) rfl))) (fun _ _ _ _=>(qt (i:=0) (show(["place","ring","self","meeting"]:LS).Nodup by room) rfl (yK rfl))) qN
  (fun _ _ _ _=>(q8 (qk (zC (K:=K) rfl C) (qv (qw (K:=K) rfl C) (qC (K:=K) rfl (pv 2) rfl) (pv 0) (fun _ _=>rfl)) (qG (zu (K:=K) rfl) (pv 1) (qQ (qa (pv 3) qd))) (by with_unfolding_all rfl))))
  (fun _ _ _ _=>(pv 0)))
 (qc (jp yZ rfl (qR (K:=K) rfl (pv 3)) (qt (i:=4) KL.nd rfl (yK rfl))
 (qe (jQ (pv 2) (j7 (qC (K:=K) rfl (pv 0) rfl) (pv 4) (j9 C)))))
 (qe (qU (qa4 (K:=K) rfl yL Yd Ye qS (qC (K:=K) rfl (pv 0) rfl) (qa (pv 3) qd)))))),?_⟩
  have al:=h.few;have B:=h.web.same h.sm;obtain⟨wx,dd,ol,nn,hb,_⟩:=id B;apply .inl (h.obj.rd T 0 rfl ?_);show⟨a.b,wx,_,rfl,hb,zq (by room),?_⟩;apply⟨a.b,ss,ns,rfl,B,fun pl ag=>?_⟩;have s1:=qF (Sr H) (o:=.lst (ss.map V.str)) ag;have Y:upd H pl (.lst (ss.map V.str)) pl=some (.lst (ss.map V.str)):=qb;generalize upd H pl (.lst (ss.map V.str))=H1 at s1 Y;show .inl ⟨⟨_,.of Y⟩,qK (xs:=ss.map V.str) (fun i ys J=>L2.Same H1 J/\ys=((ss.take i).filter fun u=>decide (S.bas u∈d++[m])).map V.str) ⟨L2.Same.refl H1,rfl⟩ (fun i ys J _ g=>.of (g.1 _ _ Y)) (fun i y ys J I g=>?_) fun ys J g=>?_⟩
  .obtain⟨L,rfl⟩:=g;rw[yd] at I;obtain⟨z,hz,rfl⟩:=yn.mp I;have j:=s1.trans L;have l:=h.same j;obtain⟨ks,O,b2,b3⟩:=l.bas;have ao:=(yc.mp hz).1
   have r:(ss.take (i+1)).filter (fun u=>decide (S.bas u∈d++[m]))=(ss.take i).filter (fun u=>decide (S.bas u∈d++[m]))++(if S.bas z∈d++[m] then [z] else []):=by
    rw[yR,hz,Yh];show _++[z].filter _=_;rw[yU];simp only[ku,YF]
   apply .inl (l.obj.rd T 4 rfl ?_);apply qep O (b3 z (ye hz)) ?_;apply⟨by show 1<=sizeLine;decide,fun W aa=>?_⟩;have t1:=qF (Sr J) (o:=.lst [.str m]) aa;have s:upd J W (.lst [.str m]) W=some (.lst [.str m]):=qb;generalize upd J W (.lst [.str m])=J1 at t1 s;show qeX ((j.trans t1) _ _ af) s (by rw[ya];show _+1<=_;lk) fun X ac=>?_;have t2:=qF t1 (o:=.lst (d.map V.str++[.str m])) ac;have t:upd J1 X (.lst (d.map V.str++[.str m])) X=some (.lst ((d++[m]).map V.str)):=by rw[qb,yx];rfl
   generalize upd J1 X (.lst (d.map V.str++[.str m]))=J2 at t2 t;show qeq t ⟨_,rfl,?_⟩;rw[r];by_cases p:S.bas z∈d++[m]
   .rw [yD p,yG p];show zm ?_;ext;have ae:=yW (fun u=>decide (S.bas u∈d++[m])) (ss.take i);rw[yT] at ae;show⟨by rw[ya];show qi (by lk),L.trans t2,by rw[yx];rfl⟩
   .rw [yl p,yC p,Yb];show yq ?_;show⟨L.trans t2,rfl⟩
  .obtain⟨L,rfl⟩:=g;rw[show(ss.map V.str).length=ss.length from ya _,yQ];have j:=s1.trans L;have ai:(ss.filter fun u=>decide (S.bas u∈d++[m])).length<=ss.length:=yW _ _;show⟨by rw[ya];show yV (qi (by lk)),fun N D=>?_⟩;have R:=qF j (o:=.lst ((wnL S ss d m).map V.str)) D;have Z:upd J N (.lst ((wnL S ss d m).map V.str)) N=some (.lst ((wnL S ss d m).map V.str)):=qb;have am:(wnL S ss d m).length<=ss.length:=ai;have aj:∀ u∈wnL S ss d m,u∈ss:=fun u C=>(yp.mp C).1;show qgj _ _ _ _ (upd J N (.lst ((wnL S ss d m).map V.str)));generalize wnL S ss d m=M at *;have G:=(h.same j).new D;generalize upd J N (.lst (M.map V.str))=H2 at R Z;have h2:=h.same R;apply .inl ⟨⟨_,.of Z⟩,jo (xs:=M.map V.str) (fun i σ J=>Bx a.six H2 J/\(∀ o,H2 a.dg=some o->J a.dg=some o)/\FoA (cc 9) cw H0 J a ss ns qs (S.setBas (M.take i) m) ss dn wt lo/\∃ y4,σ=[some (.ref a.x),some (.ref lr),some (.str m),some (.ref N),y4]) ⟨fun c o _ e=>e,fun _ e=>e,?_,_,rfl⟩ (fun i σ J _ g=>.of (g.1 _ _ G Z)) (fun i y σ J I g=>?_) fun σ J g=>?_⟩
   .have:S.setBas ([]:LS) m=S:=by unfold FS.setBas;simp
    rw[kZ,this];show h2
   .obtain⟨U,hg,l,y4,rfl⟩:=g;rw[yd] at I;obtain⟨z,hz,rfl⟩:=yn.mp I;obtain⟨ks,O,b2,b3⟩:=l.bas;have ah:M.take (i+1)=M.take i++[z]:=by rw[yR,hz];rfl
    obtain⟨h3,ap⟩:=l.setB O (aj z (ye hz));apply .inl (l.obj.rd T 4 rfl ?_);apply .inr ⟨a.ds,_,rfl,DPut.k (k:=Sum.inr z) O (by rw[Yy];lk),?_⟩;have ak:a.dg≠a.ds:=fun e=>by have:=h.nd;rw[e] at this;simp at this
    show⟨fun c o n e=>by rw[qf (fun y=>n (by rw[y];simp[Fo.six]))];show U c o n e,fun o e=>by rw[qf ak];show hg o e,by rw[ah];show h3,_,rfl⟩
   .obtain⟨U,hg,l,y4,rfl⟩:=g;rw[ya,yQ] at l;have A:=hg _ (R _ _ ad);apply .inl (l.obj.rd T 5 rfl ?_);show⟨.inl ⟨rfl,_,.of A⟩,?_⟩;apply⟨a.dg,_,_,rfl,rfl,A,qi (by lk),?_⟩;show q _ (l.updG (by rw[yt];simp only[yH,YV];lk)) ((Bx.of R).trans U |>.upd (by simp[Fo.six]))
theorem Kg:FnScope ["self","one","other","ones","others","meeting","ring"] ["self","one","other"] (qh qM):=fS
structure Mono(S S':FS):Prop where
 ba:∀ u v,S.bas u=S.bas v->S'.bas u=S'.bas v
 pa:∀ u,S.par u≠none->S'.par u≠none
 ro:∀ u r,S.rows u=some r->S'.rows u=some r
theorem Mono.refl(S:FS):Mono S S:=⟨fun _ _ e=>e,fun _ e=>e,fun _ _ e=>e⟩
theorem Mono.trans{c:FS}(a:Mono S S')(b:Mono S' c):Mono S c:=⟨fun u v e=>b.ba u v (a.ba u v e),fun u e=>b.pa u (a.pa u e),fun u r e=>b.ro u r (a.ro u r e)⟩
structure Wb(A:Str->Str->Prop)(ss:LS)(qs:LP):Prop where
 gr:Gr A (pt qs)
 inn:∀ a b,A a b->a∈ss
 qn:(qx qs).Nodup
 few:ss.length<=14
 nd:ss.Nodup
theorem Alt.inn(W:Wb A ss qs){v:Str}(h:Alt A (pt qs) r v)(hv:v∈ss):r.length<=14/\∀ u∈r,u∈ss:=by
 have a:∀ u∈r,u∈ss:=fun u f=>by
  obtain⟨j,d⟩:=yf f;obtain⟨g,e⟩:=h.tl;by_cases hl:j+1<r.length
  .obtain⟨b,hb⟩:∃ b,r[j+1]?=some b:=⟨_,yb hl⟩;show W.inn _ _ (h.st j u b d hb).1
  .have c:=(yc.mp d).1;have:j=g.length:=by rw[e,yt] at c hl;simp at c hl;lk
   rw[e,this,yI (yh _),XC] at d;rw[<- ym d];show hv
 show⟨yi (zE h.nd a) W.few,a⟩
theorem qdG(l':LS):∀{l:LS},(∃ d∈l,d∈l')->∃ l1 m l2,l=l1++m::l2/\m∈l'/\(∀ d∈l1,d∉l')/\∃ t,l.filter (fun d=>decide (d∈l'))=m::t
 | [],⟨_,h,_⟩=>by cases h
 | x::r,h=>by
  by_cases b:x∈l'
  .show⟨[],x,r,rfl,b,(fun _ h=>by cases h),_,by rw[yU,yG (yD b)]⟩
  .obtain⟨d,i,a⟩:=h;obtain⟨l1,m,l2,c,e,f,t,g⟩:=qdG l' (l:=r) ⟨d,(yA.mp i).resolve_left (fun z=>b (by rw[<- z];show a)),a⟩;show⟨x::l1,m,l2,by rw[c];rfl,e,fun y hy=>?_,t,by rw[yU,yC (by simpa using b)];show g⟩;rcases yA.mp hy with rfl | hy
   .show b
   .show f y hy
inductive BtR(qs:LP)(ss:LS)(S:FS)(v w:Str)(S':FS)(more:LS):Prop|mk (l l' rv rw:_) (_:Ch (pt qs) S (S.bas v) l) (_:Ch (pt qs) S (S.bas w) l') (_:S.rows v=some rv) (_:rv.Nodup) (_:S.rows w=some rw) (_:rw.Nodup) (_:l.getLast?=l'.getLast?) (_:((S.bas v=S.bas w/\S'=S/\more=[])\/(S.bas v≠S.bas w/\∃ l1 m l2 m1 S1 S2 rg,l=l1++m::l2/\(∀ d∈l1,d∉l')/\m∈l'/\l'=m1++m::l2/\m∉m1/\RR (pt qs) S S1 v w l1/\RR (pt qs) S1 S2 w v m1/\(∀ u,u∈rg↔∃ c∈l1++m1,u=c\/pt qs c=some u)/\S'=S2.setBas (wnL S2 ss rg m) m/\more=(l1++m1).map (pq qs))))
inductive BtL(qs:LP)(S:FS)(v w:Str)(r:LS):Prop|mk (l l' rv rw:_) (_:Ch (pt qs) S (S.bas v) l) (_:Ch (pt qs) S (S.bas w) l') (_:l.getLast?≠l'.getLast?) (_:S.rows v=some rv) (_:S.rows w=some rw) (_:r=rv++rw.reverse)
theorem RR.det{f:Str->Option Str}{v w:Str}{a:LS}(hv:S.rows v=some rv)(i:rv.Nodup)(h:RR f S S1 v w a)(g:RR f S S2 v w a):S1=S2:=by
 have key:∀{S1 S2:FS},RR f S S1 v w a->RR f S S2 v w a->∀ u r,S1.rows u=some r->S2.rows u=some r:=fun{S1 S2} h g u r e=>by
  cases b:S.rows u with
  | some r0 =>
   have:=h.old u r0 b;rw[e] at this;rw[g.old u r0 b,this]
  | none =>
   rcases h.new u r e with z | ⟨c,hc,hu,rv1,rw1,rz,t,k1,k2,k3,k4⟩
   .rw [b] at z;cases z
   .obtain⟨p,d⟩:=g.all c hc u hu;rcases g.new u p d with z | ⟨c',_,_,rv2,rw2,rz',t',k1',k2',k3',k4'⟩
    .rw [b] at z;cases z
    .rw [hv] at k1 k1';cases k1;cases k1';rw[k2] at k2';cases k2';rw[k3] at i k3';obtain⟨_,o⟩:=qel i k3';rw[d,k4',k4,o]
 have j:S1.rows=S2.rows:=by
  funext u
  cases e:S1.rows u with
  | some r=>show(key h g u r e).symm
  | none =>
   cases n:S2.rows u with
   | none=>rfl
   | some r=>rw[key g h u r n] at e;cases e
 obtain⟨q,x,A⟩:=S1;obtain⟨s,y,B⟩:=S2;have l:=h.par.trans g.par.symm;have m:=h.bas.trans g.bas.symm;dsimp only at j l m;rw[j,l,m]
theorem BtR.det{v w:Str}(h:BtR qs ss S v w S1 m1)(g:BtR qs ss S v w S2 m2):S1=S2/\m1=m2:=by
 obtain⟨l,l',rv,af,R,T,r1,n1,r2,n2,_,h⟩:=h;obtain⟨k,k',ad,ae,U,W,aa,_,ac,_,_,g⟩:=g;have c:=R.one U;subst c;have t:=T.one W;subst t;have hl:k.Nodup->k'.Nodup->True:=fun _ _=>trivial;rcases h with⟨hb,rfl,rfl⟩ | ⟨hb,j,m,p,b1,T1,L,rg,X,Z,em,Y,en,K,R2,I,rfl,rfl⟩
 .rcases g with⟨_,rfl,rfl⟩ | ⟨f,_⟩
  .show⟨rfl,rfl⟩
  .show absurd hb f
 .rcases g with⟨f,_⟩ | ⟨_,a,n,b,O,M,N,J,A,C,D,B,E,q,s,o,rfl,rfl⟩
  .show absurd f hb
  .have first:∀{j a p b:LS} {m n:Str} {P:Str->Prop},j++m::p=a++n::b->(∀ d∈j,¬ P d)->P m->(∀ d∈a,¬ P d)->P n->j=a/\m=n:=fun{j}=>by
    induction j with
    | nil=>intro a p b m n P e h1 F G H;cases a with
     | nil=>injection e with c _;show⟨rfl,c⟩
     | cons x r=>injection e with c _;show absurd (c ▸ F) (G x yE)
    | cons y r ih=>intro a p b m n P e h1 F G H;cases a with
     | nil=>injection e with c _;show absurd (c ▸ H) (h1 y yE)
     | cons x r' =>
      injection e with c t
      obtain⟨z1,z2⟩:=ih t (fun d i=>h1 d (yy _ i)) F (fun d i=>G d (yy _ i)) H;show⟨by rw[c,z1],z2⟩
   obtain⟨q1,q2⟩:=first (P:=fun d=>d∈k') (X.symm.trans A) Z em C D;subst q1;subst q2;obtain⟨q3,_⟩:=first (P:=fun d=>d=m) (Y.symm.trans B) (fun d i z=>en (z ▸ i)) rfl (fun d i z=>E (z ▸ i)) rfl;subst q3;have t1:=K.det r1 n1 q;subst t1;have t2:=R2.det (K.old _ _ r2) n2 s;subst t2
   have ew:wnL L ss rg m=wnL L ss J m:=by
    unfold wnL;show Y3 fun u _=>YB.mpr ?_;rw[yB,yB,I,o]
   rw[ew];show⟨rfl,rfl⟩
theorem BtL.det{v w:Str}{e:LS}(h:BtL qs S v w r)(g:BtL qs S v w e):r=e:=by
 obtain⟨_,_,_,_,_,_,_,a,b,rfl⟩:=h;obtain⟨_,_,_,_,_,_,_,c,d,rfl⟩:=g;rw[a] at c;rw[b] at d;cases c;cases d;rfl
theorem BtL.not{v w:Str}{m:LS}(h:BtL qs S v w r)(g:BtR qs ss S v w S' m):False:=by
 obtain⟨l,l',_,_,a,b,c,_⟩:=h;obtain⟨k,k',_,_,e,f,_,_,_,_,d,_⟩:=g;rw[a.one e,b.one f] at d;show c d
inductive spBt(cc:Nat->Addr)(cw:Addr)(vs:List V)(H:Hp)(Q:VK)(E:XK):Prop|mk (H0:Hp) (a:Fo) (ss:LS) (ns:LN) (qs:LP) (S:FS) (dn wt:LS) (v w:Str) (rv rw:LS) (A:Str->Str->Prop) (_:vs=[.ref a.x,.str v,.str w]) (_:FoA (cc 9) cw H0 H a ss ns qs S ss dn wt .non) (_:Wb A ss qs) (_:FI A (pt qs) S) (_:S.rows v=some rv) (_:S.rows w=some rw) (_:A v w) (_:(∀(H':Hp) (S':FS) (more:LS),FoA (cc 9) cw H0 H' a ss ns qs S' ss dn (wt++more) .non->Bx a.six H H'->FI A (pt qs) S'->S'.bas v=S'.bas w->Mono S S'->BtR qs ss S v w S' more->Q .non H')) (_:∀(H':Hp) (t:Addr) (r:LS),FoA (cc 9) cw H0 H' a ss ns qs S ss dn wt (.ref t)->Bx a.six H H'->H' t=some (.lst (r.map V.str))->t∉a.all->Aug A (pt qs) r->r.length<=28->BtL qs S v w r->Q .non H')
theorem qff{d:Str}{Q:VK}(q:Q (.bl (!decide (c=d))) H):qft K true (.str c) (.str d) H Q:=by
 show .inl ⟨rfl,rfl,?_⟩;rw[yG rfl]
 have e:eqV (.str c) (.str d)=decide (c=d):=by
  by_cases h:c=d
  .subst h;simp[eqV]
  .simp [eqV,h]
 rw[e];show q
theorem FoA.setL{a:Fo}{bs:LS}{fs:List (Str×V)}{v:V}(h:FoA (cc 9) cw H0 H a ss ns qs S bs dn wt .non)(s:H a.x=some (.ins (cc 9) dx fs))(hv:v≠.non):fs.length<1000/\FoA (cc 9) cw H0 (upd H a.x (.ins (cc 9) dx (qJ "longer" v fs))) a ss ns qs S bs dn wt v:=by
 obtain⟨m,n,g,K,G,I,J⟩:=h.obj;rw[s] at g;cases g;have hl:=G rfl;obtain⟨w,D,E,F⟩:=h.row;obtain⟨t,A,B,C⟩:=h.par;obtain⟨k,i,j,l⟩:=h.bas;obtain⟨xs,p,q⟩:=h.rng;have r:=h.sep;have nx:∀{c:Addr},c∈[a.dr,a.da,a.ds,a.dg,a.dw]->c≠a.x:=fun hc e=>(yo.mp r).1 (by rw[<- e];show hc);have d:Bx a.six H (upd H a.x (.ins (cc 9) dx (qJ "longer" v fs))):=(Bx.of (Sr H)).upd (by simp[Fo.six]);show⟨by lk,qaE h.sm (h.fr _ (by simp[Fo.six])),h.web,h.prt,h.fr,h.nd,fun c hc=>⟨(h.exf c hc).1,(h.exf c hc).2.1,(h.exf c hc).2.2.elim fun o e=>⟨o,d _ _ (h.exf c hc).2.1 e⟩⟩,⟨dx,_,qb,yi (jD _ _ _) (by lk),fun e=>absurd e hv,fun f u b=>?_,fun f b=>?_⟩,⟨w,by rw[qf (nx (by simp))];show D,E,fun y=>(F y).mono d Fo.sub⟩,⟨t,by rw[qf (nx (by simp))];show A,B,C⟩,⟨k,by rw[qf (nx (by simp))];show i,j,l⟩,⟨xs,by rw[qf (nx (by simp))];show p,q⟩,by rw[qf (nx (by simp))];show h.wai,h.evn,h.evi,h.evs⟩
 .rw [qD];by_cases e:f="longer"
  .rw [yG e];subst e;have:(Str.ofString "longer",u)∈a.tab v:=b;simp only[Fo.tab,yA,Xn,Yj,Y6] at this;rcases this with⟨z,_⟩ | ⟨z,_⟩ | ⟨z,_⟩ | ⟨z,_⟩ | ⟨z,_⟩ | ⟨z,_⟩ | ⟨z,_⟩ | ⟨_,z⟩<;>first | show absurd z (by room) | show congrArg some z.symm
  .rw [yC e];show I f u ?_;have:(f,u)∈a.tab v:=b;simp only[Fo.tab,yA,Xn,Yj,Y6] at this ⊢;rcases this with z | z | z | z | z | z | z | ⟨z,_⟩
   all_goals first | show absurd z e | simp[z]
 .rw [qD,yC (fun e=>b (by rw[e];room))];show J f b
theorem FoA.rowAt{a:Fo}{bs:LS}(h:FoA (cc 9) cw H0 H a ss ns qs S bs dn wt lo)(e:S.rows u=some r){Q:VK}(q:∀ t,H t=some (.lst (r.map V.str))->Q (.ref t) H):qfZ K (.ref a.dr) (.str u) H Q:=by
 obtain⟨g,d,_,f⟩:=h.row;have:=f u;rw[e] at this;obtain⟨t,b,c,_⟩:=this;show qep d b (q t c)
theorem ok_bt(F:Fun K "bring_together" "Forest.bring_together" qM f fd)(T:Txt K mg cc cw)(Kz:MethOk P w K mg base CX0 1 (cc 9) "bases_down_from" ["self","place"] (spBd cc cw))(KH:MethOk P w K mg base CX0 2 (cc 9) "reach_round" ["self","one","other","bases"] (spRr cc cw))(uM:MethOk P w K mg base CX0 2 (cc 9) "fold" ["self","ring","meeting"] (spFd cc cw)):FnOk P w K mg base CX0 3 f fd ["self","one","other"] (spBt cc cw):=by
 show F.ok Kg fun _ _ _ _ H vs Q E hr h=>?_
 .obtain⟨H0,a,ss,ns,qs,S,dn,wt,v,w,rv,b,B,rfl,h,g,I,hv,hw,ci,q1,q2⟩:=h;have N:=zd hr;have Y:∀{v:Str} {r:LS},S.rows v=some r->v∈ss:=fun e=>h.evs _ ((h.evi _).mpr (by rw[e];show fun z=>by cases z));obtain⟨l,hl⟩:=I.chainOf hv;obtain⟨l',s⟩:=I.chainOf hw;have an:=hl.nd I hv rfl;have D:=s.nd I hw rfl;have ac:l.length<=14:=yi (zE an fun c hc=>(hl.bs0 I hv hc).elim fun r z=>Y z.1) g.few;have L:l'.length<=14:=yi (zE D fun c hc=>(s.bs0 I hw hc).elim fun r z=>Y z.1) g.few;obtain⟨ba,dy⟩:=(I.alt v rv hv).inn g (Y hv);obtain⟨ap,dz⟩:=(I.alt w b hw).inn g (Y hw);obtain⟨lx,c,ae⟩:∃ lx c,l=lx++[c]:=by obtain⟨t,e⟩:=hl.ne;show⟨_,_,(xr (by rw[e];show kK _ _)).symm⟩
  obtain⟨ly,d,af⟩:∃ ly d,l'=ly++[d]:=by obtain⟨t,e⟩:=s.ne;show⟨_,_,(xr (by rw[e];show kK _ _)).symm⟩
  show⟨_,(qc (qo (i:=3) Kg.nd rfl (yK rfl) (qI Kz (hmR hr) (pv 0) (qa (pv 1) qd)))
 (qc (qo (i:=4) Kg.nd rfl (Xr rfl) (qI Kz (hmR hr) (pv 0) (qa (pv 2) qd)))
 (qe (qH (qk (zO (K:=K) rfl N) (qv (qw (K:=K) rfl N) (pv 3) (qbG qaD qg) (fun _ _=>rfl)) (qv (qw (K:=K) rfl N) (pv 4) (qbG qaD qg) (fun _ _=>rfl)) (qz _)) (qe (j6 (K:=K) rfl (pv 0) (qG (zu (K:=K) rfl) (qv (qw (K:=K) rfl N) (qC (K:=K) rfl (pv 0) rfl) (pv 1) (fun _ _=>rfl)) (qeg (K:=K) rfl (qv (qw (K:=K) rfl N) (qC (K:=K) rfl (pv 0) rfl) (pv 2) (fun _ _=>rfl)) (jE (qbG qaD qg)))) rfl)) (qe (qH (qk (zO (K:=K) rfl N) (qv (qw (K:=K) rfl N) (pv 3) qg (fun _ _=>rfl)) (qv (qw (K:=K) rfl N) (pv 4) qg (fun _ _=>rfl)) (qz _)) (qc (qo (i:=5) Kg.nd rfl (yK rfl) (qv (qw (K:=K) rfl N) (jh (sc:=qh qM) (XN:=["self","one","other","ones","others","meeting","ring"]) ["base","others"] 1 [4] rfl rfl rfl (by room) rfl (by room)
  (qR (K:=K) rfl (pv 3)) (fun _ _ _ _=>(qt (i:=0) (show(["base","others"]:LS).Nodup by room) rfl (yK rfl))) qN
  (fun _ _ _ _=>(q8 (qk (zC (K:=K) rfl N) (pv 0) (pv 1) (by with_unfolding_all rfl))))
  (fun _ _ _ _=>(pv 0))) qg (fun _ _=>rfl)))
 (qc (qo (i:=6) Kg.nd rfl (yK rfl) (qI KH (hmR hr) (pv 0) (qa (pv 1) (qa (pv 2) (qa (jJ (qec (K:=K) rfl) (pv 3) zo (jE (qa4 (K:=K) rfl yL Yz YI (qad (K:=K) rfl) (pv 3) (qa (pv 5) qd)))) qd)))))
 (qc (qU (qa4 (K:=K) rfl yL PySem.F.slot_list_extend PySem.F.type_list_extend qbN (pv 6) (qa (qI KH (hmR hr) (pv 0) (qa (pv 2) (qa (pv 1) (qa (jJ (qec (K:=K) rfl) (pv 4) zo (jE (qa4 (K:=K) rfl yL Yz YI (qad (K:=K) rfl) (pv 4) (qa (pv 5) qd)))) qd)))) qd)))
 (qe (qU (qI uM (hmR hr) (pv 0) (qa (pv 6) (qa (pv 5) qd)))))))) qr)))))),?_⟩
  ext;obtain⟨dx,fs,ao,_,_,_,bf⟩:=id h.obj;show⟨a.x,dx,fs,rfl,ao,bf _ (by room),?_⟩;apply⟨H0,a,ss,ns,qs,S,dn,wt,.non,v,rv,l,B,rfl,h,g.few,I,hv,hl,ac,fun o1 H1 s1 dp cy=>?_⟩;apply⟨a.x,dx,fs,rfl,s1 _ _ ao,bf _ (by room),?_⟩;apply⟨H0,a,ss,ns,qs,S,dn,wt,.non,w,b,l',B,rfl,h.same s1,g.few,I,hw,s,L,fun o2 H2 s2 dq aq=>?_⟩;have au:=s1.trans s2;have h2:=h.same au;have U:=s2 _ _ cy;have dv:=h.newA dp;have dw:=(h.same s1).newA dq;apply⟨1,rfl,?_⟩;show .inl (zY U (v:=.str c) (by rw[ae];show atI_last) ?_);apply⟨1,rfl,?_⟩;show .inl (zY aq (v:=.str d) (by rw[af];show atI_last) ?_);show qff ⟨_,rfl,?_⟩;by_cases aa:c=d
  .rw [yD aa];show yq ?_;obtain⟨t0,X⟩:=hl.ne;obtain⟨eh,C⟩:=s.ne;apply .inl (zY U (v:=.str (S.bas v)) (qu (j:=0) (by rw[X];rfl)) ?_);apply .inl (zY aq (v:=.str (S.bas w)) (qu (j:=0) (by rw[C];rfl)) ?_);show qff ⟨_,rfl,?_⟩;by_cases Z:S.bas v=S.bas w
   .rw [yD Z];show yq ?_;show q1 H2 S [] (by rw[Yb];show h2) (Bx.of au) I Z (Mono.refl S) ⟨l,l',rv,b,hl,s,hv,(I.alt v rv hv).nd,hw,(I.alt w b hw).nd,by rw[ae,af,xn,xn,aa],.inl ⟨Z,rfl,rfl⟩⟩
   .rw [yl Z];show zm ?_;obtain⟨l1,m,l2,R,ad,am,tf,bx⟩:=qdG l' (l:=l) ⟨c,by rw[ae];simp,by rw[af,aa];simp⟩;obtain⟨m1,m2,M⟩:=Ys ad;obtain⟨cx,di⟩:=hl.meet I hv hw s R M am;rw[cx] at M;have ce:m∉m1:=fun z=>by rw[M] at D;show(Yc.mp D).2.2 m z m (by simp) rfl
    have eb:m∉l1:=fun z=>am m z ad;apply .inl ⟨⟨_,.of U⟩,qK (xs:=l.map V.str) (fun i ys J=>J=H2/\ys=((l.take i).filter fun d=>decide (d∈l')).map V.str) ⟨rfl,rfl⟩ (fun i ys J _ hp=>by rw[hp.1];show .of U) (fun i y ys J hy hp=>?_) fun ys J hp=>?_⟩
    .obtain⟨rfl,rfl⟩:=hp;rw[yd] at hy;obtain⟨z,hz,rfl⟩:=yn.mp hy
     have be:(l.take (i+1)).filter (fun d=>decide (d∈l'))=(l.take i).filter (fun d=>decide (d∈l'))++(if z∈l' then [z] else []):=by
      rw[yR,hz,Yh];show _++[z].filter _=_;rw[yU];simp only[ku,YF]
     have ee:=(yc.mp hz).1;have dk:=yW (fun d=>decide (d∈l')) (l.take i);rw[yT] at dk;apply qeq aq ⟨_,rfl,?_⟩;rw[be];by_cases G:z∈l'
     .rw [yD G,yG G];show zm ?_;apply⟨by rw[ya];show qi (by lk),rfl,by rw[yx];rfl⟩
     .rw [yl G,yC G,Yb];show yq ?_;show⟨rfl,rfl⟩
    .obtain⟨rfl,rfl⟩:=hp;rw[show(l.map V.str).length=l.length from ya _,yQ,bx];have ds:=yW (fun d=>decide (d∈l')) l;rw[bx] at ds;show⟨by rw[ya];show yV (qi (by lk)),fun cl ca=>?_⟩;have s3:=qF au (o:=.lst ((m::tf).map V.str)) ca;have bh:=qF (Sr J) (o:=.lst ((m::tf).map V.str)) ca;have bo:upd J cl (.lst ((m::tf).map V.str)) cl=some (.lst ((m::tf).map V.str)):=qb;generalize upd J cl (.lst ((m::tf).map V.str))=H3 at s3 bh bo;apply .inl (zY bo (v:=.str m) (qu (j:=0) rfl) ?_);have h3:=h.same s3;have aj:=bh _ _ U;have br:=bh _ _ aq;apply⟨a.x,dx,fs,rfl,s3 _ _ ao,bf _ (by room),?_⟩;apply⟨.inl ⟨rfl,_,.of aj⟩,?_⟩;apply⟨o1,l,m,rfl,rfl,.of aj,by rw[R];simp,_,rfl,?_⟩;rw[show l.idxOf m=l1.length by rw[R] at an ⊢;show qc6 an];apply .inl ⟨o1,_,rfl,.of aj,fun c1 ag=>?_⟩;have bp:qco (l.map V.str) none (some ((l1.length:Nat):Int))=l1.map V.str:=by rw[qae,R,yx,List.take_left' (by simp)]
     rw[bp];have s4:=qF s3 (o:=.lst (l1.map V.str)) ag;have cr:=qF (Sr H3) (o:=.lst (l1.map V.str)) ag;have ah:upd H3 c1 (.lst (l1.map V.str)) c1=some (.lst (l1.map V.str)):=qb;have n1:=h3.new ag;generalize upd H3 c1 (.lst (l1.map V.str))=H4 at s4 cr ah;have h4:=h.same s4
     have bc:∀{x y:Str} {rx k W:LS},S.rows x=some rx->(∀ u∈rx,u∈ss)->Ch (pt qs) S (S.bas x) k->k=W++m::l2->∀ c∈W,∃ q rz t,pt qs c=some q/\S.rows q=none/\q∈ss/\rx=rz++q::t:=fun{x y rx k W} hx hs hk ek c hc=>by
      obtain⟨a',b',ea⟩:=Ys hc;have bq:k=a'++c::(b'++m::l2):=by rw[ek,ea];simp
      obtain⟨_,_,_,_,g3,_⟩:=hk.up I hx rfl bq;rcases g3.cases' with⟨_,z⟩ | ⟨q,_,hq,_⟩
      .simp at z
      .obtain⟨rz,t,W,_,k3,_⟩:=hk.suf I hx bq hq;show⟨q,rz,_,hq,k3,hs q (by rw[W];simp),W⟩
     apply⟨H0,a,ss,ns,qs,S,dn,wt,.non,v,w,c1,l1,rv,b,rfl,h4,g.few,ah,n1,hv,hw,ba,ap,(I.alt v rv hv).nd,?_,?_,g.qn,bc (y:=v) hv dy hl R,fun O p ar H5 S1 h5 bj ch bu ay cf aw R1 dl=>?_⟩
     .rw [R] at an;show(Yc.mp an).1
     .rw [R,yt] at ac;lk
     have ed:o1∉a.six:=fun z=>dv (Fo.sub _ z);have cq:o2∉a.six:=fun z=>dw (Fo.sub _ z);have ak:=bj _ _ cq (cr _ _ br);apply⟨.inl ⟨rfl,_,.of bu⟩,?_⟩;ext;obtain⟨cu,dc,ck,_,_,_,cn⟩:=id h5.obj;show⟨a.x,cu,dc,rfl,ck,cn _ (by room),?_⟩;apply⟨.inl ⟨rfl,_,.of ak⟩,?_⟩;apply⟨o2,l',m,rfl,rfl,.of ak,ad,_,rfl,?_⟩;rw[show l'.idxOf m=m1.length by rw[M] at D ⊢;show qc6 D];apply .inl ⟨o2,_,rfl,.of ak,fun c2 al=>?_⟩;have bd:qco (l'.map V.str) none (some ((m1.length:Nat):Int))=m1.map V.str:=by rw[qae,M,yx,List.take_left' (by simp)]
     rw[bd];have s6:=qF (Sr H5) (o:=.lst (m1.map V.str)) al;have ai:upd H5 c2 (.lst (m1.map V.str)) c2=some (.lst (m1.map V.str)):=qb;have n2:=h5.new al;generalize upd H5 c2 (.lst (m1.map V.str))=H6 at s6 ai;have h6:=h5.same s6
     have cp:∀ c∈m1,∀ q,pt qs c=some q->S.rows q=none->S1.rows q=none:=fun c hc q hq hn=>by
      cases e:S1.rows q with
      | none=>rfl
      | some r =>
       exfalso;rcases R1.new q r e with z | ⟨c',hc',z,_⟩
       .rw [hn] at z;cases z
       .have e1:=g.gr.fs z;rw[g.gr.fs hq] at e1;rw[<- ym e1] at hc';show am c hc' (by rw[M];show yM _ hc)
     apply⟨H0,a.add O,ss,ns,qs,S1,dn,wt++ar,.non,w,v,c2,m1,b,rv,rfl,h6,g.few,ai,n2,R1.old _ _ hw,R1.old _ _ hv,ap,ba,(I.alt w b hw).nd,?_,?_,g.qn,fun c hc=>?_,fun t2 A bg H7 S2 h7 bm ef cz az cg ax R2 dm=>?_⟩
     .rw [M] at D;show(Yc.mp D).1
     .rw [M,yt] at L;lk
     .obtain⟨q,rz,t,W,k2,k3,k4⟩:=bc (y:=v) hw dz s M c hc;show⟨q,rz,t,W,cp c hc q W k2,k3,k4⟩
     have bi:O∉a.six:=h4.new ch;have bv:H7 O=some (.lst (p.map V.str)):=bm _ _ bi (s6 _ _ bu);apply⟨O,t2,_,_,rfl,rfl,bv,cz,by rw[ya,ya,Yy];rw[R,yt] at ac;rw[M,yt] at L;lk,?_⟩;have h8:=h7.updE (c:=O) (o:=.lst (p.map V.str++A.map V.str)) (by simp[Fo.add]);obtain⟨xs,dj,eg⟩:=h.rng;have cb:=dm _ (s6 _ _ (dl _ (s4 _ _ dj)));have du:a.dg≠O:=fun z=>bi (by rw[<- z];simp[Fo.six]);have bw:upd H7 O (.lst (p.map V.str++A.map V.str)) O=some (.lst ((p++A).map V.str)):=by rw[qb,yx]
     have av:upd H7 O (.lst (p.map V.str++A.map V.str)) a.dg=some (.lst xs):=by rw[qf du];show cb
     have bn:Bx a.six H (upd H7 O (.lst (p.map V.str++A.map V.str))):=fun e o n k=>by
      have ne:e≠O:=fun z=>by rw[z,s4.free ch] at k;cases k
      rw[qf ne];show bm _ _ n (s6 _ _ (bj _ _ n (s4 _ _ k)))
     generalize upd H7 O (.lst (p.map V.str++A.map V.str))=H8 at h8 bw av bn
     have ec:0<ar.length+bg.length:=by
      rw[aw,ax,ya,ya];rcases l1 with _ | ⟨x,r⟩
      .rcases m1 with _ | ⟨x,r⟩
       .rw [R] at X;rw[M] at C;show absurd ((xw X).1.symm.trans (xw C).1) Z
       .simp
      .simp;lk
     ext;obtain⟨cv,dd,cm,_,_,_,co⟩:=id h8.obj;show⟨a.x,cv,dd,rfl,cm,co _ (by room),?_⟩;apply⟨H0,(a.add O).add t2,ss,ns,qs,S2,dn,wt++ar++bg,.non,O,p++A,m,xs,rfl,h8,g.few,bw,bi,?_,av,?_,fun H9 h9 ct=>?_⟩
     .rw [yt,cf,cg];rw[R,yt] at ac;rw[M,yt] at L;lk
     .rw [<- Yi,<- Yi,yt,yt (as:=dn++wt)];lk
     have dr:∀ u,u∈p++A++[m]↔InR (pt qs) m (l1++m1) u:=fun u=>by
      rw[yB,yB,ay,az,yz];unfold InR;constructor
      .rintro ((⟨c,hc,z⟩ | ⟨c,hc,z⟩) | z)
       .show .inr ⟨c,yM _ hc,z⟩
       .show .inr ⟨c,yP _ hc,z⟩
       .show .inl z
      .rintro (z | ⟨c,hc,z⟩)
       .show .inr z
       .rcases yB.mp hc with y | y
        .show .inl (.inl ⟨c,y,z⟩)
        .show .inl (.inr ⟨c,y,z⟩)
     have bz:S2.bas=S.bas:=by rw[R2.bas,R1.bas]
     have cd:∀ u,InR (pt qs) m (l1++m1) (S.bas u)->u∈ss:=fun u N=>by
      cases e:S.rows u with
      | some r=>show Y e
      | none =>
       rw[I.own e] at N;rcases N with z | ⟨c,hc,z⟩
       .obtain⟨r,k,_⟩:=hl.bs0 I hv (c:=m) (by rw[R];simp);rw[z];show Y k
       .have dh:∃ r,S.rows c=some r:=by
         rcases yB.mp hc with y | y
         .show(hl.bs0 I hv (by rw[R];show yM _ y)).elim fun r k=>⟨r,k.1⟩
         .show(s.bs0 I hw (by rw[M];show yM _ y)).elim fun r k=>⟨r,k.1⟩
        obtain⟨r,k⟩:=dh;rcases z with z | z
        .rw [z];show Y k
        .show g.inn _ _ (g.gr.as (g.gr.fa z))
     have hM:Mg (pt qs) S (S2.setBas (wnL S2 ss (p++A) m) m) v w m l1 m1:=by
      have cj:∀ u,u∈wnL S2 ss (p++A) m↔u∈ss/\InR (pt qs) m (l1++m1) (S.bas u):=fun u=>by
       unfold wnL;rw[yp,yO,dr,bz]
      have nr:∀{u:Str} {r:LS},NewRow S1 w v u r->NewRow S w v u r:=fun⟨a1,a2,a3,a4,W,k2,k3⟩=>by
       rw[R1.old _ _ hw] at W;rw[R1.old _ _ hv] at k2;cases W;cases k2;show⟨_,_,a3,a4,hw,hv,k3⟩
      show⟨by show S2.par=S.par;rw[R2.par,R1.par],fun u r e=>R2.old _ _ (R1.old _ _ e),fun u r e=>?_,fun c hc q hq=>?_,fun u N=>?_,fun u N=>?_⟩
      .rcases R2.new u r e with z | ⟨c,hc,W,k2⟩
       .rcases R1.new u r z with z | z
        .show .inl z
        .show .inr (.inl z)
       .show .inr (.inr ⟨c,hc,W,nr k2⟩)
      .rcases yB.mp hc with y | y
       .obtain⟨r,k⟩:=R1.all c y q hq;show⟨r,R2.old _ _ k⟩
       .show R2.all c y q hq
      .show(if u∈wnL S2 ss (p++A) m then m else S2.bas u)=m;rw[yG ((cj u).mpr ⟨cd u N,N⟩)]
      .show(if u∈wnL S2 ss (p++A) m then m else S2.bas u)=S.bas u;rw[yC (fun z=>N ((cj u).mp z).2),bz]
     have hI:=I.merge g.gr hv hw (R ▸ hl) (M ▸ s) (M ▸ am) (R ▸ di) ci Z hM
     have de:InR (pt qs) m (l1++m1) (S.bas v):=by
      rcases l1 with _ | ⟨x,r⟩
      .rw [R] at X;cases X;show .inl rfl
      .rw [R] at X;cases X;show .inr ⟨_,by simp,.inl rfl⟩
     have df:InR (pt qs) m (l1++m1) (S.bas w):=by
      rcases m1 with _ | ⟨x,r⟩
      .rw [M] at C;cases C;show .inl rfl
      .rw [M] at C;cases C;show .inr ⟨_,by simp,.inl rfl⟩
     show q1 H9 _ (ar++bg) ?_ (bn.trans ct) hI ((hM.inn v de).trans (hM.inn w df).symm) ⟨fun u z e=>?_,fun u e=>by rw[hM.par];show e,hM.old⟩ ⟨l,l',rv,b,hl,s,hv,(I.alt v rv hv).nd,hw,(I.alt w b hw).nd,by rw[ae,af,xn,xn,aa],.inr ⟨Z,l1,m,l2,m1,S1,S2,p++A,R,am,ad,M,ce,R1,R2,fun u=>?_,rfl,by rw[aw,ax,yx]⟩⟩
     .rw [<- Yi];show h9.drop (l:=a.ex) fun c hc=>by simp[Fo.add,hc]
     .by_cases G:InR (pt qs) m (l1++m1) (S.bas u)
      .rw [hM.inn u G,hM.inn z (by rw[<- e];show G)]
      .rw [hM.out u G,hM.out z (by rw[<- e];show G),e]
     .rw [yB,ay,az];constructor
      .rintro (⟨c,hc,z⟩ | ⟨c,hc,z⟩)
       .show⟨c,yM _ hc,z⟩
       .show⟨c,yP _ hc,z⟩
      .rintro ⟨c,hc,z⟩;rcases yB.mp hc with y | y
       .show .inl ⟨c,y,z⟩
       .show .inr ⟨c,y,z⟩
  .rw [yl aa];show zm ?_;apply .inl (h2.obj.rd T 2 rfl ?_);apply h2.rowAt hv fun tv da=>?_;apply qgs ?_;apply .inl (h2.obj.rd T 2 rfl ?_);apply h2.rowAt hw fun tw db=>?_;apply⟨1,rfl,?_⟩;show⟨_,rfl,rfl,tw,_,rfl,.of db,fun c1 ag=>?_⟩;have O:=qF au (o:=.lst (b.map V.str).reverse) ag;have cs:=qF (Sr H2) (o:=.lst (b.map V.str).reverse) ag;have ah:upd H2 c1 (.lst (b.map V.str).reverse) c1=some (.lst (b.reverse.map V.str)):=by rw[qb,kL]
   generalize upd H2 c1 (.lst (b.map V.str).reverse)=H3 at O cs ah;show qeX (cs _ _ da) ah (by rw[ya,ya,Yt];lk) fun c2 al=>?_;have n2:=(h.same O).newA al;have t2:=qF O (o:=.lst (rv.map V.str++b.reverse.map V.str)) al;have ai:upd H3 c2 (.lst (rv.map V.str++b.reverse.map V.str)) c2=some (.lst ((rv++b.reverse).map V.str)):=by rw[qb,yx]
   generalize upd H3 c2 (.lst (rv.map V.str++b.reverse.map V.str))=H4 at t2 ai;obtain⟨W,k2⟩:=(h.same t2).setL (v:=.ref c2) (t2 _ _ ao) (fun e=>by cases e);apply .inl ⟨a.x,cc 9,dx,fs,rfl,t2 _ _ ao,T.fcl,T.fa _ (by room),W,?_⟩;have dt:c2≠a.x:=fun z=>n2 (Fo.sub _ (by rw[z];simp[Fo.six]));show q2 _ c2 _ k2 ((Bx.of t2).upd (by simp[Fo.six])) (by rw[qf dt];show ai) n2 (I.aug g.gr hv hw hl s (by rw[ae,af];simpa using aa) ci) (by rw[yt,Yt];lk) ⟨l,l',rv,b,hl,s,by rw[ae,af,xn,xn];show fun z=>aa (ym z),hv,hw,rfl⟩
theorem Kt:FnScope ["self","place","other","partner"] ["self","place"] (qh je):=fS
noncomputable def FS.setPar(S:FS)(u p:Str):FS:=⟨S.rows,fun s=>if s=u then some p else S.par s,S.bas⟩
noncomputable def nbL(ss:LS)(ns:LN)(v:Str):LS:=inB ss 0 (ns.getD (ss.idxOf v) 0)
inductive LaR(qs:LP)(ss:LS)(v:Str):LS->FS->FS->LS->Option (LS)->Prop
 | nil {S:FS}:LaR qs ss v [] S S [] none
 | bt {S S1 S2:FS} {u:Str} {l m1 m2:LS} {o:Option (LS)}:S.rows u≠none->BtR qs ss S v u S1 m1->LaR qs ss v l S1 S2 m2 o->LaR qs ss v (u::l) S S2 (m1++m2) o
 | row {S:FS} {u:Str} {l r:LS}:S.rows u≠none->BtL qs S v u r->LaR qs ss v (u::l) S S [] (some r)
 | old {S S1:FS} {u:Str} {l m:LS} {o:Option (LS)}:S.rows u=none->S.par u≠none->LaR qs ss v l S S1 m o->LaR qs ss v (u::l) S S1 m o
 | new {S S1:FS} {u y:Str} {l m rv:LS} {o:Option (LS)}:S.rows u=none->S.par u=none->pt qs u=some y->S.rows v=some rv->LaR qs ss v l ((S.setPar u v).setRow y (rv++[u,y])) S1 m o->LaR qs ss v (u::l) S S1 ([y]++m) o
theorem LaR.det{v:Str}{l m a:LS}{o:Option (LS)}(h:LaR qs ss v l S S1 m o):LaR qs ss v l S S2 a o'->S1=S2/\m=a/\o=o':=by
 induction h generalizing S2 a o' with
 | nil=>intro g;cases g;show⟨rfl,rfl,rfl⟩
 | bt h1 h2 _ ih =>
  intro g
  cases g with
  | bt g1 g2 g3 =>
   obtain⟨rfl,rfl⟩:=h2.det g2;obtain⟨rfl,rfl,rfl⟩:=ih g3;show⟨rfl,rfl,rfl⟩
  | row g1 g2=>show(g2.not h2).elim
  | old g1 _ _=>show absurd g1 h1
  | new g1 _ _ _ _=>show absurd g1 h1
 | row h1 h2 =>
  intro g
  cases g with
  | bt g1 g2 g3=>show(h2.not g2).elim
  | row g1 g2=>rw[h2.det g2];show⟨rfl,rfl,rfl⟩
  | old g1 _ _=>show absurd g1 h1
  | new g1 _ _ _ _=>show absurd g1 h1
 | old h1 h2 _ ih =>
  intro g
  cases g with
  | bt g1 g2 g3=>show absurd h1 g1
  | row g1 g2=>show absurd h1 g1
  | old _ _ g3=>show ih g3
  | new _ g2 _ _ _=>show absurd g2 h2
 | new h1 h2 h3 h4 _ ih =>
  intro g
  cases g with
  | bt g1 g2 g3=>show absurd h1 g1
  | row g1 g2=>show absurd h1 g1
  | old _ g2 _=>show absurd h2 g2
  | new _ _ g3 g4 g5 =>
   rw[h3] at g3;cases g3;rw[h4] at g4;cases g4;obtain⟨rfl,rfl,rfl⟩:=ih g5;show⟨rfl,rfl,rfl⟩
theorem drop_at{l:LS}(h:l[i]?=some u):l.drop i=u::l.drop (i+1):=by
 obtain⟨a,e⟩:=yc.mp h;rw[List.drop_eq_getElem_cons a,e]
inductive spLa(cc:Nat->Addr)(cw:Addr)(vs:List V)(H:Hp)(Q:VK)(E:XK):Prop|mk (H0:Hp) (a:Fo) (ss:LS) (ns:LN) (qs:LP) (S:FS) (dn wt:LS) (v:Str) (A:Str->Str->Prop) (_:vs=[.ref a.x,.str v]) (_:FoA (cc 9) cw H0 H a ss ns qs S ss (dn++[v]) wt .non) (_:Wb A ss qs) (_:(∀ s∈ss,zP s=true)) (_:(∀(j:Nat) z u,ss[j]?=some z->(u∈inB ss 0 (ns.getD j 0)↔A z u))) (_:(∀ z∈ss,pt qs z=none->S.rows z≠none)) (_:FI A (pt qs) S) (_:CI A S (fun u=>u∈dn)) (_:(∀(H':Hp) (S':FS) (more:LS),FoA (cc 9) cw H0 H' a ss ns qs S' ss (dn++[v]) (wt++more) .non->Bx a.six H H'->FI A (pt qs) S'->CI A S' (fun u=>u∈dn++[v])->Mono S S'->LaR qs ss v (nbL ss ns v) S S' more none->Q .non H')) (_:∀(H':Hp) (S':FS) (more:LS) (t:Addr) (r:LS),FoA (cc 9) cw H0 H' a ss ns qs S' ss (dn++[v]) (wt++more) (.ref t)->Bx a.six H H'->H' t=some (.lst (r.map V.str))->t∉a.all->Aug A (pt qs) r->r.length<=28->LaR qs ss v (nbL ss ns v) S S' more (some r)->Q .non H')
theorem CI.on(h:CI A S Pd)(m:Mono S S'):CI A S' Pd:=h.mono m.ba m.pa fun u a=>by
 cases e:S.rows u with
 | none=>show absurd e a
 | some r=>rw[m.ro u r e];show fun z=>by cases z
theorem FoA.setP{a:Fo}{bs:LS}{d:List (Key×V)}{p:Str}(h:FoA (cc 9) cw H0 H a ss ns qs S bs dn wt lo)(D:H a.da=some (.dK d))(g:u∈ss)(f:S.par u=none):FoA (cc 9) cw H0 (upd H a.da (.dK (zJ d (Sum.inr u) (.str p)))) a ss ns qs (S.setPar u p) bs dn wt lo/\d.length<=ss.length:=by
 obtain⟨F,R,T,U⟩:=h.row;obtain⟨k',r,N,O⟩:=h.par;obtain⟨k,t,w,A⟩:=h.bas;obtain⟨xs,B,C⟩:=h.rng;rw[D] at r;cases r;obtain⟨⟨W,K,X,Y,Z⟩,⟨L,n7,n8,n9⟩,⟨i,j,l⟩,⟨G,I⟩,J⟩:=(by simpa [Fo.six] using h.sep:(¬a.x=a.dr/\¬a.x=a.da/\¬a.x=a.ds/\¬a.x=a.dg/\¬a.x=a.dw)/\(¬a.dr=a.da/\¬a.dr=a.ds/\¬a.dr=a.dg/\¬a.dr=a.dw)/\(¬a.da=a.ds/\¬a.da=a.dg/\¬a.da=a.dw)/\(¬a.ds=a.dg/\¬a.ds=a.dw)/\¬a.dg=a.dw);have n:Bx a.six H (upd H a.da (.dK (zJ d (Sum.inr u) (.str p)))):=(Bx.of (Sr H)).upd (by simp[Fo.six]);obtain⟨P,M,q,m⟩:=N;show⟨⟨qaE h.sm (h.fr _ (by simp[Fo.six])),h.web,h.prt,h.fr,h.nd,fun c hc=>⟨(h.exf c hc).1,(h.exf c hc).2.1,(h.exf c hc).2.2.elim fun o e=>⟨o,n _ _ (h.exf c hc).2.1 e⟩⟩,h.obj.eq (qf K),⟨F,by rw[qf L];show R,T,fun y=>(U y).mono n Fo.sub⟩,⟨_,qb,⟨P++[u],by have:=jF d (Sum.inr u:Key) (.str p);rw[yt];show _<=_+1;lk,Yc.mpr ⟨q,List.pairwise_singleton _ _,fun x b y E e=>(m u (by rw[<- yz.mp E,<- e];show b)).2 f⟩,fun x b=>?_⟩,fun s=>?_⟩,⟨k,by rw[qf (Yn i)];show t,w,A⟩,⟨xs,by rw[qf (Yn j)];show B,C⟩,by rw[qf (Yn l)];show h.wai,h.evn,h.evi,h.evs⟩,yi M (zE q fun x b=>(m x b).1)⟩
 .show x∈ss/\(if x=u then some p else S.par x)≠none;by_cases e:x=u
  .rw [yG e,e];show⟨g,fun z=>by cases z⟩
  .rw [yC e];show m x ((yB.mp b).resolve_right fun z=>e (yz.mp z))
 .rw [qaN,O];show _=(if s=u then some p else S.par s).map V.str;by_cases e:s=u
  .subst e;rw[yG rfl,yG rfl];rfl
  .rw [yC (fun x=>e (xk x)),yC e]
theorem ok_la(F:Fun K "look_around" "Forest.look_around" je f fd)(T:Txt K mg cc cw)(Ky:MethOk P w K mg base CX0 6 cw "beside" ["self","place"] (spBs cw))(K2:MethOk P w K mg base CX0 3 (cc 9) "bring_together" ["self","one","other"] (spBt cc cw))(Ks:MethOk P w K mg base CX0 1 (cc 9) "reach" ["self","place","row"] (spRe cc cw)):FnOk P w K mg base CX0 7 f fd ["self","place"] (spLa cc cw):=by
 show F.ok Kt fun _ _ _ s H vs Q E hr h=>?_
 .obtain⟨H0,a,ss,ns,qs,S,dn,wt,v,B,rfl,h,c,bh,av,bc,I,hC,q1,q2⟩:=h;have U:=zd hr;show⟨_,(qe (jp yZ rfl (qR (K:=K) rfl (qI Ky (hmR hr) (qC (K:=K) rfl (pv 0) rfl) (qa (pv 1) qd))) (qt (i:=2) Kt.nd rfl (yK rfl))
 (qc (qH (qk (zC (K:=K) rfl U) (pv 2) (qC (K:=K) rfl (pv 0) rfl) (by with_unfolding_all rfl)) (qe (qU (qI K2 (hmR hr) (pv 0) (qa (pv 1) (qa (pv 2) qd))))) (qe (qH (qk (jB (K:=K) rfl U) (pv 2) (qC (K:=K) rfl (pv 0) rfl) (by with_unfolding_all rfl)) (qc (qo (i:=3) Kt.nd rfl (yK rfl) (qv (qw (K:=K) rfl U) (qC (K:=K) rfl (pv 0) rfl) (pv 2) (fun _ _=>rfl)))
 (qc (jQ (pv 1) (j7 (qC (K:=K) rfl (pv 0) rfl) (pv 2) (j9 U)))
 (qe (qU (qI Ks (hmR hr) (pv 0) (qa (pv 3) (qa (qG (zu (K:=K) rfl) (qv (qw (K:=K) rfl U) (qC (K:=K) rfl (pv 0) rfl) (pv 1) (fun _ _=>rfl)) (qQ (qa (pv 2) (qa (pv 3) qd)))) qd))))))) qr)))
 (qe (qH (qk qcP (qC (K:=K) rfl (pv 0) rfl) ju (qz _)) (qe ps_retN) qr))))),?_⟩
  have am:v∈ss:=h.evs v (by simp)
  obtain⟨rv,az⟩:∃ r,S.rows v=some r:=by
   cases e:S.rows v with
   | none=>show absurd e ((h.evi v).mp (by simp))
   | some r=>show⟨r,rfl⟩
  obtain⟨j,hj⟩:=yf am;have af:=h.web.same h.sm;obtain⟨wx,dd,ol,nn,hb,_⟩:=id af;apply .inl (h.obj.rd T 0 rfl ?_);show⟨a.b,wx,_,rfl,hb,zq (by room),?_⟩;apply⟨a.b,ss,ns,v,j,rfl,af,hj,fun H1 s1 bl ag=>?_⟩;have l:=fun u=>av j v u hj;have O:(inB ss 0 (ns.getD j 0)).length<=14:=yi (qa5 _ _ _) c.few;unfold nbL at q1 q2;rw[qbO c.nd hj] at q1 q2;generalize inB ss 0 (ns.getD j 0)=bes at l O q1 q2 ⊢;have bf:=(h.same s1).new ag;have s2:=qF s1 (o:=.lst (bes.map V.str)) ag;have eb:upd H1 bl (.lst (bes.map V.str)) bl=some (.lst (bes.map V.str)):=qb;generalize upd H1 bl (.lst (bes.map V.str))=H2 at s2 eb;have h2:=h.same s2;show .inl ⟨⟨_,.of eb⟩,jo (xs:=bes.map V.str) (fun i σ J=>∃(S':FS) (more:LS) (y2 y3:Option V),σ=[some (.ref a.x),some (.str v),y2,y3]/\FoA (cc 9) cw H0 J a ss ns qs S' ss (dn++[v]) (wt++more) .non/\Bx a.six H2 J/\FI B (pt qs) S'/\Mono S S'/\(∀ Sf mf o,LaR qs ss v (bes.drop i) S' Sf mf o->LaR qs ss v bes S Sf (more++mf) o)/\∀ u∈bes.take i,S'.bas u=S'.bas v\/(S'.par u≠none/\u∉dn++[v])) ⟨S,[],_,_,rfl,by rw[Yb];show h2,fun _ _ _ e=>e,I,Mono.refl S,(fun _ _ _ z=>z),(fun u U=>by simp at U)⟩ (fun i σ J _ hp=>?_) (fun i y σ J hy hp=>?_) fun σ J hp=>?_⟩
  .obtain⟨S',more,y2,y3,rfl,_,A,_⟩:=hp;show .of (A _ _ bf eb)
  .obtain⟨S',more,y2,y3,rfl,g,A,D,C,N,M⟩:=hp;rw[yd] at hy;obtain⟨u,X,rfl⟩:=yn.mp hy;have Y:B v u:=(l u).mp (ye X);have ak:u∈ss:=c.inn _ _ (c.gr.as Y);have d:=C.ro v rv az;have R:bes.take (i+1)=bes.take i++[u]:=by rw[yR,X];rfl
   rw[drop_at X] at N;obtain⟨kr,r1,r2,r3⟩:=g.row;have t:=r3 u;apply .inl (g.obj.rd T 2 rfl ?_);show .inr (.inl ⟨a.dr,_,rfl,DGet.k (k:=Sum.inr u) r1,?_⟩)
   cases m:S'.rows u with
   | some ru =>
    rw[m] at t;obtain⟨tu,k1,k2,_⟩:=t;rw[k1];show⟨_,rfl,zm ?_⟩;ext;obtain⟨dx,fs,Z,_,_,_,aa⟩:=id g.obj;show⟨a.x,dx,fs,rfl,Z,aa _ (by room),?_⟩;apply⟨H0,a,ss,ns,qs,S',dn++[v],wt++more,v,u,rv,ru,B,rfl,g,c,D,d,m,Y,fun H5 S5 be h5 G I5 au m5 L=>?_,fun H5 t5 r5 h5 G e5 n5 aq ax L=>?_⟩
    .ext;show .inl (h5.obj.rd T 7 rfl ?_);apply⟨rfl,_,rfl,qL (fun h=>by simp at h) fun _=>?_⟩;show⟨S5,more++be,_,_,rfl,by rw[<- Yi wt];show h5,A.trans G,I5,C.trans m5,(fun Sf mf o z=>by rw[Yi];show N _ _ _ (.bt (by rw[m];show fun z=>by cases z) L z)),fun z hz=>?_⟩;rw[R] at hz;rcases yB.mp hz with hz | hz
     .show(M z hz).imp (m5.ba z v) fun y=>⟨m5.pa z y.1,y.2⟩
     .rw [yz.mp hz];show .inl au.symm
    .ext;show .inl (h5.obj.rd T 7 rfl ?_);apply⟨rfl,_,rfl,zm ?_⟩;show q2 H5 S' more t5 r5 h5 (((Bx.of s2).trans A).trans G) e5 n5 aq ax (by have:=N _ _ _ (.row (by rw[m];show fun z=>by cases z) L);rwa[Yb] at this)
   | none =>
    rw[m] at t;have ai:jR kr (.inr u:Key)=none:=t;rw[ai];have aj:u∉dn++[v]:=fun z=>(g.evi u).mp (yM _ z) m;show⟨_,rfl,qL (fun h=>by cases h) fun _=>?_⟩;obtain⟨ka,p1,p2,p3⟩:=g.par;apply .inl (g.obj.rd T 3 rfl ?_);show .inr (.inl ⟨a.da,_,rfl,DGet.k (k:=Sum.inr u) p1,?_⟩);rw[p3]
    cases ep:S'.par u with
    | some z =>
     show⟨_,rfl,qL (fun h=>by cases h) fun _=>?_⟩;apply .inl (g.obj.rd T 7 rfl ?_);apply⟨rfl,_,rfl,qL (fun h=>by simp at h) fun _=>?_⟩;show⟨S',more,_,_,rfl,g,A,D,C,(fun Sf mf o z=>N _ _ _ (.old m (by rw[ep];show fun z=>by cases z) z)),fun z hz=>?_⟩;rw[R] at hz;rcases yB.mp hz with hz | hz
     .show M z hz
     .rw [yz.mp hz];show .inr ⟨by rw[ep];show(fun y=>by cases y),aj⟩
    | none =>
     show⟨_,rfl,zm ?_⟩
     obtain⟨y,n⟩:∃ y,pt qs u=some y:=by
      cases e:pt qs u with
      | some y=>show⟨y,rfl⟩
      | none =>
       exfalso;have k:=bc u ak e
       cases e2:S.rows u with
       | none=>show k e2
       | some r=>rw[C.ro u r e2] at m;cases m
     have bd:y∈ss:=c.inn _ _ (c.gr.as (c.gr.fa n));have an:=D.fresh c.gr m ep n;have ay:=g.sm _ _ h.prt;obtain⟨h3,bg⟩:=g.setP (p:=v) p1 ak ep;have bj:=c.few;apply .inl (g.obj.rd T 1 rfl ?_);apply qep ay (by rw[jV,n];rfl) ?_;apply .inl (g.obj.rd T 3 rfl ?_);apply .inr ⟨a.da,_,rfl,DPut.k (k:=Sum.inr u) p1 (by rw[Yy];lk),?_⟩;have ac:Bx a.six H2 (upd J a.da (.dK (zJ ka (Sum.inr u) (.str v)))):=A.upd (by simp[Fo.six]);generalize upd J a.da (.dK (zJ ka (Sum.inr u) (.str v)))=J3 at h3 ac;ext;obtain⟨dx,fs,Z,_,_,_,aa⟩:=id h3.obj;show⟨a.x,dx,fs,rfl,Z,aa _ (by room),?_⟩;apply .inl (h3.obj.rd T 2 rfl ?_);apply h3.rowAt (S:=S'.setPar u v) d fun tv ap=>?_;apply⟨by show 2<=sizeLine;decide,fun c1 aw=>?_⟩;have t1:=qF (Sr J3) (o:=.lst [.str u,.str y]) aw;have ad:upd J3 c1 (.lst [.str u,.str y]) c1=some (.lst [.str u,.str y]):=qb;generalize upd J3 c1 (.lst [.str u,.str y])=J4 at t1 ad;have bi:=((D.alt v rv d).inn c am).1;show qeX (t1 _ _ ap) ad (by rw[ya];show _+2<=_;lk) fun c2 ah=>?_;have n2:=(h3.same t1).newA ah;have t2:=qF t1 (o:=.lst (rv.map V.str++[.str u,.str y])) ah;have ae:upd J4 c2 (.lst (rv.map V.str++[.str u,.str y])) c2=some (.lst ((rv++[u,y]).map V.str)):=by rw[qb,yx];rfl
     generalize upd J4 c2 (.lst (rv.map V.str++[.str u,.str y]))=J5 at t2 ae;apply⟨H0,a,ss,ns,qs,S'.setPar u v,ss,dn++[v],wt++more,.non,y,c2,rv++[u,y],rfl,h3.same t2,c.few,ae,n2,bd,an,fun H6 h6 ao _=>?_⟩;have W:Gw S' ((S'.setPar u v).setRow y (rv++[u,y])) v u y rv:=⟨yG rfl,fun s hs=>yC hs,yG rfl,fun s hs=>yC hs,rfl⟩;have I6:=D.grow c.gr d Y m ep n W
     have m6:Mono S' ((S'.setPar u v).setRow y (rv++[u,y])):=⟨fun _ _ e=>e,fun z hz=>by
      show(if z=u then some v else S'.par z)≠none;split
      .show fun x=>by cases x
      .show hz,fun z r e=>by rw[W.ro z (fun x=>by rw[x,an] at e;cases e)];show e⟩
     apply .inl (h6.obj.rd T 7 rfl ?_);apply⟨rfl,_,rfl,qL (fun h=>by simp at h) fun _=>?_⟩;show⟨_,more++[y],_,_,rfl,by rw[<- Yi wt];show h6,(ac.trans (Bx.of t2)).trans ao,I6,C.trans m6,(fun Sf mf o z=>by rw[Yi];show N _ _ _ (.new m ep n d z)),fun z hz=>?_⟩;rw[R] at hz;rcases yB.mp hz with hz | hz
     .show(M z hz).imp (m6.ba z v) fun y=>⟨m6.pa z y.1,y.2⟩
     .rw [yz.mp hz];show .inr ⟨by rw[W.pu];show(fun x=>by cases x),aj⟩
  .obtain⟨S',more,y2,y3,rfl,g,A,D,C,N,M⟩:=hp;rw[ya,yQ] at M;show q1 J S' more g ((Bx.of s2).trans A) D ?_ C (by have:=N _ _ _ (by rw[ya,List.drop_length];show .nil);rwa[Yb] at this);have ar:=hC.on C;show⟨fun z u hz q=>?_,fun z hz=>?_⟩
   .rcases yB.mp hz with hz1 | hz1
    .by_cases al:u=v
     .rw [al] at q ⊢;rcases M z ((l z).mpr (c.gr.as q)) with y | y
      .show .inl y.symm
      .show absurd (yM _ hz1) y.2
     .rcases ar.cl z u hz1 q with y | ⟨y1,y2⟩
      .show .inl y
      .show .inr ⟨y1,fun x=>(yB.mp x).elim y2 fun x=>al (yz.mp x)⟩
    .rw [yz.mp hz1] at q ⊢;show M u ((l u).mpr q)
   .show(g.evi z).mp (yM _ hz)
theorem K4:FnScope ["self","place"] ["self"] (qh zg):=fS
noncomputable def S0:FS:=⟨fun _=>none,fun _=>none,fun s=>s⟩
noncomputable def SI(qs:LP)(l:LS):FS:=⟨fun s=>if s∈l/\pt qs s=none then some [s] else none,fun _=>none,fun s=>s⟩
inductive GwR(qs:LP)(ss:LS)(ns:LN):FS->LS->FS->Option (LS)->Prop
 | nil {S:FS}:GwR qs ss ns S [] S none
 | row {S S1:FS} {v:Str} {wt m r:LS}:LaR qs ss v (nbL ss ns v) S S1 m (some r)->GwR qs ss ns S (v::wt) S1 (some r)
 | on {S S1 S2:FS} {v:Str} {wt m:LS} {o:Option (LS)}:LaR qs ss v (nbL ss ns v) S S1 m none->GwR qs ss ns S1 (wt++m) S2 o->GwR qs ss ns S (v::wt) S2 o
theorem GwR.det{o:Option (LS)}(h:GwR qs ss ns S wt S1 o):GwR qs ss ns S wt S2 o'->S1=S2/\o=o':=by
 induction h generalizing S2 o' with
 | nil=>intro g;cases g;show⟨rfl,rfl⟩
 | row h =>
  intro g
  cases g with
  | row g =>
   obtain⟨a,_,c⟩:=h.det g;show⟨a,c⟩
  | on g _=>cases (h.det g).2.2
 | on h _ ih =>
  intro g
  cases g with
  | row g=>cases (h.det g).2.2
  | on g k =>
   obtain⟨a,b,_⟩:=h.det g;subst a;subst b;show ih k
def LoV(H:Hp)(lo:V)(o:Option (LS)):Prop:=(lo=.non/\o=none)\/∃ t r,lo=.ref t/\H t=some (.lst (r.map V.str))/\o=some r
noncomputable def sgL(qs:LP)(l:LS):LS:=l.filter fun s=>(pt qs s).isNone
structure FoD(cf cw:Addr)(H0 H:Hp)(a:Fo)(ss:LS)(ns:LN)(qs:LP)(S:FS)(dn wt:LS)(lo:V)(A:Str->Str->Prop):Prop where
 fo:FoA cf cw H0 H a ss ns qs S ss dn wt lo
 en:(lo=.non/\wt=[]/\FI A (pt qs) S/\CI A S (fun u=>u∈dn)/\∀ z∈ss,pt qs z=none->S.rows z≠none)\/∃ t r,lo=.ref t/\H t=some (.lst (r.map V.str))/\t∉a.all/\Aug A (pt qs) r/\r.length<=28
 gw:∃ o,GwR qs ss ns (SI qs ss) (sgL qs ss) S o/\LoV H lo o
theorem SI_nil(qs:LP):SI qs []=S0:=by unfold SI S0;simp
theorem SI_on{l:LS}(h:pt qs z=none):SI qs (l++[z])=(SI qs l).setRow z [z]:=by
 unfold SI FS.setRow
 congr 1
 funext s;dsimp only;by_cases e:s=z
 .subst e;rw[yG ⟨by simp,h⟩,yG rfl]
 .rw [yC e];have:s∈l++[z]↔s∈l:=by simp[e]
  simp only[this]
theorem SI_off{l:LS}(h:pt qs z≠none):SI qs (l++[z])=SI qs l:=by
 unfold SI
 congr 1
 funext s;by_cases e:s=z
 .subst e;rw[yC (fun k=>h k.2),yC (fun k=>h k.2)]
 .have:s∈l++[z]↔s∈l:=by simp[e]
  simp only[this]
inductive spGw(cc:Nat->Addr)(cw:Addr)(vs:List V)(H:Hp)(Q:VK)(E:XK):Prop|mk (H0:Hp) (a:Fo) (ss:LS) (ns:LN) (qs:LP) (A:Str->Str->Prop) (_:vs=[.ref a.x]) (_:FoA (cc 9) cw H0 H a ss ns qs S0 [] [] [] .non) (_:Wb A ss qs) (_:(∀ s∈ss,zP s=true)) (_:(∀(j:Nat) z u,ss[j]?=some z->(u∈inB ss 0 (ns.getD j 0)↔A z u))) (_:∀(H':Hp) (S:FS) (dn wt:LS) (lo:V),FoD (cc 9) cw H0 H' a ss ns qs S dn wt lo A->Bx a.six H H'->Q .non H')
theorem ix_natF{k:Nat}(h:k<n):seqIndex? (k:Int) n=some k:=by
 unfold seqIndex?;simp;lk
theorem nin_prF{d:Addr}{Q:VK}(a:H d=some (.dK (prK qs)))(q:Q (.bl (!(pt qs s).isSome)) H):qdW K true (.str s) (.ref d) H Q:=by
 show .inr (.inl ⟨d,_,rfl,DGet.k (k:=Sum.inr s) a,?_⟩);rw[jV,yG rfl,Xd];show q
theorem FoA.ne{a:Fo}{bs:LS}(h:FoA (cc 9) cw H0 H a ss ns qs S bs dn wt lo):(¬a.x=a.dr/\¬a.x=a.da/\¬a.x=a.ds/\¬a.x=a.dg/\¬a.x=a.dw)/\(¬a.dr=a.da/\¬a.dr=a.ds/\¬a.dr=a.dg/\¬a.dr=a.dw)/\(¬a.da=a.ds/\¬a.da=a.dg/\¬a.da=a.dw)/\(¬a.ds=a.dg/\¬a.ds=a.dw)/\¬a.dg=a.dw:=by simpa [Fo.six] using h.sep
theorem FoA.setN{a:Fo}{bs:LS}{ks:List (Key×V)}(h:FoA (cc 9) cw H0 H a ss ns qs S bs dn wt lo)(p:H a.ds=some (.dK ks))(hz:S.bas z=z):FoA (cc 9) cw H0 (upd H a.ds (.dK (zJ ks (Sum.inr z) (.str z)))) a ss ns qs S (bs++[z]) dn wt lo/\ks.length<=bs.length:=by
 obtain⟨s,G,I,J⟩:=h.row;obtain⟨r,D,E,F⟩:=h.par;obtain⟨k,g,j,l⟩:=h.bas;obtain⟨xs,m,n⟩:=h.rng;rw[p] at g;cases g;obtain⟨⟨K,L,B,M,N⟩,⟨O,C,P,R⟩,⟨b,t,w⟩,⟨d,f⟩,A⟩:=h.ne;have i:Bx a.six H (upd H a.ds (.dK (zJ ks (Sum.inr z) (.str z)))):=(Bx.of (Sr H)).upd (by simp[Fo.six]);show⟨⟨qaE h.sm (h.fr _ (by simp[Fo.six])),h.web,h.prt,h.fr,h.nd,fun c hc=>⟨(h.exf c hc).1,(h.exf c hc).2.1,(h.exf c hc).2.2.elim fun o e=>⟨o,i _ _ (h.exf c hc).2.1 e⟩⟩,h.obj.eq (qf B),⟨s,by rw[qf C];show G,I,fun y=>(J y).mono i Fo.sub⟩,⟨r,by rw[qf b];show D,E,F⟩,⟨_,qb,by have:=jF ks (Sum.inr z:Key) (.str z);rw[yt];show _<=_+1;lk,fun u q=>?_⟩,⟨xs,by rw[qf (Yn d)];show m,n⟩,by rw[qf (Yn f)];show h.wai,h.evn,h.evi,h.evs⟩,j⟩;rw[qaN];by_cases e:u=z
 .subst e;rw[yG rfl,hz]
 .rw [yC (fun x=>e (xk x))];show l u ((yB.mp q).resolve_right fun y=>e (yz.mp y))
theorem FoA.pop{a:Fo}{bs:LS}{v:Str}(h:FoA (cc 9) cw H0 H a ss ns qs S bs dn (v::wt) lo):FoA (cc 9) cw H0 (upd H a.dw (.lst (wt.map V.str))) a ss ns qs S bs (dn++[v]) wt lo:=by
 obtain⟨r,C,D,E⟩:=h.row;obtain⟨q,z,A,B⟩:=h.par;obtain⟨k,j,l,m⟩:=h.bas;obtain⟨xs,n,p⟩:=h.rng;obtain⟨⟨F,G,I,J,w⟩,⟨K,L,M,x⟩,⟨s,t,d⟩,⟨u,f⟩,g⟩:=h.ne;have b:dn++[v]++wt=dn++v::wt:=by simp
 have i:Bx a.six H (upd H a.dw (.lst (wt.map V.str))):=(Bx.of (Sr H)).upd (by simp[Fo.six]);show⟨qaE h.sm (h.fr _ (by simp[Fo.six])),h.web,h.prt,h.fr,h.nd,fun c hc=>⟨(h.exf c hc).1,(h.exf c hc).2.1,(h.exf c hc).2.2.elim fun o e=>⟨o,i _ _ (h.exf c hc).2.1 e⟩⟩,h.obj.eq (qf w),⟨r,by rw[qf x];show C,by rw[b];show D,fun y=>(E y).mono i Fo.sub⟩,⟨q,by rw[qf d];show z,A,B⟩,⟨k,by rw[qf f];show j,l,m⟩,⟨xs,by rw[qf g];show n,by rw[b];show p⟩,qb,by rw[b];show h.evn,by rw[b];show h.evi,by rw[b];show h.evs⟩
theorem ok_gw(F:Fun K "grow" "Forest.grow" zg f fd)(T:Txt K mg cc cw)(Kk:MethOk P w K mg base CX0 1 cw "places" ["self"] (spPls cw))(Ks:MethOk P w K mg base CX0 1 (cc 9) "reach" ["self","place","row"] (spRe cc cw))(K8:MethOk P w K mg base CX0 7 (cc 9) "look_around" ["self","place"] (spLa cc cw)):FnOk P w K mg base CX0 8 f fd ["self"] (spGw cc cw):=by
 show F.ok K4 fun _ _ _ _ H vs Q E hr h=>?_
 .obtain⟨H0,a,ss,ns,qs,B,rfl,h,G,an,aj,q⟩:=h;have hu:=zd hr;have ap:=G.few;show⟨_,(qc (jp yZ rfl (qR (K:=K) rfl (jk Kk (hmR hr) (qC (K:=K) rfl (pv 0) rfl))) (qt (i:=1) K4.nd rfl (yK rfl))
 (qc (jQ (pv 1) (j7 (qC (K:=K) rfl (pv 0) rfl) (pv 1) (j9 hu)))
 (qe (qH (qk (jB (K:=K) rfl hu) (pv 1) (qC (K:=K) rfl (pv 0) rfl) (by with_unfolding_all rfl)) (qe (qU (qI Ks (hmR hr) (pv 0) (qa (pv 1) (qa (qQ (qa (pv 1) qd)) qd))))) qr))))
 (qe (qaK yZ (PW.pt (qbm (qk qdP (qj (jK (K:=K) rfl) rfl T.b_len YC (qa (qC (K:=K) rfl (pv 0) rfl) qd)) qg (qz _)) (qa1 (qk qfE (qC (K:=K) rfl (pv 0) rfl) ju (qz _)))))
 (qe (qU (qI K8 (hmR hr) (pv 0) (qa (qa4 (K:=K) rfl yL PySem.F.slot_list_pop PySem.F.type_list_pop mtR_popAt (qC (K:=K) rfl (pv 0) rfl) (qa qg qd)) qd))))))),?_⟩
  have ac:=h.web.same h.sm;obtain⟨wx,dd,ol,nn,hb,_⟩:=id ac;apply .inl (h.obj.rd T 0 rfl ?_);show⟨a.b,wx,_,rfl,hb,zq (by room),?_⟩;apply⟨a.b,ss,ns,rfl,ac,fun pl ae=>?_⟩;have as:=h.new ae;have s1:=qF (Sr H) (o:=.lst (ss.map V.str)) ae;have e1:upd H pl (.lst (ss.map V.str)) pl=some (.lst (ss.map V.str)):=qb;generalize upd H pl (.lst (ss.map V.str))=H1 at s1 e1;show .inl ⟨⟨_,.of e1⟩,jo (xs:=ss.map V.str) (fun i σ J=>∃(Y:Option V),σ=[some (.ref a.x),Y]/\FoA (cc 9) cw H0 J a ss ns qs (SI qs (ss.take i)) (ss.take i) [] (sgL qs (ss.take i)) .non/\Bx a.six H1 J) ⟨_,rfl,by rw[kZ,SI_nil];show h.same s1,fun _ _ _ e=>e⟩ (fun i σ J _ n=>?_) (fun i y σ J hy n=>?_) fun σ J n=>?_⟩
  .obtain⟨Y,rfl,_,Z⟩:=n;show .of (Z _ _ as e1)
  .obtain⟨Y,rfl,X,Z⟩:=n;rw[yd] at hy;obtain⟨z,hz,rfl⟩:=yn.mp hy;have aw:=(yc.mp hz).1;have ar:=ye hz;have af:ss.take (i+1)=ss.take i++[z]:=by rw[yR,hz];rfl
   obtain⟨ks,b1,b2,b3⟩:=X.bas;rw[yT] at b2;obtain⟨C,_⟩:=X.setN (z:=z) b1 rfl;apply .inl (X.obj.rd T 4 rfl ?_);apply .inr ⟨a.ds,_,rfl,DPut.k (k:=Sum.inr z) b1 (by rw[Yy];lk),?_⟩;have p:Bx a.six H1 (upd J a.ds (.dK (zJ ks (Sum.inr z) (.str z)))):=Z.upd (by simp[Fo.six]);generalize upd J a.ds (.dK (zJ ks (Sum.inr z) (.str z)))=J2 at C p;have ao:=C.sm _ _ h.prt;apply .inl (C.obj.rd T 1 rfl ?_);show nin_prF ao ⟨_,rfl,?_⟩
   cases ez:pt qs z with
   | some y =>
    show yq ?_;have es:sgL qs (ss.take i++[z])=sgL qs (ss.take i):=by unfold sgL;rw[Yh,yU,ez];simp
    show⟨_,rfl,by rw[af,SI_off (by rw[ez];show fun k=>nomatch k),es];show C,p⟩
   | none =>
    show zm ?_;ext;obtain⟨dx,fs,O,_,_,_,R⟩:=id C.obj;show⟨a.x,dx,fs,rfl,O,R _ (by room),?_⟩;apply⟨by show 1<=sizeLine;decide,fun c1 ad=>?_⟩;have n1:=C.newA ad;have t1:=qF (Sr J2) (o:=.lst [.str z]) ad;have aa:upd J2 c1 (.lst [.str z]) c1=some (.lst ([z].map V.str)):=qb;generalize upd J2 c1 (.lst [.str z])=J3 at t1 aa
    have aq:z∉ss.take i:=fun y=>by
     obtain⟨j,hj⟩:=yf y;have ak:=(yc.mp hj).1;rw[yT] at ak;rw[List.getElem?_take,yG (by lk)] at hj;have:=qA G.nd hj hz;lk
    apply⟨H0,a,ss,ns,qs,SI qs (ss.take i),ss.take i++[z],[],sgL qs (ss.take i),.non,z,c1,[z],rfl,C.same t1,ap,aa,n1,ar,yC (fun k=>aq k.1),fun H6 h6 ah _=>?_⟩;have es:sgL qs (ss.take i++[z])=sgL qs (ss.take i)++[z]:=by unfold sgL;rw[Yh,yU,ez];simp
    show⟨_,rfl,by rw[af,SI_on ez,es];show h6,(p.trans (Bx.of t1)).trans ah⟩
  .obtain⟨Y,rfl,X,Z⟩:=n;rw[ya,yQ] at X;have ag:Bx a.six H J:=(Bx.of s1).trans Z
   have IJ:FI B (pt qs) (SI qs ss):=FI.start (fun v r e=>by
    have e':(if v∈ss/\pt qs v=none then some [v] else none)=some r:=e;split at e'
    .rename_i k;show⟨k.2,(ym e').symm⟩
    .cases e') (fun _=>rfl) fun _=>rfl
   ext;obtain⟨W,g⟩:∃ W:Nat->L2.St->Hp->Prop,W=fun m σ J=>∃(S:FS) (dn wt:LS) (lo:V) (Y:Option V),σ=[some (.ref a.x),Y]/\Bx a.six H J/\((lo=.non/\m=15-dn.length/\(∀ Sf o,GwR qs ss ns S wt Sf o->GwR qs ss ns (SI qs ss) (sgL qs ss) Sf o)/\FoA (cc 9) cw H0 J a ss ns qs S ss dn wt .non/\FI B (pt qs) S/\CI B S (fun u=>u∈dn)/\∀ z∈ss,pt qs z=none->S.rows z≠none)\/(lo≠.non/\m=0/\FoD (cc 9) cw H0 J a ss ns qs S dn wt lo B)):=⟨_,rfl⟩;show⟨W,⟨15,by rw[g];show⟨SI qs ss,[],_,.non,_,rfl,ag,.inl ⟨rfl,rfl,(fun _ _ z=>z),X,IJ,⟨(fun v u k=>by cases k),(fun v k=>by cases k)⟩,fun z hz e=>by show(if _ then _ else _)≠none;rw[yG ⟨hz,e⟩];show fun k=>by cases k⟩⟩⟩,fun m σ J hW=>?_⟩;rw[g] at hW;obtain⟨S,dn,wt,lo,ax,rfl,d,L⟩:=hW;rcases L with⟨rfl,hm,M,l,I,hC,N⟩ | ⟨am,hm,U⟩
   .have c:=l.wai;apply .inl (l.obj.rd T 6 rfl ?_);apply qac c ?_;rw[ya];ext
    cases wt with
    | nil =>
     show qL (fun h=>by simp at h) fun _=>qL (fun h=>by cases h) fun _=>?_;show q J S dn [] .non ⟨l,.inl ⟨rfl,rfl,I,hC,N⟩,none,M _ _ .nil,.inl ⟨rfl,rfl⟩⟩ d
    | cons v wt =>
     show qL (fun _=>?_) fun h=>absurd (yD (by simp)) h;apply .inl (l.obj.rd T 7 rfl ?_);apply⟨_,rfl,zm ⟨fun au H'=>∃ m',m'<m/\W m' au H',fun _ _ z=>z,?_⟩⟩;have av:dn.length+1<=14:=by have:=l.few;rw[yt,yH] at this;lk
     ext;obtain⟨dx,fs,O,_,_,_,R⟩:=id l.obj;show⟨a.x,dx,fs,rfl,O,R _ (by room),?_⟩;apply .inl (l.obj.rd T 6 rfl ?_);show⟨.inl ⟨rfl,_,.of c⟩,?_⟩;apply⟨a.dw,_,0,0,.str v,rfl,rfl,c,by decide,by decide,by rw[ya];show ix_natF (by simp),rfl,?_⟩;have n:=l.pop;have A:Bx a.six H (upd J a.dw (.lst (wt.map V.str))):=d.upd (by simp[Fo.six]);ext;show spLa cc cw _ (upd J a.dw (.lst (wt.map V.str))) _ _;generalize upd J a.dw (.lst (wt.map V.str))=J2 at n A;show⟨H0,a,ss,ns,qs,S,dn,wt,v,B,rfl,n,G,an,aj,N,I,hC,fun H5 S5 mo h5 s I5 C5 m5 D=>?_,fun H5 S5 mo t5 r5 h5 s e5 n5 ai al D=>?_⟩
     .show⟨15-(dn++[v]).length,by rw[hm,yt];show _-(_+1)<_;lk,?_⟩;rw[g]
      show⟨S5,dn++[v],wt++mo,.non,_,rfl,A.trans s,.inl ⟨rfl,rfl,(fun Sf o z=>M _ _ (.on D z)),h5,I5,C5,fun z hz e=>(by
       have k:=N z hz e
       cases e2:S.rows z with
       | none=>show absurd e2 k
       | some r=>rw[m5.ro z r e2];show fun x=>by cases x)⟩⟩
     .show⟨0,by lk,?_⟩;rw[g];show⟨S5,dn++[v],wt++mo,.ref t5,_,rfl,A.trans s,.inr ⟨(fun e=>by cases e),rfl,⟨h5,.inr ⟨t5,r5,rfl,e5,n5,ai,al⟩,some r5,M _ _ (.row D),.inr ⟨t5,r5,rfl,e5,rfl⟩⟩⟩⟩
   .have c:=U.fo.wai;rcases U.en with k | ⟨t,r,rfl,_⟩
    .show absurd k.1 am
    apply .inl (U.fo.obj.rd T 6 rfl ?_);apply qac c ?_;apply qL (fun _=>?_) (fun _=>qL (fun h=>by cases h) fun _=>q J S dn wt _ U d);apply .inl (U.fo.obj.rd T 7 rfl ?_);apply⟨_,rfl,qL (fun h=>by cases h) fun _=>?_⟩;show q J S dn wt _ U d
theorem uF:FnScope ["self","web","pairs"] ["self","web","pairs"] (qh zh):=fS
theorem uN:FnScope ["self"] ["self"] (qh zA):=fS
theorem uk:FnScope ["self"] ["self"] (qh jm):=fS
noncomputable def qfx(p:Addr)(H:Hp):Hp:=fun b=>if b=p then none else H b
theorem zS{b:Addr}(h:b≠p):qfx p H b=H b:=yC h
theorem lkn{f g:Str}{v:V}{fs:List (Str×V)}(h:f≠g)(k:fs.lookup f=none):(qJ g v fs).lookup f=none:=by rw[qD,yC h];show k
inductive spFi(cc:Nat->Addr)(cw:Addr)(vs:List V)(H:Hp)(Q:VK)(E:XK):Prop|mk (x dx b r:Addr) (ss:LS) (ns:LN) (us:LQ) (tps qs:LP) (A:Str->Str->Prop) (_:vs=[.ref x,.ref b,.ref r]) (_:H x=some (.ins (cc 9) dx [])) (_:WebAt cw H b ss ns) (_:Adj ss ns tps) (_:Wb A ss qs) (_:(∀ s∈ss,zP s=true)) (_:(∀(j:Nat) z u,ss[j]?=some z->(u∈inB ss 0 (ns.getD j 0)↔A z u))) (_:PL H r us qs) (_:qs.length<=30) (_:(∀ q∈qs,(q∈tps\/(q.2,q.1)∈tps)/\q.1∈ss/\q.2∈ss/\q.1≠q.2)) (_:∀(H0 H':Hp) (a:Fo) (S:FS) (dn wt:LS) (lo:V),a.x=x->a.ex=[]->FoD (cc 9) cw H0 H' a ss ns qs S dn wt lo A->L2.Same (qfx x H) H0->Q .non H')
theorem WebAt.out{b:Addr}{fs:List (Str×V)}(h:WebAt cw H b ss ns)(a:H x=some (.ins (cc 9) dx fs))(hb:b≠x):WebAt cw (qfx x H) b ss ns:=by
 obtain⟨i,d,ol,n,h1,c,e,f,g⟩:=h;show⟨i,d,ol,n,(zS hb).trans h1,(zS ?_).trans c,(zS ?_).trans e,(zS ?_).trans f,g⟩
 .show zX c a (fun z=>by cases z)
 .show zX e a (fun z=>by cases z)
 .show zX f a (fun z=>by cases z)
theorem ok_fi(F:Fun K "__init__" "Forest.__init__" zh f fd)(T:Txt K mg cc cw)(Kh:DefOk P w K mg base CX0 9 "partners_in" ["web","pairs"] (spPn cw))(uO:MethOk P w K mg base CX0 8 (cc 9) "grow" ["self"] (spGw cc cw)):FnOk P w K mg base CX0 10 f fd ["self","web","pairs"] (spFi cc cw):=by
 show F.ok uF fun _ _ _ s H vs Q E hr h=>?_
 .obtain⟨x,dx,b,r,ss,ns,us,tps,qs,B,rfl,hx,hW,hA,bv,ci,cg,hP,cj,ck,q⟩:=h;have hu:=zd hr;show⟨_,(qc (j6 (K:=K) rfl (pv 0) (pv 1) rfl)
 (qc (j6 (K:=K) rfl (pv 0) (qp Kh (hmR hr) qB (qa (pv 1) (qa (pv 2) qd))) rfl)
 (qc (j6 (K:=K) rfl (pv 0) zc rfl)
 (qc (j6 (K:=K) rfl (pv 0) zc rfl)
 (qc (j6 (K:=K) rfl (pv 0) zc rfl)
 (qc (j6 (K:=K) rfl (pv 0) (qQ qd) rfl)
 (qc (j6 (K:=K) rfl (pv 0) (qQ qd) rfl)
 (qc (j6 (K:=K) rfl (pv 0) ju rfl)
 (qe (qU (jk uO (hmR hr) (pv 0)))))))))))),?_⟩
  have cb:b≠x:=fun e=>by
   obtain⟨wx,d,ol,n,hb,_⟩:=id hW;subst e;rw[hx] at hb;injection hb with hb;injection hb with _ _ hb;cases hb
  have cr:r≠x:=zX hP.1 hx (fun z=>by cases z)
  have cs:∀ u∈us,u≠x:=fun u hu=>by
   obtain⟨q,_,eu⟩:=hP.2.mem hu;show zX eu hx (fun z=>by cases z)
  have fa:∀ i,(h:i<8)->NoAttr K (cc 9) (fAtt.getD i ""):=fun i h=>T.fa _ (by have:i<fAtt.length:=h;rw[Yp,yb this];show YN this);apply .inl ⟨x,cc 9,dx,[],rfl,hx,T.fcl,fa 0 (by decide),by decide,?_⟩;have b1:=(But.refl x H).put (o:=.ins (cc 9) dx (qJ "board" (.ref b) []));have bq:upd H x (.ins (cc 9) dx (qJ "board" (.ref b) [])) x=some (.ins (cc 9) dx (qJ "board" (.ref b) [])):=qb;generalize upd H x (.ins (cc 9) dx (qJ "board" (.ref b) []))=H1 at b1 bq ⊢
  have keepW:∀{J:Hp},But x H J->WebAt cw J b ss ns:=fun k=>by
   obtain⟨wx,d,ol,n,h1,h2,h3,h4,h5⟩:=hW;show⟨wx,d,ol,n,k _ _ cb h1,k _ _ (zX h2 hx (fun z=>by cases z)) h2,k _ _ (zX h3 hx (fun z=>by cases z)) h3,k _ _ (zX h4 hx (fun z=>by cases z)) h4,h5⟩
  have ce:PL H1 r us qs:=⟨b1 _ _ cr hP.1,hP.2.len,fun k t ab ht cf=>b1 _ _ (cs t (ye ht)) (hP.2.at_ k t ab ht cf)⟩;apply⟨b,r,ss,ns,us,tps,qs,rfl,keepW b1,hA,ce,⟨ck,bv.qn,cj⟩,fun dp H2 s2 bh ch=>?_⟩;have bx:=s2 _ _ bq;have b2:=b1.same s2;have cq:dp≠x:=fun e=>by rw[e,bq] at bh;cases bh
  have hl:∀{f:Str} {v:V} {fs:List (Str×V)} {n:Nat},fs.length<=n->(qJ f v fs).length<=n+1:=fun h=>yi (jD _ _ _) (by lk);apply .inl ⟨x,cc 9,dx,_,rfl,bx,T.fcl,fa 1 (by decide),YD (hl (n:=0) (yh _)) (by decide),?_⟩
  have c3:L2.Same (qfx x H2) (upd H2 x (.ins (cc 9) dx (qJ "partners" (.ref dp) (qJ "board" (.ref b) [])))):=fun c o e=>by
   have hc:c≠x:=fun z=>by rw[z] at e;unfold qfx at e;rw[yG rfl] at e;cases e
   rw[zS hc] at e;rw[qf hc];show e
  have ap:upd H2 x (.ins (cc 9) dx (qJ "partners" (.ref dp) (qJ "board" (.ref b) []))) x=some (.ins (cc 9) dx (qJ "partners" (.ref dp) (qJ "board" (.ref b) []))):=qb;obtain⟨H0,ac⟩:∃ H0,H0=qfx x H2:=⟨_,rfl⟩;rw[<- ac] at c3;have D:H0 x=none:=by rw[ac];show yG rfl
  have l3:(qJ "partners" (.ref dp) (qJ "board" (.ref b) [])).length<=2:=hl (hl (n:=0) (yh _));generalize upd H2 x (.ins (cc 9) dx (qJ "partners" (.ref dp) (qJ "board" (.ref b) [])))=H3 at c3 ap ⊢;obtain⟨f3,bi⟩:∃ f3,f3=qJ "partners" (.ref dp) (qJ "board" (.ref b) []):=⟨_,rfl⟩;rw[<- bi] at ap l3;ext;intro m ao;have C:m≠x:=fun e=>by rw[e,ap] at ao;cases ao
  have cx:H0 m=none:=c3.free ao;have cl:upd H3 m (.dK []) x=some (.ins (cc 9) dx f3):=by rw[qf C.symm];show ap
  apply .inl ⟨x,cc 9,dx,_,rfl,cl,T.fcl,fa 2 (by decide),YD l3 (by decide),?_⟩;have c4:L2.Same H0 (upd (upd H3 m (.dK [])) x (.ins (cc 9) dx (qJ "rows" (.ref m) f3))):=qaE (qF c3 ao) D;have aq:(upd (upd H3 m (.dK [])) x (.ins (cc 9) dx (qJ "rows" (.ref m) f3))) x=some (.ins (cc 9) dx (qJ "rows" (.ref m) f3)):=qb;have l4:(qJ "rows" (.ref m) f3).length<=3:=hl l3;have U:(upd (upd H3 m (.dK [])) x (.ins (cc 9) dx (qJ "rows" (.ref m) f3))) m=some (.dK []):=by rw[qf C,qb]
  generalize upd (upd H3 m (.dK [])) x (.ins (cc 9) dx (qJ "rows" (.ref m) f3))=H4 at c4 aq U ⊢;obtain⟨f4,bj⟩:∃ f,f=qJ "rows" (.ref m) f3:=⟨_,rfl⟩;rw[<- bj] at aq l4;ext;intro l G;have I:l≠x:=fun e=>by rw[e,aq] at G;cases G
  have cu:H0 l=none:=c4.free G;have ad:l≠m:=fun e=>by rw[e,U] at G;cases G
  have cm:upd H4 l (.dK []) x=some (.ins (cc 9) dx f4):=by rw[qf I.symm];show aq
  apply .inl ⟨x,cc 9,dx,_,rfl,cm,T.fcl,fa 3 (by decide),YD l4 (by decide),?_⟩;have c5:L2.Same H0 (upd (upd H4 l (.dK [])) x (.ins (cc 9) dx (qJ "parents" (.ref l) f4))):=qaE (qF c4 G) D;have ar:(upd (upd H4 l (.dK [])) x (.ins (cc 9) dx (qJ "parents" (.ref l) f4))) x=some (.ins (cc 9) dx (qJ "parents" (.ref l) f4)):=qb;have l5:(qJ "parents" (.ref l) f4).length<=4:=hl l4;have M:(upd (upd H4 l (.dK [])) x (.ins (cc 9) dx (qJ "parents" (.ref l) f4))) l=some (.dK []):=by rw[qf I,qb]
  have W:(upd (upd H4 l (.dK [])) x (.ins (cc 9) dx (qJ "parents" (.ref l) f4))) m=some (.dK []):=by rw[qf C,qf (Yn ad)];show U
  generalize upd (upd H4 l (.dK [])) x (.ins (cc 9) dx (qJ "parents" (.ref l) f4))=H5 at c5 ar W M ⊢;obtain⟨f5,bm⟩:∃ f,f=qJ "parents" (.ref l) f4:=⟨_,rfl⟩;rw[<- bm] at ar l5;ext;intro j A;have ah:j≠x:=fun e=>by rw[e,ar] at A;cases A
  have cy:H0 j=none:=c5.free A;have aj:j≠m:=fun e=>by rw[e,W] at A;cases A
  have ai:j≠l:=fun e=>by rw[e,M] at A;cases A
  have cn:upd H5 j (.dK []) x=some (.ins (cc 9) dx f5):=by rw[qf ah.symm];show ar
  apply .inl ⟨x,cc 9,dx,_,rfl,cn,T.fcl,fa 4 (by decide),YD l5 (by decide),?_⟩;have c6:L2.Same H0 (upd (upd H5 j (.dK [])) x (.ins (cc 9) dx (qJ "bases" (.ref j) f5))):=qaE (qF c5 A) D;have as:(upd (upd H5 j (.dK [])) x (.ins (cc 9) dx (qJ "bases" (.ref j) f5))) x=some (.ins (cc 9) dx (qJ "bases" (.ref j) f5)):=qb;have l6:(qJ "bases" (.ref j) f5).length<=5:=hl l5;have Z:(upd (upd H5 j (.dK [])) x (.ins (cc 9) dx (qJ "bases" (.ref j) f5))) j=some (.dK []):=by rw[qf ah,qb]
  have X:(upd (upd H5 j (.dK [])) x (.ins (cc 9) dx (qJ "bases" (.ref j) f5))) m=some (.dK []):=by rw[qf C,qf (Yn aj)];show W
  have N:(upd (upd H5 j (.dK [])) x (.ins (cc 9) dx (qJ "bases" (.ref j) f5))) l=some (.dK []):=by rw[qf I,qf (Yn ai)];show M
  generalize upd (upd H5 j (.dK [])) x (.ins (cc 9) dx (qJ "bases" (.ref j) f5))=H6 at c6 as X N Z ⊢;obtain⟨f6,bn⟩:∃ f,f=qJ "bases" (.ref j) f5:=⟨_,rfl⟩;rw[<- bn] at as l6;apply⟨by show 0<=sizeLine;decide,fun g y=>?_⟩;have av:g≠x:=fun e=>by rw[e,as] at y;cases y
  have cv:H0 g=none:=c6.free y;have af:g≠m:=fun e=>by rw[e,X] at y;cases y
  have ae:g≠l:=fun e=>by rw[e,N] at y;cases y
  have ag:g≠j:=fun e=>by rw[e,Z] at y;cases y
  have co:upd H6 g (.lst []) x=some (.ins (cc 9) dx f6):=by rw[qf av.symm];show as
  apply .inl ⟨x,cc 9,dx,_,rfl,co,T.fcl,fa 5 (by decide),YD l6 (by decide),?_⟩;have c7:L2.Same H0 (upd (upd H6 g (.lst [])) x (.ins (cc 9) dx (qJ "rings" (.ref g) f6))):=qaE (qF c6 y) D;have au:(upd (upd H6 g (.lst [])) x (.ins (cc 9) dx (qJ "rings" (.ref g) f6))) x=some (.ins (cc 9) dx (qJ "rings" (.ref g) f6)):=qb;have l7:(qJ "rings" (.ref g) f6).length<=6:=hl l6;have R:(upd (upd H6 g (.lst [])) x (.ins (cc 9) dx (qJ "rings" (.ref g) f6))) g=some (.lst []):=by rw[qf av,qb]
  have Y:(upd (upd H6 g (.lst [])) x (.ins (cc 9) dx (qJ "rings" (.ref g) f6))) m=some (.dK []):=by rw[qf C,qf (Yn af)];show X
  have O:(upd (upd H6 g (.lst [])) x (.ins (cc 9) dx (qJ "rings" (.ref g) f6))) l=some (.dK []):=by rw[qf I,qf (Yn ae)];show N
  have aa:(upd (upd H6 g (.lst [])) x (.ins (cc 9) dx (qJ "rings" (.ref g) f6))) j=some (.dK []):=by rw[qf ah,qf (Yn ag)];show Z
  generalize upd (upd H6 g (.lst [])) x (.ins (cc 9) dx (qJ "rings" (.ref g) f6))=H7 at c7 au Y O aa R ⊢;obtain⟨L,bo⟩:∃ f,f=qJ "rings" (.ref g) f6:=⟨_,rfl⟩;rw[<- bo] at au l7;apply⟨by show 0<=sizeLine;decide,fun a p=>?_⟩;have bu:a≠x:=fun e=>by rw[e,au] at p;cases p
  have cz:H0 a=none:=c7.free p;have am:a≠m:=fun e=>by rw[e,Y] at p;cases p
  have ak:a≠l:=fun e=>by rw[e,O] at p;cases p
  have an:a≠j:=fun e=>by rw[e,aa] at p;cases p
  have al:a≠g:=fun e=>by rw[e,R] at p;cases p
  have cp:upd H7 a (.lst []) x=some (.ins (cc 9) dx L):=by rw[qf bu.symm];show au
  apply .inl ⟨x,cc 9,dx,_,rfl,cp,T.fcl,fa 6 (by decide),YD l7 (by decide),?_⟩;have c8:L2.Same H0 (upd (upd H7 a (.lst [])) x (.ins (cc 9) dx (qJ "waiting" (.ref a) L))):=qaE (qF c7 p) D;have br:(upd (upd H7 a (.lst [])) x (.ins (cc 9) dx (qJ "waiting" (.ref a) L))) x=some (.ins (cc 9) dx (qJ "waiting" (.ref a) L)):=qb;have l8:(qJ "waiting" (.ref a) L).length<=7:=hl l7;have bf:(upd (upd H7 a (.lst [])) x (.ins (cc 9) dx (qJ "waiting" (.ref a) L))) a=some (.lst []):=by rw[qf bu,qb]
  have ba:(upd (upd H7 a (.lst [])) x (.ins (cc 9) dx (qJ "waiting" (.ref a) L))) m=some (.dK []):=by rw[qf C,qf (Yn am)];show Y
  have aw:(upd (upd H7 a (.lst [])) x (.ins (cc 9) dx (qJ "waiting" (.ref a) L))) l=some (.dK []):=by rw[qf I,qf (Yn ak)];show O
  have bd:(upd (upd H7 a (.lst [])) x (.ins (cc 9) dx (qJ "waiting" (.ref a) L))) j=some (.dK []):=by rw[qf ah,qf (Yn an)];show aa
  have ay:(upd (upd H7 a (.lst [])) x (.ins (cc 9) dx (qJ "waiting" (.ref a) L))) g=some (.lst []):=by rw[qf av,qf (Yn al)];show R
  generalize upd (upd H7 a (.lst [])) x (.ins (cc 9) dx (qJ "waiting" (.ref a) L))=H8 at c8 br ba aw bd ay bf ⊢;obtain⟨f8,bp⟩:∃ f,f=qJ "waiting" (.ref a) L:=⟨_,rfl⟩;rw[<- bp] at br l8;apply .inl ⟨x,cc 9,dx,_,rfl,br,T.fcl,fa 7 (by decide),YD l8 (by decide),?_⟩;have c9:L2.Same H0 (upd H8 x (.ins (cc 9) dx (qJ "longer" .non f8))):=qaE c8 D;have ca:(upd H8 x (.ins (cc 9) dx (qJ "longer" .non f8))) x=some (.ins (cc 9) dx (qJ "longer" .non f8)):=qb;have l9:(qJ "longer" .non f8).length<=8:=hl l8;have bc:(upd H8 x (.ins (cc 9) dx (qJ "longer" .non f8))) m=some (.dK []):=by rw[qf C];show ba
  have ax:(upd H8 x (.ins (cc 9) dx (qJ "longer" .non f8))) l=some (.dK []):=by rw[qf I];show aw
  have be:(upd H8 x (.ins (cc 9) dx (qJ "longer" .non f8))) j=some (.dK []):=by rw[qf ah];show bd
  have az:(upd H8 x (.ins (cc 9) dx (qJ "longer" .non f8))) g=some (.lst []):=by rw[qf av];show ay
  have bg:(upd H8 x (.ins (cc 9) dx (qJ "longer" .non f8))) a=some (.lst []):=by rw[qf bu];show bf
  generalize upd H8 x (.ins (cc 9) dx (qJ "longer" .non f8))=H9 at c9 ca bc ax be az bg ⊢
  have hF:FoA (cc 9) cw H0 H9 ⟨x,b,dp,m,l,j,g,a,[]⟩ ss ns qs S0 [] [] [] .non:=by
   show⟨c9,?_,?_,fun c hc=>?_,?_,(fun c hc=>by cases hc),⟨dx,_,ca,kj l9,fun _=>l9,fun f v hf=>?_,fun f hf=>?_⟩,⟨[],bc,yh _,fun _=>rfl⟩,⟨[],ax,⟨[],yh _,.nil,(fun u hu=>by cases hu)⟩,fun _=>rfl⟩,⟨[],be,yh _,(fun s hs=>by cases hs)⟩,⟨[],az,yh _⟩,bg,.nil,fun v=>⟨(fun k=>by cases k),fun k=>absurd rfl k⟩,(fun v hv=>by cases hv)⟩
   .rw [ac];show(keepW b2).out bx cb
   .rw [ac];show(zS cq).trans ch
   .simp only[Fo.six,yA,Yj,Y6] at hc;rcases hc with rfl | rfl | rfl | rfl | rfl | rfl<;>assumption
   .simp [ad.symm,aj.symm,af.symm,am.symm,ai.symm,ae.symm,ak.symm,ag.symm,an.symm,al.symm]
   .simp only[Fo.tab,yA,Xn,Yj,Y6] at hf;rw[bp,bo,bn,bm,bj,bi];rcases hf with⟨rfl,rfl⟩ | ⟨rfl,rfl⟩ | ⟨rfl,rfl⟩ | ⟨rfl,rfl⟩ | ⟨rfl,rfl⟩ | ⟨rfl,rfl⟩ | ⟨rfl,rfl⟩ | ⟨rfl,rfl⟩<;>rfl
   .rw [bp,bo,bn,bm,bj,bi];have no:∀ i,i<8->f≠fAtt.getD i "":=fun i hi e=>hf (by rw[e,Yp,yb (show i<fAtt.length from hi)];show YN _);show lkn (no 7 (by decide)) (lkn (no 6 (by decide)) (lkn (no 5 (by decide)) (lkn (no 4 (by decide)) (lkn (no 3 (by decide)) (lkn (no 2 (by decide)) (lkn (no 1 (by decide)) (lkn (no 0 (by decide)) rfl)))))))
  ext;obtain⟨cd,fs,bw,_,_,_,bz⟩:=id hF.obj;show⟨x,cd,fs,rfl,bw,bz _ (by room),?_⟩;apply⟨H0,_,ss,ns,qs,B,rfl,hF,bv,ci,cg,fun HA S dn wt lo hD ct=>?_⟩;show q H0 HA _ S dn wt lo rfl rfl hD fun c o e=>?_;have hc:c≠x:=fun z=>by rw[z] at e;unfold qfx at e;rw[yG rfl] at e;cases e
  rw[zS hc] at e;rw[ac,zS hc];show b2 _ _ hc e
inductive spFr(cc:Nat->Addr)(cw:Addr)(vs:List V)(H:Hp)(Q:VK)(E:XK):Prop|mk (H0:Hp) (a:Fo) (ss:LS) (ns:LN) (qs:LP) (S:FS) (dn wt:LS) (lo:V) (A:Str->Str->Prop) (_:vs=[.ref a.x]) (_:FoD (cc 9) cw H0 H a ss ns qs S dn wt lo A) (_:(lo=.non->Q .non H)) (_:∀(t:Addr) (r:LS),lo=.ref t->H t=some (.lst (r.map V.str))->Aug A (pt qs) r->∀ l,H l=none->Q (.ref l) (upd H l (.lst (r.map V.str))))
inductive spFd2(cc:Nat->Addr)(cw:Addr)(vs:List V)(H:Hp)(Q:VK)(E:XK):Prop|mk (H0:Hp) (a:Fo) (ss:LS) (ns:LN) (qs:LP) (S:FS) (dn wt:LS) (lo:V) (A:Str->Str->Prop) (_:vs=[.ref a.x]) (_:FoD (cc 9) cw H0 H a ss ns qs S dn wt lo A) (_:ss.length<=14) (_:(lo≠.non->Q .non H)) (_:(lo=.non->∀(l:Addr) (H':Hp),L2.Same H H'->H l=none->H' l=some (.lst ((ss.filter fun s=>(S.rows s).isSome).map V.str))->Q (.ref l) H'))
theorem ok_fr(F:Fun K "row" "Forest.row" zA f fd)(T:Txt K mg cc cw):FnOk P w K mg base CX0 1 f fd ["self"] (spFr cc cw):=by
 show F.ok uN fun _ _ _ _ H vs Q E i h=>?_
 .obtain⟨H0,a,ss,ns,qs,S,dn,wt,lo,B,rfl,b,e,g⟩:=h;show⟨_,(qe (qm (qbT (qk qfE (qC (K:=K) rfl (pv 0) rfl) ju (qz _)) ju (jq (qbw (K:=K) rfl rfl) rfl T.b_list xz (qa (qC (K:=K) rfl (pv 0) rfl) qd))))),?_⟩;apply .inl (b.fo.obj.rd T 7 rfl ?_);ext;rcases b.en with⟨rfl,_⟩ | ⟨t,r,rfl,c,j,d,_⟩
  .show⟨_,rfl,zm ?_⟩;apply e rfl
  .show⟨_,rfl,qL (fun h=>by cases h) fun _=>?_⟩;apply .inl (b.fo.obj.rd T 7 rfl ?_);apply .inl ⟨t,_,rfl,.inl (.of c),g t r rfl c d⟩
theorem ok_fd2(F:Fun K "reached" "Forest.reached" jm f fd)(T:Txt K mg cc cw)(G:MethOk P w K mg base CX0 1 cw "places" ["self"] (spPls cw)):FnOk P w K mg base CX0 2 f fd ["self"] (spFd2 cc cw):=by
 show F.ok uk fun _ _ _ s H vs Q E A h=>?_
 .obtain⟨H0,a,ss,ns,qs,S,dn,wt,lo,B,rfl,x,I,N,O⟩:=h;have M:=zd A;show⟨_,(qc (qH (qk qcP (qC (K:=K) rfl (pv 0) rfl) ju (qz _)) (qe (qm ju)) qr)
 (qe (qm (jh (sc:=qh jm) (XN:=["self"]) ["place","self"] 1 [0] rfl rfl rfl (by room) rfl (by room)
  (qR (K:=K) rfl (jk G (hmR A) (qC (K:=K) rfl (pv 0) rfl))) (fun _ _ _ _=>(qt (i:=0) (show(["place","self"]:LS).Nodup by room) rfl (yK rfl))) qN
  (fun _ _ _ _=>(q8 (qk (zC (K:=K) rfl M) (pv 0) (qC (K:=K) rfl (pv 1) rfl) (by with_unfolding_all rfl))))
  (fun _ _ _ _=>(pv 0)))))),?_⟩
  have h:=x.fo;apply .inl (h.obj.rd T 7 rfl ?_);ext;rcases x.en with⟨rfl,_⟩ | ⟨t,r,rfl,_⟩
  .show⟨rfl,_,rfl,qL (fun h=>by simp at h) fun _=>?_⟩;have g:=h.web.same h.sm;obtain⟨W,X,ol,Y,hb,_⟩:=id g;apply .inl (h.obj.rd T 0 rfl ?_);show⟨a.b,W,_,rfl,hb,zq (by room),?_⟩;apply⟨a.b,ss,ns,rfl,g,fun pl u=>?_⟩;have n:=qF (Sr H) (o:=.lst (ss.map V.str)) u;have p:upd H pl (.lst (ss.map V.str)) pl=some (.lst (ss.map V.str)):=qb;generalize upd H pl (.lst (ss.map V.str))=H1 at n p;have h1:=h.same n;obtain⟨D,R,Z,U⟩:=h1.row;show .inl ⟨⟨_,.of p⟩,qK (xs:=ss.map V.str) (fun i ys J=>J=H1/\ys=((ss.take i).filter fun s=>(S.rows s).isSome).map V.str) ⟨rfl,rfl⟩ (fun i ys J _ m=>by rw[m.1];show .of p) (fun i y ys J C m=>?_) fun ys J m=>?_⟩
   .obtain⟨rfl,rfl⟩:=m;rw[yd] at C;obtain⟨z,hz,rfl⟩:=yn.mp C;have L:=(yc.mp hz).1;have j:=yW (fun s=>(S.rows s).isSome) (ss.take i);rw[yT] at j
    have d:(ss.take (i+1)).filter (fun s=>(S.rows s).isSome)=(ss.take i).filter (fun s=>(S.rows s).isSome)++(if (S.rows z).isSome=true then [z] else []):=by
     rw[yR,hz,Yh];show _++[z].filter _=_;rw[yU,YF]
    apply .inl (h1.obj.rd T 2 rfl ?_);show .inr (.inl ⟨a.dr,_,rfl,DGet.k (k:=Sum.inr z) R,?_⟩);have c:=U z
    have q:(jR D (.inr z:Key)).isSome=(S.rows z).isSome:=by
     cases e:S.rows z with
     | none=>rw[e] at c;rw[show jR D (.inr z:Key)=none from c];rfl
     | some r=>rw[e] at c;obtain⟨t,k,_⟩:=c;rw[k];rfl
    rw[yC (by decide),q,d];show⟨_,rfl,?_⟩
    cases (S.rows z).isSome with
    | true =>
     show zm ?_;rw[yG rfl];apply⟨by rw[ya];show qi (by lk),rfl,by rw[yx];rfl⟩
    | false =>
     show yq ?_;rw[yC (by decide),Yb];show⟨rfl,rfl⟩
   .obtain⟨rfl,rfl⟩:=m;rw[show(ss.map V.str).length=ss.length from ya _,yQ];have j:=yW (fun s=>(S.rows s).isSome) ss;show⟨by rw[ya];show yV (qi (by lk)),fun l hl=>?_⟩;show O rfl l _ (qF n hl) (n.free hl) qb
  .show⟨rfl,_,rfl,zm ?_⟩;apply N (fun e=>by cases e)
theorem ub:FnScope ["web","pairs","partners"] ["web","pairs"] (qh j5):=fS
theorem Kv:FnScope ["web","thing","seen","place"] ["web","thing"] (qh jj):=fS
theorem eqv_str(a b:Str):eqV (.str a) (.str b)=decide (a=b):=by
 unfold eqV;by_cases h:a=b<;>simp[h]
theorem vEqS{i j:Str}{Q:VK}(q:Q (.bl (decide (i=j))) H):qfu K (.str i) (.str j) H Q:=.inl (.inl (.inl ⟨rfl,rfl,by rw[yC (by decide),eqv_str];show q⟩))
noncomputable def qa6(a qs:LP):LP:=a.filter fun q=>decide (pt qs q.1=some q.2)
inductive spTp(cw:Addr)(vs:List V)(H:Hp)(Q:VK)(E:XK):Prop|mk (x l:Addr) (ss:LS) (ns:LN) (us:LQ) (tps qs:LP) (_:vs=[.ref x,.ref l]) (_:WebAt cw H x ss ns) (_:Adj ss ns tps) (_:PL H l us qs) (_:PGo ss tps qs) (_:∀(l:Addr) (ls:LQ) (H':Hp),L2.Same H H'->H l=none->H' l=some (.lst (ls.map V.ref))->ls.length<=196->All2 (PrAt H H' l) ls (qa6 (qE ss ns ss.length) qs)->Q (.ref l) H')
noncomputable def stp(rs:LS):LP:=rs.zip rs.tail
noncomputable def prB(qs:LP)(ab:Str×Str):Bool:=decide (pt qs ab.1=some ab.2)
theorem stp_at:(stp rs)[j]?=some ab↔rs[j]?=some ab.1/\rs[j+1]?=some ab.2:=by
 unfold stp;rw[List.getElem?_zip_eq_some,xZ]
theorem qaG(rs:LS):(stp rs).length=rs.length-1:=by unfold stp;rw[List.length_zip,xW];lk
structure RowG(ss:LS)(tps qs:LP)(rs:LS):Prop where
 nd:rs.Nodup
 two:2<=rs.length
 few:rs.length<=1000
 inn:∀ r∈rs,r∈ss
 tie:∀(j:Nat) ab,(stp rs)[j]?=some ab->(ab∈tps\/(ab.2,ab.1)∈tps)/\prB qs ab=decide (j % 2=1)
 hd:∀ s,rs[0]?=some s->pt qs s=none
 tl:∀ s,rs[rs.length-1]?=some s->pt qs s=none
structure Rw(cw:Addr)(H:Hp)(x l a:Addr)(ss:LS)(ns:LN)(us:LQ)(tps qs:LP)(rs:LS):Prop where
 web:WebAt cw H x ss ns
 adj:Adj ss ns tps
 prs:PL H l us qs
 pgo:PGo ss tps qs
 row:H a=some (.lst (rs.map V.str))
 rok:RowG ss tps qs rs
theorem Rw.same(h:Rw cw H x l a ss ns us tps qs rs)(s:L2.Same H H'):Rw cw H' x l a ss ns us tps qs rs:=
 ⟨h.web.same s,h.adj,h.prs.same s,h.pgo,s _ _ h.row,h.rok⟩
inductive spUl(cw:Addr)(vs:List V)(H:Hp)(Q:VK)(E:XK):Prop|mk (x a:Addr) (ss:LS) (ns:LN) (rs:LS) (_:vs=[.ref x,.ref a]) (_:WebAt cw H x ss ns) (_:H a=some (.lst (rs.map V.str))) (_:rs.Nodup) (_:rs.length<=1000) (_:(∀ r∈rs,r∈ss)) (_:∀ H',L2.Same H H'->Q (.bl true) H')
inductive spGt(cw:Addr)(vs:List V)(H:Hp)(Q:VK)(E:XK):Prop|mk (x l d a:Addr) (ss:LS) (ns:LN) (us:LQ) (tps qs:LP) (rs:LS) (_:vs=[.ref x,.ref d,.ref a]) (_:Rw cw H x l a ss ns us tps qs rs) (_:H d=some (.dK (prK qs))) (_:∀ H',L2.Same H H'->Q (.bl true) H')
inductive spIr(cw:Addr)(vs:List V)(H:Hp)(Q:VK)(E:XK):Prop|mk (x l a:Addr) (ss:LS) (ns:LN) (us:LQ) (tps qs:LP) (rs:LS) (_:vs=[.ref x,.ref l,.ref a]) (_:Rw cw H x l a ss ns us tps qs rs) (_:∀ H',L2.Same H H'->Q (.bl true) H')
theorem qfy{t:Str}{Q:VK}(q:Q (.bl (decide (pt qs s=some t))) H):qfu K (((pt qs s).map V.str).getD .non) (.str t) H Q:=by
 cases e:pt qs s with
 | none=>rw[e] at q;show .inl (.inl (.inl ⟨rfl,rfl,q⟩))
 | some u =>
  show vEqS ?_;rw[e] at q
  rwa[show decide (u=t)=decide (some u=some t) from YB.mpr ⟨congrArg some,ym⟩]
theorem ok_tp(F:Fun K "told_pairs" "told_pairs" j5 f fd)(T:Txt K mg cc cw)(S:DefOk P w K mg base CX0 9 "partners_in" ["web","pairs"] (spPn cw))(R:MethOk P w K mg base CX0 7 cw "ties" ["self"] (spTs cw)):FnOk P w K mg base CX0 10 f fd ["web","pairs"] (spTp cw):=by
 show F.ok ub fun _ _ _ _ H vs Q E J h=>?_
 .obtain⟨x,pl,ss,ns,ps,tps,qs,rfl,C,U,X,W,q⟩:=h;have A:=zd J;obtain⟨wx,dd,ol,nn,hb,_⟩:=id C;show⟨_,(qc (qo (i:=2) ub.nd rfl (Xr rfl) (qp S (hmR J) qB (qa (pv 0) (qa (pv 1) qd))))
 (qe (qm (jh (sc:=qh j5) (XN:=["web","pairs","partners"]) ["tie","partners"] 1 [2] rfl rfl rfl (by room) rfl (by room)
  (qR (K:=K) rfl (jk R (hmR J) (pv 0))) (fun _ _ _ _=>(qt (i:=0) (show(["tie","partners"]:LS).Nodup by room) rfl (yK rfl))) qN
  (fun _ _ _ _=>(q8 (qk (j3 (K:=K) rfl A) (qaP (qf0 A) (pv 1) (qv (qw (K:=K) rfl A) (pv 0) qg (fun _ _=>rfl)) ⟨rfl,rfl,rfl,rfl⟩) (qv (qw (K:=K) rfl A) (pv 0) qg (fun _ _=>rfl)) (qz _))))
  (fun _ _ _ _=>(pv 0)))))),?_⟩
  apply⟨x,pl,ss,ns,ps,tps,qs,rfl,C,U,X,W,fun d H1 B Z Y=>?_⟩;apply⟨x,wx,_,rfl,B _ _ hb,zq (by room),?_⟩;apply⟨x,ss,ns,rfl,C.same B,fun l ts H2 O aa hl D b=>?_⟩;have p:=O _ _ Y;have s:=B.trans O;show .inl ⟨⟨_,.of hl⟩,qK (xs:=ts.map V.ref) (fun i ys G=>G=H2/\∃ us:LQ,ys=us.map V.ref/\us.length<=i/\All2 (fun t ab=>H1 t=none/\H2 t=some (.tup [.str ab.1,.str ab.2])) us (qa6 ((qE ss ns ss.length).take i) qs)) ⟨rfl,[],rfl,yh _,.nil⟩ (fun i ys G _ a=>by rw[a.1];show .of hl) (fun i y ys G N a=>?_) fun ys G a=>?_⟩
  .obtain⟨rfl,us,rfl,r,m⟩:=a;rw[yd] at N;obtain⟨t,M,rfl⟩:=yn.mp N;have hi:i<ts.length:=(yc.mp M).1;obtain⟨ab,n⟩:∃ ab,(qE ss ns ss.length)[i]?=some ab:=⟨_,yb (by rw[<- b.len];show hi)⟩;obtain⟨z1,z2,L⟩:=b.at_ i t ab M n
   have c:qa6 ((qE ss ns ss.length).take (i+1)) qs=qa6 ((qE ss ns ss.length).take i) qs++(if pt qs ab.1=some ab.2 then [ab] else []):=by
    unfold qa6;rw[yR,n,Yh];show _++[ab].filter _=_;rw[yU];simp only[ku,YF]
   apply qcB ?_;apply⟨d,rfl,.inl ⟨_,.inl p⟩,?_⟩;apply .inl (zD L (v:=.str ab.1) (qu (j:=0) rfl) ?_);show⟨_,DGet.k (k:=Sum.inr ab.1) p,?_⟩;rw[jV];apply .inl (zD L (v:=.str ab.2) (qu (j:=1) rfl) ?_);show qfy ?_;ext;rw[c];show qL (fun I=>?_) (fun I=>?_)
   .rw [yG (yk I)];apply⟨by rw[ya];show qi (by lk),rfl,us++[t],by rw[yx];rfl,by rw[yt];simp;lk,m.snoc ⟨z1,L⟩⟩
   .rw [yC (fun e=>I (yD e)),Yb];show⟨rfl,us,rfl,by lk,m⟩
  .obtain⟨rfl,us,rfl,r,m⟩:=a;have e:(ts.map V.ref).length=(qE ss ns ss.length).length:=by rw[ya,b.len]
   rw[e,yQ] at m;rw[ya] at r;show⟨by rw[ya];show yV (qi (by lk)),fun g u=>?_⟩;have s3:=qF s (o:=.lst (us.map V.ref)) u;show q g us _ s3 (s.free u) qb (by lk) (m.mono fun t ab z=>⟨B.free z.1,(fun e=>by rw[e,u] at z;cases z.2),by rw[qf (fun e=>by rw[e,u] at z;cases z.2)];show z.2⟩)
theorem ok_ul(F:Fun K "are_unlike_places" "are_unlike_places" jj f fd)(T:Txt K mg cc cw)(I:MethOk P w K mg base CX0 3 cw "has_place" ["self","thing"] (spHas cw)):FnOk P w K mg base CX0 4 f fd ["web","thing"] (spUl cw):=by
 show F.ok Kv fun _ _ _ _ H vs Q E C h=>?_
 .obtain⟨x,a,ss,ns,rs,rfl,u,j,m,hl,l,q⟩:=h;have D:=zd C;show⟨_,(qc (qH (qX (qO (qj (j8 (K:=K) rfl) rfl T.b_isinstance Ym (qa (pv 1) (qa (qY (v:=.ty "list") rfl T.b_list xz rfl) qd))))) (qe (qm jH)) qr)
 (qc (qo (i:=2) Kv.nd rfl (yK rfl) zc)
 (qc (jp yZ rfl (qR (K:=K) rfl (pv 1)) (qt (i:=3) Kv.nd rfl (yK rfl))
 (qc (qH (PW.pt (zK (qX (qO (qI I (hmR C) (pv 0) (qa (pv 3) qd)))) (zn (qk (zC (K:=K) rfl D) (pv 3) (pv 2) (by with_unfolding_all rfl))))) (qe (qm jH)) qr)
 (qe (jQ jH (j7 (pv 2) (pv 3) (j9 D))))))
 (qe (qm jH))))),?_⟩
  apply qaz (.inl (.lst j)) rfl (jw K "list" (by simp) "list" (by simp)) ?_;apply yq ?_;ext;intro d A;have n:=qF (Sr H) (o:=.dK []) A;have s:upd H d (.dK []) d=some (.dK (qb0 [])):=qb;generalize upd H d (.dK [])=H1 at n s;obtain⟨M,O,ol,R,hb,_⟩:=id u;apply .inl ⟨⟨_,.of (n _ _ j)⟩,jo (xs:=rs.map V.str) (fun i σ J=>L2.Same H J/\∃ r,σ=[some (.ref x),some (.ref a),some (.ref d),r]/\J d=some (.dK (qb0 (rs.take i)))) ⟨n,_,rfl,s⟩ (fun i σ J _ c=>.of (c.1 _ _ j)) (fun i y σ J G c=>?_) fun σ J c=>?_⟩
  .obtain⟨g,r,rfl,b⟩:=c;rw[yd] at G;obtain⟨z,hz,rfl⟩:=yn.mp G;have L:i<rs.length:=(yc.mp hz).1;have e:rs.take (i+1)=rs.take i++[z]:=by rw[yR,hz];rfl
   have B:z∉rs.take i:=fun y=>by
    have t:(rs.take (i+1)).Nodup:=m.sublist (Xu _ _);rw[e] at t;show(Yc.mp t).2.2 _ y z (by simp) rfl
   apply⟨x,M,_,rfl,g _ _ hb,zq (by room),?_⟩;apply⟨x,ss,ns,z,rfl,u.same g,l z (ye hz),fun N p=>?_⟩;apply yq ?_;apply .inr (.inl ⟨d,_,rfl,DGet.k (k:=Sum.inr z) (p _ _ b),?_⟩);rw[yC (by decide),qag,yl B];apply yq ?_;apply .inr ⟨d,_,rfl,DPut.k (k:=Sum.inr z) (p _ _ b) (qi (by unfold qb0;rw[ya,yT];lk)),?_⟩;show⟨qaE (g.trans p) A,_,rfl,?_⟩;rw[qb,qb1 B,e]
  .obtain⟨g,r,rfl,b⟩:=c;apply q J g
theorem uJ:FnScope ["web","pairs","thing","partners"] ["web","pairs","thing"] (qh qbh):=fS
theorem KE:FnScope ["web","partners","names","steps","paired"] ["web","partners","names"] (qh qV):=fS
theorem KN:FnScope ["web","pairs","thing","partners","first","last"] ["web","pairs","thing"] (qh qas):=fS
theorem qbi(rs:List V):qco rs (some 1) none=rs.tail:=by
 have:=qcA rs 1
 rwa[List.drop_one] at this
theorem qf5:∀{bs:List Bool},(∀ b∈bs,b=true)->bs.all id=true:=fun h=>YG.mpr h
theorem qer{xs ys:LS}(Z:Zl H H' l ts (xs.map V.str) (ys.map V.str))(hl:qs.length=min xs.length ys.length)(h:∀(j:Nat) q,qs[j]?=some q->xs[j]?=some q.1/\ys[j]?=some q.2):All2 (fun t ab=>H' t=some (.tup [.str ab.1,.str ab.2])) ts qs:=by
 show⟨by rw[Z.len,ya,ya,hl],fun j t ab g c=>?_⟩;obtain⟨d,f⟩:=h j ab c;obtain⟨_,u,v,a,b,e⟩:=Z.tp j t g;rw[yd,d] at a;rw[yd,f] at b;cases a;cases b;show e
theorem atI_back{xs:List α}{v:α}(a:1<=j)(h1:j<=xs.length)(h:xs[xs.length-j]?=some v):atI xs (-(j:Int))=some v:=by
 have e:ixN xs.length (-(j:Int))=some (xs.length-j):=by
  unfold ixN;rw[yC (by lk),yG (by lk)]
  congr 1
  lk
 unfold atI;rw[e];show h
theorem ok_gt(F:Fun K "goes_by_turns" "goes_by_turns" qV f fd)(T:Txt K mg cc cw)(KU:MethOk P w K mg base CX0 7 cw "has_tie" ["self","thing"] (spHt cw)):FnOk P w K mg base CX0 8 f fd ["web","partners","names"] (spGt cw):=by
 show F.ok KE fun _ _ _ _ H vs Q E hr h=>?_
 .obtain⟨x,l,d,a,ss,ns,us,tps,qs,rs,rfl,R,hd,q⟩:=h;have hu:=zd hr;obtain⟨wx,dd,ol,nn,hb,_⟩:=id R.web;have ha:=R.row;have M:=R.rok;have hl:=M.few;show⟨_,(qc (qo (i:=3) KE.nd rfl (yK rfl) (qcX (K:=K) rfl rfl rfl rfl T.b_list T.b_zip (qa (pv 2) (qa (jJ (qec (K:=K) rfl) (pv 2) (jE qg) zo) qd))))
 (qc (qH (qX (qO (qj (qfs (K:=K) rfl rfl) rfl T.b_all boot_all (qa (jh (sc:=qh qV) (XN:=["web","partners","names","steps","paired"]) ["step","web"] 1 [0] rfl rfl rfl (by room) rfl (by room)
  (qR (K:=K) rfl (pv 3)) (fun _ _ _ _=>(qt (i:=0) (show(["step","web"]:LS).Nodup by room) rfl (yK rfl))) qN
  (fun _ _ _ _=>jA)
  (fun _ _ _ _=>(qI KU (hmR hr) (pv 1) (qa (pv 0) qd)))) qd)))) (qe (qm jH)) qr)
 (qc (zN (sc:=qh qV) (XN:=["web","partners","names","steps","paired"]) ["step","partners"] 1 [1] rfl rfl rfl (by room) rfl (by room) (i:=4) KE.nd rfl rfl
  (qR (K:=K) rfl (pv 3)) (fun _ _ _ _=>(qt (i:=0) (show(["step","partners"]:LS).Nodup by room) rfl (yK rfl))) qN
  (fun _ _ _ _=>jA)
  (fun _ _ _ _=>(jg (j3 (K:=K) rfl hu) (qaP (qf0 hu) (pv 1) (qv (qw (K:=K) rfl hu) (pv 0) qg (fun _ _=>rfl)) ⟨rfl,rfl,rfl,rfl⟩) (qv (qw (K:=K) rfl hu) (pv 0) qg (fun _ _=>rfl)) (qz _))))
 (qe (qm (qj (qfs (K:=K) rfl rfl) rfl T.b_all boot_all (qa (jh (sc:=qh qV) (XN:=["web","partners","names","steps","paired"]) ["one","other"] 2 [] rfl rfl rfl (by room) rfl (by room)
  (pi_zip (K:=K) rfl rfl T.b_zip (qa (pv 4) (qa (jJ (qec (K:=K) rfl) (pv 4) (jE qg) zo) qd))) (fun _ _ _ _=>(qce (n:=2) rfl (jI (qt (i:=0) (show(["one","other"]:LS).Nodup by room) rfl (yK rfl)) (jI (qt (i:=1) (show(["one","other"]:LS).Nodup by room) rfl (yK rfl)) qbn)))) qe8
  (fun _ _ _ _=>jA)
  (fun _ _ _ _=>(jg (zO (K:=K) rfl hu) (pv 0) (pv 1) (qz _)))) qd))))))),?_⟩
  apply vLZ ?_;apply .inl ⟨a,_,rfl,SqL.of ha,fun c hc=>?_⟩;rw[qbi,<- kC];have s1:=qF (Sr H) (o:=.lst (rs.tail.map V.str)) hc;have Y:upd H c (.lst (rs.tail.map V.str)) c=some (.lst (rs.tail.map V.str)):=qb;generalize upd H c (.lst (rs.tail.map V.str))=H1 at s1 Y;apply⟨a,c,_,_,rfl,SqL.of (s1 _ _ ha),SqL.of Y,by rw[ya];show hl,fun l ts H2 Z=>?_⟩;have L:=s1.trans Z.sm;have aj:(stp rs).length<=1000:=by rw[qaG];lk
  have W:=qer (qs:=stp rs) Z (by rw[qaG,xW];lk) fun j q e=>by
   obtain⟨z1,z2⟩:=stp_at.mp e;show⟨z1,by rw[xZ];show z2⟩
  have tl:=W.len;have C:=Z.ls
  have ah:∀{i:Nat} {y:V},(ts.map V.ref)[i]?=some y->∃ t ab,y=.ref t/\(stp rs)[i]?=some ab/\H2 t=some (.tup [.str ab.1,.str ab.2]):=fun{i y} O=>by
   rw[yd] at O;obtain⟨t,ht,rfl⟩:=yn.mp O;obtain⟨ab,p⟩:∃ ab,(stp rs)[i]?=some ab:=⟨_,yb (by rw[<- tl];show(yc.mp ht).1)⟩;show⟨t,ab,rfl,p,W.at_ i t ab ht p⟩
  apply .inl ⟨⟨_,.of C⟩,qK (xs:=ts.map V.ref) (fun i ys G=>L2.Same H2 G/\ys=(((stp rs).take i).map fun _=>true).map V.bl) ⟨L2.Same.refl H2,rfl⟩ (fun i ys G _ m=>.of (m.1 _ _ C)) (fun i y ys G O m=>?_) fun ys G m=>?_⟩
  .obtain⟨S,rfl⟩:=m;obtain⟨t,ab,rfl,p,N⟩:=ah O;obtain⟨e1,U⟩:=stp_at.mp p;apply zm ?_;apply⟨x,wx,_,rfl,(L.trans S) _ _ hb,zq (by room),?_⟩;apply⟨x,t,ss,ns,tps,ab,rfl,R.web.same (L.trans S),R.adj,S _ _ N,(M.tie i ab p).1,M.inn _ (ye e1),M.inn _ (ye U),fun z=>?_,fun G2 al=>?_⟩
   .rw [<- z] at U;show absurd (qA M.nd e1 U) (by lk)
   .show⟨by rw[ya,ya,yT];show qi (by lk),S.trans al,?_⟩;rw[yR,p,yx,yx];rfl
  .obtain⟨S,rfl⟩:=m;rw[show(ts.map V.ref).length=(stp rs).length by rw[ya,tl],yQ];show⟨by rw[ya,ya];show yV (qi (by lk)),fun g hg=>?_⟩;have s3:=qF S (o:=.lst (((stp rs).map fun _=>true).map V.bl)) hg;have eg:upd G g (.lst (((stp rs).map fun _=>true).map V.bl)) g=some (.lst (((stp rs).map fun _=>true).map V.bl)):=qb;generalize upd G g (.lst (((stp rs).map fun _=>true).map V.bl))=G3 at s3 eg;apply⟨g,_,rfl,SqL.of eg,_,rfl,?_⟩;rw[qf5 (fun b hb=>by obtain⟨_,_,rfl⟩:=yN.mp hb;rfl)];have af:=L.trans s3;show yq ?_;have r:=s3 _ _ C;have ac:=af _ _ hd;apply .inl ⟨⟨_,.of r⟩,qK (xs:=ts.map V.ref) (fun i ys G=>G=G3/\ys=(((stp rs).take i).map (prB qs)).map V.bl) ⟨rfl,rfl⟩ (fun i ys G _ m=>by rw[m.1];show .of r) (fun i y ys G O m=>?_) fun ys G m=>?_⟩
   .obtain⟨rfl,rfl⟩:=m;obtain⟨t,ab,rfl,p,N⟩:=ah O;have N:=s3 _ _ N;apply zm ?_;apply qcB ?_;apply⟨d,rfl,.inl ⟨_,.inl ac⟩,?_⟩;apply .inl (zD N (v:=.str ab.1) (qu (j:=0) rfl) ?_);show⟨_,DGet.k (k:=Sum.inr ab.1) ac,?_⟩;rw[jV];apply .inl (zD N (v:=.str ab.2) (qu (j:=1) rfl) ?_);show qfy ?_;show⟨by rw[ya,ya,yT];show qi (by lk),rfl,?_⟩;rw[yR,p,yx,yx];rfl
   .obtain⟨rfl,rfl⟩:=m;rw[show(ts.map V.ref).length=(stp rs).length by rw[ya,tl],yQ];show⟨by rw[ya,ya];show yV (qi (by lk)),fun b ai=>?_⟩;obtain⟨bs,B⟩:∃ bs,bs=(stp rs).map (prB qs):=⟨_,rfl⟩;rw[<- B];have am:bs.length<=1000:=by rw[B,ya];show aj
    have X:∀(i:Nat) b,bs[i]?=some b->b=decide (i % 2=1):=fun i b e=>by
     rw[B,yd] at e;obtain⟨ab,p,rfl⟩:=yn.mp e;show(M.tie i ab p).2
    have s4:=qF af (o:=.lst (bs.map V.bl)) ai;have eb:upd G b (.lst (bs.map V.bl)) b=some (.lst (bs.map V.bl)):=qb;generalize upd G b (.lst (bs.map V.bl))=G4 at s4 eb;apply vZip ?_;apply .inl ⟨b,_,rfl,SqL.of eb,fun c2 aa=>?_⟩;rw[qbi,<- kC];have s5:=qF s4 (o:=.lst (bs.tail.map V.bl)) aa;have s:=qF (Sr G4) (o:=.lst (bs.tail.map V.bl)) aa _ _ eb;have A:upd G4 c2 (.lst (bs.tail.map V.bl)) c2=some (.lst (bs.tail.map V.bl)):=qb;generalize upd G4 c2 (.lst (bs.tail.map V.bl))=G5 at s5 s A;apply⟨b,c2,_,_,rfl,SqL.of s,SqL.of A,comp_zip (xs:=bs.map V.bl) (ys:=bs.tail.map V.bl) (by simp) (fun i zs J=>L2.Same G5 J/\zs=(List.replicate i true).map V.bl) ⟨L2.Same.refl G5,rfl⟩ (fun i zs J _ m=>⟨SqL.of (m.1 _ _ s),SqL.of (m.1 _ _ A)⟩) (fun i u v t zs J D I ht m=>?_) fun zs J m=>?_⟩
    .obtain⟨sJ,rfl⟩:=m;rw[yd] at D I;obtain⟨u,ad,rfl⟩:=yn.mp D;obtain⟨v,ae,rfl⟩:=yn.mp I;clear D I;have an:=(yc.mp ad).1;rw[xZ] at ae;have e1:=X _ _ ad;have U:=X _ _ ae;have ag:=qF sJ (o:=.tup [.bl u,.bl v]) ht;show⟨t,_,rfl,.of qb,rfl,_,_,rfl,_,_,rfl,rfl,?_⟩;generalize upd J t (.tup [.bl u,.bl v])=J3 at ag;apply zm ?_;apply .inl ⟨rfl,rfl,?_⟩;show⟨by rw[ya,YS];show qi (by lk),ag,?_⟩
     have ak:v=!u:=by
      rw[e1,U];rcases Nat.mod_two_eq_zero_or_one i with z | z
      .rw [z,yD (by lk)];rfl
      .rw [z,yl (by lk)];rfl
     rw[List.replicate_succ',yx,ak];cases u<;>rfl
    .obtain⟨sJ,rfl⟩:=m;rw[show(bs.tail.map V.bl).length=bs.length-1 by rw[ya,xW]];show⟨by rw[ya,YS];show yV (qi (by lk)),fun e he=>?_⟩;have s6:=qF (s5.trans sJ) (o:=.lst ((List.replicate (bs.length-1) true).map V.bl)) he;have ee:upd J e (.lst ((List.replicate (bs.length-1) true).map V.bl)) e=some (.lst ((List.replicate (bs.length-1) true).map V.bl)):=qb;generalize upd J e (.lst ((List.replicate (bs.length-1) true).map V.bl))=J6 at s6 ee;apply⟨e,_,rfl,SqL.of ee,?_⟩;rw[qf5 (fun b hb=>(List.mem_replicate.mp hb).2)];show q J6 s6
theorem ok_ir(F:Fun K "is_row" "is_row" qbh f fd)(T:Txt K mg cc cw)(m:DefOk P w K mg base CX0 9 "partners_in" ["web","pairs"] (spPn cw))(s:DefOk P w K mg base CX0 4 "are_unlike_places" ["web","thing"] (spUl cw))(r:DefOk P w K mg base CX0 8 "goes_by_turns" ["web","partners","names"] (spGt cw)):FnOk P w K mg base CX0 10 f fd ["web","pairs","thing"] (spIr cw):=by
 show F.ok uJ fun _ _ _ _ H vs Q E c h=>?_
 .obtain⟨x,l,a,ss,ns,us,tps,qs,rs,rfl,R,q⟩:=h;have u:=zd c;have G:=R.rok;have t:=G.two;show⟨_,(qc (qo (i:=3) uJ.nd rfl (yK rfl) (qp m (hmR c) qB (qa (pv 0) (qa (pv 1) qd))))
 (qc (qH (PW.pt (zK (qX (qO (qp s (hmR c) qB (qa (pv 0) (qa (pv 2) qd))))) (zn (qk qdY (qj (jK (K:=K) rfl) rfl T.b_len YC (qa (pv 2) qd)) qg (qz _))))) (qe (qm jH)) qr)
 (qe (qm (qp r (hmR c) qB (qa (pv 0) (qa (pv 3) (qa (pv 2) qd)))))))),?_⟩
  apply⟨x,l,ss,ns,us,tps,qs,rfl,R.web,R.adj,R.prs,R.pgo,fun d H1 e o n=>?_⟩;apply⟨x,a,ss,ns,rs,rfl,R.web.same e,e _ _ R.row,G.nd,G.few,G.inn,fun H2 g=>?_⟩;have b:=e.trans g;apply yq ?_;apply .inl ⟨_,.inl (SqL.of (b _ _ R.row)),?_⟩;rw[ya];apply qL (fun h=>absurd (yk h) (by lk)) fun _=>?_;apply⟨x,l,d,a,ss,ns,us,tps,qs,rs,rfl,R.same b,g _ _ n,fun j p=>q j (b.trans p)⟩
theorem qfg{n:Str}{Q:VK}(e:H t=some (.tup [.non,.str n]))(q:Q (.bl true) H):qdW K false .non (.ref t) H Q:=
 .inl ⟨t,_,rfl,.inr (SqT.of e),rfl,rfl,q⟩
theorem ok_ct(F:Fun K "can_turn" "can_turn" qas f fd)(T:Txt K mg cc cw)(I:DefOk P w K mg base CX0 9 "partners_in" ["web","pairs"] (spPn cw))(J:DefOk P w K mg base CX0 10 "is_row" ["web","pairs","thing"] (spIr cw)):FnOk P w K mg base CX0 11 f fd ["web","pairs","thing"] (spIr cw):=by
 show F.ok KN fun _ _ _ _ H vs Q E u h=>?_
 .obtain⟨x,l,a,ss,ns,us,tps,qs,rs,rfl,R,q⟩:=h;have b:=zd u;have G:=R.rok;have W:=G.two;show⟨_,(qc (qH (qX (qO (qp J (hmR u) qB (qa (pv 0) (qa (pv 1) (qa (pv 2) qd)))))) (qe (qm jH)) qr)
 (qc (qo (i:=3) KN.nd rfl (yK rfl) (qp I (hmR u) qB (qa (pv 0) (qa (pv 1) qd))))
 (qc (qo (i:=4) KN.nd rfl (yK rfl) (qaP (qf0 b) (pv 3) (qv (qw (K:=K) rfl b) (pv 2) qg (fun _ _=>rfl)) ⟨rfl,rfl,rfl,rfl⟩))
 (qc (qo (i:=5) KN.nd rfl (yK rfl) (qaP (qf0 b) (pv 3) (qv (qw (K:=K) rfl b) (pv 2) (qbG qaD qg) (fun _ _=>rfl)) ⟨rfl,rfl,rfl,rfl⟩))
 (qe (qm (qaC (jg (zC (K:=K) rfl b) (pv 4) (qZ (qa ju (qa (qv (qw (K:=K) rfl b) (pv 2) qg (fun _ _=>rfl)) qd))) (by with_unfolding_all rfl)) (qaB (jg (zC (K:=K) rfl b) (pv 5) (qZ (qa ju (qa (qv (qw (K:=K) rfl b) (pv 2) (qbG qaD qg) (fun _ _=>rfl)) qd))) (by with_unfolding_all rfl)))))))))),?_⟩
  apply⟨x,l,a,ss,ns,us,tps,qs,rs,rfl,R,fun H1 z=>?_⟩;show⟨_,rfl,qL (fun h=>by cases h) fun _=>?_⟩;apply⟨x,l,ss,ns,us,tps,qs,rfl,R.web.same z,R.adj,R.prs.same z,R.pgo,fun d H2 S M p=>?_⟩;obtain⟨s,B⟩:∃ s,rs[0]?=some s:=⟨_,yb (by lk)⟩;obtain⟨g,L⟩:∃ g,rs[1]?=some g:=⟨_,yb (by lk)⟩;obtain⟨r,D⟩:∃ r,rs[rs.length-1]?=some r:=⟨_,yb (by lk)⟩;obtain⟨m1,O⟩:∃ m1,rs[rs.length-2]?=some m1:=⟨_,yb (by lk)⟩;have m:=z.trans S;have C:=R.row;have c:=m _ _ C;have at_:∀{j:Nat} {n:Str},rs[j]?=some n->(rs.map V.str)[j]?=some (.str n):=fun e=>by rw[yd,e];rfl
  have back:∀{j:Nat} {n:Str},1<=j->j<=rs.length->rs[rs.length-j]?=some n->atI (rs.map V.str) (-(j:Int))=some (.str n):=fun l1 l2 e=>atI_back l1 (by rw[ya];show l2) (by rw[ya];show at_ e);apply qcB ?_;apply⟨d,rfl,.inl ⟨_,.inl p⟩,?_⟩;apply .inl (zY c (v:=.str s) (qu (j:=0) (at_ B)) ?_);show⟨_,DGet.k (k:=Sum.inr s) p,?_⟩;rw[jV,G.hd _ B];apply qcB ?_;apply⟨d,rfl,.inl ⟨_,.inl p⟩,?_⟩;apply⟨1,rfl,?_⟩;show .inl (zY c (v:=.str r) (back (j:=1) (by decide) (by lk) D) ?_);show⟨_,DGet.k (k:=Sum.inr r) p,?_⟩;rw[jV,G.tl _ D];apply .inl (zY c (v:=.str g) (qu (j:=1) (at_ L)) ?_);apply⟨by show 2<=sizeLine;decide,fun t N=>qfg qb ?_⟩;have A:=qF m (o:=.tup [.non,.str g]) N;generalize upd H2 t (.tup [.non,.str g])=U at A;show⟨_,rfl,zm ?_⟩;apply⟨2,rfl,?_⟩;show .inl (zY (A _ _ C) (v:=.str m1) (back (j:=2) (by decide) (by lk) O) ?_);apply⟨by show 2<=sizeLine;decide,fun X y=>qfg qb (q _ (qF A y))⟩
theorem uf:FnScope ["web","pairs","row","partners","steps"] ["web","pairs","row"] (qh qaW):=fS
noncomputable def qes(rs:LS):LP:=stp rs++(stp rs).map fun q=>(q.2,q.1)
noncomputable def flT(a qs:LP)(rs:LS):LP:=a.filter fun q=>decide (pt qs q.1=some q.2) != decide (q∈qes rs)
inductive spTu(cw:Addr)(vs:List V)(H:Hp)(Q:VK)(E:XK):Prop|mk (x l a:Addr) (ss:LS) (ns:LN) (us:LQ) (tps qs:LP) (rs:LS) (_:vs=[.ref x,.ref l,.ref a]) (_:Rw cw H x l a ss ns us tps qs rs) (_:∀(l:Addr) (ls:LQ) (H':Hp),L2.Same H H'->H l=none->H' l=some (.lst (ls.map V.ref))->ls.length<=196->All2 (PrAt H H' l) ls (flT (qE ss ns ss.length) qs rs)->Q (.ref l) H')
theorem All2.app9{R:α->β->Prop}{l1 l2:List α}{m1 m2:List β}(a:All2 R l1 m1)(b:All2 R l2 m2):All2 R (l1++l2) (m1++m2):=by
 show⟨by rw[yt,yt,a.len,b.len],fun k x y c d=>?_⟩;by_cases e:k<l1.length
 .rw [y0 e] at c;rw[y0 (by rw[<- a.len];show e)] at d;show a.at_ k x y c d
 .rw [yI (by lk)] at c;rw[yI (by rw[<- a.len];lk),<- a.len] at d;show b.at_ _ x y c d
theorem cat_W{b:Addr}{Q:VK}(c:G a=some (.lst xs))(d:G b=some (.lst ys))(hl:xs.length+ys.length<=2000)(q:∀ p,G p=none->Q (.ref p) (upd G p (.lst (xs++ys)))):qcS K (.ref a) (.ref b) G Q:=.inl ⟨a,b,_,_,rfl,rfl,c,d,yi hl (by decide),q⟩
theorem ok_tu(F:Fun K "turned" "turned" qaW f fd)(T:Txt K mg cc cw)(Kh:DefOk P w K mg base CX0 9 "partners_in" ["web","pairs"] (spPn cw))(KI:MethOk P w K mg base CX0 7 cw "ties" ["self"] (spTs cw))(Uc:DefOk P w K mg base CX0 11 "can_turn" ["web","pairs","thing"] (spIr cw)):FnOk P w K mg base CX0 12 f fd ["web","pairs","row"] (spTu cw):=by
 show F.ok uf fun _ _ _ _ H vs Q E hr h=>?_
 .obtain⟨x,pl,a,ss,ns,ps,tps,qs,rs,rfl,R,q⟩:=h;have u:=zd hr;obtain⟨wx,dd,ol,nn,hb,_⟩:=id R.web;have ha:=R.row;have ah:=R.rok.few;have h2:=R.rok.two;show⟨_,(qc (qH (qX (qO (qp Uc (hmR hr) qB (qa (pv 0) (qa (pv 1) (qa (pv 2) qd)))))) (qe jr) qr)
 (qc (qo (i:=3) uf.nd rfl (Xr rfl) (qp Kh (hmR hr) qB (qa (pv 0) (qa (pv 1) qd))))
 (qc (qo (i:=4) uf.nd rfl (Xr rfl) (qG (zu (K:=K) rfl) (qcX (K:=K) rfl rfl rfl rfl T.b_list T.b_zip (qa (pv 2) (qa (jJ (qec (K:=K) rfl) (pv 2) (jE qg) zo) qd))) (qcX (K:=K) rfl rfl rfl rfl T.b_list T.b_zip (qa (jJ (qec (K:=K) rfl) (pv 2) (jE qg) zo) (qa (pv 2) qd)))))
 (qe (qm (jh (sc:=qh qaW) (XN:=["web","pairs","row","partners","steps"]) ["tie","steps","partners"] 1 [4,3] rfl rfl rfl (by room) rfl (by room)
  (qR (K:=K) rfl (jk KI (hmR hr) (pv 0))) (fun _ _ _ _=>(qt (i:=0) (show(["tie","steps","partners"]:LS).Nodup by room) rfl (yK rfl))) qN
  (fun _ _ _ _=>(q8 (qk (zO (K:=K) rfl u) (jg (j3 (K:=K) rfl u) (qaP (qf0 u) (pv 2) (qv (qw (K:=K) rfl u) (pv 0) qg (fun _ _=>rfl)) ⟨rfl,rfl,rfl,rfl⟩) (qv (qw (K:=K) rfl u) (pv 0) qg (fun _ _=>rfl)) (qz _)) (jg (zC (K:=K) rfl u) (pv 0) (pv 1) (by with_unfolding_all rfl)) (qz _))))
  (fun _ _ _ _=>(pv 0)))))))),?_⟩
  apply⟨x,pl,a,ss,ns,ps,tps,qs,rs,rfl,R,fun H1 s1=>?_⟩;show⟨_,rfl,qL (fun h=>by cases h) fun _=>?_⟩;apply⟨x,pl,ss,ns,ps,tps,qs,rfl,R.web.same s1,R.adj,R.prs.same s1,R.pgo,fun d H2 s2 ai hd=>?_⟩;have N:=s1.trans s2;have n:=N _ _ ha;apply vLZ ?_;apply .inl ⟨a,_,rfl,SqL.of n,fun Z ac=>?_⟩;rw[qbi,<- kC];have t1:=qF (Sr H2) (o:=.lst (rs.tail.map V.str)) ac;have A:upd H2 Z (.lst (rs.tail.map V.str)) Z=some (.lst (rs.tail.map V.str)):=qb;generalize upd H2 Z (.lst (rs.tail.map V.str))=G1 at t1 A;apply⟨a,Z,_,_,rfl,SqL.of (t1 _ _ n),SqL.of A,by rw[ya];show ah,fun l1 b G2 Z1=>?_⟩;have t2:=t1.trans Z1.sm;apply vLZ ?_;apply .inl ⟨a,_,rfl,SqL.of (t2 _ _ n),fun c2 ad=>?_⟩;rw[qbi,<- kC];have t3:=qF (Sr G2) (o:=.lst (rs.tail.map V.str)) ad;have B:upd G2 c2 (.lst (rs.tail.map V.str)) c2=some (.lst (rs.tail.map V.str)):=qb;generalize upd G2 c2 (.lst (rs.tail.map V.str))=G3 at t3 B;have S:=t2.trans t3;apply⟨c2,a,_,_,rfl,SqL.of B,SqL.of (S _ _ n),by rw[ya,xW];lk,fun l2 c G4 Y=>?_⟩;have t4:=S.trans Y.sm;have U:=t3.trans Y.sm
  have A1:=qer (qs:=stp rs) Z1 (by rw[qaG,xW];lk) fun j q e=>by
   obtain⟨X,z2⟩:=stp_at.mp e;show⟨X,by rw[xZ];show z2⟩
  have A2:=qer (qs:=(stp rs).map fun q=>(q.2,q.1)) Y (by rw[ya,qaG,xW];lk) fun j q e=>by
   rw[yd] at e;obtain⟨q',e',rfl⟩:=yn.mp e;obtain⟨X,z2⟩:=stp_at.mp e';show⟨by rw[xZ];show z2,X⟩
  have ak:b.length<=1000:=by rw[A1.len,qaG];lk
  have al:c.length<=1000:=by rw[A2.len,ya,qaG];lk
  show cat_W (U _ _ Z1.ls) Y.ls (by rw[ya,ya,A1.len,A2.len,ya,qaG];lk) fun st ag=>?_;have t5:=qF (Sr G4) (o:=.lst (b.map V.ref++c.map V.ref)) ag;have C:upd G4 st (.lst (b.map V.ref++c.map V.ref)) st=some (.lst (b.map V.ref++c.map V.ref)):=qb;generalize upd G4 st (.lst (b.map V.ref++c.map V.ref))=G5 at t5 C;have W:=t4.trans t5;have aa:PL G5 st (b++c) (qes rs):=⟨by rw[yx];show C,All2.app9 (A1.mono fun _ _ z=>(U.trans t5) _ _ z) (A2.mono fun _ _ z=>t5 _ _ z)⟩;have p:=N.trans W;have ae:=W _ _ hd;apply⟨x,wx,_,rfl,p _ _ hb,zq (by room),?_⟩;apply⟨x,ss,ns,rfl,R.web.same p,fun l ts G6 s6 aj hl af r=>?_⟩;have O:=p.trans s6;have L:=s6 _ _ ae;have D:=aa.same s6;show .inl ⟨⟨_,.of hl⟩,qK (xs:=ts.map V.ref) (fun i ys G=>G=G6/\∃ us:LQ,ys=us.map V.ref/\us.length<=i/\All2 (fun t ab=>G5 t=none/\G6 t=some (.tup [.str ab.1,.str ab.2])) us (flT ((qE ss ns ss.length).take i) qs rs)) ⟨rfl,[],rfl,yh _,.nil⟩ (fun i ys G _ m=>by rw[m.1];show .of hl) (fun i y ys G hy m=>?_) fun ys G m=>?_⟩
  .obtain⟨rfl,us,rfl,M,I⟩:=m;rw[yd] at hy;obtain⟨t,ht,rfl⟩:=yn.mp hy;have hi:i<ts.length:=(yc.mp ht).1;obtain⟨ab,J⟩:∃ ab,(qE ss ns ss.length)[i]?=some ab:=⟨_,yb (by rw[<- r.len];show hi)⟩;obtain⟨X,z2,z3⟩:=r.at_ i t ab ht J
   have s:flT ((qE ss ns ss.length).take (i+1)) qs rs=flT ((qE ss ns ss.length).take i) qs rs++(if (decide (pt qs ab.1=some ab.2) != decide (ab∈qes rs))=true then [ab] else []):=by
    unfold flT;rw[yR,J,Yh];show _++[ab].filter _=_;rw[yU,YF]
   apply qcB ?_;apply⟨d,rfl,.inl ⟨_,.inl L⟩,?_⟩;apply .inl (zD z3 (v:=.str ab.1) (qu (j:=0) rfl) ?_);show⟨_,DGet.k (k:=Sum.inr ab.1) L,?_⟩;rw[jV];apply .inl (zD z3 (v:=.str ab.2) (qu (j:=1) rfl) ?_);show qfy ?_;apply pl_in D z3 ?_;show .inl ⟨rfl,rfl,?_⟩;have eb:eqV (.bl (decide (pt qs ab.1=some ab.2))) (.bl (decide ((ab.1,ab.2)∈qes rs)))=(decide (pt qs ab.1=some ab.2)==decide (ab∈qes rs)):=rfl;rw[yG rfl,eb,s];show⟨_,rfl,?_⟩;show if (decide (pt qs ab.1=some ab.2) != decide (ab∈qes rs))=true then _ else _
   cases am:(decide (pt qs ab.1=some ab.2) != decide (ab∈qes rs)) with
   | true =>
    show zm ?_;rw[yG rfl];apply⟨by rw[ya];show qi (by lk),rfl,us++[t],by rw[yx];rfl,by rw[yt];simp;lk,I.snoc ⟨X,z3⟩⟩
   | false =>
    show yq ?_;rw[yC (by decide),Yb];show⟨rfl,us,rfl,by lk,I⟩
  .obtain⟨rfl,us,rfl,M,I⟩:=m;have e:(ts.map V.ref).length=(qE ss ns ss.length).length:=by rw[ya,r.len]
   rw[e,yQ] at I;rw[ya] at M;show⟨by rw[ya];show yV (qi (by lk)),fun g hg=>?_⟩;have s7:=qF O (o:=.lst (us.map V.ref)) hg;show q g us _ s7 (O.free hg) qb (by lk) (I.mono fun t ab z=>⟨p.free z.1,(fun e=>by rw[e,hg] at z;cases z.2),by rw[qf (fun e=>by rw[e,hg] at z;cases z.2)];show z.2⟩)
def adjR(rs:LS)(a b:Str):Prop:=∃ j:Nat,(rs[j]?=some a/\rs[j+1]?=some b)\/(rs[j]?=some b/\rs[j+1]?=some a)
theorem adjR.symm{a:Str}(h:adjR rs a b):adjR rs b a:=h.elim fun j z=>⟨j,z.symm⟩
theorem adjR.mem{a:Str}(h:adjR rs a b):a∈rs/\b∈rs:=h.elim fun j z=>z.elim (fun y=>⟨ye y.1,ye y.2⟩) fun y=>⟨ye y.2,ye y.1⟩
structure TurnR(f:Str->Option Str)(rs:LS):Prop where
 nd:rs.Nodup
 two:2<=rs.length
 sym:∀ a b,f a=some b->f b=some a
 alt:∀(j:Nat) r s t,rs[j]?=some r->rs[j+1]?=some s->rs[j+2]?=some t->(f s=some r↔¬ f s=some t)
 fst:∀ s t,rs[0]?=some s->rs[1]?=some t->f s=none\/f s=some t
 lst:∀ s t,rs[rs.length-1]?=some s->rs[rs.length-2]?=some t->f s=none\/f s=some t
theorem TurnR.near{f:Str->Option Str}(h:TurnR f rs){a:Str}(n:a∈rs)(c:f a=some b):adjR rs a b:=by
 obtain⟨i,d⟩:=yf n;have o:i<rs.length:=(yc.mp d).1;have p:=h.two;by_cases m:i=0
 .subst m;obtain⟨t,e⟩:∃ t,rs[1]?=some t:=⟨_,yb (by lk)⟩;rcases h.fst a t d e with z | z
  .rw [z] at c;cases c
  .rw [c] at z;cases z;show⟨0,.inl ⟨d,e⟩⟩
 .by_cases hl:i=rs.length-1
  .obtain⟨t,e⟩:∃ t,rs[rs.length-2]?=some t:=⟨_,yb (by lk)⟩;rcases h.lst a t (by rw[<- hl];show d) e with z | z
   .rw [z] at c;cases c
   .rw [c] at z;cases z;show⟨rs.length-2,.inr ⟨e,by rw[show rs.length-2+1=i by lk];show d⟩⟩
  .obtain⟨r,l⟩:∃ r,rs[i-1]?=some r:=⟨_,yb (by lk)⟩;obtain⟨t,e⟩:∃ t,rs[i+1]?=some t:=⟨_,yb (by lk)⟩;have g:i-1+1=i:=by lk
   have j:i-1+2=i+1:=by lk
   have:=h.alt (i-1) r a t l (by rw[g];show d) (by rw[j];show e);by_cases z:f a=some t
   .rw [c] at z;cases z;show⟨i,.inl ⟨d,e⟩⟩
   .have z:=this.mpr z;rw[c] at z;cases z;show⟨i-1,.inr ⟨l,by rw[g];show d⟩⟩
def flipR(f:Str->Option Str)(rs:LS)(a b:Str):Prop:=(a∉rs/\f a=some b)\/(adjR rs a b/\f a≠some b)
theorem TurnR.xor{f:Str->Option Str}(h:TurnR f rs){a:Str}:flipR f rs a b↔¬ (f a=some b↔adjR rs a b):=by
 unfold flipR;constructor
 .rintro (⟨h1,c⟩ | ⟨h1,c⟩) e
  .show h1 (e.mp c).mem.1
  .show c (e.mpr h1)
 .intro e;by_cases h1:f a=some b
  .show .inl ⟨fun d=>e ⟨fun _=>h.near d h1,fun _=>h1⟩,h1⟩
  .by_cases c:adjR rs a b
   .show .inr ⟨c,h1⟩
   .show absurd ⟨fun z=>absurd z h1,fun z=>absurd z c⟩ e
theorem flipR.symm{f:Str->Option Str}(h:TurnR f rs){a:Str}(e:flipR f rs a b):flipR f rs b a:=by
 rcases e with⟨h1,c⟩ | ⟨h1,c⟩
 .show .inl ⟨fun d=>?_,h.sym _ _ c⟩;show h1 (h.near d (h.sym _ _ c)).mem.2
 .show .inr ⟨h1.symm,fun z=>c (h.sym _ _ z)⟩
theorem adjR.at_(nd:rs.Nodup){a:Str}(d:rs[i]?=some a)(h:adjR rs a b):rs[i+1]?=some b\/(1<=i/\rs[i-1]?=some b):=by
 obtain⟨j,⟨h1,c⟩ | ⟨h1,c⟩⟩:=h
 .have:=qA nd d h1;subst this;show .inl c
 .have:=qA nd d c;subst this;show .inr ⟨by lk,by simpa using h1⟩
theorem flipR.one{f:Str->Option Str}(h:TurnR f rs){a:Str}(o:flipR f rs a b)(n:flipR f rs a c):b=c:=by
 rcases o with⟨h1,g⟩ | ⟨h1,g⟩
 .rcases n with⟨e,d⟩ | ⟨e,d⟩
  .rw [g] at d;show ym d
  .show absurd e.mem.1 h1
 .rcases n with⟨e,d⟩ | ⟨e,d⟩
  .show absurd h1.mem.1 e
  .obtain⟨i,j⟩:=yf h1.mem.1
   have key:∀{b c:Str},rs[i+1]?=some b->1<=i->rs[i-1]?=some c->f a≠some b->f a≠some c->False:=fun hb p hc q r=>by
    have l:i-1+1=i:=by lk
    have m:i-1+2=i+1:=by lk
    show r ((h.alt (i-1) _ a _ hc (by rw[l];show j) (by rw[m];show hb)).mpr q)
   rcases h1.at_ h.nd j with z1 | ⟨l1,z1⟩<;>rcases e.at_ h.nd j with z2 | ⟨l2,z2⟩
   .rw [z1] at z2;show ym z2
   .show(key z1 l2 z2 g d).elim
   .show(key z2 l1 z1 d g).elim
   .rw [z1] at z2;show ym z2
theorem TurnR.again{f:Str->Option Str}(h:TurnR f rs)(l:∀ a b,g a=some b↔flipR f rs a b):TurnR g rs:=by
 have on:∀{a b:Str},adjR rs a b->(g a=some b↔¬ f a=some b):=fun i=>by
  rw[l,h.xor];constructor
  .show fun e z=>e ⟨fun _=>i,fun _=>z⟩
  .show fun e z=>e (z.mpr i)
 have only:∀{a b:Str},a∈rs->g a=some b->adjR rs a b:=fun p e=>by
  rcases(l _ _).mp e with⟨h1,_⟩ | ⟨h1,_⟩
  .show absurd p h1
  .show h1
 show⟨h.nd,h.two,fun a b e=>(l _ _).mpr (((l _ _).mp e).symm h),fun j r s t m c d=>?_,fun s t c d=>?_,fun s t c d=>?_⟩
 .have n:adjR rs s r:=⟨j,.inr ⟨m,c⟩⟩;have o:adjR rs s t:=⟨j+1,.inl ⟨c,d⟩⟩;rw[on n,on o,h.alt j r s t m c d]
 .cases e:g s with
  | none=>show .inl rfl
  | some b =>
   have:=(only (ye c) e).at_ h.nd c;rcases this with z | ⟨z,_⟩
   .rw [d] at z;show .inr (by rw[<- e,e];show z.symm ▸ rfl)
   .omega
 .cases e:g s with
  | none=>show .inl rfl
  | some b =>
   have q:=h.two;have:=(only (ye c) e).at_ h.nd c;rcases this with z | ⟨_,z⟩
   .have:=(yc.mp z).1;lk
   .rw [show rs.length-1-1=rs.length-2 by lk,d] at z;show .inr (by rw[<- z])
theorem TurnR.inner{f:Str->Option Str}(h:TurnR f rs)(d:0<i)(h1:i+1<rs.length)(b:rs[i]?=some s):(f s).isSome=true:=by
 obtain⟨r,a⟩:∃ r,rs[i-1]?=some r:=⟨_,yb (by lk)⟩;obtain⟨t,c⟩:∃ t,rs[i+1]?=some t:=⟨_,yb h1⟩;have:=h.alt (i-1) r s t a (by rw[show i-1+1=i by lk];show b) (by rw[show i-1+2=i+1 by lk];show c)
 cases e:f s with
 | some _=>rfl
 | none =>
  rw[e] at this;have:=this.mpr (fun z=>by cases z);cases this
theorem qdH{f:Str->Option Str}(h:TurnR f rs)(e:∀ a b,g a=some b↔flipR f rs a b){a t:Str}(c:adjR rs a t)(i:f a=none\/f a=some t)(d:g a=none\/g a=some t):(g a).isSome=!(f a).isSome:=by
 rcases i with z | z
 .rw [(e a t).mpr (.inr ⟨c,by rw[z];show fun y=>by cases y⟩),z];rfl
 .rcases d with y | y
  .rw [y,z];rfl
  .show absurd ⟨fun _=>c,fun _=>z⟩ (h.xor.mp ((e a t).mp y))
theorem qet{f:Str->Option Str}(h:TurnR f rs){a:Str}(g:rs[0]?=some a)(hb:rs[rs.length-1]?=some b):(rs.filter fun s=>(f s).isSome).length+2=rs.length+(if (f a).isSome then 1 else 0)+(if (f b).isSome then 1 else 0):=by
 have d:=h.two
 obtain⟨m,l⟩:∃ m,rs=a::(m++[b]):=by
  match rs,g,hb,d with
  | x::r,g,hb,d =>
   have t:x=a:=ym g;have p:r≠[]:=fun z=>by rw[z] at d;simp at d
   show⟨r.dropLast,?_⟩
   have e:r.getLast p=b:=by
    have hl:0<r.length:=List.length_pos_iff.mpr p;rw[show(x::r).length-1=r.length-1+1 by simp;lk,List.getElem?_cons_succ] at hb;rw[List.getLast_eq_getElem];show(yc.mp hb).2
   rw[t,<- e,xr]
 have n:rs.length=m.length+2:=by rw[l];simp
 have c:(m.filter fun s=>(f s).isSome)=m:=List.filter_eq_self.mpr fun s q=>by
  obtain⟨i,o⟩:=yf q;have j:=(yc.mp o).1;show h.inner (i:=i+1) (by lk) (by lk) ?_;rw[l,List.getElem?_cons_succ,y0 j];show o
 rw[n,l,yU,Yh,c,yU,YF];cases (f a).isSome<;>cases (f b).isSome<;>simp<;>lk
theorem qcG(f:ss.Nodup)(i:rs.Nodup)(c:∀ s∈rs,s∈ss)(p:Str->Bool):(ss.filter p).length=(rs.filter p).length+(ss.filter fun s=>p s&&!decide (s∈rs)).length:=by
 have e:(rs.filter p).length=(ss.filter fun s=>p s&&decide (s∈rs)).length:=Xo
  (qcE (i.filter _) fun s d=>by
   obtain⟨a,b⟩:=yp.mp d;show yp.mpr ⟨c s a,by rw[b,yD a];rfl⟩)
  (qcE (f.filter _) fun s d=>by
   obtain⟨a,b⟩:=yp.mp d;obtain⟨g,h⟩:=(yY _ _).mp b;show yp.mpr ⟨yk h,g⟩)
 rw[e];clear e f c
 induction ss with
 | nil=>rfl
 | cons x r ih =>
  rw[yU,yU,yU];cases p x<;>cases decide (x∈rs)<;>simp<;>lk
theorem qbP:∀{qs:LP},(∀ q∈qs,q.1≠q.2)->qs.Pairwise (fun q r=>q.1≠r.1/\q.1≠r.2/\q.2≠r.1/\q.2≠r.2)->(qx qs).Nodup
 | [],_,_=>List.nodup_nil
 | q::r,h,hp=>by
  obtain⟨j,l⟩:=kf.mp hp;have i:=qbP (fun x f=>h x (yy _ f)) l;show(q.1::q.2::qx r).Nodup
  have out:∀ n∈qx r,q.1≠n/\q.2≠n:=fun n g=>by
   obtain⟨x,f,e⟩:=YY.mp g;obtain⟨a,b,c,d⟩:=j x f;simp only[yA,Yj,Y6] at e;rcases e with rfl | rfl
   .show⟨a,c⟩
   .show⟨b,d⟩
  show yo.mpr ⟨fun z=>?_,yo.mpr ⟨fun z=>(out _ z).2 rfl,i⟩⟩;rcases yA.mp z with z | z
  .show h q yE z
  .show(out _ z).1 rfl
theorem stpB_adj{a:Str}:(a,b)∈qes rs↔adjR rs a b:=by
 unfold qes adjR;rw[yB,yN];constructor
 .rintro (h | ⟨q,h,e⟩)
  .obtain⟨j,d⟩:=yf h;show⟨j,.inl (stp_at.mp d)⟩
  .obtain⟨j,d⟩:=yf h;cases e;show⟨j,.inr (stp_at.mp d)⟩
 .rintro ⟨j,⟨h1,c⟩ | ⟨h1,c⟩⟩
  .show .inl (ye (stp_at.mpr ⟨h1,c⟩))
  .show .inr ⟨(b,a),ye (stp_at.mpr ⟨h1,c⟩),rfl⟩
theorem flT_flip{d:LP}(h:TurnR (pt qs) rs){a:Str}:(a,b)∈flT d qs rs↔(a,b)∈d/\flipR (pt qs) rs a b:=by
 unfold flT;rw[yp,h.xor];show X1 fun _=>?_;show(decide (pt qs a=some b) != decide ((a,b)∈qes rs))=true↔_;by_cases h1:pt qs a=some b<;>by_cases c:(a,b)∈qes rs
 .rw [yD h1,yD c];show⟨(fun z=>by cases z),fun z=>absurd ⟨fun _=>stpB_adj.mp c,fun _=>h1⟩ z⟩
 .rw [yD h1,yl c];show⟨fun _ z=>c (stpB_adj.mpr (z.mp h1)),fun _=>rfl⟩
 .rw [yl h1,yD c];show⟨fun _ z=>h1 (z.mpr (stpB_adj.mp c)),fun _=>rfl⟩
 .rw [yl h1,yl c];show⟨(fun z=>by cases z),fun z=>absurd ⟨fun y=>absurd y h1,fun y=>absurd (stpB_adj.mpr y) c⟩ z⟩
def tA(tps:LP)(a b:Str):Prop:=(a,b)∈tps\/(b,a)∈tps
theorem pt_some:s∈qx qs↔(pt qs s).isSome=true:=by
 cases e:pt qs s with
 | none=>show⟨fun z=>absurd z (pt_none.mp e),(fun z=>by cases z)⟩
 | some b=>show⟨fun _=>rfl,fun _=>Yg fun z=>by rw[pt_none.mpr z] at e;cases e⟩
structure PFn(ss:LS)(tps:LP)(f:Str->Option Str):Prop where
 sym:∀ a b,f a=some b->f b=some a
 tie:∀ a b,f a=some b->tA tps a b
noncomputable def qbF(f:Str->Option Str)(ss:LS):Nat:=(ss.filter fun s=>(f s).isSome).length
section
variable{ss:LS}{ns:LN}{tps qs:LP}{f g:Str->Option Str}
theorem PGo.fn(h:PGo ss tps qs):PFn ss tps (pt qs):=⟨fun a b e=>(qen h.nd).mp e,fun a b e=>by
 rcases qcF e with z | z
 .show(h.inn _ z).1
 .show(h.inn _ z).1.symm⟩
theorem PGo.cnt(h:PGo ss tps qs)(c:ss.Nodup):2*qs.length=qbF (pt qs) ss:=by
 rw[<- jW];show Xo (qcE h.nd fun s a=>yp.mpr ⟨?_,pt_some.mp a⟩) (qcE (c.filter _) fun s a=>pt_some.mpr (yp.mp a).2);obtain⟨q,b,a⟩:=YY.mp a;simp only[yA,Yj,Y6] at a;rcases a with rfl | rfl
 .show(h.inn q b).2.1
 .show(h.inn q b).2.2.1
theorem qaX:(snL f ss).length+qbF f ss=ss.length:=by
 unfold snL qbF
 induction ss with
 | nil=>rfl
 | cons x r ih =>
  rw[yU,yU];cases (f x).isSome
  .rw [yG (show(!false)=true from rfl),yC Yr,yH,yH];lk
  .rw [yC (show ¬ (!true)=true by decide),yG (show true=true from rfl),yH,yH];lk
theorem zr(hw:WOk ss ns)(p:Adj ss ns tps){a:Str}:(a,b)∈qE ss ns ss.length↔tA tps a b/\∃ i j:Nat,i<j/\ss[i]?=some a/\ss[j]?=some b:=by
 unfold qE;rw[YY];constructor
 .rintro ⟨i,f,h⟩;have f:=YT.mp f;obtain⟨s,l⟩:∃ s,ss[i]?=some s:=⟨_,yb f⟩;have d:ss.getD i ""=s:=by rw[Yp,l];rfl
  unfold qeV at h;rw[d] at h;obtain⟨o,t,e⟩:=yN.mp h;cases e;obtain⟨h1,c⟩:=yp.mp t;obtain⟨q,r⟩:=qc1 hw.nd h1;have n:ss[ss.idxOf b]?=some b:=by rw[yb (yX q),Yo]
  show⟨(p i _ _ _ l n).mp r,i,_,yk c,l,n⟩
 .rintro ⟨h,i,j,g,h1,c⟩;show⟨i,YT.mpr (yc.mp h1).1,?_⟩;have d:ss.getD i ""=a:=by rw[Yp,h1];rfl
  have m:ss.idxOf b=j:=by
   have hb:=ye c;show qA hw.nd (by rw[yb (yX hb),Yo]) c
  unfold qeV;rw[d];show yN.mpr ⟨b,yp.mpr ⟨?_,yD (by rw[m];show g)⟩,rfl⟩;rw[qaq hw.nd];show yp.mpr ⟨ye c,by rw[m];show(p i j a b h1 c).mpr h⟩
theorem qeu(hw:WOk ss ns):(qE ss ns ss.length).Nodup:=by
 show List.pairwise_flatMap.mpr ⟨fun i _=>?_,?_⟩
 .unfold qeV;show Y2.mpr ?_;have nd:((inB ss 0 (ns.getD i 0)).filter fun o=>decide (i<ss.idxOf o)).Nodup:=by rw[qaq hw.nd];show(hw.nd.filter _).filter _
  show nd.imp fun c e=>c (Prod.mk.inj e).2
 .show xj (fun{i j} a b g q d r f e=>?_) (List.pairwise_lt_range (n:=ss.length));have a:=YT.mp a;have b:=YT.mp b;unfold qeV at d f;obtain⟨_,_,rfl⟩:=yN.mp d;obtain⟨_,_,rfl⟩:=yN.mp f;have e:=(Prod.mk.inj e).1;rw[Yp,Yp,yb a,yb b] at e;have:=qA hw.nd (yb a) (by rw[yb b];show congrArg some e.symm);lk
theorem qfh(hw:WOk ss ns)(B:Adj ss ns tps)(t:∀ ab∈tps,ab.1∈ss/\ab.2∈ss/\ab.1≠ab.2)(h:PFn ss tps g){L:LP}(f:∀ a b,(a,b)∈L↔(a,b)∈qE ss ns ss.length/\g a=some b)(I:L.Sublist (qE ss ns ss.length)):PGo ss tps L/\pt L=g:=by
 have mem:∀ q∈L,g q.1=some q.2/\tA tps q.1 q.2/\∃ i j:Nat,i<j/\ss[i]?=some q.1/\ss[j]?=some q.2:=fun q c=>by
  obtain⟨h1,H⟩:=(f q.1 q.2).mp c;show⟨H,(zr hw B).mp h1⟩
 have inn:∀{a b:Str},tA tps a b->a∈ss/\b∈ss/\a≠b:=fun z=>z.elim (fun y=>t _ y) fun y=>⟨(t _ y).2.1,(t _ y).1,(t _ y).2.2.symm⟩
 have nd:(qx L).Nodup:=by
  show qbP (fun q c=>(inn (mem q c).2.1).2.2) (xj (fun{q r} c J n=>?_) (I.nodup (qeu hw)));obtain⟨d,_,i,j,l1,o,p⟩:=mem q c;obtain⟨A,_,K,M,l2,E,F⟩:=mem r J;have x:=h.sym _ _ d;have G:=h.sym _ _ A;show⟨fun z=>?_,fun z=>?_,fun z=>?_,fun z=>?_⟩
  .rw [z,A] at d;show n (xI z (ym d).symm)
  .rw [z,G] at d;have e:=ym d;rw[z] at o;rw[<- e] at p;have:=qA hw.nd o F;have:=qA hw.nd p E;lk
  .rw [z,A] at x;have e:=ym x;rw[z] at p;rw[<- e] at o;have:=qA hw.nd o F;have:=qA hw.nd p E;lk
  .rw [z,G] at x;show n (xI (ym x).symm z)
 have D:∀ q∈L,(q∈tps\/(q.2,q.1)∈tps)/\q.1∈ss/\q.2∈ss/\q.1≠q.2:=fun q c=>⟨(mem q c).2.1,inn (mem q c).2.1⟩
 have hl:L.length<=30:=by
  have:=qcE (l:=qx L) (m:=ss) nd fun s w=>by
   obtain⟨q,c,w⟩:=YY.mp w;simp only[yA,Yj,Y6] at w;rcases w with rfl | rfl
   .show(D q c).2.1
   .show(D q c).2.2.1
  rw[jW] at this;have:=hw.few;lk
 show⟨⟨D,nd,hl⟩,funext fun a=>qeo fun b=>?_⟩;rw[qem nd];constructor
 .rintro (z | z)
  .show((f _ _).mp z).2
  .show h.sym _ _ ((f _ _).mp z).2
 .intro e;obtain⟨m1,m2,ne⟩:=inn (h.tie _ _ e);obtain⟨i,C⟩:=yf m1;obtain⟨j,u⟩:=yf m2;rcases ko i j with l | l | l
  .show .inl ((f _ _).mpr ⟨(zr hw B).mpr ⟨h.tie _ _ e,i,j,l,C,u⟩,e⟩)
  .subst l;rw[C] at u;show absurd (ym u) ne
  .show .inr ((f _ _).mpr ⟨(zr hw B).mpr ⟨(h.tie _ _ e).symm,j,i,l,u,C⟩,h.sym _ _ e⟩)
theorem tps_ok(hw:WOk ss ns)(c:Adj ss ns tps)(d:∀ ab∈tps,ab.1∈ss/\ab.2∈ss/\ab.1≠ab.2)(h:PGo ss tps qs):PGo ss tps (qa6 (qE ss ns ss.length) qs)/\pt (qa6 (qE ss ns ss.length) qs)=pt qs:=
 qfh hw c d h.fn (fun a b=>by unfold qa6;rw[yp,yO]) Xl
end
theorem qev{f:Str->Option Str}(h:TurnR f rs):∃ g:Str->Option Str,∀ a b,g a=some b↔flipR f rs a b:=
 ⟨fun a=>@dite _ (∃ b,flipR f rs a b) (Classical.propDecidable _) (fun z=>some z.choose) fun _=>none,fun a b=>by
  dsimp only;split
  .rename_i z
   show⟨fun e=>by rw[<- ym e];show z.choose_spec,fun e=>congrArg some (z.choose_spec.one h e)⟩
  .rename_i z
   show⟨(fun e=>by cases e),fun e=>absurd ⟨b,e⟩ z⟩⟩
section
variable{ss:LS}{tps qs:LP}{f g:Str->Option Str}{rs:LS}
theorem qew(h:TurnR f rs)(i:PFn ss tps f)(d:∀ a b,adjR rs a b->tA tps a b)(c:∀ a b,g a=some b↔flipR f rs a b):PFn ss tps g:=
 ⟨fun a b e=>(c _ _).mpr (((c _ _).mp e).symm h),fun a b e=>((c _ _).mp e).elim (fun z=>i.tie _ _ z.2) fun z=>d _ _ z.1⟩
theorem qdI(h:TurnR f rs)(e:∀ a b,g a=some b↔flipR f rs a b)(o:ss.Nodup)(d:∀ s∈rs,s∈ss){a:Str}(c:rs[0]?=some a)(hb:rs[rs.length-1]?=some b):qbF g ss+2=qbF f ss+(if (f a).isSome then 0 else 2)+(if (f b).isSome then 0 else 2):=by
 have C:=h.two;have j:=h.again e;unfold qbF;rw[qcG o h.nd d,qcG (p:=fun s=>(f s).isSome) o h.nd d];have n:=qet h c hb;have i:=qet j c hb
 have B:(ss.filter fun s=>(g s).isSome&&!decide (s∈rs))=ss.filter fun s=>(f s).isSome&&!decide (s∈rs):=Y3 fun s _=>by
  by_cases z:s∈rs
  .rw [yD z];simp
  .have:g s=f s:=qeo fun b=>by
    rw[e];show⟨fun y=>y.elim (fun x=>x.2) fun x=>absurd x.1.mem.1 z,fun y=>.inl ⟨z,y⟩⟩
   rw[this]
 rw[B];obtain⟨t,l⟩:∃ t,rs[1]?=some t:=⟨_,yb (by lk)⟩;obtain⟨u,m⟩:∃ u,rs[rs.length-2]?=some u:=⟨_,yb (by lk)⟩;have q:=qdH h e ⟨0,.inl ⟨c,l⟩⟩ (h.fst a t c l) (j.fst a t c l);have r:=qdH h e (a:=b) (t:=u) ⟨rs.length-2,.inr ⟨m,by rw[show rs.length-2+1=rs.length-1 by lk];show hb⟩⟩ (h.lst b u hb m) (j.lst b u hb m);rw[q,r] at i;generalize (rs.filter fun s=>(g s).isSome).length=D at i ⊢;generalize (rs.filter fun s=>(f s).isSome).length=E at n ⊢;cases w:(f a).isSome<;>cases A:(f b).isSome<;>rw[w,A] at n i<;>simp at n i ⊢<;>lk
theorem qbQ(c:∀ a b,f a=some b->f b=some a)(nd:rs.Nodup)(d:2<=rs.length)(st:Turns A f rs)(h:∀ s,rs[0]?=some s->f s=none)(tl:∀ s t,rs[rs.length-1]?=some s->rs[rs.length-2]?=some t->f s=none\/f s=some t):TurnR f rs:=by
 show⟨nd,d,c,fun j r s t i h1 l=>?_,fun s t h1 _=>.inl (h s h1),tl⟩;have e:=(st j r s i h1).2;have g:=(st (j+1) s t h1 l).2;have:f s=some r↔f r=some s:=⟨fun z=>c _ _ z,fun z=>c _ _ z⟩;rw[this,e,g];lk
theorem qcH(st:Turns (tA tps) f rs):∀ a b,adjR rs a b->tA tps a b:=fun a b h=>by
 obtain⟨j,⟨h1,c⟩ | ⟨h1,c⟩⟩:=h
 .show(st j _ _ h1 c).1
 .show(st j _ _ h1 c).1.symm
theorem Aug.row(h:Aug (tA tps) (pt qs) rs)(hl:rs.length<=1000)(c:∀ ab∈tps,ab.1∈ss/\ab.2∈ss/\ab.1≠ab.2):RowG ss tps qs rs:=by
 show⟨h.nd,h.two,hl,fun r n=>?_,fun j ab e=>?_,h.hd,h.tl⟩
 .obtain⟨i,d⟩:=yf n;have m:=(yc.mp d).1;have q:=h.two;have inn:∀{a b:Str},tA tps a b->a∈ss/\b∈ss:=fun z=>z.elim (fun y=>⟨(c _ y).1,(c _ y).2.1⟩) fun y=>⟨(c _ y).2.1,(c _ y).1⟩;by_cases l:i+1<rs.length
  .show(inn (h.st i r _ d (yb l)).1).1
  .show(inn (h.st (i-1) _ r (yb (by lk)) (by rw[show i-1+1=i by lk];show d)).1).2
 .obtain⟨f,g⟩:=stp_at.mp e;obtain⟨o,p⟩:=h.st j _ _ f g;show⟨o,YB.mpr p⟩
theorem Aug.turn(h:Aug (tA tps) (pt qs) rs)(c:∀ a b,pt qs a=some b->pt qs b=some a):TurnR (pt qs) rs:=
 qbQ c h.nd h.two h.st h.hd fun s t e _=>.inl (h.tl s e)
theorem qex(hw:WOk ss ns)(m:Adj ss ns tps)(f:∀ ab∈tps,ab.1∈ss/\ab.2∈ss/\ab.1≠ab.2)(e:PGo ss tps qs)(h:Aug (tA tps) (pt qs) rs)(hl:rs.length<=1000):PGo ss tps (flT (qE ss ns ss.length) qs rs)/\(flT (qE ss ns ss.length) qs rs).length=qs.length+1:=by
 have c:=h.turn e.fn.sym;obtain⟨g,d⟩:=qev c;obtain⟨j,n⟩:=qfh hw m f (qew c e.fn (qcH h.st) d) (L:=flT (qE ss ns ss.length) qs rs) (fun a b=>by rw[flT_flip c,d]) Xl;show⟨j,?_⟩;have o:=e.cnt hw.nd;have l:=j.cnt hw.nd;rw[n] at l;have p:=h.two;obtain⟨a,i⟩:∃ t,rs[0]?=some t:=⟨_,yb (by lk)⟩;obtain⟨b,hb⟩:∃ t,rs[rs.length-1]?=some t:=⟨_,yb (by lk)⟩;have:=qdI c d hw.nd (h.row hl f).inn i hb;rw[h.hd a i,h.tl b hb] at this;simp at this;lk
end
theorem Kl:FnScope ["web","pairs","now","rows","row"] ["web","pairs"] (qh jO):=fS
def MxF(ss:LS)(tps qs:LP):Prop:=∃ S:FS,Fn (tA tps) (pt qs) S ss
structure Wt(cw:Addr)(H:Hp)(x:Addr)(ss:LS)(ns:LN)(tps:LP):Prop where
 web:WebAt cw H x ss ns
 adj:Adj ss ns tps
 ok:∀ ab∈tps,ab.1∈ss/\ab.2∈ss/\ab.1≠ab.2
theorem Wt.same(h:Wt cw H x ss ns tps)(s:L2.Same H H'):Wt cw H' x ss ns tps:=⟨h.web.same s,h.adj,h.ok⟩
theorem Wt.wok(h:Wt cw H x ss ns tps):WOk ss ns:=by obtain⟨_,_,_,_,_,_,_,_,z⟩:=h.web;show z
theorem Wt.wb(h:Wt cw H x ss ns tps)(g:PGo ss tps qs):Wb (tA tps) ss qs:=by
 show⟨⟨fun z=>Kd z,fun z e=>?_,fun{a b} e=>g.fn.sym a b e,fun{a b} e=>g.fn.tie a b e⟩,fun a b z=>z.elim (fun y=>(h.ok _ y).1) fun y=>(h.ok _ y).2.1,g.nd,h.wok.few,h.wok.nd⟩;rcases z with z | z
 .show(h.ok _ z).2.2 e
 .show(h.ok _ z).2.2 e.symm
theorem Wt.bes(h:Wt cw H x ss ns tps):∀(j:Nat) z u,ss[j]?=some z->(u∈inB ss 0 (ns.getD j 0)↔tA tps z u):=fun j z u e=>by
 rw[qaq h.wok.nd,yp];constructor
 .rintro ⟨h1,b⟩;show(h.adj j _ z u e (by rw[yb (yX h1),Yo])).mp b
 .intro t;have a:u∈ss:=t.elim (fun y=>(h.ok _ y).2.1) fun y=>(h.ok _ y).1;show⟨a,(h.adj j _ z u e (by rw[yb (yX a),Yo])).mpr t⟩
theorem qf6{c:Addr}{a:Fo}(h:FoD c cw H0 H a ss ns qs S dn wt .non (tA tps))(W:Wb (tA tps) ss qs):Fn (tA tps) (pt qs) S ss:=by
 rcases h.en with⟨_,rfl,I,C,sg⟩ | ⟨t,r,e,_⟩
 .have b:∀ v,v∈dn↔S.rows v≠none:=fun v=>by have:=h.fo.evi v;rwa[Yb] at this
  show⟨I,W.gr,W.inn,W.nd,fun v u hv d=>(C.cl v u ((b v).mpr hv) d).imp id fun z=>⟨z.1,Yg fun y=>z.2 ((b u).mpr y)⟩,sg,fun v hv=>h.fo.evs v ((h.fo.evi v).mpr hv)⟩
 .cases e
def FiR(ss:LS)(ns:LN)(qs:LP)(o:Option (LS)):Prop:=∃ S,GwR qs ss ns (SI qs ss) (sgL qs ss) S o
theorem FiR.det{o:Option (LS)}(h:FiR ss ns qs o)(g:FiR ss ns qs o'):o=o':=by
 obtain⟨_,h⟩:=h;obtain⟨_,g⟩:=g;show(h.det g).2
inductive GfR(ss:LS)(ns:LN):LP->LP->Prop
 | nil {ps:LP}:FiR ss ns ps none->GfR ss ns ps ps
 | on {ps rs:LP} {r:LS}:FiR ss ns ps (some r)->GfR ss ns (flT (qE ss ns ss.length) ps r) rs->GfR ss ns ps rs
theorem GfR.det{ps rs:LP}(h:GfR ss ns ps rs):GfR ss ns ps rs'->rs=rs':=by
 induction h with
 | nil h=>intro g;cases g with
  | nil _=>rfl
  | on g _=>cases h.det g
 | on h _ ih=>intro g;cases g with
  | nil g=>cases h.det g
  | on g k=>cases h.det g;show ih k
theorem GfR.fil{ps rs:LP}(h:GfR ss ns ps rs)(a:∃ p,ps=(qE ss ns ss.length).filter p):∃ p,rs=(qE ss ns ss.length).filter p:=by
 induction h with
 | nil _=>show a
 | on _ _ ih=>show ih ⟨_,rfl⟩
def FRow(ss:LS)(ns:LN)(tps qs:LP)(H:Hp)(v:V)(H':Hp):Prop:=L2.Same H H'/\((v=.non/\MxF ss tps qs/\FiR ss ns qs none)\/∃(r:Addr) (rs:LS),v=.ref r/\H r=none/\H' r=some (.lst (rs.map V.str))/\rs.length<=1000/\Aug (tA tps) (pt qs) rs/\FiR ss ns qs (some rs))
inductive spGf(cw:Addr)(vs:List V)(H:Hp)(Q:VK)(E:XK):Prop|mk (x l:Addr) (ss:LS) (ns:LN) (us:LQ) (tps qs:LP) (_:vs=[.ref x,.ref l]) (_:Wt cw H x ss ns tps) (_:PL H l us qs) (_:PGo ss tps qs) (_:∀(t l2 r2:Addr) (ls:LQ) (ws:List V) (rs:LP) (H':Hp),L2.Same H H'->H' t=some (.tup [.ref l2,.ref r2])->H l2=none->PL H' l2 ls rs->H' r2=some (.lst ws)->rs.length=qs.length+ws.length->PGo ss tps rs->MxF ss tps rs->GfR ss ns (qa6 (qE ss ns ss.length) qs) rs->Q (.ref t) H')
theorem qfz{y:Addr}{Q:VK}(W:Wt cw G x ss ns tps)(n:PL G l us qs)(b:PGo ss tps qs)(f:G y=none)(i:G dx=none)(d:dx≠y)
  (h:∀ H0 H2 a S dn wt lo,a.x=y->FoD (cc 9) cw H0 H2 a ss ns qs S dn wt lo (tA tps)->L2.Same G H2->Q .non H2):spFi cc cw [.ref y,.ref x,.ref l] (upd (upd G dx (.own y)) y (.ins (cc 9) dx [])) Q E:=by
 have j:=qF (qF (Sr G) (o:=.own y) i) (o:=.ins (cc 9) dx []) (show upd G dx (.own y) y=none by rw[qf (Yn d)];show f);show⟨y,dx,x,l,ss,ns,us,tps,qs,tA tps,rfl,qb,W.web.same j,W.adj,W.wb b,W.wok.nm,W.bes,n.same j,b.few,b.inn,fun H0 H' a S dn wt lo m _ g p=>h H0 H' a S dn wt lo m g fun c o e=>?_⟩;show g.fo.sm c o (p c o ?_);rw[zS (fun z=>by rw[z,f] at e;cases e),qf (fun z=>by rw[z,f] at e;cases e),qf (fun z=>by rw[z,i] at e;cases e)];show e
theorem qgP{a:Fo}{Q:VK}(f:FoD (cc 9) cw H0 H2 a ss ns qs S dn wt lo (tA tps))(p:Wb (tA tps) ss qs)(h:∀ v H',FRow ss ns tps qs H2 v H'->Q v H'):spFr cc cw [.ref a.x] H2 Q E:=by
 show⟨H0,a,ss,ns,qs,S,dn,wt,lo,_,rfl,f,fun e=>?_,fun t r e m n l hl=>?_⟩
 .subst e;obtain⟨o,g,i⟩:=f.gw;rcases i with⟨_,rfl⟩ | ⟨t,r,e,_⟩
  .show h _ _ ⟨L2.Same.refl _,.inl ⟨rfl,⟨S,qf6 f p⟩,S,g⟩⟩
  .cases e
 .obtain⟨o,g,i⟩:=f.gw
  have s:o=some r:=by
   rcases i with⟨c,_⟩ | ⟨t',j,c,d,rfl⟩
   .rw [e] at c;cases c
   .rw [e] at c;cases c;rw[m] at d;have:=show r.map V.str=j.map V.str by injection (ym d)
    rw[List.map_inj_right (fun a b z=>by injection z)] at this;rw[this]
  subst s;show h _ _ ⟨qF (Sr _) hl,.inr ⟨l,r,rfl,hl,qb,?_,n,S,g⟩⟩;rcases f.en with⟨c,_⟩ | ⟨t',j,c,d,_,_,q⟩
  .rw [e] at c;cases c
  .rw [e] at c;cases c;rw[m] at d;have:=congrArg List.length (show r.map V.str=j.map V.str by injection (ym d));rw[ya,ya] at this;lk
theorem ok_gf(F:Fun K "greatest_from" "greatest_from" jO f fd)(T:Txt K mg cc cw)(uV:DefOk P w K mg base CX0 10 "told_pairs" ["web","pairs"] (spTp cw))(K9:MakeOk P w K mg base CX0 10 (cc 9) "Forest" ["self","web","pairs"] (spFi cc cw))(ug:MethOk P w K mg base CX0 1 (cc 9) "row" ["self"] (spFr cc cw))(Ut:DefOk P w K mg base CX0 12 "turned" ["web","pairs","row"] (spTu cw)):FnOk P w K mg base CX0 13 f fd ["web","pairs"] (spGf cw):=by
 show F.ok Kl fun _ _ _ _ H vs Q E O h=>?_
 .obtain⟨x,l,ss,ns,us,tps,qs,rfl,W,hP,hG,q⟩:=h;have hu:=zd O;show⟨_,(qc (qo (i:=2) Kl.nd rfl (yK rfl) (qp uV (hmR O) qB (qa (pv 0) (qa (pv 1) qd))))
 (qc (qo (i:=3) Kl.nd rfl (yK rfl) (qQ qd))
 (qc (qo (i:=4) Kl.nd rfl (yK rfl) (jk ug (hmR O) (qam K9 (hmR O) (qa (pv 0) (qa (pv 2) qd)))))
 (qc (qaK yZ (qk qcP (pv 4) ju (qz _))
 (qc (qU (qa4 (K:=K) rfl yL Yd Ye qS (pv 3) (qa (pv 4) qd)))
 (qc (qo (i:=2) Kl.nd rfl (yK rfl) (qp Ut (hmR O) qB (qa (pv 0) (qa (pv 2) (qa (pv 4) qd)))))
 (qe (qo (i:=4) Kl.nd rfl (yK rfl) (jk ug (hmR O) (qam K9 (hmR O) (qa (pv 0) (qa (pv 2) qd)))))))))
 (qe (qm (qZ (qa (pv 2) (qa (pv 3) qd))))))))),?_⟩
  apply⟨x,l,ss,ns,us,tps,qs,rfl,W.web,W.adj,hP,hG,fun l1 aj H1 s1 as M _ hA1=>?_⟩;apply⟨by decide,fun c R=>?_⟩;have s2:=qF (Sr H1) (o:=.lst []) R;have d:upd H1 c (.lst []) c=some (.lst []):=qb;have W2:=W.same (s1.trans s2);have s:=tps_ok W.wok W.adj W.ok hG
  have I:(qa6 (qE ss ns ss.length) qs).length=qs.length+0:=by
   have c1:=hG.cnt W.wok.nd;have c2:=s.1.cnt W.wok.nd;rw[s.2] at c2;lk
  have g:PL (upd H1 c (.lst [])) l1 aj (qa6 (qE ss ns ss.length) qs):=⟨s2 _ _ M,hA1.mono fun _ _ z=>s2 _ _ z.2.2⟩;have am:=s1.trans s2;generalize upd H1 c (.lst [])=G at am d W2 g;obtain⟨n,A⟩:∃ n,n=qa6 (qE ss ns ss.length) qs:=⟨_,rfl⟩;rw[<- A] at q g s I;clear A;obtain⟨ps,ah⟩:∃ ps,ps=n:=⟨_,rfl⟩;rw[<- ah] at g s I;replace s:=s.1;apply fun y dx hy L N=>qfz W2 g s hy L N fun H0 H3 a S dn wt lo ea hD s3=>?_;subst ea;obtain⟨fx,ff,ao,_,_,_,ap⟩:=id hD.fo.obj;show⟨rfl,a.x,fx,ff,rfl,ao,ap _ (by room),?_⟩;apply qgP hD (W2.wb s) fun v H4 hv=>?_;have ax:=am.trans s3;have ai:H c=none:=s1.free R;have al:l1≠c:=fun e=>by rw[e,R] at M;cases M
  ext;obtain⟨Wv,D⟩:∃ Wv:Nat->L2.St->Hp->Prop,Wv=fun m σ J=>∃(ln:Addr) (us:LQ) (ps:LP) (p:List V) (v:V),σ=[some (.ref x),some (.ref l),some (.ref ln),some (.ref c),some v]/\L2.Same H J/\H ln=none/\PL J ln us ps/\ln≠c/\PGo ss tps ps/\J c=some (.lst p)/\ps.length=qs.length+p.length/\m=8-ps.length/\(∀ rs,GfR ss ns ps rs->GfR ss ns n rs) /\
   ((v=.non/\MxF ss tps ps/\FiR ss ns ps none)\/∃(r:Addr) (rs:LS),v=.ref r/\r≠c/\J r=some (.lst (rs.map V.str))/\rs.length<=1000/\Aug (tA tps) (pt ps) rs/\FiR ss ns ps (some rs)):=⟨_,rfl⟩
  show⟨Wv,⟨_,by
   rw[D];show⟨l1,aj,ps,[],v,rfl,ax.trans hv.1,as,g.same (s3.trans hv.1),al,s,hv.1 _ _ (s3 _ _ d),I,rfl,(fun rs z=>ah ▸ z),hv.2.imp id ?_⟩;rintro⟨r,rs,e1,U,e3,e4,e5,e6⟩;show⟨r,rs,e1,(fun z=>by rw[z,s3 _ _ d] at U;cases U),e3,e4,e5,e6⟩⟩,fun m σ J ae=>?_⟩
  rw[D] at ae;obtain⟨ln,us,ps,p,v,rfl,sJ,ag,C,aw,gJ,d,hc,hm,af,hv⟩:=ae;ext
  have az:2*ps.length<=14:=by
   have:=gJ.cnt W.wok.nd;have h2:qbF (pt ps) ss<=ss.length:=yW _ _;have:=W.wok.few;lk
  rcases hv with⟨rfl,mx,fi⟩ | ⟨r,rs,rfl,nr,er,hl,au,fi⟩
  .show⟨rfl,_,rfl,qL (fun h=>by simp at h) fun _=>?_⟩;apply⟨by show 2<=sizeLine;decide,fun t ht=>?_⟩;have s9:=qF (Sr J) (o:=.tup [.ref ln,.ref c]) ht;show q t ln c us p ps _ (sJ.trans s9) qb ag (C.same s9) (s9 _ _ d) hc gJ mx (af _ (.nil fi))
  .show⟨rfl,_,rfl,zm ⟨fun ay H'=>∃ m',m'<m/\Wv m' ay H',fun _ _ z=>z,?_⟩⟩;apply⟨.inl ⟨rfl,_,SqL.of d⟩,?_⟩;apply⟨c,_,_,rfl,rfl,d,qi (by lk),?_⟩;have sU:=qaE sJ (o:=.lst (p++[.ref r])) ai;have ad:PL (upd J c (.lst (p++[.ref r]))) ln us ps:=⟨by rw[qf aw];show C.1,C.2.mono fun t ab z=>by rw[qf (zX z d (fun e=>by cases e))];show z⟩;have Y:upd J c (.lst (p++[.ref r])) r=some (.lst (rs.map V.str)):=by rw[qf nr];show er
   have B:upd J c (.lst (p++[.ref r])) c=some (.lst (p++[.ref r])):=qb;generalize upd J c (.lst (p++[.ref r]))=G1 at sU ad Y B ⊢;have WU:=W.same sU;apply⟨x,ln,r,ss,ns,us,tps,ps,rs,rfl,⟨WU.web,WU.adj,ad,gJ,Y,au.row hl W.ok⟩,fun l3 ak H5 s5 j av _ Z=>?_⟩;obtain⟨g3,c3⟩:=qex W.wok W.adj W.ok gJ au hl;have u:∀ rs',GfR ss ns (flT (qE ss ns ss.length) ps rs) rs'->GfR ss ns n rs':=fun rs' z=>af _ (.on fi z);generalize flT (qE ss ns ss.length) ps rs=p3 at Z g3 c3 u;have n3:l3≠c:=fun e=>by rw[e,B] at j;cases j
   have ac:PL H5 l3 ak p3:=⟨av,Z.mono fun _ _ z=>z.2.2⟩;have an:=sU.trans s5;have W5:=W.same an;have X:=s5 _ _ B;apply fun y dx hy L N=>qfz W5 ac g3 hy L N fun H6 H7 b S5 ba bd bc eb aa s7=>?_;subst eb;obtain⟨fy,fg,aq,_,_,_,ar⟩:=id aa.fo.obj;show⟨rfl,b.x,fy,fg,rfl,aq,ar _ (by room),?_⟩;apply qgP aa (W5.wb g3) fun v H8 hv=>?_;apply⟨8-p3.length,by lk,?_⟩;rw[D];show⟨l3,ak,p3,p++[.ref r],v,rfl,(an.trans s7).trans hv.1,sU.free j,ac.same (s7.trans hv.1),n3,g3,hv.1 _ _ (s7 _ _ X),by rw[c3,hc,yt];rfl,rfl,u,hv.2.imp id ?_⟩;rintro⟨r',rs',e1,U,e3,e4,e5,e6⟩;show⟨r',rs',e1,(fun z=>by rw[z,s7 _ _ X] at U;cases U),e3,e4,e5,e6⟩
theorem u4:FnScope ["web"] ["web"] (qh qat):=fS
theorem u5:FnScope ["web"] ["web"] (qh qau):=fS
def GrR(ss:LS)(ns:LN)(rs:LP):Prop:=GfR ss ns (qa6 (qE ss ns ss.length) []) rs
inductive spGr(cw:Addr)(vs:List V)(H:Hp)(Q:VK)(E:XK):Prop|mk (x:Addr) (ss:LS) (ns:LN) (tps:LP) (_:vs=[.ref x]) (_:Wt cw H x ss ns tps) (_:∀(l:Addr) (ls:LQ) (rs:LP) (H':Hp),L2.Same H H'->H l=none->PL H' l ls rs->PGo ss tps rs->MxF ss tps rs->GrR ss ns rs->Q (.ref l) H')
inductive spCo(cw:Addr)(vs:List V)(H:Hp)(Q:VK)(E:XK):Prop|mk (x:Addr) (ss:LS) (ns:LN) (tps:LP) (_:vs=[.ref x]) (_:Wt cw H x ss ns tps) (_:∀(rs:LP) (H':Hp),L2.Same H H'->PGo ss tps rs->MxF ss tps rs->Q (.int rs.length) H')
theorem ok_gr(F:Fun K "greatest" "greatest" qat f fd)(T:Txt K mg cc cw)(s:DefOk P w K mg base CX0 13 "greatest_from" ["web","pairs"] (spGf cw)):FnOk P w K mg base CX0 14 f fd ["web"] (spGr cw):=by
 show F.ok u4 fun _ _ _ _ H vs Q E c h=>?_
 .obtain⟨x,ss,ns,tps,rfl,W,q⟩:=h;have n:=zd c;show⟨_,(qe (qm (qv (qw (K:=K) rfl n) (qp s (hmR c) qB (qa (pv 0) (qa (qQ qd) qd))) qg (fun _ _=>rfl)))),?_⟩;apply⟨by decide,fun l hl=>?_⟩;have b:=qF (Sr H) (o:=.lst []) hl;apply⟨x,l,ss,ns,[],tps,[],rfl,W.same b,⟨qb,.nil⟩,⟨(fun q h=>by cases h),List.nodup_nil,by decide⟩,fun t l2 u p y rs H' r d a i _ _ e g m=>?_⟩;show .inl (zD d (v:=.ref l2) (qu (j:=0) rfl) (q l2 p rs H' (b.trans r) (b.free a) i e g m))
theorem ok_co(F:Fun K "count_of" "count_of" qau f fd)(T:Txt K mg cc cw)(c:DefOk P w K mg base CX0 14 "greatest" ["web"] (spGr cw)):FnOk P w K mg base CX0 15 f fd ["web"] (spCo cw):=by
 show F.ok u5 fun _ _ _ _ H vs Q E b h=>?_
 .obtain⟨x,ss,ns,tps,rfl,W,q⟩:=h;have i:=zd b;show⟨_,(qe (qm (qj (jK (K:=K) rfl) rfl T.b_len YC (qa (qp c (hmR b) qB (qa (pv 0) qd)) qd)))),?_⟩;apply⟨x,ss,ns,tps,rfl,W,fun l j rs H' g _ a d e _=>?_⟩;show qac a.1 ?_;rw[ya,a.2.len];show q rs H' g d e
noncomputable def tB(tps:LP)(a b:Str):Bool:=decide ((a,b)∈tps)||decide ((b,a)∈tps)
theorem tB_iff{a:Str}:tB tps a b=true↔tA tps a b:=by
 unfold tB tA;rw[kW,yO,yO]
noncomputable def del(l:LS)(y:Str):LS:=l.filter fun a=>!decide (a=y)
noncomputable def mo(tps:LP):Nat->LS->Nat
 | 0,_=>0
 | _,[]=>0
 | n+1,x::r=>(r.filter (tB tps x)).foldl (fun m y=>max m (1+mo tps n (del r y))) (mo tps n r)
theorem qb2(h:α->Nat):∀(L:List α) (i:Nat),i<=L.foldl (fun m y=>max m (h y)) i/\(∀ y∈L,h y<=L.foldl (fun m y=>max m (h y)) i)/\(L.foldl (fun m y=>max m (h y)) i=i\/∃ y∈L,L.foldl (fun m y=>max m (h y)) i=h y)
 | [],i=>⟨yh _,(fun y hy=>by cases hy),.inl rfl⟩
 | a::r,i=>by
  obtain⟨h1,b,c⟩:=qb2 h r (max i (h a));rw[List.foldl_cons];show⟨yi (Nat.le_max_left _ _) h1,fun y hy=>?_,?_⟩
  .rcases yA.mp hy with rfl | hy
   .show yi (Nat.le_max_right _ _) h1
   .show b y hy
  .rcases c with z | ⟨y,hy,z⟩
   .rw [z];rcases Kb i (h a) with k | k
    .show .inr ⟨a,yE,kM k⟩
    .show .inl (Nat.max_eq_left k)
   .show .inr ⟨y,yy _ hy,z⟩
structure Mt(tps:LP)(l:LS)(f:Str->Option Str):Prop where
 sym:∀ a b,f a=some b->f b=some a
 tie:∀ a b,f a=some b->tA tps a b
 inn:∀ a b,f a=some b->a∈l
theorem qav{f:Str->Option Str}{x:Str}:qbF f (x::r)=qbF f r+(if (f x).isSome=true then 1 else 0):=by
 unfold qbF;rw[yU];split
 .rw [yH]
 .rfl
theorem qbD{f:Str->Option Str}{l:LS}(h:∀ s∈l,(f s).isSome=(g s).isSome):qbF f l=qbF g l:=by
 unfold qbF;rw[Y3 h]
theorem mem_del{l:LS}{a:Str}:a∈del l y↔a∈l/\a≠y:=by
 unfold del;rw[yp,xJ,xq]
theorem zT{f:Str->Option Str}:∀{r:LS},r.Nodup->y∈r->qbF f r=qbF f (del r y)+(if (f y).isSome=true then 1 else 0)
 | [],_,h=>by cases h
 | x::r,hn,h=>by
  obtain⟨d,g⟩:=yo.mp hn;by_cases e:x=y
  .subst e
   have:del (x::r) x=r:=by
    unfold del;rw[yU,yC (by rw[yD rfl];decide)];show List.filter_eq_self.mpr fun a b=>by rw[yl (fun z=>d (by rw[<- z];show b))];rfl
   rw[this,qav]
  .have c:=(yA.mp h).resolve_left (Yn e);have:del (x::r) y=x::del r y:=by unfold del;rw[yU,yG (by rw[yl e];rfl)]
   rw[this,qav,qav,zT g c];lk
theorem qc7(l:LS)(y:Str):(del l y).length<=l.length:=yW _ _
section
variable{tps:LP}
theorem qb3(i:∀ a b,tA tps a b->a≠b):∀(n:Nat) {l:LS} {f:Str->Option Str},l.length<=n->l.Nodup->Mt tps l f->qbF f l<=2*mo tps n l
 | n,[],f,_,_,_=>YQ _
 | 0,x::r,f,h,_,_=>by simp at h
 | n+1,x::r,f,h,hn,hf=>by
  obtain⟨B,o⟩:=yo.mp hn;have hl:r.length<=n:=by simpa using h
  obtain⟨C,A,_⟩:=qb2 (fun y=>1+mo tps n (del r y)) (r.filter (tB tps x)) (mo tps n r);rw[qav];show _<=2*(r.filter (tB tps x)).foldl (fun m y=>max m (1+mo tps n (del r y))) (mo tps n r)
  cases e:f x with
  | none =>
   have:=qb3 i n hl o (f:=f) ⟨hf.sym,hf.tie,fun a b z=>(yA.mp (hf.inn a b z)).resolve_left fun y=>by rw[y,e] at z;cases z⟩;simp only[kg,Yx,xA];lk
  | some y =>
   have j:=i _ _ (hf.tie _ _ e);have d:=hf.sym _ _ e;have p:=(yA.mp (hf.inn y x d)).resolve_left (Yn j);have t:=A y (yp.mpr ⟨p,tB_iff.mpr (hf.tie _ _ e)⟩);have:=qb3 i n (l:=del r y) (f:=fun a=>if a=x\/a=y then none else f a) (yi (qc7 r y) hl) (o.filter _) ⟨fun a b z=>?_,fun a b z=>?_,fun a b z=>?_⟩
   .rw [zT o p,d,qbD (g:=fun a=>if a=x\/a=y then none else f a) fun s u=>?_]
    .simp only[Xq,Xv]
     (try dsimp only at t)
     lk
    .obtain⟨h1,q⟩:=mem_del.mp u;rw[yC (fun z=>z.elim (fun z=>B (by rw[<- z];show h1)) q)]
   ·(try dsimp only at z ⊢)
    split at z
    .cases z
    .rename_i hne
     have c:=hf.sym _ _ z;rw[yC (fun w=>?_)]
     .show c
     .rcases w with w | w
      .rw [w,e] at c;show hne (.inr (ym c).symm)
      .rw [w,d] at c;show hne (.inl (ym c).symm)
   ·(try dsimp only at z)
    split at z
    .cases z
    .show hf.tie _ _ z
   ·(try dsimp only at z)
    split at z
    .cases z
    .rename_i hne
     have:=(yA.mp (hf.inn a b z)).resolve_left fun w=>hne (.inl w);show mem_del.mpr ⟨this,fun w=>hne (.inr w)⟩
theorem qcI(p:∀ a b,tA tps a b->a≠b):∀(n:Nat) {l:LS},l.length<=n->l.Nodup->∃ f,Mt tps l f/\qbF f l=2*mo tps n l
 | n,[],_,_=>⟨fun _=>none,⟨(fun a b z=>by cases z),(fun a b z=>by cases z),(fun a b z=>by cases z)⟩,by cases n<;>rfl⟩
 | 0,x::r,h,_=>by simp at h
 | n+1,x::r,h,hn=>by
  obtain⟨q,t⟩:=yo.mp hn;have hl:r.length<=n:=by simpa using h
  obtain⟨_,_,C⟩:=qb2 (fun y=>1+mo tps n (del r y)) (r.filter (tB tps x)) (mo tps n r);show ∃ f,_/\_=2*(r.filter (tB tps x)).foldl (fun m y=>max m (1+mo tps n (del r y))) (mo tps n r);rcases C with z | ⟨y,j,z⟩
  .obtain⟨f,d,c⟩:=qcI p n hl t;show⟨f,⟨d.sym,d.tie,fun a b e=>yy _ (d.inn a b e)⟩,?_⟩
   have B:f x=none:=by
    cases e:f x with
    | none=>rfl
    | some b=>show absurd (d.inn _ _ e) q
   rw[qav,B,z,c];rfl
  .obtain⟨j,ty⟩:=yp.mp j;have ty:=tB_iff.mp ty;have i:=p _ _ ty;obtain⟨f,d,c⟩:=qcI p n (l:=del r y) (yi (qc7 r y) hl) (t.filter _)
   have out:∀{a b:Str},f a=some b->a≠x/\a≠y:=fun e=>by
    obtain⟨h1,o⟩:=mem_del.mp (d.inn _ _ e);show⟨fun w=>q (by rw[<- w];show h1),o⟩
   show⟨fun a=>if a=x then some y else if a=y then some x else f a,⟨fun a b e=>?_,fun a b e=>?_,fun a b e=>?_⟩,?_⟩
   ·(try dsimp only at e ⊢)
    split at e
    .cases e;rename_i w;rw[yC (Yn i),yG rfl,w]
    .split at e
     .cases e;rename_i w;rw[yG rfl,w]
     .have u:=d.sym _ _ e;obtain⟨D,E⟩:=out u;rw[yC D,yC E];show u
   ·(try dsimp only at e)
    split at e
    .cases e;rename_i w;rw[w];show ty
    .split at e
     .cases e;rename_i w;rw[w];show Kd ty
     .show d.tie _ _ e
   ·(try dsimp only at e)
    split at e
    .rename_i w;rw[w];show yE
    .split at e
     .rename_i w;rw[w];show yy _ j
     .show yy _ (mem_del.mp (d.inn _ _ e)).1
   .rw [qav,zT t j,yG rfl,yC (Yn i),yG rfl,qbD (g:=f) fun s A=>?_]
    .simp only[Xq,Xv];rw[c,z];lk
    .obtain⟨h1,o⟩:=mem_del.mp A;rw[yC (fun w=>q (by rw[<- w];show h1)),yC o]
theorem qf7(e:∀ a b,tA tps a b->a≠b){l:LS}(h1:l.length<=n)(i:l.length<=m)(h:l.Nodup):mo tps n l=mo tps m l:=by
 obtain⟨f,j,c⟩:=qcI e n h1 h;obtain⟨g,o,d⟩:=qcI e m i h;have:=qb3 e m i h j;have:=qb3 e n h1 h o;lk
variable{ss:LS}{qs:LP}{S:FS}
theorem Mt.gr{f:Str->Option Str}(c:∀ a b,tA tps a b->a≠b)(h:Mt tps ss f):Gr (tA tps) f:=⟨fun z=>Kd z,fun z=>c _ _ z,fun{a b} e=>h.sym a b e,fun{a b} e=>h.tie a b e⟩
theorem PGo.mt(g:PGo ss tps qs):Mt tps ss (pt qs):=⟨g.fn.sym,g.fn.tie,fun a b e=>by
 rcases qcF e with z | z
 .show(g.inn _ z).2.1
 .show(g.inn _ z).2.2.1⟩
theorem qdU(h:∀ a b,tA tps a b->a≠b)(e:ss.Nodup)(g:PGo ss tps qs)(m:MxF ss tps qs):qs.length=mo tps ss.length ss:=by
 obtain⟨S,F⟩:=m;have c:=g.cnt e;have:=qb3 h _ (yh _) e g.mt;obtain⟨f,j,d⟩:=qcI h _ (yh _) e;have k:=F.most (j.gr h)
 have p:(ss.filter fun u=>!(f u).isSome&&(S.rows u).isSome).length<=(snL f ss).length:=qcE (e.filter _) fun u l=>by
  obtain⟨h1,i⟩:=yp.mp l;show yp.mpr ⟨h1,((yY _ _).mp i).1⟩
 have n:=qaX (f:=f) (ss:=ss);have o:=qaX (f:=pt qs) (ss:=ss);lk
theorem mo_del_le(i:∀ a b,tA tps a b->a≠b)(j:ss.Nodup){v:Str}(hv:v∈ss):mo tps (del ss v).length (del ss v)<=mo tps ss.length ss/\mo tps ss.length ss<=mo tps (del ss v).length (del ss v)+1:=by
 constructor
 .obtain⟨f,d,c⟩:=qcI i _ (yh _) (j.filter (fun a=>!decide (a=v)))
  have n:f v=none:=by
   cases e:f v with
   | none=>rfl
   | some b=>show absurd rfl (mem_del.mp (d.inn _ _ e)).2
  have:=qb3 i _ (yh _) j (f:=f) ⟨d.sym,d.tie,fun a b e=>(mem_del.mp (d.inn a b e)).1⟩;rw[zT j hv,n] at this;simp only[kg,Yx,xA] at this;have t:qbF f (del ss v)=2*mo tps (del ss v).length (del ss v):=c;lk
 .obtain⟨f,d,c⟩:=qcI i _ (yh _) j;have h:(del ss v).Nodup:=j.filter _;rw[zT j hv] at c
  cases e:f v with
  | none =>
   have:=qb3 i _ (yh _) h (f:=f) ⟨d.sym,d.tie,fun a b z=>mem_del.mpr ⟨d.inn a b z,fun w=>by rw[w,e] at z;cases z⟩⟩;rw[e] at c;simp at c;lk
  | some y =>
   have m:=d.sym _ _ e;have o:=i _ _ (d.tie _ _ e);have p:y∈del ss v:=mem_del.mpr ⟨d.inn _ _ m,Yn o⟩;have:=qb3 i _ (yh _) h (f:=fun a=>if a=v\/a=y then none else f a) ⟨fun a b z=>?_,fun a b z=>?_,fun a b z=>?_⟩
   .rw [zT h p,yG (show y=v\/y=y from .inr rfl)] at this;rw[zT h p,e,m,qbD (g:=fun a=>if a=v\/a=y then none else f a) fun s r=>?_] at c
    .simp at c this;lk
    .obtain⟨h1,q⟩:=mem_del.mp r;rw[yC (fun z=>z.elim (fun z=>(mem_del.mp h1).2 z) q)]
   ·(try dsimp only at z ⊢)
    split at z
    .cases z
    .rename_i hne
     have l:=d.sym _ _ z;rw[yC (fun w=>?_)]
     .show l
     .rcases w with w | w
      .rw [w,e] at l;show hne (.inr (ym l).symm)
      .rw [w,m] at l;show hne (.inl (ym l).symm)
   ·(try dsimp only at z)
    split at z
    .cases z
    .show d.tie _ _ z
   ·(try dsimp only at z)
    split at z
    .cases z
    .rename_i hne
     show mem_del.mpr ⟨d.inn a b z,fun w=>hne (.inl w)⟩
theorem mx_loose(x:∀ a b,tA tps a b->a≠b)(o:ss.Nodup)(g:PGo ss tps qs)(F:Fn (tA tps) (pt qs) S ss){v:Str}(hv:v∈ss):mo tps (del ss v).length (del ss v)=mo tps ss.length ss↔S.rows v≠none:=by
 have cm:=qdU x o g ⟨S,F⟩;have c:=g.cnt o;have y:(del ss v).Nodup:=o.filter _;constructor
 .intro e J;obtain⟨f,l,d⟩:=qcI x _ (yh _) y
  have q:f v=none:=by
   cases e:f v with
   | none=>rfl
   | some b=>show absurd rfl (mem_del.mp (l.inn _ _ e)).2
  have U:Mt tps ss f:=⟨l.sym,l.tie,fun a b e=>(mem_del.mp (l.inn a b e)).1⟩;have k:=F.most (U.gr x);have Z:qbF f ss=qbF f (del ss v):=by rw[zT o hv,q];rfl
  have e1:=qaX (f:=f) (ss:=ss);have e2:=qaX (f:=pt qs) (ss:=ss);have B:v∈snL f ss:=mem_sn.mpr ⟨hv,q⟩
  have W:(ss.filter fun u=>!(f u).isSome&&(S.rows u).isSome).length<=((snL f ss).erase v).length:=qcE (o.filter _) fun u I=>by
   obtain⟨h1,D⟩:=yp.mp I;obtain⟨P,L⟩:=(yY _ _).mp D;show(XM (fun z=>by rw[z,J] at L;cases L)).mpr (yp.mpr ⟨h1,P⟩)
  rw[xi B] at W;have:=xv B;lk
 .intro G;obtain⟨r,G⟩:=some_of G;have m:=F.fi.alt v r G;show Xo (mo_del_le x o hv).1 ?_
  suffices h:∃ f,Mt tps ss f/\f v=none/\qbF f ss=qbF (pt qs) ss by
   obtain⟨f,l,C,K⟩:=h;have:=qb3 x _ (yh _) y (f:=f) ⟨l.sym,l.tie,fun a b e=>mem_del.mpr ⟨l.inn a b e,fun w=>by rw[w,C] at e;cases e⟩⟩;rw[zT o hv,C] at K;simp only[kg,Yx,xA] at K;lk
  obtain⟨r0,N⟩:=m.tl;have j:r[r.length-1]?=some v:=by rw[N,yt];simp
  have ho:=m.odd;by_cases h1:r.length=1
  .rw [h1] at j;show⟨pt qs,g.mt,m.hd v j,rfl⟩
  .have D:2<=r.length:=by lk
   have lst:∀ s t,r[r.length-1]?=some s->r[r.length-2]?=some t->pt qs s=some t:=fun s t A H=>by
    have:=(m.st (r.length-2) t s H (by rw[show r.length-2+1=r.length-1 by lk];show A)).2.mpr (by lk);show g.fn.sym _ _ this
   have T:=qbQ g.fn.sym m.nd D m.st m.hd fun s t A H=>.inr (lst s t A H);obtain⟨f,l⟩:=qev T;have p:=qew (ss:=ss) T g.fn (qcH m.st) l;have inn:∀{a b:Str},tA tps a b->a∈ss:=fun z=>F.inn _ _ z
   have E:∀ s∈r,s∈ss:=fun s A=>by
    obtain⟨i,n⟩:=yf A;have R:=(yc.mp n).1;by_cases O:i+1<r.length
    .show inn (m.st i s _ n (yb O)).1
    .rw [show i=r.length-1 by lk,j] at n;rw[<- ym n];show hv
   obtain⟨u,I⟩:∃ u,r[r.length-2]?=some u:=⟨_,yb (by lk)⟩;obtain⟨a,M⟩:∃ a,r[0]?=some a:=⟨_,yb (by lk)⟩
   have C:f v=none:=by
    cases e:f v with
    | none=>rfl
    | some b =>
     rcases(l v b).mp e with⟨z,_⟩ | ⟨X,Y⟩
     .show absurd (ye j) z
     .rcases X.at_ m.nd j with w | ⟨_,w⟩
      .have:=(yc.mp w).1;lk
      .rw [show r.length-1-1=r.length-2 by lk] at w;show absurd (lst v b j w) Y
   show⟨f,⟨p.sym,p.tie,fun a b e=>inn (p.tie a b e)⟩,C,?_⟩;have:=qdI T l o E M j;rw[m.hd a M,lst v u j I] at this;simp at this;show this
end
theorem Uk:FnScope ["_law_script","_law_k"] ["_law_script","_law_k"] (qh qbj):=fS
theorem Ud:FnScope ["_law_cell_here"] ["_law_cell_here"] (qh qaY):=fS
theorem KQ:FnScope ["_law_state","_law_many","_law_digit","_law_number"] ["_law_state","_law_many"] (qh qbk):=fS
theorem Kr:FnScope ["_law_state","_law_many","_law_letters","_law_at","_law_head","_law_first","_law_found","_law_k","_law_tail"] ["_law_state","_law_many"] (qh zF):=fS
inductive spCeQ(K:W.Frag)(vs:List V)(H:Hp)(Q:VK)(E:XK):Prop|mk (a:Addr) (ns:LX) (k:Int) (_:vs=[.ref a,.int k]) (_:SqL K H a (ns.map V.int)) (_:0<=k) (_:k<1000) (_:∀ i:Int,Q (.int i) H)
inductive spBgQ(vs:List V)(H:Hp)(Q:VK)(E:XK):Prop|mk (i:Int) (_:vs=[.int i]) (_:∀(p:Addr) (a b c:Int),H p=none->Q (.ref p) (upd H p (.lst [.int a,.int b,.int c])))
inductive spNmQ(vs:List V)(H:Hp)(Q:VK)(E:XK):Prop|mk (p:Addr) (m:Nat) (_:vs=[.ref p,.int (m:Int)]) (_:Box H p) (_:m<=14) (_:∀(l:Addr) (ss:LS) (H':Hp),BB p H H'->H l=none->NL p H' l ss->NOk ss->ss.length=m->Q (.ref l) H')
theorem ok_tkQ(F:Fun K "_law_take" "_law_take" qbk f fd):FnOk P w K mg base CX0 1 f fd ["_law_state","_law_many"] spTake:=by
 show F.ok KQ fun _ _ _ _ H vs Q E l h=>?_
 .obtain⟨p,m,rfl,⟨a,b,c,g⟩,j,h1,k⟩:=h;have d:=zd l;show⟨_,(qc (qH (qk qdP (qv (qw (K:=K) rfl d) (pv 0) qg (fun _ _=>rfl)) qg (qz _)) (qc (qo (i:=2) KQ.nd rfl (yK rfl) (qG zW (qv (qw (K:=K) rfl d) (pv 0) qg (fun _ _=>rfl)) (pv 1)))
 (qc (jQ (qG qcO (qv (qw (K:=K) rfl d) (pv 0) qg (fun _ _=>rfl)) (pv 1)) (j7 (pv 0) qg (j9 d)))
 (qe (qm (pv 2))))) qr)
 (qc (jQ (qG (zu (K:=K) rfl) (qv (qw (K:=K) rfl d) (pv 0) qg (fun _ _=>rfl)) qg) (j7 (pv 0) qg (j9 d)))
 (qc (qo (i:=3) KQ.nd rfl (yK rfl) (qG zW (qG (zu (K:=K) rfl) (qG (zu (K:=K) rfl) (qG qbW (qv (qw (K:=K) rfl d) (pv 0) qg (fun _ _=>rfl)) qg) (qG qbW qg (qv (qw (K:=K) rfl d) (pv 0) qg (fun _ _=>rfl)))) qg) qg))
 (qc (qo (i:=3) KQ.nd rfl (yK rfl) (qG zW (qG qbW (pv 3) (pv 3)) qg))
 (qc (qo (i:=3) KQ.nd rfl (yK rfl) (qG zW (qG qbW (qG (zu (K:=K) rfl) (pv 3) (qG qbW qg (qv (qw (K:=K) rfl d) (pv 0) qg (fun _ _=>rfl)))) qg) qg))
 (qe (qm (qG zW (qG qcO (qG zW (qG qbW (pv 3) (pv 3)) qg) qg) (pv 1))))))))),?_⟩
  apply .inl (zY g rfl ?_);apply qL (fun hc=>?_) (fun hc=>?_)
  .ext;show .inl (zY g rfl ?_);apply vI j ?_;apply .inl (zY g rfl ?_);apply vI ⟨j,h1⟩ ?_;apply .inl (qeT g rfl ?_);apply k _ _ (xF _ (by lk)) (xC _ j) ⟨fun x o n e=>by rw[qf n];show e,_,_,_,qb⟩
  .ext;show .inl (zY g rfl ?_);apply .inl (qeT g rfl ?_);apply .inl (zY qb rfl ?_);apply qbX (.inr (by decide)) ?_;apply .inl (zY qb rfl ?_);apply qbX (.inl (by decide)) ?_;apply vI (by decide) ?_;ext;have q:=xF (b*48271+7919*(c+1)+11) (show(2147483647:Int)≠0 by decide);have r:=xC (b*48271+7919*(c+1)+11) (show(0:Int)<2147483647 by decide);show qbX (.inl ⟨by lk,by lk⟩) ?_;apply vI (by decide) ?_;apply .inl (zY qb rfl ?_);apply qbX (.inl (by decide)) ?_;apply qbX (.inr (by decide)) ?_;apply vI (by decide) ?_;ext;generalize ((b*48271+7919*(c+1)+11) % 2147483647*((b*48271+7919*(c+1)+11) % 2147483647) % 2147483629+31*(c+1))*69621=z;have s:=xF z (show(2147483587:Int)≠0 by decide);have t:=xC z (show(0:Int)<2147483587 by decide);show qbX (.inl ⟨by lk,by lk⟩) ?_;apply vI (by decide) ?_;apply vI ⟨by decide,by decide⟩ ?_;apply vI j ?_;show k _ _ (xF _ (by lk)) (xC _ j) ⟨fun x o n e=>by rw[qf n];show e,_,_,_,qb⟩
theorem ok_ceQ(F:Fun K "_law_cell" "_law_cell" qbj f fd)(T:Txt K mg cc cw):FnOk P w K mg base CX0 1 f fd ["_law_script","_law_k"] (spCeQ K):=by
 show F.ok Uk fun _ _ _ _ H vs Q E l h=>?_
 .obtain⟨a,ns,k,rfl,e,j,h1,q⟩:=h;have m:=zd l;show⟨_,(qc (qH (qk qdY (pv 1) (qj (jK (K:=K) rfl) rfl T.b_len YC (qa (pv 0) qd)) (qz _)) (qe (qm (qv (qw (K:=K) rfl m) (pv 0) (pv 1) (fun _ _=>rfl)))) qr)
 (qe (qm (qG (zu (K:=K) rfl) (qG qbW qg (pv 1)) qg)))),?_⟩
  apply qdp e ?_;apply qL (fun hc=>?_) (fun hc=>?_)
  .ext;have c:k<(ns.map V.int).length:=yk hc;obtain⟨v,g,b⟩:=atI_lt j c;rw[yd] at b
   cases d:ns[k.toNat]? with
   | none=>rw[d] at b;cases b
   | some i =>
    rw[d] at b;cases b;show .inl (vIxLs e g (q i))
  .ext;show qbX (.inl (by decide)) ?_;apply q _
theorem ok_bgQ(F:Fun K "_law_begun" "_law_begun" qaY f fd)(T:Txt K mg cc cw):FnOk P w K mg base CX0 1 f fd ["_law_cell_here"] spBgQ:=by
 show F.ok Ud fun _ _ _ _ H vs Q E b h=>?_
 .obtain⟨c,rfl,q⟩:=h;show⟨_,(qe (qm (qQ (qa (qj (qaL rfl) rfl T.b_max boot_max (qa qg (qa (qG zZ (pv 0) (qG op_pow qg qg)) qd))) (qa (qG zW (pv 0) qg) (qa qg qd)))))),?_⟩;apply vI ⟨by decide,by decide,by decide⟩ ?_;apply⟨_,_,rfl,?_⟩;apply vI (by decide) ?_;apply⟨by show 3<=sizeLine;decide,fun p a=>q p _ _ _ a⟩
theorem five_inj{sh a b:Int}(f:0<=a)(hb:0<=b)(c:a<26)(d:b<26)(e:(sh+5*a) % 26=(sh+5*b) % 26):a=b:=by lk
theorem qc8{i:Int}{Q:VK}(a:0<=i)(h1:i<26)(k:Q (.str ⟨#[97+i.toNat]⟩) H):qfZ K (.str L26) (.int i) H Q:=.inl (vIxS (by room) (L26_at a h1) k)
theorem qey{a:LS}(c:a.length=n)(h1:∀ x∈a,x.length=1/\x.cps.toList.all sg=true):(Txt.join "" a).cps.toList.length=n/\(Txt.join "" a).cps.toList.all sg=true:=by
 constructor
 .have:(Txt.join "" a).length=n:=by rw[join_len fun x b=>(h1 x b).1];show c
  rw[<- this];simp[Str.length]
 .have e:Txt.join "" a=Str.join "" a:=Yu.mp (join_plain_closes "" a);rw[e];show qdD fun x b=>(h1 x b).2
theorem ok_nmQ(F:Fun K "_law_names" "_law_names" zF f fd)(T:Txt K mg cc cw)(D:DefOk P w K mg base CX0 1 "_law_take" ["_law_state","_law_many"] spTake):FnOk P w K mg base CX0 2 f fd ["_law_state","_law_many"] spNmQ:=by
 show F.ok Kr fun _ _ _ s H vs Q E B h=>?_
 .obtain⟨p,m,rfl,hB,m7,q⟩:=h;have hu:=zd B;show⟨_,(qc (qo (i:=2) Kr.nd rfl (Xr rfl) qaA)
 (qc (qo (i:=3) Kr.nd rfl (yK rfl) (qp D (hmR B) qB (qa (pv 0) (qa qg qd))))
 (qc (qo (i:=4) Kr.nd rfl (yK rfl) (qa4 (K:=K) rfl PySem.F.plainAttrs_str PySem.F.slot_str_join PySem.F.type_str_join (qe3 (K:=K) rfl) qaA (qa (jh (sc:=qh zF) (XN:=["_law_state","_law_many","_law_letters","_law_at","_law_head","_law_first","_law_found","_law_k","_law_tail"]) ["_law_k","_law_letters","_law_state"] 1 [2,0] rfl rfl rfl (by room) rfl (by room)
  (jf rfl T.b_range (qa (pv 3) qd)) (fun _ _ _ _=>(qt (i:=0) (show(["_law_k","_law_letters","_law_state"]:LS).Nodup by room) rfl (yK rfl))) qN
  (fun _ _ _ _=>jA)
  (fun _ _ _ _=>(qv (qw (K:=K) rfl hu) (pv 1) (qp D (hmR B) qB (qa (pv 2) (qa qg qd))) (fun _ _=>rfl)))) qd)))
 (qc (qo (i:=5) Kr.nd rfl (yK rfl) (qp D (hmR B) qB (qa (pv 0) (qa qg qd))))
 (qc (qo (i:=6) Kr.nd rfl (yK rfl) (qQ qd))
 (qc (jp yZ rfl (jf rfl T.b_range (qa (pv 1) qd)) (qt (i:=7) Kr.nd rfl (yK rfl))
 (qc (qo (i:=8) Kr.nd rfl (yK rfl) (qa4 (K:=K) rfl PySem.F.plainAttrs_str PySem.F.slot_str_join PySem.F.type_str_join (qe3 (K:=K) rfl) qaA (qa (jh (sc:=qh zF) (XN:=["_law_state","_law_many","_law_letters","_law_at","_law_head","_law_first","_law_found","_law_k","_law_tail"]) ["_law_j","_law_letters","_law_state"] 1 [2,0] rfl rfl rfl (by room) rfl (by room)
  (jf rfl T.b_range (qa (qp D (hmR B) qB (qa (pv 0) (qa (qG zZ qg (pv 3)) qd))) qd)) (fun _ _ _ _=>(qt (i:=0) (show(["_law_j","_law_letters","_law_state"]:LS).Nodup by room) rfl (yK rfl))) qN
  (fun _ _ _ _=>jA)
  (fun _ _ _ _=>(qv (qw (K:=K) rfl hu) (pv 1) (qp D (hmR B) qB (qa (pv 2) (qa qg qd))) (fun _ _=>rfl)))) qd)))
 (qe (qU (qa4 (K:=K) rfl yL Yd Ye qS (pv 6) (qa (qG (zu (K:=K) rfl) (qG (zu (K:=K) rfl) (pv 4) (qv (qw (K:=K) rfl hu) (pv 2) (qG zW (qG (zu (K:=K) rfl) (pv 5) (qG qbW qg (pv 7))) qg) (fun _ _=>rfl))) (pv 8)) qd))))))
 (qe (qm (pv 6))))))))),?_⟩
  apply⟨p,4,rfl,hB,by decide,by decide,fun at_ H1 w0 w1 b1=>?_⟩;obtain⟨G,rfl⟩:=YX w0;apply⟨rfl,?_⟩;apply⟨_,rfl,by lk,by lk,jS (lo:=0) (n:=((G:Int)).toNat) (Signs p H1) (Signs.start b1.2) (fun i ys H' M c=>?_) fun ys H5 c=>?_⟩
  .ext;show zm ?_;apply⟨p,26,rfl,c.1.2,by decide,by decide,fun r aa U r1 hb=>?_⟩;show qc8 U r1 ?_;show⟨by rw[c.len];show qi (by lk),c.more hb (qfw (by lk) (by lk))⟩
  .show⟨by rw[c.len];show yV (qi (by lk)),fun l5 h5=>?_⟩;obtain⟨ac,zs,rfl,hn,h1⟩:=c;have b2:=(b1.trans ac).new (o:=.lst (zs.map V.str)) h5;apply⟨_,l5,zs,rfl,rfl,SqL.of qb,by rw[qdE fun x hx=>(h1 x hx).1,show("":Str).length=0 by room];show yV (qi (by lk)),?_⟩;obtain⟨C,aS⟩:=qey hn h1;rw[Yw] at C;generalize Txt.join "" zs=a at C aS ⊢;have z:a.length=G:=by rw[<- C];simp[Str.length]
   generalize upd H5 l5 (.lst (zs.map V.str))=H6 at b2 ⊢;apply⟨p,26,rfl,b2.2,by decide,by decide,fun first H7 f0 f1 b3=>?_⟩;have b7:=b2.trans b3;apply⟨by decide,fun l hl=>?_⟩;have b8:=b7.new (o:=.lst []) hl;have Z:=b7.apart hl;have O:=b7.free hl;apply⟨_,rfl,by lk,by lk,jZ (fun i σ H'=>BB p H H'/\∃(ss:LS) (x9 A:Option V),σ=[some (.ref p),some (.int (m:Int)),some (.str L26),some (.int (G:Int)),some (.str a),some (.int first),some (.ref l),x9,A]/\H' l=some (.lst (ss.map V.str))/\ss.length=i/\∀(j:Nat) s,ss[j]?=some s->zP s=true/\s.cps.toList[G]?=some (97+((first+5*(j:Int)) % 26).toNat))
     ⟨b8,[],none,none,rfl,qb,rfl,by simp⟩ (fun i σ H8 M hp=>?_) fun σ H8 hp=>?_⟩
   .obtain⟨X,ss,x9,A,rfl,y,b,N⟩:=hp;apply⟨rfl,?_⟩;apply⟨p,_,rfl,X.2,by lk,by lk,fun r H9 U r1 I=>?_⟩;obtain⟨r,rfl⟩:=YX U;have R:=I.1 _ _ Z y;have bb:=X.trans I;show⟨_,rfl,by lk,by lk,jS (lo:=0) (n:=((r:Int)).toNat) (Signs p H9) (Signs.start bb.2) (fun i ys H' M c=>?_) fun ys H10 c=>?_⟩
    .ext;show zm ?_;apply⟨p,26,rfl,c.1.2,by decide,by decide,fun r aa U r1 hb=>?_⟩;show qc8 U r1 ?_;show⟨by rw[c.len];show qi (by lk),c.more hb (qfw (by lk) (by lk))⟩
    .show⟨by rw[c.len];show yV (qi (by lk)),fun l6 h6=>?_⟩;obtain⟨L,W,rfl,af,J⟩:=c;have t:=L.1 _ _ Z R;have bc:=(bb.trans L).new (o:=.lst (W.map V.str)) h6;have d:upd H10 l6 (.lst (W.map V.str)) l=some (.lst (ss.map V.str)):=by rw[qf (qy t h6)];show t
     apply⟨_,l6,W,rfl,rfl,SqL.of qb,by rw[qdE fun x hx=>(J x hx).1,show("":Str).length=0 by room];show yV (qi (by lk)),?_⟩;obtain⟨Y,aT⟩:=qey af J;rw[Yw] at Y;generalize Txt.join "" W=tl at Y aT ⊢;have ag:tl.length=r:=by rw[<- Y];simp[Str.length]
     generalize upd H10 l6 (.lst (W.map V.str))=H11 at bc d ⊢;apply⟨.inl ⟨rfl,_,SqL.of d⟩,?_⟩;apply qbX (.inl ⟨by decide,by decide⟩) ?_;apply vI (by decide) ?_;ext;rw[x0];show qc8 (xF _ (by decide)) (xC _ (by decide)) ?_;show qfV (by rw[z];show _+1<=_;show yV (qi (by lk))) ?_;have u:(a++(⟨#[97+((first+5*(i:Int)) % 26).toNat]⟩:Str)).cps.toList=a.cps.toList++[97+((first+5*(i:Int)) % 26).toNat]:=by rw[qbg]
     have S:(a++(⟨#[97+((first+5*(i:Int)) % 26).toNat]⟩:Str)).length=G+1:=by
      have:(a++(⟨#[97+((first+5*(i:Int)) % 26).toNat]⟩:Str)).length=(a++(⟨#[97+((first+5*(i:Int)) % 26).toNat]⟩:Str)).cps.toList.length:=by simp[Str.length]
      rw[this,u,yt,C];rfl
     generalize a++(⟨#[97+((first+5*(i:Int)) % 26).toNat]⟩:Str)=nm at u S ⊢;apply qfV (by rw[S,ag];show yV (qi (by lk))) ?_;show⟨l,_,_,rfl,rfl,d,by rw[ya,b];show qi (by lk),?_⟩;show⟨bc.put O Z,ss++[_],_,_,rfl,by rw[qb,yx];rfl,by rw[yt,b];rfl,fun j s g=>?_⟩;by_cases ae:j<ss.length
     .rw [y0 ae] at g;show N j s g
     .rw [yI (by lk)] at g;have h0:j-ss.length=0:=by have:=(yc.mp g).1;simp at this;lk
      rw[h0] at g;cases g;have ad:j=i:=by lk
      subst ad;have eF:(nm++tl).cps.toList=a.cps.toList++[97+((first+5*(j:Int)) % 26).toNat]++tl.cps.toList:=by rw[qbg,u]
      have ai:=xC (first+5*(j:Int)) (show(0:Int)<26 by decide);show⟨nameS_of eF (by simp;lk) (by simp[C,Y];lk) ?_,?_⟩
      .rw [X0,X0,aS,aT,XH,qfw (by lk) (by lk)];rfl
      .rw [eF,Yi,yI (by lk),C,XC];rfl
   .obtain⟨X,ss,x9,A,rfl,y,b,N⟩:=hp;ext;rw[Yw] at b;show q l ss _ X O ⟨y,Z⟩ ⟨by lk,nodup_key fun i j s M g=>?_,fun s c=>?_⟩ b
    .have ei:=(N i s M).2;have ej:=(N j s g).2;have li:=(yc.mp M).1;have lj:=(yc.mp g).1;rw[ei,Option.some.injEq] at ej
     have e4:(i:Int)=(j:Int):=five_inj (sh:=first) (by lk) (by lk) (by lk) (by lk) (by
      have p1:=xF (first+5*(i:Int)) (show(26:Int)≠0 by decide);have p2:=xF (first+5*(j:Int)) (show(26:Int)≠0 by decide);lk)
     lk
    .obtain⟨j,g,e⟩:=Xk c;show(N j s (by rw[yb g,e])).1
theorem Kw:FnScope ["_law_state","_law_size","_law_way","_law_found","_law_k","_law_sparse","_law_one","_law_other"] ["_law_state","_law_size"] (qh zG):=fS
theorem qc9{X:L2.Cx}{st:List PySem.Stmt}{t:L2.TS}(t':L2.TS)(h:L2.PSs X st t)(k:∀ D σ H,t' D σ H->t D σ H):L2.PSs X st t':=fun a s σ H D I q=>h a s σ H D I (k D σ H q)
noncomputable abbrev iV(k:Nat):V:=.int (k:Int)
theorem qaw(a b:Int):(if false=true then !eqV (V.int a) (V.int b) else eqV (V.int a) (V.int b))=decide (a=b):=by
 rw[yC (by decide)];unfold eqV;by_cases h:a=b<;>simp[h]
theorem qaH{i j:Int}{Q:VK}(q:Q (.bl (decide (i=j))) H):qfu K (.int i) (.int j) H Q:=.inl (.inl (.inl ⟨rfl,rfl,by rw[qaw];show q⟩))
noncomputable abbrev iT(q:Nat×Nat):HO:=.tup [.int (q.1:Int),.int (q.2:Int)]
def IPL(H:Hp)(l:Addr)(ts:LQ)(TI:List (Nat×Nat)):Prop:=H l=some (.lst (ts.map V.ref))/\All2 (fun t q=>H t=some (iT q)) ts TI
theorem IPL.same{TI:List (Nat×Nat)}(h:IPL H l ts TI)(s:L2.Same H H'):IPL H' l ts TI:=⟨s _ _ h.1,h.2.mono fun _ _ z=>s _ _ z⟩
theorem qf8{a:TA}{R:It->Hp->Prop}(h:a σ H fun vs H1=>∃ i j:Int,vs=[.int i,.int j]/\(-(2 ^ 62)<=i/\i<2 ^ 62/\-(2 ^ 62)<=j/\j<2 ^ 62)/\R (Itr i (j-i).toNat) H1):qfO a σ H R:=h
theorem qez(h:some (iT q')=some (iT q)):q'=q:=by
 injection h with h
 injection h with h
 injection h with h1 h2
 injection h1 with h1
 injection h2 with h2 _
 injection h2 with h2
 show xI (by lk) (by lk)
theorem qcJ{b:Addr}(hb:H b=some (iT q'))(f:H a=some (iT q)):EqD K H 1 (.ref b) (.ref a) (decide (q'=q)):=by
 by_cases e:b=a
 .subst e;rw[hb] at f;have:q'=q:=qez f;rw[yD this];show .self
 .have z:=EqT.tup (K:=K) (H:=H) (n:=0) (e:=fun j=>if j=0 then eqV (iV q'.1) (iV q.1) else eqV (iV q'.2) (iV q.2)) (SqT.of hb) (SqT.of f) fun j x y c d=>by
   match j,c,d with
   | 0,c,d=>cases c;cases d;show .flat rfl rfl
   | 1,c,d=>cases c;cases d;show .flat rfl rfl
   | n+2,c,d=>simp at c
  have l:((List.range (min [iV q'.1,iV q'.2].length [iV q.1,iV q.2].length)).all (fun j=>if j=0 then eqV (iV q'.1) (iV q.1) else eqV (iV q'.2) (iV q.2))&&[iV q'.1,iV q'.2].length==[iV q.1,iV q.2].length)=decide (q'=q):=by
   have g:eqV (iV q'.1) (iV q.1)=decide (q'.1=q.1):=by
    have:=qaw (q'.1:Int) (q.1:Int);rw[yC (by decide)] at this;rw[this];show YB.mpr (by lk)
   have i:eqV (iV q'.2) (iV q.2)=decide (q'.2=q.2):=by
    have:=qaw (q'.2:Int) (q.2:Int);rw[yC (by decide)] at this;rw[this];show YB.mpr (by lk)
   show((if (0:Nat)=0 then eqV (iV q'.1) (iV q.1) else eqV (iV q'.2) (iV q.2))&&((if (1:Nat)=0 then eqV (iV q'.1) (iV q.1) else eqV (iV q'.2) (iV q.2))&&true)&&true)=_;rw[yG rfl,yC (by decide),g,i,k8,k8];rw[YA,yY,yO,yO,yO];show⟨fun h=>xI h.1 h.2,fun h=>by rw[h];show⟨rfl,rfl⟩⟩
  rw[l] at z;show .deep z e
theorem qeA{TI:List (Nat×Nat)}{Q:VK}(h:IPL H l ts TI)(m:H a=some (iT q0))(q:Q (.bl (if neg=true then !decide (q0∈TI) else decide (q0∈TI))) H):qdW K neg (.ref a) (.ref l) H Q:=by
 classical
 show .inr (.inr ⟨l,ts.map V.ref,fun z=>decide (∃ t,z=.ref t/\H t=some (iT q0)),1,rfl,SqL.of h.1,by decide,fun z hz=>?_,?_⟩)
 .obtain⟨b,hb,rfl⟩:=yN.mp hz;obtain⟨q',_,r⟩:=h.2.mem hb;have e:=qcJ (K:=K) r m
  have j:decide (∃ t,V.ref b=.ref t/\H t=some (iT q0))=decide (q'=q0):=by
   apply YB.mpr;constructor
   .rintro ⟨t,f,c⟩;cases f;rw[r] at c;show qez c
   .rintro rfl;show⟨b,rfl,r⟩
  show EqD K H 1 (.ref b) (.ref a) (decide (∃ t,V.ref b=.ref t/\H t=some (iT q0)));rw[j];show e
 .have e:((ts.map V.ref).any fun z=>decide (∃ t,z=.ref t/\H t=some (iT q0)))=decide (q0∈TI):=by
   rw[YA,YH,yO];constructor
   .rintro ⟨z,hz,e⟩;obtain⟨t,o,rfl⟩:=yN.mp hz;obtain⟨q',g,r⟩:=h.2.mem o;obtain⟨t',f,c⟩:=yk e;cases f;rw[r] at c;have:q'=q0:=qez c;rw[<- this];show g
   .intro n;obtain⟨k,i,e⟩:=Xk n;have d:k<ts.length:=by rw[h.2.len];show i
    have r:=h.2.at_ k ts[k] TI[k] (yb d) (yb i);show⟨.ref ts[k],yN.mpr ⟨_,YN d,rfl⟩,yD ⟨ts[k],rfl,by rw[r,e]⟩⟩
  rw[e];show q
theorem qeB{TI:List (Nat×Nat)}{Q:VK}(h:IPL H l ts TI)(b:H a=some (iT q0))(q:Q (.bl (!decide (q0∈TI))) H):qdW K true (.ref a) (.ref l) H Q:=qeA h b (by rw[yG rfl];show q)
def TJ(m:Nat)(TI:List (Nat×Nat)):Prop:=TI.length<=30/\(∀ q∈TI,q.1<q.2/\q.2<m)/\TI.Nodup
theorem All2.cons{R:α->β->Prop}{l:List α}{m:List β}{x:α}{y:β}(r:R x y)(h:All2 R l m):All2 R (x::l) (y::m):=
 ⟨by rw[yH,yH,h.len],fun k a b c hb=>by
  cases k with
  | zero=>simp at c hb;subst c;subst hb;show r
  | succ k=>show h.at_ k a b (by simpa using c) (by simpa using hb)⟩
theorem BB.tup(b:BB p H H')(c:Box H p)(h:H t=some (.tup xs)):H' t=some (.tup xs):=b.1 _ _ (fun e=>by obtain⟨x,y,z,a⟩:=c;rw[e,a] at h;cases h) h
theorem IPL.bb{TI:List (Nat×Nat)}(h:IPL H l ts TI)(a:Box H p)(b:BB p H H')(hl:l≠p):IPL H' l ts TI:=⟨b.1 _ _ hl h.1,h.2.mono fun t q z=>b.tup a z⟩
theorem IPL.snoc{TI:List (Nat×Nat)}(h:IPL H l ts TI)(a:H t=some (iT q)):IPL (upd H l (.lst ((ts++[t]).map V.ref))) l (ts++[t]) (TI++[q]):=by
 have key:∀{u:Addr} {r:Nat×Nat},H u=some (iT r)->upd H l (.lst ((ts++[t]).map V.ref)) u=some (iT r):=fun{u r} e=>by rw[qf (fun z=>by rw[z,h.1] at e;cases e)];show e
 show⟨qb,(h.2.mono fun _ _ z=>key z).snoc (key a)⟩
theorem IPL.lenV{TI:List (Nat×Nat)}(h:IPL H l ts TI):(ts.map V.ref).length=TI.length:=by rw[ya,h.2.len]
structure Fnd(p:Addr)(H J:Hp)(l:Addr)(ts:LQ)(TI:List (Nat×Nat)):Prop where
 bb:BB p H J
 old:H l=none
 np:l≠p
 li:IPL J l ts TI
theorem Fnd.on{TI:List (Nat×Nat)}(h:Fnd p H J l ts TI)(b:BB p J J'):Fnd p H J' l ts TI:=⟨h.bb.trans b,h.old,h.np,h.li.bb h.bb.2 b h.np⟩
theorem Fnd.app{TI:List (Nat×Nat)}(h:Fnd p H J l ts TI)(a:J t=some (iT q)):Fnd p H (upd J l (.lst (ts.map V.ref++[.ref t]))) l (ts++[t]) (TI++[q]):=by
 have e:ts.map V.ref++[.ref t]=(ts++[t]).map V.ref:=by rw[yx];rfl
 rw[e];show⟨h.bb.put h.old h.np,h.old,h.np,h.li.snoc a⟩
theorem TJ.snoc{TI:List (Nat×Nat)}(h:TJ m TI)(hl:TI.length<30)(f:q.1<q.2/\q.2<m)(d:q∉TI):TJ m (TI++[q]):=by
 show⟨by rw[yt];simp;lk,fun r g=>?_,?_⟩
 .rcases yB.mp g with z | z
  .show h.2.1 r z
  .rw [yz.mp z];show f
 .show Yc.mpr ⟨h.2.2,by simp,fun a c b hb e=>d (by rw[yz.mp hb] at e;rw[<- e];show c)⟩
inductive spShQ(vs:List V)(H:Hp)(Q:VK)(E:XK):Prop|mk (p:Addr) (m:Nat) (_:vs=[.ref p,.int (m:Int)]) (_:Box H p) (_:m<=14) (_:∀(l:Addr) (ts:LQ) (TI:List (Nat×Nat)) (H':Hp),Fnd p H H' l ts TI->TJ m TI->Q (.ref l) H')
noncomputable def chT(n:Nat):List (Nat×Nat):=(List.range n).map fun k=>(k,k+1)
theorem qa7(n:Nat):(chT n).length=n:=by unfold chT;rw[ya,XB]
theorem qda(h:q∈chT n):q.1<n/\q.2=q.1+1:=by
 obtain⟨k,a,rfl⟩:=yN.mp h;show⟨YT.mp a,rfl⟩
theorem qfi(n:Nat):(chT n).Nodup:=List.Pairwise.map _ (fun a b h e=>h (congrArg Prod.fst e)) List.nodup_range
theorem qdJ(n:Nat):chT (n+1)=chT n++[(n,n+1)]:=by unfold chT;rw[XZ,yx];rfl
theorem qeC{b:Addr}{Q:VK}(c:G a=some (.lst xs))(d:G b=some (.lst ys))(hl:xs.length+ys.length<=2000)(q:∀ p,G p=none->Q (.ref p) (upd G p (.lst (xs++ys)))):qcS K (.ref a) (.ref b) G Q:=.inl ⟨a,b,_,_,rfl,rfl,c,d,yi hl (by decide),q⟩
theorem ok_shQ(F:Fun K "_law_shape" "_law_shape" zG f fd)(T:Txt K mg cc cw)(Ke:DefOk P w K mg base CX0 1 "_law_take" ["_law_state","_law_many"] spTake):FnOk P w K mg base CX0 2 f fd ["_law_state","_law_size"] spShQ:=by
 show F.ok Kw fun _ _ _ _ H vs Q E hr h=>?_
 .obtain⟨p,m,rfl,hB,m7,q⟩:=h;have Z:=zd hr;obtain⟨TC3,y⟩:∃ I:TS,I=fun D σ J=>(∃ g:Int,σ=[some (.ref p),some (.int (m:Int)),some (.int g),none,none,none,none,none])/\BB p H J/\∀(l:Addr) (ts:LQ) (TI:List (Nat×Nat)) (H':Hp),Fnd p H H' l ts TI->TJ m TI->D.rt (.ref l) H':=⟨_,rfl⟩;show⟨_,(qc (qo (i:=2) Kw.nd rfl (yK rfl) (qp Ke (hmR hr) qB (qa (pv 0) (qa qg qd))))
 (qc (qH (qk (j3 (K:=K) rfl Z) (pv 2) qg (qz _)) (qe (qm (jh (sc:=qh zG) (XN:=["_law_state","_law_size","_law_way","_law_found","_law_k","_law_sparse","_law_one","_law_other"]) ["_law_k"] 1 [] rfl rfl rfl (by room) rfl (by room)
  (jf rfl T.b_range (qa (qG zZ (pv 1) qg) qd)) (fun _ _ _ _=>(qt (i:=0) (show(["_law_k"]:LS).Nodup by room) rfl (yK rfl))) qN
  (fun _ _ _ _=>jA)
  (fun _ _ _ _=>(qZ (qa (pv 0) (qa (qG (zu (K:=K) rfl) (pv 0) qg) qd))))))) qr)
 (qc (qH (PW.pt (qbm (qk (j3 (K:=K) rfl Z) (pv 2) qg (qz _)) (qa1 (qk qdP (pv 1) qg (qz _))))) (qe (qm (qG (zu (K:=K) rfl) (qQ (qa (qZ (qa qg (qa (qG zZ (pv 1) qg) qd))) qd)) (jh (sc:=qh zG) (XN:=["_law_state","_law_size","_law_way","_law_found","_law_k","_law_sparse","_law_one","_law_other"]) ["_law_k"] 1 [] rfl rfl rfl (by room) rfl (by room)
  (jf rfl T.b_range (qa (qG zZ (pv 1) qg) qd)) (fun _ _ _ _=>(qt (i:=0) (show(["_law_k"]:LS).Nodup by room) rfl (yK rfl))) qN
  (fun _ _ _ _=>jA)
  (fun _ _ _ _=>(qZ (qa (pv 0) (qa (qG (zu (K:=K) rfl) (pv 0) qg) qd)))))))) qr)
 (qc9 TC3 (qc (qo (i:=3) Kw.nd rfl (yK rfl) (qQ qd))
 (qc (qH (qk (j3 (K:=K) rfl Z) (pv 2) qg (qz _)) (qc (jp yZ rfl (qcg rfl T.b_range (qa qg (qa (pv 1) qd))) (qt (i:=4) Kw.nd rfl (yK rfl))
 (qc (qU (qa4 (K:=K) rfl yL Yd Ye qS (pv 3) (qa (qv (qw (K:=K) rfl Z) (qQ (qa (qZ (qa (qG zZ (pv 4) qg) (qa (pv 4) qd))) (qa (qZ (qa qg (qa (pv 4) qd))) qd))) (jq qbo rfl T.b_int boot_int (qa (jg (j3 (K:=K) rfl Z) (qG zW (pv 4) qg) qg (qz _)) qd)) (fun _ _=>rfl)) qd)))
 (qe (qH (qk (j3 (K:=K) rfl Z) (qG zW (pv 4) qg) qg (qz _)) (qe (qU (qa4 (K:=K) rfl yL Yd Ye qS (pv 3) (qa (qZ (qa (qG zZ (pv 4) qg) (qa (pv 4) qd))) qd)))) qr))))
 (qe (qm (pv 3)))) qr)
 (qc (qo (i:=5) Kw.nd rfl (yK rfl) (qG (zu (K:=K) rfl) (qv (qw (K:=K) rfl Z) (qQ (qa qg (qa qg (qa qg (qa qg qd))))) (qp Ke (hmR hr) qB (qa (pv 0) (qa qg qd))) (fun _ _=>rfl)) (qG qcO (pv 1) qg)))
 (qc (jp yZ rfl (jf rfl T.b_range (qa (pv 1) qd)) (qt (i:=6) Kw.nd rfl (yK rfl))
 (qe (jp yZ rfl (qcg rfl T.b_range (qa (qG (zu (K:=K) rfl) (pv 6) qg) (qa (pv 1) qd))) (qt (i:=7) Kw.nd rfl (yK rfl))
 (qe (qH (PW.pt (qbm (qk (j3 (K:=K) rfl Z) (qp Ke (hmR hr) qB (qa (pv 0) (qa (pv 5) qd))) qg (qz _)) (qa1 (qk qdY (qj (jK (K:=K) rfl) rfl T.b_len YC (qa (pv 3) qd)) qg (qz _))))) (qe (qU (qa4 (K:=K) rfl yL Yd Ye qS (pv 3) (qa (qZ (qa (pv 6) (qa (pv 7) qd))) qd)))) qr)))))
 (qe (qm (pv 3))))))) ?cut3)))),?_⟩
  case cut3 =>
   intro D σ J h;rw[y] at h;obtain⟨⟨g,rfl⟩,bJ,q⟩:=h;apply⟨by decide,fun l hl=>?_⟩;have F0:Fnd p H (upd J l (.lst [])) l [] []:=⟨bJ.new hl,bJ.free hl,bJ.apart hl,qb,.nil⟩;generalize upd J l (.lst [])=J0 at F0;apply qaH ?_;apply qL (fun hw=>?_) fun hw=>?_
   .ext;show qf8 ?_;apply⟨1,_,rfl,⟨by decide,by decide,by lk,by lk⟩,jZ (fun i σ J'=>∃(x4:Option V) (ts:LQ) (TI:List (Nat×Nat)),σ=[some (.ref p),some (.int (m:Int)),some (.int g),some (.ref l),x4,none,none,none]/\Fnd p H J' l ts TI/\TI.length<=2*i/\TI.Nodup/\∀ q∈TI,q.1<q.2/\q.2<m/\q.2<i+1)
     ⟨none,[],[],rfl,F0,yh _,.nil,fun _ h=>by cases h⟩ (fun i σ J1 hi B=>?_) fun σ J1 B=>?_⟩
    .obtain⟨x4,ts,TI,rfl,j,ah,ad,c⟩:=B;have ax:i+1<m:=by lk
     apply⟨.inl ⟨rfl,_,SqL.of j.li.1⟩,?_⟩;apply⟨by show 2<=sizeLine;decide,fun O an=>?_⟩;have U:=j.on ((BB.refl j.bb.2).new (o:=.tup [.int ((1:Int)+(i:Int)-1),.int (1+(i:Int))]) an)
     have n:upd J1 O (.tup [.int ((1:Int)+(i:Int)-1),.int (1+(i:Int))]) O=some (iT (i,i+1)):=by
      rw[qb];have z1:(1:Int)+(i:Int)-1=((i:Nat):Int):=by lk
      have S:(1:Int)+(i:Int)=((i+1:Nat):Int):=by lk
      rw[z1,S]
     generalize upd J1 O (.tup [.int ((1:Int)+(i:Int)-1),.int (1+(i:Int))])=J2 at U n;apply⟨by show 2<=sizeLine;decide,fun R ao=>?_⟩;have b2:=(BB.refl U.bb.2).new (o:=.tup [.int 0,.int (1+(i:Int))]) ao;have F2:=U.on b2;replace n:=b2.tup U.bb.2 n
     have X:upd J2 R (.tup [.int 0,.int (1+(i:Int))]) R=some (iT (0,i+1)):=by
      rw[qb];have S:(1:Int)+(i:Int)=((i+1:Nat):Int):=by lk
      rw[S];rfl
     generalize upd J2 R (.tup [.int 0,.int (1+(i:Int))])=J3 at F2 n X;apply⟨by show 2<=sizeLine;decide,fun t3 ap=>?_⟩;have b3:=(BB.refl F2.bb.2).new (o:=.lst [.ref O,.ref R]) ap;have F3:=F2.on b3;replace n:=b3.tup F2.bb.2 n;replace X:=b3.tup F2.bb.2 X;have e3:upd J3 t3 (.lst [.ref O,.ref R]) t3=some (.lst [.ref O,.ref R]):=qb;generalize upd J3 t3 (.lst [.ref O,.ref R])=J4 at F3 n X e3;apply vI (by decide) ?_;apply qaH ?_;apply .inr ⟨_,rfl,?_⟩
     obtain⟨tt,q0,as,az,ba,ak,aa⟩:∃(tt:Addr) (q0:Nat×Nat),J4 tt=some (iT q0)/\q0.1<=i/\q0.2=i+1/\((1+(i:Int)) % 3≠1->q0.1=i)/\atI [V.ref O,V.ref R] (if decide ((1+(i:Int)) % 3=1)=true then 1 else 0)=some (.ref tt):=by
      by_cases hb:(1+(i:Int)) % 3=1
      .show⟨R,(0,i+1),X,YQ _,rfl,fun h=>absurd hb h,by rw[yD hb];rfl⟩
      .show⟨O,(i,i+1),n,yh _,rfl,fun _=>rfl,by rw[yl hb];rfl⟩
     show .inl (zY e3 aa ?_);show⟨l,_,_,rfl,rfl,F3.li.1,by rw[ya,F3.li.2.len];show qi (by lk),?_⟩;have ac:=F3.li.2.len;have F4:=F3.app as
     have Y:(TI++[q0]).Nodup:=Yc.mpr ⟨ad,by simp,fun a ha b hb e=>by
      rw[yz.mp hb] at e;have:=c a ha;rw[e] at this;lk⟩
     have A:∀ q∈TI++[q0],q.1<q.2/\q.2<m/\q.2<i+1+1:=fun r hr=>by
      rcases yB.mp hr with z | z
      .have:=c r z;lk
      .rw [yz.mp z];lk
     generalize upd J4 l (.lst (ts.map V.ref++[.ref tt]))=J5 at F4;apply vI (by decide) ?_;apply qaH ?_;apply qL (fun h3=>?_) fun h3=>?_
     .have aw:(1+(i:Int)) % 3=0:=yk h3;apply⟨.inl ⟨rfl,_,SqL.of F4.li.1⟩,?_⟩;apply⟨by show 2<=sizeLine;decide,fun t5 aq=>?_⟩;have s:=F4.on ((BB.refl F4.bb.2).new (o:=.tup [.int ((1:Int)+(i:Int)-2),.int (1+(i:Int))]) aq)
      have e5:upd J5 t5 (.tup [.int ((1:Int)+(i:Int)-2),.int (1+(i:Int))]) t5=some (iT (i-1,i+1)):=by
       rw[qb];have z1:(1:Int)+(i:Int)-2=((i-1:Nat):Int):=by lk
       have S:(1:Int)+(i:Int)=((i+1:Nat):Int):=by lk
       rw[z1,S]
      generalize upd J5 t5 (.tup [.int ((1:Int)+(i:Int)-2),.int (1+(i:Int))])=J6 at s e5;show⟨l,_,_,rfl,rfl,s.li.1,by rw[ya,s.li.2.len,yt];show qi (by simp;lk),?_⟩;show⟨_,_,_,rfl,s.app e5,by rw[yt,yt];simp;lk,?_,fun r hr=>?_⟩
      .show Yc.mpr ⟨Y,by simp,fun a ha b hb e=>?_⟩;rw[yz.mp hb] at e;rcases yB.mp ha with z | z
       .have:=c a z;rw[e] at this;have h9:i+1<i+1:=this.2.2;lk
       .rw [yz.mp z] at e;have h8:=ak (by lk);rw[e] at h8;have h9:i-1=i:=h8;lk
      .rcases yB.mp hr with z | z
       .show A r z
       .rw [yz.mp z];show⟨by show i-1<i+1;lk,by show i+1<m;lk,by show i+1<i+1+1;lk⟩
     .show⟨_,_,_,rfl,F4,by rw[yt];simp;lk,Y,A⟩
    .obtain⟨x4,ts,TI,rfl,j,ah,ad,c⟩:=B;apply q l ts TI _ j ⟨by lk,fun r hr=>⟨(c r hr).1,(c r hr).2.1⟩,ad⟩
   .ext;show⟨by show 4<=sizeLine;decide,fun l4 ag=>?_⟩;have U:=F0.on ((BB.refl F0.bb.2).new (o:=.lst [.int 1,.int 2,.int 2,.int 3]) ag);have n4:=F0.bb.apart ag;have e4:upd J0 l4 (.lst [.int 1,.int 2,.int 2,.int 3]) l4=some (.lst [.int 1,.int 2,.int 2,.int 3]):=qb;generalize upd J0 l4 (.lst [.int 1,.int 2,.int 2,.int 3])=J1 at U e4;apply⟨p,4,rfl,U.bb.2,by decide,by decide,fun r J2 r0 r1 b2=>?_⟩;have F2:=U.on b2;replace e4:=b2.1 _ _ n4 e4
    obtain⟨sp,aa,bc,bd⟩:∃ sp:Int,atI [V.int 1,V.int 2,V.int 2,V.int 3] r=some (.int sp)/\0<sp/\sp<=3:=by
     have al:r=0\/r=1\/r=2\/r=3:=by lk
     rcases al with rfl | rfl | rfl | rfl<;>show⟨_,rfl,by decide,by decide⟩
    show .inl (zY e4 aa ?_);apply vI ⟨by decide,by decide⟩ ?_;ext;have ai:0<sp+(m:Int) / 8:=by lk
    have av:sp+(m:Int) / 8<=4:=by lk
    generalize sp+(m:Int) / 8=sq at ai av ⊢;show⟨_,rfl,by lk,by lk,jZ (fun i σ J'=>∃(x6 x7:Option V) (ts:LQ) (TI:List (Nat×Nat)),σ=[some (.ref p),some (.int (m:Int)),some (.int g),some (.ref l),none,some (.int sq),x6,x7]/\Fnd p H J' l ts TI/\TJ m TI/\∀ q∈TI,q.1<i)
     ⟨none,none,[],[],rfl,F2,⟨by decide,(fun _ h=>by cases h),.nil⟩,fun _ h=>by cases h⟩ (fun i σ J3 hi B=>?_) fun σ J3 B=>?_⟩
    .obtain⟨x6,x7,ts,TI,rfl,j,d,c⟩:=B;apply qf8 ?_;apply⟨_,_,rfl,⟨by lk,by lk,by lk,by lk⟩,jZ (fun k σ J'=>∃(x7:Option V) (ts:LQ) (TI:List (Nat×Nat)),σ=[some (.ref p),some (.int (m:Int)),some (.int g),some (.ref l),none,some (.int sq),some (.int (0+(i:Int))),x7]/\Fnd p H J' l ts TI/\TJ m TI/\∀ q∈TI,q.1<i\/(q.1=i/\q.2<i+1+k))
      ⟨_,ts,TI,rfl,j,d,fun r hr=>.inl (c r hr)⟩ (fun k σ J4 hk B=>?_) fun σ J4 B=>?_⟩
     .obtain⟨x7,ts,TI,rfl,j,d,c⟩:=B;apply⟨p,sq,rfl,j.bb.2,ai,by lk,fun r J5 r0 r1 b5=>?_⟩;have s:=j.on b5;apply qaH ?_;apply qL (fun h5=>?_) fun h5=>?_
      .ext;show qdp (SqL.of s.li.1) ?_;apply qL (fun h6=>?_) fun h6=>?_
       .have aj:TI.length<30:=by have:=yk h6;rw[s.li.lenV] at this;lk
        apply⟨.inl ⟨rfl,_,SqL.of s.li.1⟩,?_⟩;apply⟨by show 2<=sizeLine;decide,fun t6 ar=>?_⟩;have F6:=s.on ((BB.refl s.bb.2).new (o:=.tup [.int (0+(i:Int)),.int (0+(i:Int)+1+(k:Int))]) ar)
        have e6:upd J5 t6 (.tup [.int (0+(i:Int)),.int (0+(i:Int)+1+(k:Int))]) t6=some (iT (i,i+1+k)):=by
         rw[qb];have z1:(0:Int)+(i:Int)=((i:Nat):Int):=by lk
         have S:(0:Int)+(i:Int)+1+(k:Int)=((i+1+k:Nat):Int):=by lk
         rw[S,z1]
        generalize upd J5 t6 (.tup [.int (0+(i:Int)),.int (0+(i:Int)+1+(k:Int))])=J6 at F6 e6;show⟨l,_,_,rfl,rfl,F6.li.1,by rw[ya,F6.li.2.len];show qi (by lk),?_⟩;show⟨_,_,_,rfl,F6.app e6,d.snoc aj ⟨by show i<i+1+k;lk,by show i+1+k<m;lk⟩ (fun z=>?_),fun r hr=>?_⟩
        .have:=c _ z;have h9:i<i\/(i=i/\i+1+k<i+1+k):=this;lk
        .rcases yB.mp hr with z | z
         .have:=c r z;lk
         .rw [yz.mp z];show .inr ⟨rfl,by show i+1+k<i+1+(k+1);lk⟩
       .show⟨_,_,_,rfl,s,d,fun r hr=>by have:=c r hr;lk⟩
      .show⟨_,_,_,rfl,s,d,fun r hr=>by have:=c r hr;lk⟩
     .obtain⟨x7,ts,TI,rfl,j,d,c⟩:=B;show⟨_,_,_,_,rfl,j,d,fun r hr=>by have:=c r hr;lk⟩
    .obtain⟨x6,x7,ts,TI,rfl,j,d,c⟩:=B;apply q l ts TI _ j d
  apply⟨p,7,rfl,hB,by decide,by decide,fun g H1 w0 w1 b1=>?_⟩;apply qaH ?_;apply qL (fun hw=>?_) fun hw=>?_
  .ext;show⟨_,rfl,by lk,by lk,jS (lo:=0) (fun i ys G=>BB p H G/\∃ us:LQ,ys=us.map V.ref/\All2 (fun t q=>G t=some (iT q)) us (chT i)) ⟨b1,[],rfl,.nil⟩ (fun i ys G hi hs=>?_) fun ys G hs=>?_⟩
   .obtain⟨M,us,rfl,x⟩:=hs;apply zm ?_;apply⟨by show 2<=sizeLine;decide,fun t ht=>?_⟩;have C:us.length=i:=by rw[x.len,qa7]
    rw[x0];show⟨by rw[ya];show qi (by lk),M.new ht,us++[t],by rw[yx];rfl,?_⟩;rw[qdJ];show(x.mono fun u r z=>by rw[qf (qy z ht)];show z).snoc qb
   .obtain⟨M,us,rfl,x⟩:=hs;have C:=x.len;rw[qa7] at C;show⟨by rw[ya];show yV (qi (by lk)),fun l hl=>?_⟩;show q l us _ _ ⟨M.new hl,M.free hl,M.apart hl,qb,x.mono fun u r z=>by rw[qf (qy z hl)];show z⟩ ⟨by rw[qa7];lk,fun r hr=>?_,qfi _⟩;have:=qda hr;lk
  .ext;show qaH ?_;apply qL (fun h1=>?_) fun h1=>?_
   .ext;show qL (fun h2=>?_) fun h2=>?_
    .have ay:2<m:=by have:=yk h2;lk
     apply⟨by show 2<=sizeLine;decide,fun I am=>?_⟩;have bt:=b1.new (o:=.tup [.int 0,.int ((m:Int)-1)]) am
     have N:upd H1 I (.tup [.int 0,.int ((m:Int)-1)]) I=some (iT (0,m-1)):=by
      rw[qb,show((m:Int)-1)=((m-1:Nat):Int) by lk];rfl
     generalize upd H1 I (.tup [.int 0,.int ((m:Int)-1)])=H2 at bt N;apply⟨by show 1<=sizeLine;decide,fun l1 ac=>?_⟩;have b3:=(BB.refl bt.2).new (o:=.lst [.ref I]) ac;have au:=bt.apart ac;have L:=bt.trans b3;replace N:=b3.tup bt.2 N;have n:upd H2 l1 (.lst [.ref I]) l1=some (.lst [.ref I]):=qb;generalize upd H2 l1 (.lst [.ref I])=H3 at b3 L N n;apply⟨_,rfl,by lk,by lk,jS (lo:=0) (fun i ys G=>BB p H3 G/\∃ us:LQ,ys=us.map V.ref/\All2 (fun t q=>G t=some (iT q)) us (chT i)) ⟨BB.refl L.2,[],rfl,.nil⟩ (fun i ys G hi hs=>?_) fun ys G hs=>?_⟩
     .obtain⟨M,us,rfl,x⟩:=hs;apply zm ?_;apply⟨by show 2<=sizeLine;decide,fun t ht=>?_⟩;have C:us.length=i:=by rw[x.len,qa7]
      rw[x0];show⟨by rw[ya];show qi (by lk),M.new ht,us++[t],by rw[yx];rfl,?_⟩;rw[qdJ];show(x.mono fun u r z=>by rw[qf (qy z ht)];show z).snoc qb
     .obtain⟨M,us,rfl,x⟩:=hs;have C:=x.len;rw[qa7] at C;show⟨by rw[ya];show yV (qi (by lk)),fun l2 af=>?_⟩;have W:=M.new (o:=.lst (us.map V.ref)) af;have ae:=x.mono fun u r z=>(show upd G l2 (.lst (us.map V.ref)) u=some (iT r) by rw[qf (qy z af)];show z);have X:upd G l2 (.lst (us.map V.ref)) l2=some (.lst (us.map V.ref)):=qb;replace N:=W.tup L.2 N;replace n:=W.1 _ _ au n;replace W:=L.trans W;generalize upd G l2 (.lst (us.map V.ref))=G2 at W ae N n X;show qeC n X (by rw[ya];show 1+_<=_;lk) fun l hl=>?_;show q l (I::us) ((0,m-1)::chT ((m:Int)-1).toNat) _ ⟨W.new hl,W.free hl,W.apart hl,qb,?_⟩ ⟨by rw[yH,qa7];lk,fun r hr=>?_,?_⟩
      .show All2.cons (by rw[qf (qy N hl)];show N) (ae.mono fun u r z=>by rw[qf (qy z hl)];show z)
      .rcases yA.mp hr with rfl | hr
       .show⟨by show 0<m-1;lk,by show m-1<m;lk⟩
       .have:=qda hr;lk
      .show yo.mpr ⟨fun z=>?_,qfi _⟩;have S:=(qda z).2;have z3:m-1=0+1:=S;lk
    .rw [y];show⟨⟨g,rfl⟩,b1,fun l ts TI H'=>q l ts TI H'⟩
   .rw [y];show⟨⟨g,rfl⟩,b1,fun l ts TI H'=>q l ts TI H'⟩
theorem Ko:FnScope ["_law_state","_law_most","_law_sizes","_law_size","_law_names_here","_law_ties","_law_turn","_law_one","_law_other","_law_tie"] ["_law_state","_law_most"] (qh qaZ):=fS
theorem qgt{i j:Int}{Q:VK}(q:Q (.bl (!decide (i=j))) H):qft K true (.int i) (.int j) H Q:=.inl ⟨rfl,rfl,by
 have e:eqV (V.int i) (V.int j)=decide (i=j):=by have:=qaw i j;rwa[yC (by decide)] at this
 rw[yG rfl,e];show q⟩
theorem All2.permQ{TI:List (Nat×Nat)}(h:All2 (fun t q=>H t=some (iT q)) ts TI)(p:us.Perm ts):∃ c:List (Nat×Nat),All2 (fun t q=>H t=some (iT q)) us c/\c.Perm TI:=by
 have key:∀{us ts:LQ},us.Perm ts->∀ TI:List (Nat×Nat),All2 (fun t q=>H t=some (iT q)) ts TI->∃ c:List (Nat×Nat),All2 (fun t q=>H t=some (iT q)) us c/\c.Perm TI:=by
  intro us ts p
  induction p with
  | nil=>intro TI h;show⟨TI,h,.refl _⟩
  | @cons x l1 l2 p ih =>
   intro TI h
   cases TI with
   | nil=>have:=h.len;simp at this
   | cons q TI =>
    obtain⟨c,h1,n⟩:=ih TI ⟨by simpa using h.len,fun k a b d hb=>h.at_ (k+1) a b (by simpa using d) (by simpa using hb)⟩;show⟨q::c,h1.cons (h.at_ 0 x q rfl rfl),n.cons _⟩
  | @swap x y l =>
   intro TI h
   cases TI with
   | nil=>have:=h.len;simp at this
   | cons q TI =>
    cases TI with
    | nil=>have:=h.len;simp at this
    | cons q' TI =>
     show⟨q'::q::TI,All2.cons (h.at_ 1 _ q' rfl rfl) (All2.cons (h.at_ 0 _ q rfl rfl) ⟨by simpa using h.len,fun k a b d hb=>h.at_ (k+2) a b (by simpa using d) (by simpa using hb)⟩),.swap _ _ _⟩
  | trans _ _ ih1 ih2 =>
   intro TI h;obtain⟨e,g,j⟩:=ih2 TI h;obtain⟨f,i,m⟩:=ih1 e g;show⟨f,i,m.trans j⟩
 show key p TI h
theorem TJ.perm{TI a:List (Nat×Nat)}(h:TJ m TI)(p:a.Perm TI):TJ m a:=⟨by rw[p.length_eq];show h.1,fun q b=>h.2.1 q (p.mem_iff.mp b),p.nodup_iff.mpr h.2.2⟩
structure Drw(p:Addr)(H J:Hp)(ln lt:Addr)(ss:LS)(ts:LQ)(TI:List (Nat×Nat)):Prop where
 bb:BB p H J
 o1:H ln=none
 o2:H lt=none
 n1:ln≠p
 n2:lt≠p
 n3:ln≠lt
 nm:J ln=some (.lst (ss.map V.str))
 nok:NOk ss
 few:ss.length<=14
 li:IPL J lt ts TI
 tj:TJ ss.length TI
theorem Drw.on{lt:Addr}{TI:List (Nat×Nat)}(h:Drw p H J ln lt ss ts TI)(b:BB p J J'):Drw p H J' ln lt ss ts TI:=
 ⟨h.bb.trans b,h.o1,h.o2,h.n1,h.n2,h.n3,b.1 _ _ h.n1 h.nm,h.nok,h.few,h.li.bb h.bb.2 b h.n2,h.tj⟩
theorem Drw.app{lt:Addr}{TI:List (Nat×Nat)}(h:Drw p H J ln lt ss ts TI)(c:J t=some (iT q))(b:TJ ss.length (TI++[q])):Drw p H (upd J lt (.lst (ts.map V.ref++[.ref t]))) ln lt ss (ts++[t]) (TI++[q]):=by
 have F:Fnd p H J lt ts TI:=⟨h.bb,h.o2,h.n2,h.li⟩;have a:=F.app c;show⟨a.bb,h.o1,h.o2,h.n1,h.n2,h.n3,by rw[qf h.n3];show h.nm,h.nok,h.few,a.li,b⟩
inductive spDrQ(vs:List V)(H:Hp)(Q:VK)(E:XK):Prop|mk (p:Addr) (_:vs=[.ref p,.int 14]) (_:Box H p) (_:∀(r ln lt:Addr) (ss:LS) (ts:LQ) (TI:List (Nat×Nat)) (H':Hp),Drw p H H' ln lt ss ts TI->H' r=some (.lst [.ref ln,.ref lt])->Q (.ref r) H')
theorem ok_drQ(F:Fun K "_law_drawn" "_law_drawn" qaZ f fd)(T:Txt K mg cc cw)(n:DefOk P w K mg base CX0 1 "_law_take" ["_law_state","_law_many"] spTake)(Ul:DefOk P w K mg base CX0 2 "_law_names" ["_law_state","_law_many"] spNmQ)(Um:DefOk P w K mg base CX0 2 "_law_shape" ["_law_state","_law_size"] spShQ):FnOk P w K mg base CX0 3 f fd ["_law_state","_law_most"] spDrQ:=by
 show F.ok Ko fun _ _ _ _ H vs Q E e h=>?_
 .obtain⟨p,rfl,hB,q⟩:=h;have W:=zd e;show⟨_,(qc (qo (i:=2) Ko.nd rfl (yK rfl) (qQ (qa (qp n (hmR e) qB (qa (pv 0) (qa qg qd))) (qa (qp n (hmR e) qB (qa (pv 0) (qa (qG (zu (K:=K) rfl) (pv 1) qg) qd))) qd))))
 (qc (qo (i:=3) Ko.nd rfl (yK rfl) (qj (qaM rfl) rfl T.b_min boot_min (qa (pv 1) (qa (qv (qw (K:=K) rfl W) (pv 2) (jq qbo rfl T.b_int boot_int (qa (jg (j3 (K:=K) rfl W) (qp n (hmR e) qB (qa (pv 0) (qa qg qd))) qg (qz _)) qd)) (fun _ _=>rfl)) qd))))
 (qc (qo (i:=4) Ko.nd rfl (yK rfl) (qp Ul (hmR e) qB (qa (pv 0) (qa (pv 3) qd))))
 (qc (qo (i:=5) Ko.nd rfl (yK rfl) (qp Um (hmR e) qB (qa (pv 0) (qa (pv 3) qd))))
 (qc (jp yZ rfl (jf rfl T.b_range (qa (qG qbW (qp n (hmR e) qB (qa (pv 0) (qa qg qd))) (jq qbo rfl T.b_int boot_int (qa (jg qdP (pv 3) qg (qz _)) qd))) qd)) (qt (i:=6) Ko.nd rfl (yK rfl))
 (qc (qo (i:=7) Ko.nd rfl (yK rfl) (qp n (hmR e) qB (qa (pv 0) (qa (pv 3) qd))))
 (qc (qo (i:=8) Ko.nd rfl (yK rfl) (qp n (hmR e) qB (qa (pv 0) (qa (pv 3) qd))))
 (qc (qo (i:=9) Ko.nd rfl (yK rfl) (qZ (qa (qj (qaM rfl) rfl T.b_min boot_min (qa (pv 7) (qa (pv 8) qd))) (qa (qj (qaL rfl) rfl T.b_max boot_max (qa (pv 7) (qa (pv 8) qd))) qd))))
 (qe (qH (PW.pt (qbm (qk (zO (K:=K) rfl W) (pv 7) (pv 8) (qz _)) (qbm (qk (jB (K:=K) rfl W) (pv 9) (pv 5) (by with_unfolding_all rfl)) (qa1 (qk qdY (qj (jK (K:=K) rfl) rfl T.b_len YC (qa (pv 5) qd)) qg (qz _)))))) (qe (qU (qa4 (K:=K) rfl yL Yd Ye qS (pv 5) (qa (pv 9) qd)))) qr))))))
 (qe (qm (qQ (qa (pv 4) (qa (qj (k_sortT) rfl T.b_sorted boot_sorted (qa (pv 5) qd)) qd)))))))))),?_⟩
  apply⟨p,8,rfl,hB,by decide,by decide,fun x H1 am aq b1=>?_⟩;apply⟨p,_,rfl,b1.2,by decide,by decide,fun y H2 an ar S=>?_⟩;replace S:=b1.trans S;show⟨by show 2<=sizeLine;decide,fun A I=>?_⟩;have Y:=S.new (o:=.lst [.int x,.int y]) I;have U:upd H2 A (.lst [.int x,.int y]) A=some (.lst [.int x,.int y]):=qb;have n3:=S.apart I;generalize upd H2 A (.lst [.int x,.int y])=H3 at Y U;apply⟨p,8,rfl,Y.2,by decide,by decide,fun r3 H4 as au s=>?_⟩;replace U:=s.1 _ _ n3 U;replace s:=Y.trans s;apply qaH ?_;apply .inr ⟨_,rfl,?_⟩
  obtain⟨m,af,D⟩:∃ m:Nat,atI [V.int x,V.int y] (if decide (r3=7)=true then 1 else 0)=some (.int (m:Int))/\m<=14:=by
   by_cases hb:r3=7
   .show⟨y.toNat,by rw[yD hb,Int.toNat_of_nonneg an];rfl,by lk⟩
   .show⟨x.toNat,by rw[yl hb,Int.toNat_of_nonneg am];rfl,by lk⟩
  show .inl (zY U af ?_);apply⟨_,_,rfl,?_⟩;have em:(if (m:Int)<14 then(m:Int) else 14)=(m:Int):=by split<;>lk
  rw[em];apply⟨p,m,rfl,s.2,D,fun ln ss H5 b5 ag d ad aj=>?_⟩;have C:=s.trans b5;have ak:=s.free ag;apply⟨p,m,rfl,b5.2,D,fun lt ts TI H6 j ae=>?_⟩;have D6:Drw p H H6 ln lt ss ts TI:=⟨C.trans j.bb,ak,C.free j.old,d.2,j.np,(fun z=>by rw[z] at d;have:=d.1;rw[j.old] at this;cases this),j.bb.1 _ _ d.2 d.1,ad,by lk,j.li,by rw[aj];show ae⟩;apply⟨p,3,rfl,j.bb.2,by decide,by decide,fun r4 H7 av aw b7=>?_⟩;have D7:=D6.on b7;apply .inr ⟨_,rfl,?_⟩;apply qbX (.inl ⟨by lk,by lk⟩) ?_;apply⟨_,rfl,by split<;>lk,by split<;>lk,jZ (fun i σ J=>∃(M N O R:Option V) (ts:LQ) (TI:List (Nat×Nat)),σ=[some (.ref p),some (.int 14),some (.ref A),some (.int (m:Int)),some (.ref ln),some (.ref lt),M,N,O,R]/\Drw p H J ln lt ss ts TI)
   ⟨none,none,none,none,ts,TI,rfl,D7⟩ (fun i σ J hi hp=>?_) fun σ J hp=>?_⟩
  .obtain⟨M,N,O,R,ts,TI,rfl,c⟩:=hp
   have ap:1<m:=by
    apply Yg;intro z;have z':¬ (1:Int)<(m:Int):=by lk
    rw[yl z'] at hi;simp at hi
   apply⟨p,m,rfl,c.bb.2,by lk,by lk,fun one J1 o0 o1 c1=>?_⟩;have D1:=c.on c1;apply⟨p,m,rfl,D1.bb.2,by lk,by lk,fun al J2 t0 t1 c2=>?_⟩;have D2:=D1.on c2;obtain⟨a,rfl⟩:=YX o0;obtain⟨b,rfl⟩:=YX t0;apply⟨_,_,rfl,?_⟩;apply⟨_,_,rfl,?_⟩;apply⟨by show 2<=sizeLine;decide,fun t ht=>?_⟩;have e1:(if (b:Int)<(a:Int) then(b:Int) else(a:Int))=((min a b:Nat):Int):=by split<;>lk
   have e2:(if (b:Int)>(a:Int) then(b:Int) else(a:Int))=((max a b:Nat):Int):=by split<;>lk
   rw[e1,e2];have g:=D2.on ((BB.refl D2.bb.2).new (o:=.tup [.int ((min a b:Nat):Int),.int ((max a b:Nat):Int)]) ht);have Z:upd J2 t (.tup [.int ((min a b:Nat):Int),.int ((max a b:Nat):Int)]) t=some (iT (min a b,max a b)):=qb;generalize upd J2 t (.tup [.int ((min a b:Nat):Int),.int ((max a b:Nat):Int)])=J3 at g Z;apply qgt ?_;ext;have go:∃(M N O R:Option V) (ts:LQ) (TI:List (Nat×Nat)),[some (V.ref p),some (.int 14),some (.ref A),some (.int (m:Int)),some (.ref ln),some (.ref lt),some (.int (0+(i:Int))),some (.int (a:Int)),some (.int (b:Int)),some (.ref t)]=[some (.ref p),some (.int 14),some (.ref A),some (.int (m:Int)),some (.ref ln),some (.ref lt),M,N,O,R]/\Drw p H J3 ln lt ss ts TI:=⟨_,_,_,_,_,_,rfl,g⟩;show qL (fun h1=>?_) fun h1=>go;have ao:a≠b:=fun z=>by subst z;simp at h1
   apply qeB g.li Z ?_;apply qL (fun h2=>?_) fun h2=>go;have ah:(min a b,max a b)∉TI:=by simpa using h2
   apply qdp (SqL.of g.li.1) ?_;apply qL (fun h3=>?_) fun h3=>go;have aa:TI.length<30:=by have:=yk h3;rw[g.li.lenV] at this;lk
   apply⟨.inl ⟨rfl,_,SqL.of g.li.1⟩,?_⟩;apply⟨lt,_,_,rfl,rfl,g.li.1,by rw[ya,g.li.2.len];show qi (by lk),?_⟩;show⟨_,_,_,_,_,_,rfl,g.app Z (g.tj.snoc aa ⟨by show min a b<max a b;lk,by show max a b<_;lk⟩ ah)⟩
  .obtain⟨M,N,O,R,ts,TI,rfl,c⟩:=hp;apply⟨lt,ts,rfl,c.li.1,by rw[c.li.2.len];have:=c.tj.1;lk,fun t ht=>?_,fun l us hl G=>?_⟩
   .obtain⟨q',_,r⟩:=c.li.2.mem ht;show⟨_,_,r⟩
   .obtain⟨B,ac,ai⟩:=c.li.2.permQ G;have b8:=(BB.refl c.bb.2).new (o:=.lst (us.map V.ref)) hl;have L:ln≠l:=qy c.nm hl;have X:Drw p H (upd J l (.lst (us.map V.ref))) ln l ss us B:=⟨c.bb.trans b8,c.o1,c.bb.free hl,c.n1,c.bb.apart hl,L,by rw[qf L];show c.nm,c.nok,c.few,⟨qb,ac.mono fun u r z=>by rw[qf (qy z hl)];show z⟩,c.tj.perm ai⟩;generalize upd J l (.lst (us.map V.ref))=J8 at X;apply⟨by show 2<=sizeLine;decide,fun r e=>?_⟩;show q r ln l ss us B _ (X.on ((BB.refl X.bb.2).new e)) qb
theorem K1:FnScope ["_law_state","_law_names_here","_law_ties","_law_found","_law_one","_law_other","_law_tie"] ["_law_state","_law_names_here","_law_ties"] (qh qb4):=fS
def TEq(ss:LS)(TI:List (Nat×Nat))(tps:LP):Prop:=∀(i j:Nat) (s t:Str),ss[i]?=some s->ss[j]?=some t->(tA tps s t↔((i,j)∈TI\/(j,i)∈TI))
def NmP(ss:LS)(q:Nat×Nat)(ab:Str×Str):Prop:=(ss[q.1]?=some ab.1/\ss[q.2]?=some ab.2)\/(ss[q.1]?=some ab.2/\ss[q.2]?=some ab.1)
theorem NmP.key(nd:ss.Nodup){r:Nat×Nat}{n:Str×Str}(o:q.1<q.2)(p:r.1<r.2)(h:NmP ss q ab)(g:NmP ss r n)(e:ab=n\/ab=(n.2,n.1)):q=r:=by
 obtain⟨a,b⟩:=ab;obtain⟨c,d⟩:=n;unfold NmP at h g;dsimp only at h g e;have inj:∀{i j:Nat} {s:Str},ss[i]?=some s->ss[j]?=some s->i=j:=fun x y=>qA nd x y;rcases e with e | e
 .injection e with e1 e2
  subst e1 e2;rcases h with⟨h1,m⟩ | ⟨h1,m⟩<;>rcases g with⟨f,l⟩ | ⟨f,l⟩
  .show xI (inj h1 f) (inj m l)
  .have:=inj h1 l;have:=inj m f;lk
  .have:=inj h1 l;have:=inj m f;lk
  .show xI (inj h1 f) (inj m l)
 .injection e with e1 e2
  subst e1 e2;rcases h with⟨h1,m⟩ | ⟨h1,m⟩<;>rcases g with⟨f,l⟩ | ⟨f,l⟩
  .have:=inj h1 l;have:=inj m f;lk
  .show xI (inj h1 f) (inj m l)
  .show xI (inj h1 f) (inj m l)
  .have:=inj h1 l;have:=inj m f;lk
theorem NmP.inn(h:NmP ss q ab):ab.1∈ss/\ab.2∈ss:=h.elim (fun z=>⟨ye z.1,ye z.2⟩) fun z=>⟨ye z.2,ye z.1⟩
theorem NmP.ne(nd:ss.Nodup)(b:q.1<q.2)(h:NmP ss q ab):ab.1≠ab.2:=fun e=>by
 rcases h with⟨h1,a⟩ | ⟨h1,a⟩
 .rw [e] at h1;have:=qA nd h1 a;lk
 .rw [<- e] at h1;have:=qA nd h1 a;lk
theorem qf9(nd:ss.Nodup){TI:List (Nat×Nat)}(u:TJ ss.length TI)(h:All2 (NmP ss) TI tps):TGo ss tps/\TEq ss TI tps:=by
 show⟨⟨by rw[<- h.len];show u.1,fun ab g=>?_,?_⟩,fun i j s t d f=>⟨fun z=>?_,fun z=>?_⟩⟩
 .obtain⟨k,o⟩:=yf g;obtain⟨q,x⟩:∃ q,TI[k]?=some q:=⟨_,yb (by rw[h.len];show(yc.mp o).1)⟩;have:=h.at_ k q ab x o;show⟨this.inn.1,this.inn.2,this.ne nd (u.2.1 q (ye x)).1⟩
 .show Yl.mpr fun i j C w B=>?_;have p:i<TI.length:=by rw[h.len];show C
  have r:j<TI.length:=by rw[h.len];show w
  have D:=h.at_ i TI[i] tps[i] (yb p) (yb C);have E:=h.at_ j TI[j] tps[j] (yb r) (yb w);have l1:=(u.2.1 _ (YN p)).1;have l2:=(u.2.1 _ (YN r)).1
  have key:∀ e:tps[i]=tps[j]\/tps[i]=(tps[j].2,tps[j].1),False:=fun e=>by
   have:=NmP.key nd l1 l2 D E e;show(Yl.mp u.2.2 i j p r B) this
  show⟨fun e=>key (.inl e),fun e=>key (.inr e)⟩
 .have c:∀{s t:Str} {i j:Nat},ss[i]?=some s->ss[j]?=some t->(s,t)∈tps->((i,j)∈TI\/(j,i)∈TI):=fun{s t i j} d f l=>by
   obtain⟨k,o⟩:=yf l;obtain⟨q,x⟩:∃ q,TI[k]?=some q:=⟨_,yb (by rw[h.len];show(yc.mp o).1)⟩;have l:=ye x;rcases h.at_ k q _ x o with⟨m,n⟩ | ⟨m,n⟩
   .have y:=qA nd m d;have A:=qA nd n f;left;rw[<- y,<- A];show l
   .have y:=qA nd m f;have A:=qA nd n d;right;rw[<- y,<- A];show l
  rcases z with z | z
  .show c d f z
  .show(c f d z).symm
 .have c:∀{s t:Str} {i j:Nat},ss[i]?=some s->ss[j]?=some t->(i,j)∈TI->tA tps s t:=fun{s t i j} d f l=>by
   obtain⟨k,o⟩:=yf l;obtain⟨ab,g⟩:∃ ab,tps[k]?=some ab:=⟨_,yb (by rw[<- h.len];show(yc.mp o).1)⟩;have l:=ye g;obtain⟨a,b⟩:=ab;rcases h.at_ k _ _ o g with⟨m,n⟩ | ⟨m,n⟩
   .rw [d] at m;rw[f] at n;cases m;cases n;show .inl l
   .rw [d] at m;rw[f] at n;cases m;cases n;show .inr l
  rcases z with z | z
  .show c d f z
  .show Kd (c f d z)
theorem All2.revQ{R:α->β->Prop}{l:List α}{m:List β}(h:All2 R l m):All2 R l.reverse m.reverse:=by
 show⟨by rw[Yt,Yt,h.len],fun k a b c hb=>?_⟩;have hl:=h.len;have h1:k<l.length:=by have:=(yc.mp c).1;rwa[Yt] at this
 rw[Xc h1] at c;rw[Xc (by lk),<- hl] at hb;show h.at_ _ a b c hb
theorem TJ.rev{TI:List (Nat×Nat)}(h:TJ m TI):TJ m TI.reverse:=h.perm (kq _)
theorem TEq.rev{TI:List (Nat×Nat)}(h:TEq ss TI.reverse tps):TEq ss TI tps:=fun i j s t a b=>by
 have:=h i j s t a b
 rwa[Xg,Xg] at this
theorem wt_newQ{y:Addr}(h:WebN H0 cw H y ss ns)(hb:qbb ss ns kps)(g:TGo ss kps):Wt cw H y ss ns kps:=
 ⟨h.web,fun a b s t d c=>by rw[hb.2.2 a b s t d c,yO],g.inn⟩
inductive spWbQ(cw:Addr)(vs:List V)(H:Hp)(Q:VK)(E:XK):Prop|mk (p ln lt:Addr) (ss:LS) (ts:LQ) (TI:List (Nat×Nat)) (_:vs=[.ref p,.ref ln,.ref lt]) (_:Box H p) (_:ln≠p) (_:lt≠p) (_:H ln=some (.lst (ss.map V.str))) (_:NOk ss) (_:ss.length<=14) (_:IPL H lt ts TI) (_:TJ ss.length TI) (_:∀(x:Addr) (ns:LN) (tps:LP) (H':Hp),BB p H H'->Wt cw H' x ss ns tps->(∀ J,BB p H' J->Wt cw J x ss ns tps)->TEq ss TI tps->Q (.ref x) H')
theorem qfj{m y:Addr}{Q:VK}(M:LTu G m (ss.map V.str))(j:NOk ss)(u:PLT G l us kps)(x:TGo ss kps)(i:G y=none)(L:G dx=none)(q:dx≠y)(K:Box G p)
  (h:∀ ns H2,L2.Same G H2->Wt cw H2 y ss ns kps->(∀ J,BB p H2 J->Wt cw J y ss ns kps)->Q .non H2):spWeb cw [.ref y,.ref m,.ref l] (upd (upd G dx (.own y)) y (.ins cw dx [])) Q E:=by
 have f:=qF (qF (Sr G) (o:=.own y) L) (o:=.ins cw dx []) (show upd G dx (.own y) y=none by rw[qf (Yn q)];show i);show⟨y,dx,m,l,ss,us,kps,rfl,qb,M.same f,j.few,j.nd,j.nm,⟨u.1.same f,u.2.mono fun _ _ z=>f _ _ z⟩,x,fun ns H' b a hb=>?_⟩;obtain⟨R,S,T,t⟩:=K;have O:L2.Same G H':=fun c o e=>b c o (fun z=>by rw[z,i] at e;cases e) (f _ _ e);have W:=wt_newQ a hb x;show h ns H' O W fun J g=>⟨?_,W.adj,W.ok⟩;obtain⟨P,d,ol,n,h1,A,B,C,D,F,H,I⟩:=a;have r:=f _ _ t;have s:∀{c:Addr},upd (upd G dx (.own y)) y (.ins cw dx []) c=none->c≠p:=fun z w=>by rw[w,r] at z;cases z
 have N:y≠p:=fun w=>by rw[w,t] at i;cases i
 show⟨P,d,ol,n,g.1 _ _ N h1,g.1 _ _ (s F) A,g.1 _ _ (s H) B,g.1 _ _ (s I) C,D⟩
theorem ok_wbQ(F:Fun K "_law_web" "_law_web" qb4 f fd)(T:Txt K mg cc cw)(Ke:DefOk P w K mg base CX0 1 "_law_take" ["_law_state","_law_many"] spTake)(uT:MakeOk P w K mg base CX0 5 cw "Web" ["self","names","ties"] (spWeb cw)):FnOk P w K mg base CX0 7 f fd ["_law_state","_law_names_here","_law_ties"] (spWbQ cw):=by
 show F.ok K1 fun _ _ _ s H vs Q E hr h=>?_
 .obtain⟨p,ln,lt,ss,ts,TI,rfl,hB,n1,n2,aj,hN,few,hI,hJ,q⟩:=h;have hu:=zd hr;have am:=hJ.1;show⟨_,(qc (qo (i:=3) K1.nd rfl (yK rfl) (qQ qd))
 (qc (jp yZ rfl (qe7 (K:=K) rfl (pv 2)) (qce rfl (jI (qt (i:=4) K1.nd rfl (yK rfl)) (jI (qt (i:=5) K1.nd rfl (yK rfl)) qbn)))
 (qc (qo (i:=6) K1.nd rfl (yK rfl) (qZ (qa (qv (qw (K:=K) rfl hu) (pv 1) (pv 4) (fun _ _=>rfl)) (qa (qv (qw (K:=K) rfl hu) (pv 1) (pv 5) (fun _ _=>rfl)) qd))))
 (qe (qU (qa4 (K:=K) rfl yL Yd Ye qS (pv 3) (qa (qv (qw (K:=K) rfl hu) (qQ (qa (pv 6) (qa (pe_rev (K:=K) rfl (pv 6) (jE (qbG qaD qg))) qd))) (qp Ke (hmR hr) qB (qa (pv 0) (qa qg qd))) (fun _ _=>rfl)) qd))))))
 (qc (qH (qk (j3 (K:=K) rfl hu) (qp Ke (hmR hr) qB (qa (pv 0) (qa qg qd))) qg (qz _)) (qe (qm (qam uT (hmR hr) (qa (jq (qbw (K:=K) rfl rfl) rfl T.b_list xz (qa (pv 1) qd)) (qa (qeg (K:=K) rfl (pv 3) (jE (qbG qaD qg))) qd))))) qr)
 (qe (qm (qam uT (hmR hr) (qa (jq (qdr (K:=K) rfl) rfl T.b_tuple Xf (qa (pv 1) qd)) (qa (jq (qdr (K:=K) rfl) rfl T.b_tuple Xf (qa (pv 3) qd)) qd)))))))),?_⟩
  apply⟨by decide,fun j X=>?_⟩;have b0:=(BB.refl hB).new (o:=.lst []) X;have nf:=(BB.refl hB).apart X;have P0:PL (upd H j (.lst [])) j [] []:=⟨qb,.nil⟩;generalize upd H j (.lst [])=H0 at b0 P0;apply qf1 ?_;apply⟨lt,_,rfl,.of (b0.1 _ _ n2 hI.1),jo (xs:=ts.map V.ref) (fun i σ J=>∃(x4 x5 x6:Option V) (us:LQ) (tps:LP),σ=[some (.ref p),some (.ref ln),some (.ref lt),some (.ref j),x4,x5,x6]/\BB p H J/\PL J j us tps/\All2 (NmP ss) (TI.take i) tps)
   ⟨none,none,none,[],[],rfl,b0,P0,by rw[kZ];show .nil⟩ (fun i σ J _ hp=>by obtain⟨_,_,_,_,_,_,b,_⟩:=hp;show .of (b.1 _ _ n2 hI.1)) (fun i y σ J hy hp=>?_) fun σ J hp=>?_⟩
  .obtain⟨x4,x5,x6,us,tps,rfl,R,hP,S⟩:=hp;rw[yd] at hy;obtain⟨t,ht,rfl⟩:=yn.mp hy;have hi:i<TI.length:=by rw[<- hI.2.len];show(yc.mp ht).1
   obtain⟨qq,ac⟩:∃ q,TI[i]?=some q:=⟨_,yb hi⟩;have et:=R.tup hB (hI.2.at_ i t qq ht ac);have av:TI.take (i+1)=TI.take i++[qq]:=by rw[yR,ac];rfl
   have hq:=hJ.2.1 qq (ye ac);obtain⟨C,ad⟩:∃ s,ss[qq.1]?=some s:=⟨_,yb (by lk)⟩;obtain⟨D,ae⟩:∃ s,ss[qq.2]?=some s:=⟨_,yb (by lk)⟩;have ai:=R.1 _ _ n1 aj;show⟨t,_,rfl,.of et,rfl,_,_,rfl,_,_,rfl,rfl,?_⟩;apply .inl (zY ai (v:=.str C) (qu (by rw[yd,ad];rfl)) ?_);apply .inl (zY ai (v:=.str D) (qu (by rw[yd,ae];rfl)) ?_);show⟨by show 2<=sizeLine;decide,fun M as=>?_⟩;have keepP:∀{J J':Hp},L2.Same J J'->PL J j us tps->PL J' j us tps:=fun s h=>h.same s;have s1:=qF (Sr J) (o:=.tup [.str C,.str D]) as;have I:=R.same s1;have l:=hP.same s1;have B:upd J M (.tup [.str C,.str D]) M=some (.tup [.str C,.str D]):=qb;generalize upd J M (.tup [.str C,.str D])=n at s1 I l B;apply⟨.inl ⟨rfl,_,SqL.of l.1⟩,?_⟩;apply vU ?_;apply⟨rfl,M,_,_,rfl,SqT.of B,fun O au=>?_⟩;have m:=qF (Sr n) (o:=.tup [.str D,.str C]) au;have e:=I.same m;have a:=l.same m;replace B:=m _ _ B;have c:upd n O (.tup [.str D,.str C]) O=some (.tup [.str D,.str C]):=qb;generalize upd n O (.tup [.str D,.str C])=A at m e a B c;apply⟨by show 2<=sizeLine;decide,fun t3 ak=>?_⟩;have g:=qF (Sr A) (o:=.lst [.ref M,.ref O]) ak;have n3:=e.apart ak;have b3:=e.same g;have d:=a.same g;replace B:=g _ _ B;replace c:=g _ _ c;have L:upd A t3 (.lst [.ref M,.ref O]) t3=some (.lst [.ref M,.ref O]):=qb;generalize upd A t3 (.lst [.ref M,.ref O])=J3 at g b3 d B c L;apply⟨p,2,rfl,b3.2,by decide,by decide,fun r J4 r0 r1 b4=>?_⟩;have G:∀{u:Addr} {xs:List V},J3 u=some (.tup xs)->J4 u=some (.tup xs):=fun z=>b4.tup b3.2 z;have N:PL J4 j us tps:=⟨b4.1 _ _ nf d.1,d.2.mono fun u ab z=>G z⟩;replace B:=G B;replace c:=G c;replace L:=b4.1 _ _ n3 L;replace b4:=b3.trans b4
   obtain⟨tt,ab,ap,al,ao⟩:∃(tt:Addr) (ab:Str×Str),atI [V.ref M,V.ref O] r=some (.ref tt)/\J4 tt=some (.tup [.str ab.1,.str ab.2])/\NmP ss qq ab:=by
    have ar:r=0\/r=1:=by lk
    rcases ar with rfl | rfl
    .show⟨M,(C,D),rfl,B,.inl ⟨ad,ae⟩⟩
    .show⟨O,(D,C),rfl,c,.inr ⟨ad,ae⟩⟩
   show .inl (zY L ap ?_);show⟨j,_,_,rfl,rfl,N.1,by rw[ya,N.2.len,<- S.len,yT];show qi (by lk),?_⟩;have ag:H j=none:=X;have nt:∀{u:Addr} {xs:List V},J4 u=some (.tup xs)->u≠j:=fun z w=>by rw[w,N.1] at z;cases z
   show⟨_,_,_,us++[tt],tps++[ab],rfl,b4.put ag nf,⟨by rw[qb,yx];rfl,(N.2.mono fun u cd z=>by rw[qf (nt z)];show z).snoc (by rw[qf (nt al)];show al)⟩,?_⟩;rw[av];show S.snoc ao
  .obtain⟨x4,x5,x6,us,tps,rfl,R,hP,S⟩:=hp;have e0:(ts.map V.ref).length=TI.length:=by rw[ya,hI.2.len]
   rw[e0,yQ] at S;obtain⟨hg,hE⟩:=qf9 hN.nd hJ S;obtain⟨aq,an⟩:=qf9 hN.nd hJ.rev S.revQ;have aw:tps.length<=30:=by rw[<- S.len];show am
   apply⟨p,2,rfl,R.2,by decide,by decide,fun r n r0 r1 I=>?_⟩;have l:PL n j us tps:=⟨I.1 _ _ nf hP.1,hP.2.mono fun u ab z=>I.tup R.2 z⟩;replace I:=R.trans I;have ah:=I.1 _ _ n1 aj;apply qaH ?_;apply qL (fun h1=>?_) fun h1=>?_
   .ext;show .inl ⟨ln,_,rfl,.inl (SqL.of ah),fun l2 Y=>?_⟩;have m:=qF (Sr n) (o:=.lst (ss.map V.str)) Y;have c:upd n l2 (.lst (ss.map V.str)) l2=some (.lst (ss.map V.str)):=qb;have e:=I.same m;have a:=l.same m;generalize upd n l2 (.lst (ss.map V.str))=A at m c e a;apply qgs ?_;apply vU ?_;apply⟨rfl,j,_,rfl,SqL.of a.1,fun l3 Z=>?_⟩;have g:=qF (Sr A) (o:=.lst (us.map V.ref).reverse) Z;have L:upd A l3 (.lst (us.map V.ref).reverse) l3=some (.lst (us.reverse.map V.ref)):=by rw[qb,kL]
    replace c:=g _ _ c;have d:=a.same g;replace e:=e.same g;generalize upd A l3 (.lst (us.map V.ref).reverse)=J3 at g c L e d;ext;intro x dx hx U aa;show qfj (p:=p) (.inl c) hN ⟨.inl L,d.2.revQ⟩ aq hx U aa e.2 fun ns H2 sH W af=>⟨rfl,?_⟩;show q x ns _ H2 (e.same sH) W af an.rev
   .ext;show⟨ln,_,rfl,.inl ⟨SqL.of ah,fun l2 Y=>?_⟩⟩;have m:=qF (Sr n) (o:=.tup (ss.map V.str)) Y;have c:upd n l2 (.tup (ss.map V.str)) l2=some (.tup (ss.map V.str)):=qb;have e:=I.same m;have a:=l.same m;generalize upd n l2 (.tup (ss.map V.str))=A at m c e a;apply⟨j,_,rfl,.inl ⟨SqL.of a.1,fun l3 Z=>?_⟩⟩;have g:=qF (Sr A) (o:=.tup (us.map V.ref)) Z;have L:upd A l3 (.tup (us.map V.ref)) l3=some (.tup (us.map V.ref)):=qb;replace c:=g _ _ c;have d:=a.same g;replace e:=e.same g;generalize upd A l3 (.tup (us.map V.ref))=J3 at g c L e d;ext;intro x dx hx U aa;show qfj (p:=p) (.inr c) hN ⟨.inr L,d.2⟩ hg hx U aa e.2 fun ns H2 sH W af=>⟨rfl,?_⟩;show q x ns _ H2 (e.same sH) W af hE
theorem Ku:FnScope ["self","places","out","place","names","kept"] ["self","places"] (qh jt):=fS
theorem Wt.ir(W:Wt cw H x ss ns tps):∀ a b,tA tps a b->a≠b:=fun a b z e=>by
 rcases z with z | z
 .show(W.ok _ z).2.2 e
 .show(W.ok _ z).2.2 e.symm
noncomputable def tn(ss:LS)(i:Nat):Str:=ss.getD i ""
theorem qb5(h:i<ss.length):ss[i]?=some (tn ss i):=by unfold tn;rw[Yp,yb h];rfl
theorem qeD(h:i<ss.length):tn ss i∈ss:=ye (qb5 h)
theorem tn_inj(c:ss.Nodup)(a:i<ss.length)(b:j<ss.length)(e:tn ss i=tn ss j):i=j:=qA c (qb5 a) (by rw[e];show qb5 b)
theorem qfA{n:Addr}{Q:VK}(h:H n=some (.lst (ss.map V.str)))(a:i<ss.length)(q:Q (.str (tn ss i)) H):qfZ K (.ref n) (.int (i:Int)) H Q:=
 .inl (zY h (v:=.str (tn ss i)) (qu (by rw[yd,qb5 a];rfl)) q)
theorem qdb{t:Str}(b:s∈ss)(c:t∈ss)(e:ss.idxOf s=ss.idxOf t):s=t:=by
 have h1:ss[ss.idxOf s]?=some s:=by rw[yb (yX b),Yo]
 have a:ss[ss.idxOf t]?=some t:=by rw[yb (yX c),Yo]
 rw[e,a] at h1;show(ym h1).symm
theorem wt_new{y:Addr}(h:WebN H0 cw H y ss ns)(hb:qbb ss ns kps)(g:TGo ss kps):Wt cw H y ss ns kps:=
 ⟨h.web,fun a b s t d c=>by rw[hb.2.2 a b s t d c,yO],g.inn⟩
theorem Wt.to{y:Addr}(h:Wt cw H y ss ns kps)(ok:∀ ab∈tps,ab.1∈ss/\ab.2∈ss/\ab.1≠ab.2)(e:∀ a b,a∈ss->b∈ss->(tA kps a b↔tA tps a b)):Wt cw H y ss ns tps:=
 ⟨h.web,fun a b s t c hb=>(h.adj a b s t c hb).trans (e s t (ye c) (ye hb)),ok⟩
noncomputable def zH(l:LS)(tps:LP):LP:=tps.filter fun q=>decide (q.1∈l)&&decide (q.2∈l)
noncomputable def za(l bar:LS):LS:=l.filter fun s=>!decide (s∈bar)
theorem qb6(l bar:LS):(za l bar).length<=l.length:=yW _ _
theorem mem_out{l:LS}{a:Str}:a∈za l bar↔a∈l/\a∉bar:=by unfold za;rw[yp];simp
def OutN(ss:LS)(kvs:List (Key×V))(xs:LS):Prop:=∀(j:Nat) (s:Str),ss[j]?=some s->(jR kvs (.inl (j:Int):Key)).isSome=decide (s∈xs)
inductive spWo(cw:Addr)(vs:List V)(H:Hp)(Q:VK)(E:XK):Prop|mk (x a:Addr) (ss:LS) (ns:LN) (tps:LP) (bar:LS) (_:vs=[.ref x,.ref a]) (_:Wt cw H x ss ns tps) (_:(qE ss ns ss.length).length<=30) (_:H a=some (.lst (bar.map V.str))) (_:(∀ s∈bar,s∈ss)) (_:bar.length<=14) (_:∀(y:Addr) (ms:LN) (H':Hp),L2.Same H H'->Wt cw H' y (za ss bar) ms (zH (za ss bar) tps)->Q (.ref y) H')
theorem qb7{m:Addr}{l:LS}{Q:VK}(e:H m=some (.lst (l.map V.str)))(q:Q (.bl (decide (s∈l))) H):qdW K false (.str s) (.ref m) H Q:=
 .inl ⟨m,_,rfl,.inl (SqL.of e),rfl,flat_strs l,by rw[yC (by decide),qc2];show q⟩
theorem wmake{m y:Addr}{Q:VK}(H:G m=some (.lst (ss.map V.str)))(g:ss.length<=14)(nd:ss.Nodup)(I:∀ s∈ss,zP s=true)(j:PL G l us kps)(p:TGo ss kps)(q:G y=none)(F:G dx=none)(i:dx≠y)
  (h:∀ ns H2,L2.Same G H2->WebN G cw H2 y ss ns->Wt cw H2 y ss ns kps->Q .non H2):spWeb cw [.ref y,.ref m,.ref l] (upd (upd G dx (.own y)) y (.ins cw dx [])) Q E:=by
 have f:=qF (qF (Sr G) (o:=.own y) F) (o:=.ins cw dx []) (show upd G dx (.own y) y=none by rw[qf (Yn i)];show q);show⟨y,dx,m,l,ss,us,kps,rfl,qb,.inl (f _ _ H),g,nd,I,⟨.inl (f _ _ j.1),(j.same f).2⟩,p,fun ns H' b D C=>?_⟩
 have a:WebN G cw H' y ss ns:=by
  obtain⟨J,d,ol,n,h1,r,t,u,w,x,A,B⟩:=D
  have k:∀ c,upd (upd G dx (.own y)) y (.ins cw dx []) c=none->G c=none:=fun c z=>by
   cases e:G c with
   | none=>rfl
   | some o=>rw[f _ _ e] at z;cases z
  show⟨J,d,ol,n,h1,r,t,u,w,k _ x,k _ A,k _ B⟩
 show h ns H' (fun c o e=>b c o (fun z=>by rw[z,q] at e;cases e) (f _ _ e)) a (wt_new a C p)
theorem ok_wo(F:Fun K "without" "Web.without" jt f fd)(T:Txt K mg cc cw)(Kq:MethOk P w K mg base CX0 4 cw "number_of" ["self","place"] (spNum cw))(KI:MethOk P w K mg base CX0 7 cw "ties" ["self"] (spTs cw))(uT:MakeOk P w K mg base CX0 5 cw "Web" ["self","names","ties"] (spWeb cw)):FnOk P w K mg base CX0 8 f fd ["self","places"] (spWo cw):=by
 show F.ok Ku fun _ _ _ _ H vs Q E hr h=>?_
 .obtain⟨x,a,ss,ns,tps,bar,rfl,W,ah,u,hv,aq,q⟩:=h;have Z:=zd hr;obtain⟨wx,dd,ol,nn,hb,aj,an,aw,hw⟩:=id W.web;have few:=hw.few;show⟨_,(qc (qH (qX (qO (qj (qcU (K:=K) rfl) rfl T.b_isinstance Ym (qa (pv 1) (qa (qZ (qa (qY (v:=.ty "list") rfl T.b_list xz rfl) (qa (qY (v:=.ty "tuple") rfl T.b_tuple Xf rfl) qd))) qd))))) (qe jr) qr)
 (qc (qo (i:=2) Ku.nd rfl (Xr rfl) zc)
 (qc (jp yZ rfl (qR (K:=K) rfl (pv 1)) (qt (i:=3) Ku.nd rfl (yK rfl))
 (qe (jQ jH (j7 (pv 2) (qI Kq (hmR hr) (pv 0) (qa (pv 3) qd)) (j9 Z)))))
 (qc (qo (i:=4) Ku.nd rfl (Xr rfl) (jh (sc:=qh jt) (XN:=["self","places","out","place","names","kept"]) ["name","out","self"] 1 [2,0] rfl rfl rfl (by room) rfl (by room)
  (qR (K:=K) rfl (qC (K:=K) rfl (pv 0) rfl)) (fun _ _ _ _=>(qt (i:=0) (show(["name","out","self"]:LS).Nodup by room) rfl (yK rfl))) qN
  (fun _ _ _ _=>(q8 (qk (jB (K:=K) rfl Z) (qv (qw (K:=K) rfl Z) (qC (K:=K) rfl (pv 2) rfl) (pv 0) (fun _ _=>rfl)) (pv 1) (by with_unfolding_all rfl))))
  (fun _ _ _ _=>(pv 0))))
 (qc (zN (sc:=qh jt) (XN:=["self","places","out","place","names","kept"]) ["tie","names"] 1 [4] rfl rfl rfl (by room) rfl (by room) (i:=5) Ku.nd rfl rfl
  (qR (K:=K) rfl (jk KI (hmR hr) (pv 0))) (fun _ _ _ _=>(qt (i:=0) (show(["tie","names"]:LS).Nodup by room) rfl (yK rfl))) qN
  (fun _ _ _ _=>(q8 (PW.pt (qbm (qk (zC (K:=K) rfl Z) (qv (qw (K:=K) rfl Z) (pv 0) qg (fun _ _=>rfl)) (pv 1) (by with_unfolding_all rfl)) (qa1 (qk (zC (K:=K) rfl Z) (qv (qw (K:=K) rfl Z) (pv 0) qg (fun _ _=>rfl)) (pv 1) (by with_unfolding_all rfl)))))))
  (fun _ _ _ _=>(pv 0)))
 (qe (qm (qam uT (hmR hr) (qa (pv 4) (qa (pv 5) qd)))))))))),?_⟩
  apply⟨by show 2<=sizeLine;decide,fun g hg=>?_⟩;have s0:=qF (Sr H) (o:=.tup [.ty "list",.ty "tuple"]) hg;apply qej (s0 _ _ u) qb ?_;apply yq ?_;ext;intro d hd;have s1:=qF s0 (o:=.dK []) hd;have ed:upd (upd H g (.tup [.ty "list",.ty "tuple"])) d (.dK []) d=some (.dK []):=qb;have ai:H d=none:=s0.free hd;generalize upd (upd H g (.tup [.ty "list",.ty "tuple"])) d (.dK [])=H1 at s1 ed;apply .inl ⟨⟨_,.of (s1 _ _ u)⟩,jo (xs:=bar.map V.str) (fun i σ J=>L2.Same H J/\∃(kvs:List (Key×V)) (y3 y4 y5:Option V),σ=[some (.ref x),some (.ref a),some (.ref d),y3,y4,y5]/\J d=some (.dK kvs)/\kvs.length<=i/\OutN ss kvs (bar.take i)) ⟨s1,[],_,_,_,rfl,ed,yh _,fun j s' _=>by simp[jR]⟩ (fun i σ J _ C=>.of (C.1 _ _ u)) (fun i y σ J N C=>?_) fun σ J C=>?_⟩
  .obtain⟨O,kvs,y3,y4,y5,rfl,S,X,p⟩:=C;obtain⟨v,gv,rfl⟩:=jU N;have al:=(yc.mp gv).1;have ao:bar.take (i+1)=bar.take i++[v]:=by rw[yR,gv];rfl
   obtain⟨j,gj⟩:=yf (hv v (ye gv));apply⟨x,wx,_,rfl,O _ _ hb,zq (by room),?_⟩;apply⟨x,ss,ns,v,j,rfl,W.web.same O,gj,fun J2 s2=>?_⟩;show .inr ⟨d,_,rfl,DPut.k (k:=Sum.inl (j:Int)) (s2 _ _ S) (qi (by lk)),?_⟩;show⟨qaE (O.trans s2) ai,_,_,_,_,rfl,qb,?_,fun j' s' L=>?_⟩
   .have:=jF kvs (Sum.inl (j:Int):Key) (V.bl true);lk
   .rw [qaN,ao];by_cases e:j'=j
    .subst e;rw[yG rfl];have:s'=v:=by rw[L] at gj;show ym gj
     simp[this]
    .rw [yC (fun z=>e (by have:=Sum.inl.inj z;lk)),p j' s' L];have B:¬ s'=v:=fun z=>e (qA hw.nd (by rw[z] at L;show L) gj);simp[B]
  .obtain⟨O,kvs,y3,y4,y5,rfl,S,_,p⟩:=C;rw[show(bar.map V.str).length=bar.length from ya _,yQ] at p;have R:=O _ _ an;apply .inl ⟨x,cw,wx,_,.ref ol,rfl,O _ _ hb,T.wcl,T.wo,qbe,?_⟩;show .inl ⟨⟨_,SqL.of R⟩,qK (K:=K) (fun i ys H'=>H'=J/\ys=(za (ss.take i) bar).map V.str) ⟨rfl,rfl⟩ (fun i ys H' _ C=>by rw[C.1];show SqL.of R) (fun i y ys H' N C=>?_) fun ys H' C=>?_⟩
   .obtain⟨rfl,rfl⟩:=C;rw[yd] at N;obtain⟨sy,gi,rfl⟩:=yn.mp N;have al:=(yc.mp gi).1;obtain⟨i',as,ag,vi⟩:=j4 (i:=0) (ye gi);rw[xK,qA hw.nd ag gi] at vi;have av:(za (ss.take i) bar).length<=i:=yi (qb6 _ _) (by rw[yT];lk)
    have Y:za (ss.take (i+1)) bar=za (ss.take i) bar++(if (!decide (sy∈bar))=true then [sy] else []):=by
     unfold za;rw[yR,gi,Yh];show _++[sy].filter _=_;rw[yU,YF]
    apply .inl ⟨x,cw,wx,_,.ref dd,rfl,O _ _ hb,T.wcl,T.wn,jT,?_⟩;apply .inr ⟨dd,.int i,rfl,?_,?_⟩
    .have:=DGet.k (k:=Sum.inr sy) (O _ _ aj);rw[vi] at this;show this
    apply .inr (.inl ⟨d,_,rfl,DGet.k (k:=Sum.inl (i:Int)) S,?_⟩);have ev:(if true=true then !(jR kvs (Sum.inl (i:Int):Key)).isSome else(jR kvs (Sum.inl (i:Int):Key)).isSome)=!decide (sy∈bar):=by rw[yG rfl,p i sy gi]
    rw[ev,Y];show⟨_,rfl,?_⟩
    cases (!decide (sy∈bar)) with
    | true =>
     show zm ?_;apply⟨by rw[ya];show qi (by lk),rfl,by rw[yG rfl,yx];rfl⟩
    | false=>show qL (fun h=>by cases h) fun _=>⟨rfl,by rw[yC (by decide),Yb]⟩
   .obtain⟨rfl,rfl⟩:=C;rw[show(ss.map V.str).length=ss.length from ya _,yQ];have ar:=qb6 ss bar;show⟨by rw[ya];show yV (qi (by lk)),fun m hm=>?_⟩;have s3:=qF O (o:=.lst ((za ss bar).map V.str)) hm;have em:upd H' m (.lst ((za ss bar).map V.str)) m=some (.lst ((za ss bar).map V.str)):=qb;generalize upd H' m (.lst ((za ss bar).map V.str))=J3 at s3 em;apply⟨x,wx,_,rfl,s3 _ _ hb,zq (by room),?_⟩;apply⟨x,ss,ns,rfl,W.web.same s3,fun l ts J4 s4 au hl am M=>?_⟩;have U:=s4 _ _ em;obtain⟨c,s⟩:∃ c,c=qE ss ns ss.length:=⟨_,rfl⟩;rw[<- s] at M;show .inl ⟨⟨_,.of hl⟩,qK (xs:=ts.map V.ref) (fun i ys G=>G=J4/\∃ us:LQ,ys=us.map V.ref/\us.length<=i/\All2 (fun t ab=>J4 t=some (.tup [.str ab.1,.str ab.2])) us (zH (za ss bar) (c.take i))) ⟨rfl,[],rfl,yh _,.nil⟩ (fun i ys G _ D=>by rw[D.1];show .of hl) (fun i y ys G N D=>?_) fun ys G D=>?_⟩
    .obtain⟨rfl,us,rfl,ae,hU⟩:=D;rw[yd] at N;obtain⟨t,ht,rfl⟩:=yn.mp N;have hi:=(yc.mp ht).1;obtain⟨ab,n⟩:∃ ab,c[i]?=some ab:=⟨_,yb (by rw[<- M.len];show hi)⟩;obtain⟨_,_,z3⟩:=M.at_ i t ab ht n
     have Y:zH (za ss bar) (c.take (i+1))=zH (za ss bar) (c.take i)++(if (decide (ab.1∈za ss bar)&&decide (ab.2∈za ss bar))=true then [ab] else []):=by
      unfold zH;rw[yR,n,Yh];show _++[ab].filter _=_;rw[yU,YF]
     rw[Y];apply .inl (zD z3 (v:=.str ab.1) (qu (j:=0) rfl) ?_);apply qb7 U ?_;show⟨_,rfl,?_⟩
     cases decide (ab.1∈za ss bar) with
     | false=>show qL (fun h=>by cases h) fun _=>qL (fun h=>by cases h) fun _=>⟨rfl,us,rfl,by lk,by rw[kX,yC (by decide),Yb];show hU⟩
     | true =>
      show zm ?_;apply .inl (zD z3 (v:=.str ab.2) (qu (j:=1) rfl) ?_);apply qb7 U ?_;show⟨_,rfl,?_⟩;rw[Bool.true_and]
      cases decide (ab.2∈za ss bar) with
      | false=>show qL (fun h=>by cases h) fun _=>⟨rfl,us,rfl,by lk,by rw[yC (by decide),Yb];show hU⟩
      | true =>
       show zm ?_;apply⟨by rw[ya];show qi (by lk),rfl,us++[t],by rw[yx];rfl,by rw[yt];simp;lk,by rw[yG rfl];show hU.snoc z3⟩
    .obtain⟨rfl,us,rfl,ae,hU⟩:=D;rw[show(ts.map V.ref).length=c.length by rw[ya,M.len],yQ] at hU;rw[ya] at ae;show⟨by rw[ya];show yV (qi (by lk)),fun kl X=>?_⟩;have ap:=s3.trans s4;have s5:=qF ap (o:=.lst (us.map V.ref)) X;have af:=qF (Sr G) (o:=.lst (us.map V.ref)) X;have aa:upd G kl (.lst (us.map V.ref)) kl=some (.lst (us.map V.ref)):=qb;have ad:PL (upd G kl (.lst (us.map V.ref))) kl us (zH (za ss bar) c):=⟨aa,hU.mono fun _ _ z=>af _ _ z⟩;have ac:=af _ _ U;generalize upd G kl (.lst (us.map V.ref))=G5 at s5 aa ad ac
     have I:∀{a b:Str},(a,b)∈zH (za ss bar) c↔(a,b)∈c/\a∈za ss bar/\b∈za ss bar:=fun{a b}=>by
      unfold zH;rw[yp,yY,yO,yO]
     have hg:TGo (za ss bar) (zH (za ss bar) c):=by
      show⟨yi (yW _ _) (by rw[s];show ah),fun ab n=>?_,?_⟩
      .obtain⟨h1,h2,h3⟩:=I.mp n;rw[s] at h1;show⟨h2,h3,W.ir _ _ ((zr hw W.adj).mp h1).1⟩
      .show xj (fun{q r} hq hr B=>⟨B,fun z=>?_⟩) ((Xl).nodup (by rw[s];show qeu hw):(zH (za ss bar) c).Nodup);have q1:=(I.mp hq).1;have r1:=(I.mp hr).1;rw[s] at q1 r1;obtain⟨_,i1,j1,l1,a1,b1⟩:=(zr hw W.adj).mp q1;obtain⟨_,i2,j2,l2,a2,b2⟩:=(zr hw W.adj).mp r1;rw[z] at a1 b1;have:=qA hw.nd a1 b2;have:=qA hw.nd b1 a2;lk
     apply fun y dx N ak B=>wmake ac (by lk) (hw.nd.filter _) (fun z hz=>hw.nm z (mem_out.mp hz).1) ad hg N ak B fun ms H9 s9 _ W9=>⟨rfl,?_⟩;show q y ms H9 (s5.trans s9) (W9.to (fun ab n=>?_) fun a b u A=>?_)
     .unfold zH at n;obtain⟨h1,h2⟩:=yp.mp n;rw[yY,yO,yO] at h2;show⟨h2.1,h2.2,(W.ok _ h1).2.2⟩
     .have k1:∀{a b:Str},a∈za ss bar->b∈za ss bar->((a,b)∈zH (za ss bar) tps↔(a,b)∈tps):=fun u hb=>by
       unfold zH;rw[yp,yY,yO,yO];show⟨fun z=>z.1,fun z=>⟨z,u,hb⟩⟩
      unfold tA;rw[k1 u A,k1 A u,I,I,s];constructor
      .rintro (z | z)
       .show((zr hw W.adj).mp z.1).1
       .show((zr hw W.adj).mp z.1).1.symm
      .intro z;obtain⟨ia,ga⟩:=yf (mem_out.mp u).1;obtain⟨ib,gb⟩:=yf (mem_out.mp A).1;rcases ko ia ib with k | k | k
       .show .inl ⟨(zr hw W.adj).mpr ⟨z,ia,ib,k,ga,gb⟩,u,A⟩
       .subst k;rw[ga] at gb;show absurd (ym gb) (W.ir _ _ z)
       .show .inr ⟨(zr hw W.adj).mpr ⟨z.symm,ib,ia,k,gb,ga⟩,A,u⟩
theorem PGo.grt(c:∀ a b,tA tps a b->a≠b)(g:PGo ss tps qs):Gr (tA tps) (pt qs):=⟨fun z=>Kd z,fun z=>c _ _ z,fun{a b} e=>g.fn.sym a b e,fun{a b} e=>g.fn.tie a b e⟩
theorem mx_le{rs:LP}(d:∀ a b,tA tps a b->a≠b)(c:ss.Nodup)(g:PGo ss tps qs)(m:MxF ss tps qs)(g':PGo ss tps rs):rs.length<=qs.length:=by
 obtain⟨S,F⟩:=m;have h1:=F.most (g'.grt d)
 have n:(ss.filter fun u=>!(pt rs u).isSome&&(S.rows u).isSome).length<=(snL (pt rs) ss).length:=by
  unfold snL
  show qcE (c.filter _) fun x e=>by
   obtain⟨a,b⟩:=yp.mp e;rw[yY] at b;show yp.mpr ⟨a,b.1⟩
 have h:=qaX (f:=pt qs) (ss:=ss);have i:=qaX (f:=pt rs) (ss:=ss);have j:=g.cnt c;have l:=g'.cnt c;lk
theorem ua:FnScope ["web","free","words","place"] ["web"] (qh qb8):=fS
theorem u6:FnScope ["web","place","free"] ["web","place","free"] (qh zI):=fS
theorem Uu:FnScope ["web"] ["web"] (qh qb9):=fS
theorem Uw:FnScope ["web"] ["web"] (qh qdK):=fS
theorem K5:FnScope ["web","word","words"] ["web","word"] (qh jP):=fS
noncomputable def fnK(g:Str->V)(l:LS):List (Key×V):=l.map fun s=>(.inr s,g s)
theorem qdL{g:Str->V}:∀{l:LS},y∉l->jR (fnK g l) (.inr y:Key)=none
 | [],_=>rfl
 | s::r,h=>by
  show jR ((.inr s,g s)::fnK g r) _=none;rw[qW (p:=((.inr s:Key),g s)) (fun e=>h (by rw[xk e];show yE))];show qdL fun z=>h (yy _ z)
theorem qdM{g:Str->V}:∀{l:LS},y∈l->jR (fnK g l) (.inr y:Key)=some (g y)
 | s::r,h=>by
  show jR ((.inr s,g s)::fnK g r) _=_;by_cases e:s=y
  .subst e;show ji (p:=((.inr s:Key),g s)) rfl
  .rw [qW (p:=((.inr s:Key),g s)) (fun z=>e (xk z))];show qdM ((yA.mp h).resolve_left (Yn e))
theorem fnK_put{g:Str->V}{l:LS}(h:y∉l):zJ (fnK g l) (.inr y:Key) (g y)=fnK g (l++[y]):=by
 rw[qaO _ (qdL h)];unfold fnK;rw[yx];rfl
theorem fnK_len(g:Str->V)(l:LS):(fnK g l).length=l.length:=ya _
noncomputable def loQ(tps:LP)(ss:LS):LS:=ss.filter fun s=>decide (mo tps (del ss s).length (del ss s)=mo tps ss.length ss)
theorem qga(c:∀ a b,tA tps a b->a≠b)(d:ss.Nodup)(g:PGo ss tps qs)(F:Fn (tA tps) (pt qs) S ss):(ss.filter fun s=>(S.rows s).isSome)=loQ tps ss:=
 Y3 fun s e=>by
  rw[YA,yO,mx_loose c d g F e];show Xi
noncomputable def wdF(ss:LS)(ns:LN)(a:LS)(v:Str):Str:=if v∈a then "loose" else if (inB ss 0 (ns.getD (ss.idxOf v) 0)).any (fun o=>decide (o∈a))=true then "held" else "fast"
noncomputable def wdS(tps:LP)(ss:LS)(ns:LN)(v:Str):V:=.str (wdF ss ns (loQ tps ss) v)
inductive spLo(cw:Addr)(vs:List V)(H:Hp)(Q:VK)(E:XK):Prop|mk (x:Addr) (ss:LS) (ns:LN) (tps:LP) (_:vs=[.ref x]) (_:Wt cw H x ss ns tps) (_:∀(l:Addr) (H':Hp),L2.Same H H'->H l=none->H' l=some (.lst ((loQ tps ss).map V.str))->Q (.ref l) H')
inductive spWf(cw:Addr)(vs:List V)(H:Hp)(Q:VK)(E:XK):Prop|mk (x l:Addr) (v:Str) (ss:LS) (ns:LN) (fr:LS) (_:vs=[.ref x,.str v,.ref l]) (_:WebAt cw H x ss ns) (_:v∈ss) (_:H l=some (.lst (fr.map V.str))) (_:∀(H':Hp),L2.Same H H'->Q (.str (wdF ss ns fr v)) H')
inductive spSo(cw:Addr)(vs:List V)(H:Hp)(Q:VK)(E:XK):Prop|mk (x:Addr) (ss:LS) (ns:LN) (tps:LP) (_:vs=[.ref x]) (_:Wt cw H x ss ns tps) (_:∀(d:Addr) (H':Hp),L2.Same H H'->H d=none->H' d=some (.dK (fnK (wdS tps ss ns) ss))->Q (.ref d) H')
inductive spPw(cw:Addr)(vs:List V)(H:Hp)(Q:VK)(E:XK):Prop|mk (x:Addr) (wd:Str) (ss:LS) (ns:LN) (tps:LP) (_:vs=[.ref x,.str wd]) (_:Wt cw H x ss ns tps) (_:∀(l:Addr) (H':Hp),L2.Same H H'->H l=none->H' l=some (.lst ((ss.filter fun s=>decide (wdF ss ns (loQ tps ss) s=wd)).map V.str))->Q (.ref l) H')
inductive spHe(cw:Addr)(wd:Str)(vs:List V)(H:Hp)(Q:VK)(E:XK):Prop|mk (x:Addr) (ss:LS) (ns:LN) (tps:LP) (_:vs=[.ref x]) (_:Wt cw H x ss ns tps) (_:∀(l:Addr) (H':Hp),L2.Same H H'->H l=none->H' l=some (.lst ((ss.filter fun s=>decide (wdF ss ns (loQ tps ss) s=wd)).map V.str))->Q (.ref l) H')
noncomputable def heQ(tps:LP)(ss:LS)(ns:LN):LS:=ss.filter fun s=>decide (wdF ss ns (loQ tps ss) s="held")
inductive spPa(cw:Addr)(vs:List V)(H:Hp)(Q:VK)(E:XK):Prop|mk (x:Addr) (ss:LS) (ns:LN) (tps:LP) (_:vs=[.ref x]) (_:Wt cw H x ss ns tps) (_:∀(t l a:Addr) (ls:LQ) (rs:LP) (H':Hp),L2.Same H H'->H' t=some (.tup [.ref l,.ref a])->H l=none->H a=none->l≠a->PL H' l ls rs->PGo ss tps rs->MxF ss tps rs->GrR ss ns rs->H' a=some (.lst ((heQ tps ss ns).map V.str))->Q (.ref t) H')
theorem ok_lo(F:Fun K "loose" "loose" qb9 f fd)(T:Txt K mg cc cw)(A:DefOk P w K mg base CX0 14 "greatest" ["web"] (spGr cw))(z:MakeOk P w K mg base CX0 10 (cc 9) "Forest" ["self","web","pairs"] (spFi cc cw))(X:MethOk P w K mg base CX0 2 (cc 9) "reached" ["self"] (spFd2 cc cw)):FnOk P w K mg base CX0 15 f fd ["web"] (spLo cw):=by
 show F.ok Uu fun _ _ _ _ H vs Q E o h=>?_
 .obtain⟨x,ss,ns,tps,rfl,W,q⟩:=h;show⟨_,(qe (qm (jk X (hmR o) (qam z (hmR o) (qa (pv 0) (qa (qp A (hmR o) qB (qa (pv 0) qd)) qd)))))),?_⟩;apply⟨x,ss,ns,tps,rfl,W,fun l ls rs H1 s _ M b L _=>?_⟩;have p:=W.same s;apply fun y dx O m n=>qfz p M b O m n fun H0 Y a S dn wt lo B g R=>?_;subst B;show⟨rfl,?_⟩;obtain⟨D,C,i,_,_,_,j⟩:=id g.fo.obj;have d:=s.trans R;apply⟨a.x,D,C,rfl,i,j _ (by room),?_⟩;apply⟨H0,a,ss,ns,rs,S,dn,wt,lo,_,rfl,g,W.wok.few,fun hl=>?_,fun hl l' u U I c=>?_⟩
  .rcases g.en with⟨e,_⟩ | ⟨t,r,e,_,_,J,N⟩
   .show absurd e hl
   .obtain⟨G,Z⟩:=qex W.wok W.adj W.ok b J (by lk);have:=mx_le W.ir W.wok.nd b L G;lk
  .subst hl;rw[qga W.ir W.wok.nd b (qf6 g (p.wb b))] at c;show q l' u (d.trans U) (d.free I) c
theorem ok_wf(F:Fun K "word_for" "word_for" zI f fd)(T:Txt K mg cc cw)(B:MethOk P w K mg base CX0 6 cw "beside" ["self","place"] (spBs cw)):FnOk P w K mg base CX0 7 f fd ["web","place","free"] (spWf cw):=by
 show F.ok u6 fun _ _ _ _ H vs Q E t h=>?_
 .obtain⟨x,l,v,ss,ns,c,rfl,W,hv,hl,q⟩:=h;have u:=zd t;show⟨_,(qc (qH (qk (zC (K:=K) rfl u) (pv 1) (pv 2) (by with_unfolding_all rfl)) (qe (qm qaA)) qr)
 (qe (qm (qbT (qO (qj (k_any (K:=K) rfl rfl) rfl T.b_any boot_any (qa (jh (sc:=qh zI) (XN:=["web","place","free"]) ["other","free"] 1 [2] rfl rfl rfl (by room) rfl (by room)
  (qR (K:=K) rfl (qI B (hmR t) (pv 0) (qa (pv 1) qd))) (fun _ _ _ _=>(qt (i:=0) (show(["other","free"]:LS).Nodup by room) rfl (yK rfl))) qN
  (fun _ _ _ _=>jA)
  (fun _ _ _ _=>(jg (zC (K:=K) rfl u) (pv 0) (pv 1) (by with_unfolding_all rfl)))) qd))) qaA qaA)))),?_⟩
  obtain⟨N,O,ol,R,hb,_,_,_,hw⟩:=id W;have few:=hw.few;apply qb7 hl ?_;ext;unfold wdF at q;show qL (fun h1=>?_) fun h1=>?_
  .rw [yG (yk h1)] at q;apply q H (Sr H)
  .rw [yC (fun z=>h1 (yD z))] at q;apply⟨x,N,_,rfl,hb,zq (by room),?_⟩;ext;obtain⟨j,s⟩:=yf hv;rw[qbO hw.nd s] at q;show⟨x,ss,ns,v,j,rfl,W,s,fun H1 M m I=>?_⟩;generalize n:inB ss 0 (ns.getD j 0)=a at q ⊢;have C:a.length<=14:=by rw[<- n];show yi (qa5 _ _ _) few
   have p:=qF M (o:=.lst (a.map V.str)) I;have d:upd H1 m (.lst (a.map V.str)) m=some (.lst (a.map V.str)):=qb;generalize upd H1 m (.lst (a.map V.str))=H2 at p d;show .inl ⟨⟨_,.of d⟩,qK (fun i ys J=>J=H2/\ys=((a.take i).map fun o=>decide (o∈c)).map V.bl) ⟨rfl,rfl⟩ (fun i ys J _ b=>by rw[b.1];show .of d) (fun i y ys J L b=>?_) fun ys J b=>?_⟩
   .obtain⟨rfl,rfl⟩:=b;obtain⟨S,r,rfl⟩:=jU L;have G:=(yc.mp r).1;apply zm ?_;apply qb7 (p _ _ hl) ?_;show⟨by rw[ya,ya,yT];show qi (by lk),rfl,by rw[yR,r,yx,yx];rfl⟩
   .obtain⟨rfl,rfl⟩:=b;rw[show(a.map V.str).length=a.length from ya _,yQ];show⟨by rw[ya,ya];show yV (qi (by lk)),fun g D=>?_⟩;apply⟨g,_,rfl,.of qb,?_⟩;rw[Kc];have eq:(a.any (id ∘ fun o=>decide (o∈c)))=a.any fun o=>decide (o∈c):=rfl;rw[eq];have A:=qF p (o:=.lst ((a.map fun o=>decide (o∈c)).map V.bl)) D;apply qL (fun e=>?_) fun e=>?_
    .rw [yG e] at q;show q _ A
    .rw [yC e] at q;show q _ A
theorem ok_so(F:Fun K "sorts" "sorts" qb8 f fd)(T:Txt K mg cc cw)(uG:DefOk P w K mg base CX0 15 "loose" ["web"] (spLo cw))(Z:DefOk P w K mg base CX0 7 "word_for" ["web","place","free"] (spWf cw))(Y:MethOk P w K mg base CX0 1 cw "places" ["self"] (spPls cw)):FnOk P w K mg base CX0 16 f fd ["web"] (spSo cw):=by
 show F.ok ua fun _ _ _ _ H vs Q E p h=>?_
 .obtain⟨x,ss,ns,tps,rfl,W,q⟩:=h;have hu:=zd p;show⟨_,(qc (qo (i:=1) ua.nd rfl (yK rfl) (qp uG (hmR p) qB (qa (pv 0) qd)))
 (qc (qo (i:=2) ua.nd rfl (yK rfl) zc)
 (qc (jp yZ rfl (qR (K:=K) rfl (jk Y (hmR p) (pv 0))) (qt (i:=3) ua.nd rfl (yK rfl))
 (qe (jQ (qp Z (hmR p) qB (qa (pv 0) (qa (pv 3) (qa (pv 1) qd)))) (j7 (pv 2) (pv 3) (j9 hu)))))
 (qe (qm (pv 2)))))),?_⟩
  have few:=W.wok.few;apply⟨x,ss,ns,tps,rfl,W,fun l H1 U _ hl=>?_⟩;ext;intro d A;have s:=qF U (o:=.dK []) A;have R:upd H1 d (.dK []) d=some (.dK []):=qb;have c:H d=none:=U.free A;have l2:=(qF (Sr H1) (o:=.dK []) A) _ _ hl;generalize upd H1 d (.dK [])=H2 at s R l2;obtain⟨wx,dd,ol,nn,hb,_⟩:=id W.web;apply⟨x,wx,_,rfl,s _ _ hb,zq (by room),?_⟩;apply⟨x,ss,ns,rfl,W.web.same s,fun m D=>?_⟩;have X:=qF s (o:=.lst (ss.map V.str)) D;have b:upd H2 m (.lst (ss.map V.str)) m=some (.lst (ss.map V.str)):=qb;have a:=(qF (Sr H2) (o:=.lst (ss.map V.str)) D) _ _ R;have r:=(qF (Sr H2) (o:=.lst (ss.map V.str)) D) _ _ l2;generalize upd H2 m (.lst (ss.map V.str))=H3 at X b a r;have M:m≠d:=fun z=>by rw[z,a] at b;cases b
  have L:l≠d:=fun z=>by rw[z,a] at r;cases r
  show .inl ⟨⟨_,.of b⟩,jo (xs:=ss.map V.str) (fun i σ J=>L2.Same H J/\J m=some (.lst (ss.map V.str))/\J l=some (.lst ((loQ tps ss).map V.str))/\∃(O:Option V),σ=[some (.ref x),some (.ref l),some (.ref d),O]/\J d=some (.dK (fnK (wdS tps ss ns) (ss.take i)))) ⟨X,b,r,_,rfl,a⟩ (fun i σ J _ e=>.of e.2.1) (fun i y σ J hy e=>?_) fun σ J e=>?_⟩
  .obtain⟨u,S,I,O,rfl,j⟩:=e;obtain⟨N,n,rfl⟩:=jU hy;have aa:=(yc.mp n).1;apply⟨x,l,N,ss,ns,_,rfl,W.web.same u,ye n,I,fun J2 t=>?_⟩;ext
   have G:N∉ss.take i:=fun z=>by
    obtain⟨k,B⟩:=yf z;have C:k<i:=by have:=(yc.mp B).1;rw[yT] at this;lk
    rw[List.getElem?_take_of_lt C] at B;have:=qA W.wok.nd B n;lk
   show .inr ⟨d,_,rfl,DPut.k (k:=Sum.inr N) (t _ _ j) (by rw[fnK_len,yT];show qi (by lk)),?_⟩;show⟨qaE (u.trans t) c,by rw[qf M];show t _ _ S,by rw[qf L];show t _ _ I,_,rfl,?_⟩;rw[qb,yR,n];show congrArg (fun z=>some (HO.dK z)) (fnK_put (g:=wdS tps ss ns) G)
  .obtain⟨u,S,I,O,rfl,j⟩:=e;rw[show(ss.map V.str).length=ss.length from ya _,yQ] at j;apply q d J u c j
theorem ok_pw(F:Fun K "places_with" "places_with" jP f fd)(T:Txt K mg cc cw)(C:DefOk P w K mg base CX0 16 "sorts" ["web"] (spSo cw))(B:MethOk P w K mg base CX0 1 cw "places" ["self"] (spPls cw)):FnOk P w K mg base CX0 17 f fd ["web","word"] (spPw cw):=by
 show F.ok K5 fun _ _ _ s H vs Q E t h=>?_
 .obtain⟨x,c,ss,ns,tps,rfl,W,q⟩:=h;have A:=zd t;show⟨_,(qc (qo (i:=2) K5.nd rfl (Xr rfl) (qp C (hmR t) qB (qa (pv 0) qd)))
 (qe (qm (jh (sc:=qh jP) (XN:=["web","word","words"]) ["place","word","words"] 1 [1,2] rfl rfl rfl (by room) rfl (by room)
  (qR (K:=K) rfl (jk B (hmR t) (pv 0))) (fun _ _ _ _=>(qt (i:=0) (show(["place","word","words"]:LS).Nodup by room) rfl (yK rfl))) qN
  (fun _ _ _ _=>(q8 (qk (j3 (K:=K) rfl A) (qv (qw (K:=K) rfl A) (pv 2) (pv 0) (fun _ _=>rfl)) (pv 1) (qz _))))
  (fun _ _ _ _=>(pv 0)))))),?_⟩
  have few:=W.wok.few;apply⟨x,ss,ns,tps,rfl,W,fun d H1 j _ G=>?_⟩;have z:∀ s∈ss,jR (fnK (wdS tps ss ns) ss) (.inr s:Key)=some (.str (wdF ss ns (loQ tps ss) s)):=fun s M=>qdM M;generalize loQ tps ss=a at z q;obtain⟨O,R,ol,S,hb,_⟩:=id (W.web.same j);apply⟨x,O,_,rfl,hb,zq (by room),?_⟩;apply⟨x,ss,ns,rfl,W.web.same j,fun m L=>?_⟩;have l:=qF (Sr H1) (o:=.lst (ss.map V.str)) L;have n:upd H1 m (.lst (ss.map V.str)) m=some (.lst (ss.map V.str)):=qb;generalize upd H1 m (.lst (ss.map V.str))=H2 at l n;show .inl ⟨⟨_,.of n⟩,qK (fun i ys J=>J=H2/\ys=((ss.take i).filter fun s=>decide (wdF ss ns a s=c)).map V.str) ⟨rfl,rfl⟩ (fun i ys J _ e=>by rw[e.1];show .of n) (fun i y ys J N e=>?_) fun ys J e=>?_⟩
  .obtain⟨rfl,rfl⟩:=e;obtain⟨b,p,rfl⟩:=jU N;have I:=(yc.mp p).1;have r:((ss.take i).filter fun s=>decide (wdF ss ns a s=c)).length<=i:=yi (yW _ _) (by rw[yT];lk);apply qep (l _ _ G) (z b (ye p)) ?_;apply .inl (.inl (.inl ⟨rfl,rfl,?_⟩))
   have D:(if (false:Bool)=true then !eqV (.str (wdF ss ns a b)) (.str c) else eqV (.str (wdF ss ns a b)) (.str c))=decide (wdF ss ns a b=c):=by
    rw[yC (by decide)];show(wdF ss ns a b==c)=_;rw[YA];simp
   rw[D];rw[yR,p,Yh];show⟨_,rfl,?_⟩;show if decide (wdF ss ns a b=c)=true then _ else _;show qL (fun h1=>?_) fun h1=>?_
   .ext;show⟨by rw[ya];show qi (by lk),rfl,?_⟩;show _=List.map V.str (_++[b].filter _);rw[yU,yG h1,yx];rfl
   .show⟨rfl,?_⟩;show _=List.map V.str (_++[b].filter _);rw[yU,yC h1,YF,Yb]
  .obtain⟨rfl,rfl⟩:=e;rw[show(ss.map V.str).length=ss.length from ya _,yQ];have r:(ss.filter fun s=>decide (wdF ss ns a s=c)).length<=ss.length:=yW _ _;show⟨by rw[ya];show yV (qi (by lk)),fun g u=>?_⟩;show q g _ ((j.trans l).trans (qF (Sr J) u)) ((j.trans l).free u) qb
theorem ok_he(F:Fun K "held" "held" qdK f fd)(T:Txt K mg cc cw)(b:DefOk P w K mg base CX0 17 "places_with" ["web","word"] (spPw cw)):FnOk P w K mg base CX0 18 f fd ["web"] (spHe cw "held"):=by
 show F.ok Uw fun _ _ _ _ H vs Q E a h=>?_
 .obtain⟨x,ss,ns,tps,rfl,W,q⟩:=h;show⟨_,(qe (qm (qp b (hmR a) qB (qa (pv 0) (qa qaA qd))))),?_⟩;apply⟨x,_,ss,ns,tps,rfl,W,q⟩
theorem ns_one(c:WOk ss ns)(e:WOk ss ms)(f:Adj ss ns tps)(g:Adj ss ms tps):ns=ms:=by
 have big:∀{ns:LN},WOk ss ns->∀ a b,ss.length<=b->(ns.getD a 0).testBit b=false:=fun w a b hb=>Nat.testBit_lt_two_pow (yj (w.lt a) (Nat.pow_le_pow_right (by decide) hb));apply kJ (by rw[c.len,e.len]);intro i h1 l;have h:ns[i]=ns.getD i 0:=by simp[List.getD,h1]
 have j:ms[i]=ms.getD i 0:=by simp[List.getD,l]
 rw[h,j];apply Nat.eq_of_testBit_eq;intro b;by_cases hb:b<ss.length
 .have d:i<ss.length:=by rw[<- c.len];show h1
  rw[YA,f i b _ _ (yb d) (yb hb),g i b _ _ (yb d) (yb hb)]
 .rw [big c i b (by lk),big e i b (by lk)]
def LvR(ss:LS)(tps:LP)(gs:LS)(rs:LP):Prop:=∃ ms,WOk (za ss gs) ms/\Adj (za ss gs) ms (zH (za ss gs) tps)/\GrR (za ss gs) ms rs
theorem LvR.det{rs:LP}(h:LvR ss tps gs rs)(g:LvR ss tps gs rs'):rs=rs':=by
 obtain⟨ms,a,b,c⟩:=h;obtain⟨ns,d,e,f⟩:=g;have:=ns_one a d b e;subst this;show c.det f
theorem ties_rise{l:LS}{g:Str->Nat}(y:l.Nodup)(h:l.Pairwise fun a b=>g a<g b):∀ n,n<=l.length->(∀ q∈qE l ms n,g q.1<g q.2)/\(qE l ms n).Pairwise fun a b=>g a.1<=g b.1:=by
 have at_:∀{i j:Nat} {a b:Str},l[i]?=some a->l[j]?=some b->i<j->g a<g b:=fun{i j a b} d hb m=>by
  obtain⟨h1,u⟩:=yc.mp d;obtain⟨c,w⟩:=yc.mp hb;rw[<- u,<- w];show Yl.mp h i j h1 c m
 have row:∀{i:Nat},i<l.length->∀ q∈qeV l ms i,l[i]?=some q.1/\g q.1<g q.2:=fun{i} x q f=>by
  obtain⟨o,A,rfl⟩:=yN.mp f;obtain⟨h1,c⟩:=yp.mp A;have r:=(qc1 y h1).1;have s:l[i]?=some (l.getD i ""):=by rw[Yp,yb x];rfl
  show⟨s,at_ s (by rw[yb (yX r),Yo]) (yk c)⟩
 intro n
 induction n with
 | zero=>show fun _=>⟨(fun q f=>by cases f),.nil⟩
 | succ n ih =>
  intro hl;obtain⟨B,C⟩:=ih (by lk);have e:qE l ms (n+1)=qE l ms n++qeV l ms n:=by unfold qE;rw[XZ,xP,List.flatMap_singleton]
  rw[e];show⟨fun q f=>?_,XJ.mpr ⟨C,?_,fun a d b hb=>?_⟩⟩
  .rcases yB.mp f with z | z
   .show B q z
   .show(row hl q z).2
  .show Yl.mpr fun i j h1 c _=>?_;have D:=(row hl _ (YN h1)).1;have t:=(row hl _ (YN c)).1;rw[D] at t;rw[ym t];show yh _
  .obtain⟨k,p,d⟩:=YY.mp d;have p:=YT.mp p;show yV (at_ (row (by lk) a d).1 (row hl b hb).1 p)
theorem idx_rise{l:LS}(d:l.Nodup):l.Pairwise fun a b=>l.idxOf a<l.idxOf b:=Yl.mpr fun i j h1 e c=>by
 rw[qbO d (yb h1),qbO d (yb e)];show c
def RsQ(ss:LS)(qs:LP):Prop:=(∀ q∈qs,ss.idxOf q.1<ss.idxOf q.2)/\∀(j:Nat) a b,qs[j]?=some a->qs[j+1]?=some b->ss.idxOf a.1<ss.idxOf b.1
theorem names_two(f:(qx qs).Nodup):qs.Pairwise fun a b=>a.1≠b.1:=by
 induction qs with
 | nil=>show .nil
 | cons q r ih =>
  have h:(q.1::q.2::qx r).Nodup:=f;obtain⟨h1,c⟩:=yo.mp h;obtain⟨g,d⟩:=yo.mp c;show kf.mpr ⟨fun b hb e=>h1 ?_,ih d⟩;rw[e];show yy _ ?_;clear ih c g h1 h f d
  induction r with
  | nil=>cases hb
  | cons x r ih =>
   show b.1∈x.1::x.2::qx r;rcases yA.mp hb with z | z
   .rw [z];show yE
   .show yy _ (yy _ (ih z))
theorem qeE{l:LS}{rs:LP}(g:ss.Nodup)(hl:l.Sublist ss)(u:∃ p,rs=(qE l ms l.length).filter p)(w:(qx rs).Nodup)(d:∀ q∈rs,q.1∈ss):RsQ ss rs:=by
 obtain⟨h1,s⟩:=ties_rise (ms:=ms) (g.sublist hl) ((idx_rise g).sublist hl) _ (yh _);obtain⟨p,e⟩:=u;show⟨fun q f=>h1 q (by rw[e] at f;show(yp.mp f).1),fun j a b c hb=>?_⟩;have t:rs.Pairwise fun a b=>ss.idxOf a.1<=ss.idxOf b.1:=by rw[e];show s.filter _
 obtain⟨h,o⟩:=yc.mp c;obtain⟨i,r⟩:=yc.mp hb;have m:=Yl.mp t j (j+1) h i (by lk);have n:=Yl.mp (names_two w) j (j+1) h i (by lk);rw[o,r] at m n;show Nat.lt_of_le_of_ne m fun z=>n ?_;show qdb (d a (ye c)) (d b (ye hb)) z
theorem qca{d c:LP}:∀(n:Nat) {l:LS},(∀ a∈l,∀ b∈l,tB d a b=tB c a b)->mo d n l=mo c n l
 | 0,_,_=>by unfold mo;rfl
 | n+1,[],_=>rfl
 | n+1,x::r,h=>by
  have g:∀ a∈r,∀ b∈r,tB d a b=tB c a b:=fun a f b hb=>h a (yy _ f) b (yy _ hb);show(r.filter (tB d x)).foldl _ _=(r.filter (tB c x)).foldl _ _;rw[Y3 (q:=tB c x) (fun b hb=>h x yE b (yy _ hb)),qca n g]
  have e:(fun(m:Nat) (y:Str)=>max m (1+mo d n (del r y)))=fun m y=>max m (1+mo c n (del r y)):=by
   funext m y;rw[qca n (l:=del r y) fun a f b hb=>g a (mem_del.mp f).1 b (mem_del.mp hb).1]
  rw[e]
theorem keep_mo{l:LS}(n:Nat):mo (zH l tps) n l=mo tps n l:=qca n fun a c b hb=>by
 unfold tB zH;simp only[yp,yD c,yD hb,Bool.and_self,and_true]
theorem uH:FnScope ["web","place"] ["web","place"] (qh zi):=fS
theorem K6:FnScope ["web","places","pairs"] ["web","places"] (qh zj):=fS
structure LvOk(ss:LS)(tps:LP)(gs:LS)(rs:LP):Prop where
 r:LvR ss tps gs rs
 g:PGo ss tps rs
 up:RsQ ss rs
 no:∀ q∈rs,q.1∉gs/\q.2∉gs
 n:rs.length=mo tps ss.length (za ss gs)
theorem lv_ok{y:Addr}{rs:LP}(W:Wt cw H x ss ns tps)(c:Wt cw H' y (za ss gs) ms (zH (za ss gs) tps))(a:PGo (za ss gs) (zH (za ss gs) tps) rs)(i:MxF (za ss gs) (zH (za ss gs) tps) rs)(f:GrR (za ss gs) ms rs):LvOk ss tps gs rs:=by
 have l:=W.wok.nd;have g:∀ q,q∈zH (za ss gs) tps->q∈tps:=fun q b=>(yp.mp b).1;have j:∀ q∈rs,q.1∈ss:=fun q b=>(mem_out.mp (a.inn q b).2.1).1;show⟨⟨ms,c.wok,c.adj,f⟩,⟨fun q b=>?_,a.nd,a.few⟩,qeE l Xl (f.fil ⟨_,rfl⟩) a.nd j,fun q b=>?_,?_⟩
 .obtain⟨h1,d,e,h⟩:=a.inn q b;show⟨h1.imp (g _) (g _),(mem_out.mp d).1,(mem_out.mp e).1,h⟩
 .obtain⟨_,d,e,_⟩:=a.inn q b;show⟨(mem_out.mp d).2,(mem_out.mp e).2⟩
 .rw [qdU c.ir c.wok.nd a i,keep_mo];show qf7 W.ir (yh _) (qb6 _ _) c.wok.nd
def LvT(H:Hp)(Q:VK)(ss:LS)(tps:LP)(gs:LS):Prop:=(∀(rs:LP) (l:Addr) (a:LQ) (H':Hp),L2.Same H H'->H l=none->PL H' l a rs->LvOk ss tps gs rs->(∃ qs,PGo ss tps qs/\MxF ss tps qs)->mo tps ss.length (za ss gs)=mo tps ss.length ss->Q (.ref l) H')/\∀ H',L2.Same H H'->mo tps ss.length (za ss gs)≠mo tps ss.length ss->Q .non H'
theorem LvT.later{Q:VK}(h:LvT H Q ss tps gs)(s:L2.Same H H1):LvT H1 Q ss tps gs:=⟨fun rs l b H' a hl=>h.1 rs l b H' (s.trans a) (s.free hl),fun H' a=>h.2 H' (s.trans a)⟩
def W30(cw:Addr)(H:Hp)(x:Addr)(ss:LS)(ns:LN)(tps:LP):Prop:=Wt cw H x ss ns tps/\(qE ss ns ss.length).length<=30
theorem W30.same(h:W30 cw H x ss ns tps)(s:L2.Same H H'):W30 cw H' x ss ns tps:=⟨h.1.same s,h.2⟩
inductive spLvQ(cw:Addr)(vs:List V)(H:Hp)(Q:VK)(E:XK):Prop|mk (x a:Addr) (ss:LS) (ns:LN) (tps:LP) (gs:LS) (_:vs=[.ref x,.ref a]) (_:W30 cw H x ss ns tps) (_:H a=some (.lst (gs.map V.str))) (_:(∀ s∈gs,s∈ss)) (_:gs.length<=2) (_:LvT H Q ss tps gs)
inductive spLv1(cw:Addr)(vs:List V)(H:Hp)(Q:VK)(E:XK):Prop|mk (x:Addr) (ss:LS) (ns:LN) (tps:LP) (u:Str) (_:vs=[.ref x,.str u]) (_:W30 cw H x ss ns tps) (_:u∈ss) (_:LvT H Q ss tps [u])
theorem ok_lvQ(F:Fun K "leaving_all" "leaving_all" zj f fd)(T:Txt K mg cc cw)(S:MethOk P w K mg base CX0 8 cw "without" ["self","places"] (spWo cw))(A:DefOk P w K mg base CX0 14 "greatest" ["web"] (spGr cw))(B:DefOk P w K mg base CX0 15 "count_of" ["web"] (spCo cw)):FnOk P w K mg base CX0 16 f fd ["web","places"] (spLvQ cw):=by
 show F.ok K6 fun _ _ _ _ H vs Q E j h=>?_
 .obtain⟨x,a,ss,ns,tps,gs,rfl,W,I,o,J,q⟩:=h;have M:=zd j;obtain⟨dx,d,ol,n,N,_⟩:=id W.1.web;show⟨_,(qc (qo (i:=2) K6.nd rfl (yK rfl) (qp A (hmR j) qB (qa (qI S (hmR j) (pv 0) (qa (pv 1) qd)) qd)))
 (qe (qm (qbT (qk (j3 (K:=K) rfl M) (qj (jK (K:=K) rfl) rfl T.b_len YC (qa (pv 2) qd)) (qp B (hmR j) qB (qa (pv 0) qd)) (qz _)) (pv 2) ju)))),?_⟩
  apply⟨x,dx,_,rfl,N,zq (by room),?_⟩;apply⟨x,a,ss,ns,tps,gs,rfl,W.1,W.2,I,o,by lk,fun y ms H1 z u=>?_⟩;apply⟨y,_,ms,_,rfl,u,fun l O rs H2 R p m C D G=>?_⟩;have b:=z.trans R;have L:=lv_ok W.1 u C D G;apply qac m.1 ?_;rw[ya,m.2.len,L.n];apply⟨x,ss,ns,tps,rfl,W.1.same b,fun r t s c g=>?_⟩;rw[qdU W.1.ir W.1.wok.nd c g];show qaH ?_;apply qL (fun h=>?_) fun h=>?_
  .have e:=yk h;apply q.1 rs l O t (b.trans s) (z.free p) (m.same s) L ⟨r,c,g⟩ (by lk)
  .ext;show q.2 t (b.trans s) fun e=>h (yD (by rw[e]))
theorem ok_lv1(F:Fun K "leaving_out" "leaving_out" zi f fd)(T:Txt K mg cc cw)(i:DefOk P w K mg base CX0 16 "leaving_all" ["web","places"] (spLvQ cw)):FnOk P w K mg base CX0 17 f fd ["web","place"] (spLv1 cw):=by
 show F.ok uH fun _ _ _ s H vs Q E e h=>?_
 .obtain⟨x,ss,ns,tps,u,rfl,W,b,q⟩:=h;show⟨_,(qe (qm (qp i (hmR e) qB (qa (pv 0) (qa (qQ (qa (pv 1) qd)) qd))))),?_⟩;apply⟨by show 1<=sizeLine;decide,fun a d=>?_⟩;have c:=qF (Sr H) (o:=.lst [.str u]) d;apply⟨x,a,ss,ns,tps,[u],rfl,W.same c,qb,(fun s g=>by rw[yz.mp g];show b),by show 1<=2;decide,q.later c⟩
noncomputable def qbR(ks:LS):Bool:=decide (ks.length % 2=1)
theorem weak(E:ss.Nodup)(g:PGo ss tps qs){ps:List (LS)}(h1:∀ p∈ps,p.Nodup/\(∀ a∈p,a∈ss/\a∉bar)/\∀ a∈p,∀ b,tA tps a b->b∈bar\/b∈p)(D:ps.Pairwise fun p q=>∀ a∈p,a∉q):(ps.filter qbR).length+2*qs.length<=ss.length+bar.length:=by
 have key:∀ p∈ps,qbR p=true->∃ t,(t∈p/\pt qs t=none)\/(t∈bar/\∃ a∈p,pt qs a=some t):=fun p c s=>Yg fun hc=>by
  obtain⟨j,A,H⟩:=h1 p c
  have:=qeW (g:=pt qs) p.length (yh _) j fun x h=>by
   cases e:pt qs x with
   | none=>show absurd ⟨x,.inl ⟨h,e⟩⟩ hc
   | some y =>
    have G:=g.fn.tie x y e;rcases H x h y G with z | z
    .show absurd ⟨y,.inr ⟨z,x,h,e⟩⟩ hc
    .show⟨y,z,rfl,fun eq=>?_,g.fn.sym x y e⟩;rcases qcF e with m | m
     .show(g.inn _ m).2.2.2 eq.symm
     .show(g.inn _ m).2.2.2 eq
  have:=yk s;lk
 have T:∃ T:LS->Str,∀ p∈ps,qbR p=true->(T p∈p/\pt qs (T p)=none)\/(T p∈bar/\∃ a∈p,pt qs a=some (T p)):=
  haveI:Nonempty Str:=⟨""⟩
  ⟨fun p=>Classical.epsilon fun t=>(t∈p/\pt qs t=none)\/(t∈bar/\∃ a∈p,pt qs a=some t),fun p c s=>Classical.epsilon_spec (key p c s)⟩
 obtain⟨T,o⟩:=T;have r:∀ p∈ps.filter qbR,p∈ps/\qbR p=true:=fun p c=>yp.mp c
 have nd:((ps.filter qbR).map T).Nodup:=by
  show Y2.mpr ((D.filter qbR).imp_of_mem fun{p q} c F w e=>?_);obtain⟨i,u⟩:=r p c;obtain⟨B,I⟩:=r q F;rcases o p i u with⟨d,l⟩ | ⟨d,a,l,J⟩<;>rcases o q B I with⟨n,C⟩ | ⟨n,b,C,K⟩
  .show w _ d (by rw[e];show n)
  .show((h1 p i).2.1 _ d).2 (by rw[e];show n)
  .show((h1 q B).2.1 _ n).2 (by rw[<- e];show d)
  .have j:=g.fn.sym _ _ J;have A:=g.fn.sym _ _ K;rw[e,A] at j;cases j;show w _ l C
 have:=qcE nd (m:=snL (pt qs) ss++bar) fun x h=>by
  obtain⟨p,c,rfl⟩:=yN.mp h;obtain⟨i,u⟩:=r p c;rcases o p i u with⟨d,l⟩ | ⟨d,_⟩
  .show yM _ (mem_sn.mpr ⟨((h1 p i).2.1 _ d).1,l⟩)
  .show yP _ d
 rw[ya,yt] at this;have L:=qaX (f:=pt qs) (ss:=ss);have M:=g.cnt E;lk
structure PcsOk(ss:LS)(tps:LP)(bar:LS)(ps:List (LS)):Prop where
 h1:∀ p∈ps,p.Nodup/\(∀ a∈p,a∈ss/\a∉bar)/\∀ a∈p,∀ b,tA tps a b->b∈bar\/b∈p
 h2:ps.Pairwise fun p q=>∀ a∈p,a∉q
 cov:∀ a∈ss,a∉bar->∃ p∈ps,a∈p
 con:∀ p∈ps,∀ X:Str->Prop,(∀ a∈p,∀ b∈p,tA tps a b->X a->X b)->∀ a∈p,∀ b∈p,X a->X b
theorem qdN:∀{ps:List (LS)},(∀ p∈ps,p.length % 2=0)->ps.flatten.length % 2=0
 | [],_=>rfl
 | p::r,h=>by
  rw[xp,yt];have h1:=h p yE;have b:=qdN (ps:=r) fun q a=>h q (yy _ a);lk
theorem qeF:∀{ps:List (LS)},(∀ p∈ps,p.Nodup)->(ps.Pairwise fun p q=>∀ a∈p,a∉q)->ps.flatten.Nodup
 | [],_,_=>.nil
 | p::r,h,g=>by
  obtain⟨f,i⟩:=kf.mp g;rw[xp];show Yc.mpr ⟨h p yE,qeF (fun q d=>h q (yy _ d)) i,fun a j b hb e=>?_⟩;obtain⟨q,d,c⟩:=kN.mp hb;show f q d a j (e ▸ c)
section
variable{ss:LS}{tps qs:LP}{S:FS}{bar:LS}{ps:List (LS)}
theorem strong(F:Fn (tA tps) (pt qs) S ss)(hb:∀ s,s∈bar↔s∈qc5 S ss)(C:PcsOk ss tps bar ps):(snL (pt qs) ss).length+(qc5 S ss).length<=((ps.filter qbR).filter fun p=>p.all fun a=>(S.rows a).isSome).length:=by
 rw[<- F.count]
 have cls:∀{p:LS} {b:Str},p∈ps->∀{a c:Str},a∈p->c∈p->a∈qc4 S ss b->c∈qc4 S ss b:=fun{p b} d {a c} n hc h=>by
  show C.con p d (fun x=>x∈qc4 S ss b) (fun u A v hv t h=>?_) a n c hc h;obtain⟨_,j,o⟩:=mem_cls.mp h;rcases F.cl u v j t with e | ⟨e1,e2⟩
  .show mem_cls.mpr ⟨((C.h1 p d).2.1 v hv).1,F.fi.evE j e,e.trans o⟩
  .show absurd ((hb v).mpr (mem_bar.mpr ⟨((C.h1 p d).2.1 v hv).1,e1,e2⟩)) ((C.h1 p d).2.1 v hv).2
 have key:∀ b∈qbC S ss,∃ p∈(ps.filter qbR).filter (fun p=>p.all fun a=>(S.rows a).isSome),S.bas (p.headD "")=b:=fun b q=>Yg fun hc=>by
  have w:=F.cls_odd q;obtain⟨rs,i⟩:∃ rs,rs=ps.filter fun p=>p.any fun a=>decide (a∈qc4 S ss b):=⟨_,rfl⟩
  have f:∀ p∈rs,p∈ps/\∀ a∈p,a∈qc4 S ss b:=fun p d=>by
   rw[i] at d;obtain⟨h1,j⟩:=yp.mp d;obtain⟨a,n,o⟩:=YH.mp j;show⟨h1,fun c hc=>cls h1 n hc (yk o)⟩
  have perm:(qc4 S ss b).length=rs.flatten.length:=by
   show((List.perm_ext_iff_of_nodup (F.nd.filter _) (qeF (fun p d=>(C.h1 p (f p d).1).1) ?_)).mpr fun a=>⟨fun h=>?_,fun h=>?_⟩).length_eq
   .rw [i];show C.h2.filter _
   .obtain⟨h1,j,_⟩:=mem_cls.mp h;obtain⟨p,d,g⟩:=C.cov a h1 fun z=>j (mem_bar.mp ((hb a).mp z)).2.2;show kN.mpr ⟨p,by rw[i];show yp.mpr ⟨d,YH.mpr ⟨a,g,yD h⟩⟩,g⟩
   .obtain⟨p,d,g⟩:=kN.mp h;show(f p d).2 a g
  have y:=qdN (ps:=rs) fun p d=>by
   cases e:qbR p with
   | false=>have:=of_decide_eq_false e;lk
   | true =>
    show absurd ⟨p,yp.mpr ⟨yp.mpr ⟨(f p d).1,e⟩,YG.mpr fun a n=>Xi.mpr (mem_cls.mp ((f p d).2 a n)).2.1⟩,?_⟩ hc
    cases p with
    | nil=>cases e
    | cons a r=>show(mem_cls.mp ((f _ d).2 a yE)).2.2
  lk
 have:=qcE (l:=qbC S ss) (m:=((ps.filter qbR).filter fun p=>p.all fun a=>(S.rows a).isSome).map fun p=>S.bas (p.headD "")) (F.nd.filter _) fun b h=>by
  obtain⟨p,d,e⟩:=key b h;show yN.mpr ⟨p,d,e⟩
 rwa[ya] at this
end
theorem odd_loose{rs:LP}{ps:List (LS)}(b:ss.Nodup)(g:PGo ss tps qs)(F:Fn (tA tps) (pt qs) S ss)(hb:∀ s,s∈bar↔s∈qc5 S ss)(j:bar.Nodup)(C:PcsOk ss tps bar ps)(g':PGo ss tps rs)(hl:rs.length=qs.length):(ps.filter qbR).length+2*rs.length=ss.length+bar.length/\∀ p∈ps,qbR p=true->∀ a∈p,S.rows a≠none:=by
 have h1:=strong F hb C;have n:=weak b g C.h1 C.h2;have o:=yW (fun p:LS=>p.all fun a=>(S.rows a).isSome) (ps.filter qbR);have q:bar.length<=(qc5 S ss).length:=qcE j fun s h=>(hb s).mp h;have l:=qaX (f:=pt qs) (ss:=ss);have m:=g.cnt b;show⟨by lk,fun p i d a c=>?_⟩;have e:((ps.filter qbR).filter fun p=>p.all fun a=>(S.rows a).isSome).length=(ps.filter qbR).length:=by lk
 have:=(List.length_filter_eq_length_iff.mp e) p (yp.mpr ⟨i,d⟩);show Xi.mp (YG.mp this a c)
section
variable{cw x:Addr}{H:Hp}{ss:LS}{ns bs:LN}
theorem qbS(W:Wt cw H x ss ns tps)(g:PGo ss tps qs)(F:Fn (tA tps) (pt qs) S ss):s∈loQ tps ss↔s∈ss/\S.rows s≠none:=by
 rw[<- qga W.ir W.wok.nd g F,yp,isS]
theorem he_mem(W:Wt cw H x ss ns tps):s∈heQ tps ss ns↔s∈ss/\s∉loQ tps ss/\∃ o∈loQ tps ss,tA tps s o:=by
 unfold heQ wdF;rw[yp,yO];show X1 fun c=>?_;by_cases h:s∈loQ tps ss
 .rw [yG h];show⟨(fun z=>by cases z),fun z=>absurd h z.1⟩
 .rw [yC h]
  have e:(inB ss 0 (ns.getD (ss.idxOf s) 0)).any (fun o=>decide (o∈loQ tps ss))=true↔∃ o∈loQ tps ss,tA tps s o:=by
   have b:ss[ss.idxOf s]?=some s:=by rw[yb (yX c),Yo]
   rw[YH];show⟨fun⟨o,h1,a⟩=>⟨o,yk a,(W.bes _ s o b).mp h1⟩,fun⟨o,h1,a⟩=>⟨o,(W.bes _ s o b).mpr a,yD h1⟩⟩
  split
  .rename_i z;show⟨fun _=>⟨h,e.mp z⟩,fun _=>rfl⟩
  .rename_i z;show⟨(fun y=>by cases y),fun y=>absurd (e.mpr y.2) z⟩
theorem he_bar(W:Wt cw H x ss ns tps)(g:PGo ss tps qs)(F:Fn (tA tps) (pt qs) S ss)(s:Str):s∈heQ tps ss ns↔s∈qc5 S ss:=by
 rw[he_mem W,mem_bar];constructor
 .rintro ⟨h1,b,o,c,e⟩;have d:=((qbS W g F).mp c).2;have f:S.rows s=none:=Yg fun z=>b ((qbS W g F).mpr ⟨h1,z⟩);rcases F.cl o s d e.symm with z | z
  .show absurd f (F.fi.evE d z)
  .show⟨h1,z⟩
 .rintro ⟨h1,b,c⟩;obtain⟨z,hz⟩:=some_of b;obtain⟨h,⟨r,i⟩,_⟩:=F.fi.odd s z hz;have a:S.rows z≠none:=by rw[i];show fun y=>by cases y
  show⟨h1,fun y=>((qbS W g F).mp y).2 c,z,(qbS W g F).mpr ⟨F.es z a,a⟩,h.symm⟩
end
theorem qgb(c:∀ a b,tA tps a b->a≠b)(d:ss.Nodup)(f:s∈ss):mo tps ss.length (za ss [s])=mo tps ss.length ss↔s∈loQ tps ss:=by
 have e:za ss [s]=del ss s:=by
  unfold za del;show Y3 fun u _=>?_;rw[YA];simp
 unfold loQ;rw[yp,yO,e,qf7 c (qc7 ss s) (yh _) (d.filter _)];show⟨fun z=>⟨f,z⟩,fun z=>z.2⟩
theorem u7:FnScope ["thing"] ["thing"] (qh qax):=fS
theorem uW:FnScope ["thing","low","high"] ["thing","low","high"] (qh zU):=fS
theorem K7:FnScope ["web","start","pairs"] ["web","start"] (qh zk):=fS
theorem Ug:FnScope ["thing"] ["thing"] (qh qa0):=fS
theorem uI:FnScope ["web"] ["web"] (qh zl):=fS
theorem uh:FnScope ["web","hand","starts"] ["web","hand"] (qh zV):=fS
theorem qgc{v:V}{Q:VK}(q:Q (.bl (decide (v=.non))) H):qgq v .non H Q:=by cases v<;>show q
structure PrQ(ss:LS)(tps:LP)(rs:LP):Prop where
 g:PGo ss tps rs
 up:RsQ ss rs
 n:rs.length=mo tps ss.length ss
def HdQ(ss:LS)(ns:LN)(tps:LP)(u:Str)(a:Int)(rs:LP):Prop:=PrQ ss tps rs/\((a=1/\u∈loQ tps ss/\LvR ss tps [u] rs/\∀ q∈rs,q.1≠u/\q.2≠u)\/(a=0/\u∉loQ tps ss/\GrR ss ns rs))
theorem LvOk.pr{rs:LP}(h:LvOk ss tps [u] rs)(e:mo tps ss.length (za ss [u])=mo tps ss.length ss):PrQ ss tps rs/\LvR ss tps [u] rs/\∀ q∈rs,q.1≠u/\q.2≠u:=⟨⟨h.g,h.up,h.n.trans e⟩,h.r,fun q a=>⟨fun z=>(h.no q a).1 (z ▸ yE),fun z=>(h.no q a).2 (z ▸ yE)⟩⟩
theorem qgd{rs:LP}(W:Wt cw H x ss ns tps)(g:PGo ss tps rs)(m:MxF ss tps rs)(r:GrR ss ns rs):PrQ ss tps rs:=⟨g,qeE W.wok.nd (List.Sublist.refl _) (r.fil ⟨_,rfl⟩) g.nd fun q a=>(g.inn q a).2.1,qdU W.ir W.wok.nd g m⟩
inductive spWhI(vs:List V)(H:Hp)(Q:VK)(E:XK):Prop|mk (i:Int) (_:vs=[.int i]) (_:Q (.bl true) H)
inductive spInI(vs:List V)(H:Hp)(Q:VK)(E:XK):Prop|mk (i lo hi:Int) (_:vs=[.int i,.int lo,.int hi]) (_:lo<=i) (_:i<=hi) (_:Q (.bl true) H)
inductive spHaI(vs:List V)(H:Hp)(Q:VK)(E:XK):Prop|mk (i:Int) (_:vs=[.int i]) (_:0<=i) (_:i<=1) (_:Q (.bl true) H)
def MxE(ss:LS)(tps:LP):Prop:=∃ qs,PGo ss tps qs/\MxF ss tps qs
inductive spSpQ(cw:Addr)(vs:List V)(H:Hp)(Q:VK)(E:XK):Prop|mk (x:Addr) (ss:LS) (ns:LN) (tps:LP) (u:Str) (_:vs=[.ref x,.str u]) (_:W30 cw H x ss ns tps) (_:u∈ss) (_:∀(t l a:Addr) (ls:LQ) (rs:LP) (hd:Int) (H':Hp),L2.Same H H'->H' t=some (.tup [.int hd,.ref l,.ref a])->PL H' l ls rs->H a=none->H' a=some (.lst ((heQ tps ss ns).map V.str))->HdQ ss ns tps u hd rs->MxE ss tps->Q (.ref t) H')
inductive spGsQ(cw:Addr)(vs:List V)(H:Hp)(Q:VK)(E:XK):Prop|mk (x:Addr) (ss:LS) (ns:LN) (tps:LP) (_:vs=[.ref x]) (_:Wt cw H x ss ns tps) (_:∀(l:Addr) (H':Hp),L2.Same H H'->H l=none->H' l=some (.lst ((loQ tps ss).map V.str))->Q (.ref l) H')
def ChQ(ss:LS)(ns:LN)(tps:LP)(h h':Int)(v:V)(rs:LP):Prop:=PrQ ss tps rs/\((loQ tps ss=[]/\h'=1-h/\v=.non/\GrR ss ns rs)\/∃ u r,loQ tps ss=u::r/\h'=h/\v=.str u/\LvR ss tps [u] rs/\∀ q∈rs,q.1≠u/\q.2≠u)
inductive spChQ(cw:Addr)(vs:List V)(H:Hp)(Q:VK)(E:XK):Prop|mk (x:Addr) (ss:LS) (ns:LN) (tps:LP) (h:Int) (_:vs=[.ref x,.int h]) (_:W30 cw H x ss ns tps) (_:0<=h) (_:h<=1) (_:∀(t l:Addr) (ls:LQ) (rs:LP) (h':Int) (v:V) (H':Hp),L2.Same H H'->H' t=some (.tup [.int h',v,.ref l])->H l=none->PL H' l ls rs->ChQ ss ns tps h h' v rs->Q (.ref t) H')
theorem eq_nilS{z:Addr}{xs:LS}{Q:VK}(hl:H l=some (.lst (xs.map V.str)))(hz:H z=some (.lst []))(q:Q (.bl xs.isEmpty) H):qfu K (.ref l) (.ref z) H Q:=by
 cases xs with
 | nil=>show .inl (.inl (.inr (.inl ⟨l,z,true,1,rfl,rfl,by decide,EqT.lst (n:=0) (e:=fun _=>true) (SqL.of hl) (SqL.of hz) rfl fun j x y h=>by(simp at h),q⟩)))
 | cons x r=>show .inl (.inl (.inr (.inl ⟨l,z,false,1,rfl,rfl,by decide,EqT.lstL (SqL.of hl) (SqL.of hz) (by simp),q⟩)))
theorem ok_whI(F:Fun K "is_whole" "is_whole" qax f fd)(T:Txt K mg cc cw):FnOk P w K mg base CX0 1 f fd ["thing"] spWhI:=by
 show F.ok u7 fun _ _ _ _ H vs Q E a h=>?_
 .obtain⟨i,rfl,q⟩:=h;show⟨_,(qe (qm (qaC (qj (j8 (K:=K) rfl) rfl T.b_isinstance Ym (qa (pv 0) (qa (qY (v:=.ty "int") rfl T.b_int boot_int rfl) qd))) (qaB (pe_not (qj (j8 (K:=K) rfl) rfl T.b_isinstance Ym (qa (pv 0) (qa (qY (v:=.ty "bool") rfl T.b_bool boot_bool rfl) qd)))))))),?_⟩;apply qaz (.inl (.int i)) rfl (jw K "int" (by simp) "int" (by simp)) ?_;apply zm ?_;apply qaz (.inl (.int i)) rfl (jw K "int" (by simp) "bool" (by simp)) ?_;show⟨_,rfl,q⟩
theorem ok_inI(F:Fun K "is_within" "is_within" zU f fd)(a:DefOk P w K mg base CX0 1 "is_whole" ["thing"] spWhI):FnOk P w K mg base CX0 2 f fd ["thing","low","high"] spInI:=by
 show F.ok uW fun _ _ _ _ H vs Q E c h=>?_
 .obtain⟨i,lo,d,rfl,h1,b,q⟩:=h;show⟨_,(qe (qm (qaC (qp a (hmR c) qB (qa (pv 0) qd)) (qaB (qdi qfD qfD (pv 1) (pv 0) (pv 2)))))),?_⟩;apply⟨i,rfl,?_⟩;apply zm ?_;ext;rw[yD h1];show zm ?_;ext;rw[yD b];show q
theorem ok_haI(F:Fun K "is_hand" "is_hand" qa0 f fd)(c:DefOk P w K mg base CX0 2 "is_within" ["thing","low","high"] spInI):FnOk P w K mg base CX0 3 f fd ["thing"] spHaI:=by
 show F.ok Ug fun _ _ _ _ H vs Q E b h=>?_
 .obtain⟨i,rfl,h1,a,q⟩:=h;show⟨_,(qe (qm (qp c (hmR b) qB (qa (pv 0) (qa qg (qa qg qd)))))),?_⟩;apply⟨i,0,1,rfl,h1,a,q⟩
theorem ok_spQ(F:Fun K "start_paper" "start_paper" zk f fd)(T:Txt K mg cc cw)(M:DefOk P w K mg base CX0 17 "leaving_out" ["web","place"] (spLv1 cw))(N:DefOk P w K mg base CX0 14 "greatest" ["web"] (spGr cw))(B:DefOk P w K mg base CX0 18 "held" ["web"] (spHe cw "held")):FnOk P w K mg base CX0 19 f fd ["web","start"] (spSpQ cw):=by
 show F.ok K7 fun _ _ _ _ H vs Q E m h=>?_
 .obtain⟨x,ss,ns,tps,u,rfl,W,g,q⟩:=h;show⟨_,(qc (qo (i:=2) K7.nd rfl (yK rfl) (qp M (hmR m) qB (qa (pv 0) (qa (pv 1) qd))))
 (qc (qH (qk qfE (pv 2) ju (qz _)) (qe (qm (qZ (qa qg (qa (qp N (hmR m) qB (qa (pv 0) qd)) (qa (qp B (hmR m) qB (qa (pv 0) qd)) qd)))))) qr)
 (qe (qm (qZ (qa qg (qa (pv 2) (qa (qp B (hmR m) qB (qa (pv 0) qd)) qd)))))))),?_⟩
  have I:=qgb W.1.ir W.1.wok.nd g;apply⟨x,ss,ns,tps,u,rfl,W,g,fun rs l y H1 d _ p L O j=>?_,fun H1 d j=>?_⟩
  .ext;show qgc ?_;rw[yl (fun z=>by cases z)];apply yq ?_;apply⟨x,ss,ns,tps,rfl,W.1.same d,fun a H2 n b r=>?_⟩;apply⟨by show 3<=sizeLine;decide,fun t s=>?_⟩;have e:=qF (Sr H2) (o:=.tup [.int 1,.ref l,.ref a]) s;obtain⟨R,S,U⟩:=L.pr j;show q t l a y rs 1 _ ((d.trans n).trans e) qb (p.same (n.trans e)) (d.free b) (e _ _ r) ⟨R,.inl ⟨rfl,I.mp j,S,U⟩⟩ O
  .ext;show qgc ?_;rw[yD rfl];apply zm ?_;apply⟨x,ss,ns,tps,rfl,W.1.same d,fun l y rs H2 n _ p C D G=>?_⟩;have c:=d.trans n;apply⟨x,ss,ns,tps,rfl,W.1.same c,fun a J e b r=>?_⟩;apply⟨by show 3<=sizeLine;decide,fun t s=>?_⟩;have A:=qF (Sr J) (o:=.tup [.int 0,.ref l,.ref a]) s;show q t l a y rs 0 _ (c.trans (e.trans A)) qb (p.same (e.trans A)) (c.free b) (A _ _ r) ⟨qgd W.1 C D G,.inr ⟨rfl,fun z=>j (I.mpr z),G⟩⟩ ⟨rs,C,D⟩
theorem ok_gsQ(F:Fun K "good_starts" "good_starts" zl f fd)(T:Txt K mg cc cw)(b:DefOk P w K mg base CX0 15 "loose" ["web"] (spLo cw)):FnOk P w K mg base CX0 16 f fd ["web"] (spGsQ cw):=by
 show F.ok uI fun _ _ _ _ H vs Q E a h=>?_
 .obtain⟨x,ss,ns,tps,rfl,W,q⟩:=h;show⟨_,(qe (qm (qp b (hmR a) qB (qa (pv 0) qd)))),?_⟩;apply⟨x,ss,ns,tps,rfl,W,q⟩
theorem ok_chQ(F:Fun K "chosen_by" "chosen_by" zV f fd)(T:Txt K mg cc cw)(S:DefOk P w K mg base CX0 3 "is_hand" ["thing"] spHaI)(N:DefOk P w K mg base CX0 16 "good_starts" ["web"] (spGsQ cw))(R:DefOk P w K mg base CX0 14 "greatest" ["web"] (spGr cw))(O:DefOk P w K mg base CX0 17 "leaving_out" ["web","place"] (spLv1 cw)):FnOk P w K mg base CX0 18 f fd ["web","hand"] (spChQ cw):=by
 show F.ok uh fun _ _ _ _ H vs Q E e h=>?_
 .obtain⟨x,ss,ns,tps,h,rfl,W,U,h1,q⟩:=h;have C:=zd e;show⟨_,(qc (qH (qX (qO (qp S (hmR e) qB (qa (pv 1) qd)))) (qe jr) qr)
 (qc (qo (i:=2) uh.nd rfl (yK rfl) (qp N (hmR e) qB (qa (pv 0) qd)))
 (qc (qH (qk (j3 (K:=K) rfl C) (pv 2) (qQ qd) (qz _)) (qe (qm (qZ (qa (qG zZ qg (pv 1)) (qa ju (qa (qp R (hmR e) qB (qa (pv 0) qd)) qd)))))) qr)
 (qe (qm (qZ (qa (pv 1) (qa (qv (qw (K:=K) rfl C) (pv 2) qg (fun _ _=>rfl)) (qa (qp O (hmR e) qB (qa (pv 0) (qa (qv (qw (K:=K) rfl C) (pv 2) qg (fun _ _=>rfl)) qd))) qd))))))))),?_⟩
  apply⟨h,rfl,U,h1,?_⟩;apply yq ?_;apply⟨x,ss,ns,tps,rfl,W.1,fun l0 H1 s1 _ y=>?_⟩;apply⟨by show 0<=sizeLine;decide,fun z hz=>?_⟩;have G:=qF (Sr H1) (o:=.lst []) hz;have I:upd H1 z (.lst []) z=some (.lst []):=qb;generalize upd H1 z (.lst [])=H2 at G I;have a:=s1.trans G;have c:=G _ _ y;show eq_nilS c I ?_;ext
  cases b:loQ tps ss with
  | nil =>
   show zm ?_;apply⟨x,ss,ns,tps,rfl,W.1.same a,fun l D rs n p d s X Y J=>?_⟩;apply⟨by show 3<=sizeLine;decide,fun t B=>?_⟩;have m:=qF (Sr n) (o:=.tup [.int (1-h),.non,.ref l]) B;show q t l D rs (1-h) .non _ (a.trans (p.trans m)) qb (a.free d) (s.same m) ⟨qgd W.1 X Y J,.inl ⟨b,rfl,rfl,J⟩⟩
  | cons u r =>
   rw[b] at c;show yq ?_;have g:u∈ss:=(yp.mp (show u∈loQ tps ss by rw[b];show yE)).1;have M:=(qgb W.1.ir W.1.wok.nd g).mpr (by rw[b];show yE);apply .inl (zY c (v:=.str u) (qu (j:=0) rfl) ?_);apply .inl (zY c (v:=.str u) (qu (j:=0) rfl) ?_);apply⟨x,ss,ns,tps,u,rfl,W.same a,g,fun rs l D n p d s L _ _=>?_,fun n p A=>absurd M A⟩;apply⟨by show 3<=sizeLine;decide,fun t B=>?_⟩;have m:=qF (Sr n) (o:=.tup [.int h,.str u,.ref l]) B;obtain⟨Z,k2,k3⟩:=L.pr M;show q t l D rs h (.str u) _ (a.trans (p.trans m)) qb (a.free d) (s.same m) ⟨Z,.inr ⟨u,r,b,rfl,rfl,k2,k3⟩⟩
noncomputable def adN(TI:List (Nat×Nat))(j k:Nat):Bool:=decide ((min j k,max j k)∈TI)
theorem qeG(TI:List (Nat×Nat))(j k:Nat):adN TI j k=adN TI k j:=by unfold adN;rw[Nat.min_comm,Nat.max_comm]
theorem qeH{TI:List (Nat×Nat)}(h:TJ n TI){k:Nat}:adN TI j k=true↔(j,k)∈TI\/(k,j)∈TI:=by
 unfold adN;rw[yO];rcases Kb j k with z | z
 .rw [XW z,kM z];show⟨.inl,fun y=>y.elim id fun y=>by have:=(h.2.1 _ y).1;dsimp only at this;lk⟩
 .rw [kG z,Nat.max_eq_left z];show⟨.inr,fun y=>y.elim (fun y=>by have:=(h.2.1 _ y).1;dsimp only at this;lk) id⟩
noncomputable def moN(TI:List (Nat×Nat))(left pc:LN):LN:=left.filter fun k=>!decide (k∈pc)&&!(pc.filter fun j=>adN TI j k).isEmpty
theorem mem_moN{TI:List (Nat×Nat)}{k:Nat}:k∈moN TI left pc↔k∈left/\k∉pc/\∃ j∈pc,adN TI j k=true:=by
 unfold moN;rw[yp,yY,xJ,xq,xJ,List.isEmpty_eq_false_iff_exists_mem];show X1 fun _=>X1 fun _=>⟨fun⟨j,h⟩=>⟨j,(yp.mp h).1,(yp.mp h).2⟩,fun⟨j,h,e⟩=>⟨j,yp.mpr ⟨h,e⟩⟩⟩
structure GwN(TI:List (Nat×Nat))(left:LN)(v:Nat)(pc:LN):Prop where
 nd:pc.Nodup
 sub:∀ k∈pc,k∈left
 hd:v∈pc
 con:∀ b∈pc,∀ X:Nat->Prop,(∀ a∈pc,∀ c∈pc,adN TI a c=true->X a->X c)->X v->X b
theorem GwN.start{TI:List (Nat×Nat)}{v:Nat}(h:v∈left):GwN TI left v [v]:=⟨by simp,fun k a=>by rw[yz.mp a];show h,yE,fun b hb X _ c=>by rw[yz.mp hb];show c⟩
theorem GwN.more{TI:List (Nat×Nat)}{v:Nat}(h:GwN TI left v pc)(hl:left.Nodup):GwN TI left v (pc++moN TI left pc):=by
 show⟨Yc.mpr ⟨h.nd,hl.filter _,fun a d b hb e=>(mem_moN.mp hb).2.1 (e ▸ d)⟩,fun k i=>?_,yM _ h.hd,fun b hb X f l=>?_⟩
 .rcases yB.mp i with z | z
  .show h.sub k z
  .show(mem_moN.mp z).1
 .have old:∀ b∈pc,X b:=fun b hb=>h.con b hb X (fun a d c hc=>f a (yM _ d) c (yM _ hc)) l;rcases yB.mp hb with z | z
  .show old b z
  .obtain⟨_,_,j,g,e⟩:=mem_moN.mp z;show f j (yM _ g) b hb e (old j g)
theorem GwN.len{TI:List (Nat×Nat)}{v:Nat}(h:GwN TI left v pc):pc.length<=left.length:=h.nd.length_le_of_subset fun k a=>h.sub k a
structure OuN(TI:List (Nat×Nat))(L0:LN)(ps:List (LN))(left:LN):Prop where
 nd:left.Nodup
 sub:∀ k∈left,k∈L0
 cov:∀ k∈L0,k∈left\/∃ p∈ps,k∈p
 ok:∀ p∈ps,p.Nodup/\(∀ k∈p,k∈L0/\k∉left)/\(∀ k∈L0,k∉p->∀ j∈p,adN TI j k=false)/\∀ X:Nat->Prop,(∀ a∈p,∀ c∈p,adN TI a c=true->X a->X c)->∀ a∈p,∀ b∈p,X a->X b
 dis:ps.Pairwise fun p q=>∀ a∈p,a∉q
theorem OuN.start{TI:List (Nat×Nat)}(h:L0.Nodup):OuN TI L0 [] L0:=⟨h,fun _ h=>h,fun _ h=>.inl h,(fun p a=>by cases a),.nil⟩
theorem OuN.step{TI:List (Nat×Nat)}{v:Nat}(h:OuN TI L0 ps left)(g:GwN TI left v pc)(e:moN TI left pc=[]):OuN TI L0 (ps++[pc]) (left.filter fun k=>!decide (k∈pc)):=by
 have l:∀{k},k∈left.filter (fun k=>!decide (k∈pc))↔k∈left/\k∉pc:=fun{k}=>by rw[yp,xJ,xq]
 have A:∀ k∈left,k∉pc->∀ j∈pc,adN TI j k=false:=fun k h1 B j C=>by
  cases z:adN TI j k with
  | false=>rfl
  | true =>
   have:=mem_moN.mpr ⟨h1,B,j,C,z⟩;rw[e] at this;cases this
 show⟨h.nd.filter _,fun k d=>h.sub k (l.mp d).1,fun k d=>?_,fun p f=>?_,XJ.mpr ⟨h.dis,by simp,fun p f q E a n hb=>?_⟩⟩
 .rcases h.cov k d with z | ⟨p,f,z⟩
  .by_cases y:k∈pc
   .show .inr ⟨pc,yP _ yE,y⟩
   .show .inl (l.mpr ⟨z,y⟩)
  .show .inr ⟨p,yM _ f,z⟩
 .rcases yB.mp f with z | z
  .obtain⟨H,i,r⟩:=h.ok p z;show⟨H,fun k d=>⟨(i k d).1,fun y=>(i k d).2 (l.mp y).1⟩,r⟩
  .rw [yz.mp z];show⟨g.nd,fun k d=>⟨h.sub k (g.sub k d),fun y=>(l.mp y).2 d⟩,fun k d o j x=>?_,fun X s a n b hb G=>g.con b hb X s (Yg fun c=>?_)⟩
   .rcases h.cov k d with y | ⟨p',hp',y⟩
    .show A k y o j x
    .rw [qeG];obtain⟨_,i,r,_⟩:=h.ok p' hp';have jl:=g.sub j x;show r j (h.sub j jl) (fun z=>(i j z).2 jl) k y
   .show g.con a n (fun z=>¬ X z) (fun u F w hw t D m=>D (s w hw u F (by rw[qeG];show t) m)) c G
 .rw [yz.mp E] at hb;show((h.ok p f).2.1 a n).2 (g.sub a hb)
noncomputable def lfN(n:Nat)(gs:LN):LN:=(List.range n).filter fun k=>!decide (k∈gs)
theorem mem_lfN{k:Nat}{gs:LN}:k∈lfN n gs↔k<n/\k∉gs:=by unfold lfN;rw[yp,YT,xJ,xq]
theorem OuN.pcs{TI:List (Nat×Nat)}{gs:LN}(W:Wt cw H x ss ns tps)(J:TJ ss.length TI)(E:TEq ss TI tps)(I:∀ k∈gs,k<ss.length)(h:OuN TI (lfN ss.length gs) ps []):PcsOk ss tps (gs.map (tn ss)) (ps.map fun c=>c.map (tn ss)):=by
 have K:=W.wok.nd;have lt:∀{p},p∈ps->∀{k},k∈p->k<ss.length/\k∉gs:=fun{p} f {k} g=>mem_lfN.mp ((h.ok _ f).2.1 k g).1;have B:∀{j k},j<ss.length->k<ss.length->(tA tps (tn ss j) (tn ss k)↔adN TI j k=true):=fun{j k} d o=>(E _ _ _ _ (qb5 d) (qb5 o)).trans (qeH J).symm
 have D:∀{b},b∈ss->∃ k,k<ss.length/\b=tn ss k:=fun{b} hb=>by
  obtain⟨k,g⟩:=yf hb;have hl:=(yc.mp g).1;rw[qb5 hl] at g;show⟨k,hl,(ym g).symm⟩
 have inj:∀{j k},j<ss.length->k<ss.length->tn ss j=tn ss k->j=k:=fun a b e=>tn_inj K a b e;show⟨fun q m=>?_,?_,fun a i hb=>?_,fun q m X F a i b hb A=>?_⟩
 .obtain⟨p,f,rfl⟩:=yN.mp m;show⟨Y2.mpr ((h.ok p f).1.imp_of_mem fun{a b} i hb s e=>s (inj (lt f i).1 (lt f hb).1 e)),fun a i=>?_,fun a i b t=>?_⟩
  .obtain⟨k,g,rfl⟩:=yN.mp i;obtain⟨l1,l2⟩:=lt f g;show⟨qeD l1,fun z=>?_⟩;obtain⟨j,d,e⟩:=yN.mp z;show l2 (inj (I j d) l1 e ▸ d)
  .obtain⟨k,g,rfl⟩:=yN.mp i;have n:b∈ss:=t.elim (fun z=>(W.ok _ z).2.1) fun z=>(W.ok _ z).1;obtain⟨j,l,rfl⟩:=D n;by_cases y:j∈gs
   .show .inl (yN.mpr ⟨j,y,rfl⟩)
   .show .inr (yN.mpr ⟨j,Yg fun c=>?_,rfl⟩);have:=(h.ok p f).2.2.1 j (mem_lfN.mpr ⟨l,y⟩) c k g;rw[(B (lt f g).1 l).mp t] at this;cases this
 .show Y2.mpr (h.dis.imp_of_mem fun{p q} f m G a i hb=>?_);obtain⟨k,g,rfl⟩:=yN.mp i;obtain⟨j,d,e⟩:=yN.mp hb;show G k g (inj (lt m d).1 (lt f g).1 e ▸ d)
 .obtain⟨k,r,rfl⟩:=D i;rcases h.cov k (mem_lfN.mpr ⟨r,fun z=>hb (yN.mpr ⟨k,z,rfl⟩)⟩) with z | ⟨p,f,z⟩
  .cases z
  .show⟨_,yN.mpr ⟨p,f,rfl⟩,yN.mpr ⟨k,z,rfl⟩⟩
 .obtain⟨p,f,rfl⟩:=yN.mp m;obtain⟨k,g,rfl⟩:=yN.mp i;obtain⟨j,d,rfl⟩:=yN.mp hb;show(h.ok p f).2.2.2 (fun z=>X (tn ss z)) (fun u C w hw t A=>F _ (yN.mpr ⟨u,C,rfl⟩) _ (yN.mpr ⟨w,hw,rfl⟩) ((B (lt f C).1 (lt f hw).1).mpr t) A) k g j d A
theorem KR:FnScope ["_law_names_here","_law_ties","_law_thing","_law_used_here","_law_one","_law_two"] ["_law_names_here","_law_ties","_law_thing"] (qh qbl):=fS
theorem qcb(p:Nat->Bool)(i:Nat):(List.range (i+1)).filter p=(List.range i).filter p++(if p i=true then [i] else []):=by
 rw[XZ,Yh,yU,YF]
theorem qa8(p:Nat->Bool)(i:Nat):((List.range i).filter p).length<=i:=yi (yW _ _) (by rw[XB];show yh _)
noncomputable def nuQ(ss:LS)(qs:LP):LN:=(qx qs).map fun s=>ss.idxOf s
theorem qdc{z:Addr}{xs:LN}{Q:VK}(hl:H l=some (.lst (xs.map iV)))(hz:H z=some (.lst []))(q:Q (.bl (!xs.isEmpty)) H):qft K true (.ref l) (.ref z) H Q:=by
 cases xs with
 | nil=>show .inr (.inl ⟨l,z,true,1,rfl,rfl,by decide,EqT.lst (n:=0) (e:=fun _=>true) (SqL.of hl) (SqL.of hz) rfl fun j x y h=>by(simp at h),q⟩)
 | cons x r=>show .inr (.inl ⟨l,z,false,1,rfl,rfl,by decide,EqT.lstL (SqL.of hl) (SqL.of hz) (by simp),q⟩)
theorem qaI{g:Addr}{gs:LN}{k:Nat}{Q:VK}(h:H g=some (.lst (gs.map iV)))(q:Q (.bl (if neg=true then !decide (k∈gs) else decide (k∈gs))) H):qdW K neg (iV k) (.ref g) H Q:=by
 classical
 show .inr (.inr ⟨g,gs.map iV,fun z=>eqV z (iV k),1,rfl,SqL.of h,by decide,fun z hz=>?_,?_⟩)
 .obtain⟨j,b,rfl⟩:=yN.mp hz;show .flat rfl rfl
 .have e:(gs.map iV).any (fun z=>eqV z (iV k))=decide (k∈gs):=by
   rw[YA,YH,yO];constructor
   .rintro ⟨z,hz,e⟩;obtain⟨j,b,rfl⟩:=yN.mp hz;have a:=qaw (j:Int) (k:Int);rw[yC (by decide)] at a;rw[a,yO] at e;have:j=k:=by lk
    show this ▸ b
   .intro c;show⟨iV k,yN.mpr ⟨k,c,rfl⟩,?_⟩;have a:=qaw (k:Int) (k:Int);rw[yC (by decide)] at a;rw[a];show yD rfl
  rw[e];show q
theorem qcc{m:Addr}{l:LS}{Q:VK}(e:H m=some (.lst (l.map V.str)))(q:Q (.bl (!decide (s∈l))) H):qdW K true (.str s) (.ref m) H Q:=
 .inl ⟨m,_,rfl,.inl (SqL.of e),rfl,YG.mpr fun x a=>by(obtain⟨s,_,rfl⟩:=yN.mp a;rfl),by rw[yG rfl,qc2];show q⟩
structure DwN(H:Hp)(n lt:Addr)(ss:LS)(ts:LQ)(TI:List (Nat×Nat))(tps:LP):Prop where
 n:H n=some (.lst (ss.map V.str))
 o:NOk ss
 i:IPL H lt ts TI
 j:TJ ss.length TI
 e:TEq ss TI tps
theorem DwN.same{n lt:Addr}{TI:List (Nat×Nat)}(h:DwN H n lt ss ts TI tps)(s:L2.Same H H'):DwN H' n lt ss ts TI tps:=⟨s _ _ h.n,h.o,h.i.same s,h.j,h.e⟩
theorem mmI(i j:Nat):(if decide ((j:Int)<(i:Int))=true then(j:Int) else(i:Int))=((min i j:Nat):Int)/\(if decide ((j:Int)>(i:Int))=true then(j:Int) else(i:Int))=((max i j:Nat):Int):=by
 constructor
 .by_cases h:(j:Int)<(i:Int)
  .rw [yG (yD h)];lk
  .rw [yC (by simpa using h)];lk
 .by_cases h:(j:Int)>(i:Int)
  .rw [yG (yD h)];lk
  .rw [yC (by simpa using h)];lk
inductive spUsQ(vs:List V)(H:Hp)(Q:VK)(E:XK):Prop|mk (n lt l:Addr) (ss:LS) (ts:LQ) (TI:List (Nat×Nat)) (tps:LP) (us:LQ) (qs:LP) (_:vs=[.ref n,.ref lt,.ref l]) (_:DwN H n lt ss ts TI tps) (_:PL H l us qs) (_:PGo ss tps qs) (_:∀(r:Addr) H',L2.Same H H'->H' r=some (.lst ((nuQ ss qs).map iV))->Q (.ref r) H')
theorem ok_usQ(F:Fun K "_law_used" "_law_used" qbl f fd)(T:Txt K mg cc cw):FnOk P w K mg base CX0 1 f fd ["_law_names_here","_law_ties","_law_thing"] spUsQ:=by
 show F.ok KR fun _ _ _ s H vs Q E hr h=>?_
 .obtain⟨n,lt,l,ss,ts,TI,tps,us,qs,rfl,D,⟨hl,C⟩,g,q⟩:=h;have m:=zd hr;have few:=g.few;have L:=C.len;show⟨_,(qc (qH (qX (qO (qj (j8 (K:=K) rfl) rfl T.b_isinstance Ym (qa (pv 2) (qa (qY (v:=.ty "list") rfl T.b_list xz rfl) qd))))) (qe (qm ju)) qr)
 (qc (qo (i:=3) KR.nd rfl (yK rfl) (qQ qd))
 (qc (jp yZ rfl (qR (K:=K) rfl (pv 2)) (qt (i:=4) KR.nd rfl (yK rfl))
 (qc (qH (PW.pt (zK (qX (qO (qj (j8 (K:=K) rfl) rfl T.b_isinstance Ym (qa (pv 4) (qa (qY (v:=.ty "tuple") rfl T.b_tuple Xf rfl) qd))))) (zn (qk (zO (K:=K) rfl m) (qj (jK (K:=K) rfl) rfl T.b_len YC (qa (pv 4) qd)) qg (qz _))))) (qe (qm ju)) qr)
 (qc (qH (PW.pt (zK (qk (jB (K:=K) rfl m) (qv (qw (K:=K) rfl m) (pv 4) qg (fun _ _=>rfl)) (pv 0) (by with_unfolding_all rfl)) (zn (qk (jB (K:=K) rfl m) (qv (qw (K:=K) rfl m) (pv 4) qg (fun _ _=>rfl)) (pv 0) (by with_unfolding_all rfl))))) (qe (qm ju)) qr)
 (qc (qo (i:=5) KR.nd rfl (yK rfl) (qQ (qa (qa4 (K:=K) rfl yL Yz YI (qad (K:=K) rfl) (pv 0) (qa (qv (qw (K:=K) rfl m) (pv 4) qg (fun _ _=>rfl)) qd)) (qa (qa4 (K:=K) rfl yL Yz YI (qad (K:=K) rfl) (pv 0) (qa (qv (qw (K:=K) rfl m) (pv 4) qg (fun _ _=>rfl)) qd)) qd))))
 (qc (qH (PW.pt (zK (qk (jB (K:=K) rfl m) (qZ (qa (qj (qfa (K:=K) rfl rfl) rfl T.b_min boot_min (qa (pv 5) qd)) (qa (qj (qe9 (K:=K) rfl rfl) rfl T.b_max boot_max (qa (pv 5) qd)) qd))) (pv 1) (by with_unfolding_all rfl)) (zK (qk (zC (K:=K) rfl m) (qv (qw (K:=K) rfl m) (pv 5) qg (fun _ _=>rfl)) (pv 3) (by with_unfolding_all rfl)) (zn (qk (zC (K:=K) rfl m) (qv (qw (K:=K) rfl m) (pv 5) qg (fun _ _=>rfl)) (pv 3) (by with_unfolding_all rfl)))))) (qe (qm ju)) qr)
 (qe (qo (i:=3) KR.nd rfl (yK rfl) (qG (zu (K:=K) rfl) (pv 3) (pv 5)))))))))
 (qe (qm (pv 3)))))),?_⟩
  apply qaz (.inl (.lst hl)) rfl (jw K "list" (by simp) "list" (by simp)) ?_;apply yq ?_;apply⟨by show 0<=sizeLine;decide,fun d hd=>?_⟩;have Z:=qF (Sr H) (o:=.lst []) hd;have ed:upd H d (.lst []) d=some (.lst ((nuQ ss []).map iV)):=qb;generalize upd H d (.lst [])=H1 at Z ed;apply .inl ⟨⟨_,.of (Z _ _ hl)⟩,jo (xs:=us.map V.ref) (fun i σ J=>L2.Same H J/\∃(d:Addr) (y4 y5:Option V),σ=[some (.ref n),some (.ref lt),some (.ref l),some (.ref d),y4,y5]/\J d=some (.lst ((nuQ ss (qs.take i)).map iV))) ⟨Z,_,_,_,rfl,ed⟩ (fun i σ J _ I=>.of (I.1 _ _ hl)) (fun i y σ J hy I=>?_) fun σ J I=>?_⟩
  .obtain⟨N,d,y4,y5,rfl,p⟩:=I;rw[yd] at hy;obtain⟨b,G,rfl⟩:=yn.mp hy;have hi:i<us.length:=(yc.mp G).1;obtain⟨ab,u⟩:∃ ab,qs[i]?=some ab:=⟨_,yb (by rw[<- L];show hi)⟩;have eb:=C.at_ i b ab G u;obtain⟨O,m1,m2,ac⟩:=g.inn ab (ye u);obtain⟨W,aa,n1,n2⟩:=g.new u;have ad:(qx (qs.take i)).length<=60:=by rw[jW,yT];lk
   have a:=N _ _ eb;have DJ:=D.same N;have c:=DJ.n;apply qaz (.inl (.tup a)) rfl (jw K "tuple" (by simp) "tuple" (by simp)) ?_;apply yq ?_;apply qeb a ?_;apply .inl ⟨rfl,rfl,?_⟩;apply yq ?_;apply .inl (zD a (v:=.str ab.1) (qu (j:=0) rfl) ?_);apply qcc c ?_;rw[yD m1];apply yq ?_;apply .inl (zD a (v:=.str ab.2) (qu (j:=1) rfl) ?_);apply qcc c ?_;rw[yD m2];apply yq ?_;apply⟨.inl ⟨rfl,_,.of c⟩,?_⟩;apply .inl (zD a (v:=.str ab.1) (qu (j:=0) rfl) ?_);apply⟨n,ss,_,rfl,rfl,.of c,m1,?_⟩;apply⟨.inl ⟨rfl,_,.of c⟩,?_⟩;apply .inl (zD a (v:=.str ab.2) (qu (j:=1) rfl) ?_);apply⟨n,ss,_,rfl,rfl,.of c,m2,?_⟩
   have M:∀{s:Str},s∈ss->s∉qx (qs.take i)->ss.idxOf s∉nuQ ss (qs.take i):=fun{s} hs h z=>by
    obtain⟨t,O,e⟩:=yN.mp z
    have Y:t∈ss:=by
     obtain⟨qq,hq,hm⟩:=YY.mp O;have:=g.inn qq (List.mem_of_mem_take hq);rcases yA.mp hm with z | z
     .rw [z];show this.2.1
     .rw [yz.mp z];show this.2.2.1
    have:t=s:=qdb Y hs e;show h (this ▸ O)
   apply⟨by show 2<=sizeLine;decide,fun e he=>?_⟩;have s3:=qF (Sr J) (o:=.lst [iV (ss.idxOf ab.1),iV (ss.idxOf ab.2)]) he;have A:upd J e (.lst [iV (ss.idxOf ab.1),iV (ss.idxOf ab.2)]) e=some (.lst [iV (ss.idxOf ab.1),iV (ss.idxOf ab.2)]):=qb;generalize upd J e (.lst [iV (ss.idxOf ab.1),iV (ss.idxOf ab.2)])=R at s3 A;have i1:ss[ss.idxOf ab.1]?=some ab.1:=by rw[yb (yX m1),Yo]
   have i2:ss[ss.idxOf ab.2]?=some ab.2:=by rw[yb (yX m2),Yo]
   have U:(min (ss.idxOf ab.1) (ss.idxOf ab.2),max (ss.idxOf ab.1) (ss.idxOf ab.2))∈TI:=yk ((qeH D.j).mpr ((D.e _ _ _ _ i1 i2).mp O));obtain⟨k1,k2⟩:=mmI (ss.idxOf ab.1) (ss.idxOf ab.2);apply⟨e,_,_,rfl,.inl A,?_⟩;dsimp only;rw[k1];apply⟨e,_,_,rfl,.inl A,?_⟩;dsimp only;rw[k2];apply⟨by show 2<=sizeLine;decide,fun tq X=>?_⟩;have B:=qF (Sr R) (o:=iT (min (ss.idxOf ab.1) (ss.idxOf ab.2),max (ss.idxOf ab.1) (ss.idxOf ab.2))) X;have e4:upd R tq (.tup [.int ((min (ss.idxOf ab.1) (ss.idxOf ab.2):Nat):Int),.int ((max (ss.idxOf ab.1) (ss.idxOf ab.2):Nat):Int)]) tq=some (iT (min (ss.idxOf ab.1) (ss.idxOf ab.2),max (ss.idxOf ab.1) (ss.idxOf ab.2))):=qb;have eT:iT (min (ss.idxOf ab.1) (ss.idxOf ab.2),max (ss.idxOf ab.1) (ss.idxOf ab.2))=.tup [.int ((min (ss.idxOf ab.1) (ss.idxOf ab.2):Nat):Int),.int ((max (ss.idxOf ab.1) (ss.idxOf ab.2):Nat):Int)]:=rfl;rw[eT] at B;generalize upd R tq (.tup [.int ((min (ss.idxOf ab.1) (ss.idxOf ab.2):Nat):Int),.int ((max (ss.idxOf ab.1) (ss.idxOf ab.2):Nat):Int)])=J4 at B e4;have x:=s3.trans B;apply qeB (DJ.i.same x) e4 ?_;rw[yD U];apply yq ?_;apply .inl (zY (B _ _ A) (v:=iV (ss.idxOf ab.1)) (qu (j:=0) rfl) ?_);ext;have r:=x _ _ p;show qaI r ?_;rw[yC (by decide),yl (M m1 n1)];apply yq ?_;apply .inl (zY (B _ _ A) (v:=iV (ss.idxOf ab.2)) (qu (j:=1) rfl) ?_);apply qaI r ?_;rw[yC (by decide),yl (M m2 n2)];apply yq ?_;apply qeC r (B _ _ A) ?_ fun d2 S=>?_
   .unfold nuQ;rw[ya,ya];show _+2<=2000;lk
   .show⟨(N.trans x).trans (qF (Sr J4) S),d2,_,_,rfl,?_⟩;rw[qb,W];unfold nuQ;rw[zz,yx,yx];rfl
  .obtain⟨N,d,y4,y5,rfl,p⟩:=I;rw[show(us.map V.ref).length=qs.length by rw[ya,L],yQ] at p;apply q d J N p
theorem Kx:FnScope ["_law_size","_law_ties","_law_bar","_law_found","_law_left","_law_piece","_law_growing","_law_more"] ["_law_size","_law_ties","_law_bar"] (qh qaJ):=fS
noncomputable def odN(c:LN):Bool:=decide (c.length % 2=1)
theorem mm2(j k:Nat):(if ((k:Nat):Int)<(j:Int) then((k:Nat):Int) else(j:Int))=((min j k:Nat):Int)/\(if ((k:Nat):Int)>(j:Int) then((k:Nat):Int) else(j:Int))=((max j k:Nat):Int):=by
 constructor
 .split<;>lk
 .split<;>lk
theorem qeI(p:α->Bool)(xs:List α)(i:Nat)(x:α)(h:xs[i]?=some x):(xs.take (i+1)).filter p=(xs.take i).filter p++if p x=true then [x] else []:=by
 rw[yR,h,Yh];show _++[x].filter p=_;rw[yU,YF]
theorem qeJ(p:α->Bool)(xs:List α)(i:Nat):((xs.take i).filter p).length<=xs.length:=yi (yW _ _) (by rw[yT];lk)
inductive spOdQ(vs:List V)(H:Hp)(Q:VK)(E:XK):Prop|mk (lt lb:Addr) (n:Nat) (ts:LQ) (TI:List (Nat×Nat)) (gs:LN) (_:vs=[.int (n:Int),.ref lt,.ref lb]) (_:n<=14) (_:IPL H lt ts TI) (_:H lb=some (.lst (gs.map iV))) (_:∀(l:Addr) (us:LQ) (ps:List (LN)) (H':Hp),L2.Same H H'->H' l=some (.lst (us.map V.ref))->All2 (fun a ks=>H' a=some (.lst (ks.map iV))/\a≠l) us (ps.filter odN)->OuN TI (lfN n gs) ps []->us.length<=14->Q (.ref l) H')
inductive OuS(H:Hp)(n:Nat)(lt lb l:Addr)(TI:List (Nat×Nat))(gs:LN)(m:Nat)(σ:L2.St)(J:Hp):Prop|mk (ps:List (LN)) (left:LN) (us:LQ) (ll:Addr) (y5 y6 y7:Option V) (_:σ=[some (.int (n:Int)),some (.ref lt),some (.ref lb),some (.ref l),some (.ref ll),y5,y6,y7]) (_:L2.Same H J) (_:J l=some (.lst (us.map V.ref))) (_:All2 (fun a ks=>J a=some (.lst (ks.map iV))/\a≠l) us (ps.filter odN)) (_:J ll=some (.lst (left.map iV))) (_:ll≠l) (_:OuN TI (lfN n gs) ps left) (_:left.length<=m) (_:us.length+left.length<=14)
theorem ok_odQ(F:Fun K "_law_odd" "_law_odd" qaJ f fd)(T:Txt K mg cc cw):FnOk P w K mg base CX0 1 f fd ["_law_size","_law_ties","_law_bar"] spOdQ:=by
 show F.ok Kx fun _ _ _ _ H vs Q E hr h=>?_
 .obtain⟨lt,lb,n,ts,TI,gs,rfl,cd,hI,bp,q⟩:=h;have hu:=zd hr;show⟨_,(qc (qo (i:=3) Kx.nd rfl (yK rfl) (qQ qd))
 (qc (zN (sc:=qh qaJ) (XN:=["_law_size","_law_ties","_law_bar","_law_found","_law_left","_law_piece","_law_growing","_law_more"]) ["_law_k","_law_bar"] 1 [2] rfl rfl rfl (by room) rfl (by room) (i:=4) Kx.nd rfl rfl
  (jf rfl T.b_range (qa (pv 0) qd)) (fun _ _ _ _=>(qt (i:=0) (show(["_law_k","_law_bar"]:LS).Nodup by room) rfl (yK rfl))) qN
  (fun _ _ _ _=>(q8 (qk (jB (K:=K) rfl hu) (pv 0) (pv 1) (by with_unfolding_all rfl))))
  (fun _ _ _ _=>(pv 0)))
 (qc (qaK yZ (qk (zO (K:=K) rfl hu) (pv 4) (qQ qd) (qz _))
 (qc (qo (i:=5) Kx.nd rfl (Xr rfl) (jJ (qec (K:=K) rfl) (pv 4) zo (jE qg)))
 (qc (qo (i:=6) Kx.nd rfl (yK rfl) jH)
 (qc (qaK yZ (qO (pv 6))
 (qc (zN (sc:=qh qaJ) (XN:=["_law_size","_law_ties","_law_bar","_law_found","_law_left","_law_piece","_law_growing","_law_more"]) ["_law_k","_law_piece","_law_ties"] 1 [5,1] rfl rfl rfl (by room) rfl (by room) (i:=7) Kx.nd rfl rfl
  (qR (K:=K) rfl (pv 4)) (fun _ _ _ _=>(qt (i:=0) (show(["_law_k","_law_piece","_law_ties"]:LS).Nodup by room) rfl (Xr rfl))) qN
  (fun _ _ _ _=>(q8 (PW.pt (qbm (qk (jB (K:=K) rfl hu) (pv 0) (pv 1) (by with_unfolding_all rfl)) (qa1 (qk (zO (K:=K) rfl hu) (pe_compIn ["_law_j","_law_ties","_law_k"] 1 [2,0] rfl (by room) rfl (by room)
  (qR (K:=K) rfl (pv 1)) (fun _ _ _ _=>(qt (i:=0) (show(["_law_j","_law_ties","_law_k"]:LS).Nodup by room) rfl (yK rfl))) qN
  (fun _ _ _ _=>(q8 (qk (zC (K:=K) rfl hu) (qZ (qa (qj (qaM rfl) rfl T.b_min boot_min (qa (pv 0) (qa (pv 2) qd))) (qa (qj (qaL rfl) rfl T.b_max boot_max (qa (pv 0) (qa (pv 2) qd))) qd))) (pv 1) (by with_unfolding_all rfl))))
  (fun _ _ _ _=>(pv 0))) (qQ qd) (qz _)))))))
  (fun _ _ _ _=>(pv 0)))
 (qc (qo (i:=5) Kx.nd rfl (Xr rfl) (qG (zu (K:=K) rfl) (pv 5) (pv 7)))
 (qe (qo (i:=6) Kx.nd rfl (yK rfl) (jg (zO (K:=K) rfl hu) (pv 7) (qQ qd) (qz _)))))))
 (qc (zN (sc:=qh qaJ) (XN:=["_law_size","_law_ties","_law_bar","_law_found","_law_left","_law_piece","_law_growing","_law_more"]) ["_law_k","_law_piece"] 1 [5] rfl rfl rfl (by room) rfl (by room) (i:=4) Kx.nd rfl rfl
  (qR (K:=K) rfl (pv 4)) (fun _ _ _ _=>(qt (i:=0) (show(["_law_k","_law_piece"]:LS).Nodup by room) rfl (yK rfl))) qN
  (fun _ _ _ _=>(q8 (qk (jB (K:=K) rfl hu) (pv 0) (pv 1) (by with_unfolding_all rfl))))
  (fun _ _ _ _=>(pv 0)))
 (qe (qH (qk (j3 (K:=K) rfl hu) (qG zW (qj (jK (K:=K) rfl) rfl T.b_len YC (qa (pv 5) qd)) qg) qg (qz _)) (qe (qU (qa4 (K:=K) rfl yL Yd Ye qS (pv 3) (qa (pv 5) qd)))) qr)))))))
 (qe (qm (pv 3)))))),?_⟩
  apply⟨by show 0<=sizeLine;decide,fun l hl=>?_⟩;have s1:=qF (Sr H) (o:=.lst []) hl;have el:upd H l (.lst []) l=some (.lst []):=qb;generalize upd H l (.lst [])=H1 at s1 el;apply⟨_,rfl,by lk,by lk,?_⟩;rw[Yw];show jS (lo:=0) (fun i ys J=>J=H1/\ys=(lfN i gs).map iV) ⟨rfl,rfl⟩ (fun i ys J hi s=>?_) fun ys J s=>?_
  .obtain⟨rfl,rfl⟩:=s;rw[x0];apply qaI (s1 _ _ bp) ?_;rw[yG rfl];ext;have e0:lfN (i+1) gs=lfN i gs++if (!decide (i∈gs))=true then [i] else []:=by unfold lfN;show qcb _ i
   have l1:(lfN i gs).length<=i:=qa8 _ i;rw[e0];show qL (fun h=>?_) fun h=>?_
   .rw [yG h];apply⟨by rw[ya];show qi (by lk),rfl,by rw[yx];rfl⟩
   .rw [yC h,Yb];show⟨rfl,rfl⟩
  .obtain⟨rfl,rfl⟩:=s;have l1:(lfN n gs).length<=n:=qa8 _ n;show⟨by rw[ya];show yV (qi (by lk)),fun X ae=>?_⟩;have s2:=qF (Sr J) (o:=.lst ((lfN n gs).map iV)) ae;have ao:upd J X (.lst ((lfN n gs).map iV)) X=some (.lst ((lfN n gs).map iV)):=qb;have bc:X≠l:=fun z=>by rw[z,el] at ae;cases ae
   generalize upd J X (.lst ((lfN n gs).map iV))=H2 at s2 ao;apply⟨OuS H n lt lb l TI gs,⟨(lfN n gs).length,[],lfN n gs,[],X,_,_,_,rfl,s1.trans s2,s2 _ _ el,.nil,ao,bc,.start (List.nodup_range.filter _),yh _,by show 0+_<=14;lk⟩,fun m σ J3 hW=>?_⟩;obtain⟨ps,left,us,X,y5,y6,y7,rfl,sJ,bi,hA,ap,bc,hO,hm,ay⟩:=hW;apply⟨by show 0<=sizeLine;decide,fun z hz=>?_⟩;have s3:=qF (Sr J3) (o:=.lst []) hz;have ez:upd J3 z (.lst []) z=some (.lst []):=qb;generalize upd J3 z (.lst [])=J4 at s3 ez;have am:=sJ.trans s3;have A:=s3 _ _ ap;have u:=s3 _ _ bi;have ar:=hA.mono fun _ _ z=>(⟨s3 _ _ z.1,z.2⟩:_/\_);show qdc A ez ?_;ext
   cases left with
   | nil =>
    show yq ?_;apply q l us ps J4 am u ar hO (by simp only[YV] at ay;lk)
   | cons v r =>
    obtain⟨left,c⟩:∃ left,left=v::r:=⟨_,rfl⟩
    have au:qco (left.map iV) none (some 1)=[iV v]:=by
     have:=qae (left.map iV) 1;rw[show((1:Nat):Int)=1 from rfl] at this;rw[this,c];rfl
    have az:v∈left:=by rw[c];show yE
    have bo:left.isEmpty=false:=by rw[c];rfl
    rw[<- c] at A hO hm ay ⊢;rw[bo,ke];have cf:0<left.length:=by rw[c];simp
    show zm ⟨OuS H n lt lb l TI gs (left.length-1),fun ca H' h=>⟨left.length-1,by lk,h⟩,?_⟩;clear c;apply .inl ⟨X,_,rfl,.of A,fun t ag=>?_⟩;rw[au];have s5:=qF (Sr J4) (o:=.lst [iV v]) ag;have aq:upd J4 t (.lst [iV v]) t=some (.lst ([v].map iV)):=qb;generalize upd J4 t (.lst [iV v])=J5 at s5 aq;have Y:t≠l:=fun z=>by rw[z,u] at ag;cases ag
    apply⟨fun m σ J=>∃(t:Addr) (pc:LN) (g:Bool) (y7:Option V),σ=[some (.int (n:Int)),some (.ref lt),some (.ref lb),some (.ref l),some (.ref X),some (.ref t),some (.bl g),y7]/\L2.Same J4 J/\J t=some (.lst (pc.map iV))/\t≠l/\GwN TI left v pc/\(g=false->moN TI left pc=[])/\left.length-pc.length+(if g=true then 1 else 0)<=m,⟨_,t,[v],true,_,rfl,s5,aq,Y,.start az,(fun h=>by cases h),yh _⟩,fun m2 σ J6 hW=>?_⟩;obtain⟨t,pc,g,y7,rfl,D,W,Y,hG,hg,bu⟩:=hW;have cg:=hG.len;have B:=D _ _ A;have bm:=hI.same (am.trans D);ext
    cases g with
    | false =>
     have N:=hg rfl;show yq ?_;apply .inl ⟨⟨_,.of B⟩,qK (xs:=left.map iV) (fun i ys G=>G=J6/\ys=((left.take i).filter fun k=>!decide (k∈pc)).map iV) ⟨rfl,rfl⟩ (fun i ys G _ s=>by rw[s.1];show .of B) (fun i y ys G hy s=>?_) fun ys G s=>?_⟩
     .obtain⟨rfl,rfl⟩:=s;rw[yd] at hy;obtain⟨k,hk,rfl⟩:=yn.mp hy;apply qaI W ?_;rw[yG rfl,qeI _ _ _ _ hk];have bq:=qeJ (fun k=>!decide (k∈pc)) left i;apply qL (fun h=>?_) fun h=>?_
      .rw [yG h];apply⟨by rw[ya];show qi (by lk),rfl,by rw[yx];rfl⟩
      .rw [yC h,Yb];show⟨rfl,rfl⟩
     .obtain⟨rfl,rfl⟩:=s;rw[show(left.map iV).length=left.length from ya _,yQ];have ah:=hO.step hG N
      have br:(left.filter fun k=>!decide (k∈pc)).length<left.length:=by
       show Nat.lt_of_le_of_ne (yW _ _) fun e=>?_;have:=(List.length_filter_eq_length_iff.mp e) v az;rw[yD hG.hd] at this;cases this
      generalize (left.filter fun k=>!decide (k∈pc))=d at ah br;show⟨by rw[ya];show yV (qi (by lk)),fun C M=>?_⟩;have s7:=qF (Sr G) (o:=.lst (d.map iV)) M;have e7:upd G C (.lst (d.map iV)) C=some (.lst (d.map iV)):=qb;have bg:=D _ _ u;have ai:C≠l:=fun z=>by rw[z,bg] at M;cases M
      generalize upd G C (.lst (d.map iV))=J7 at s7 e7;have S:=D.trans s7;have bf:=am.trans S;have as:=ar.mono fun _ _ z=>(⟨S _ _ z.1,z.2⟩:_/\_);have aa:=s7 _ _ W;apply qac aa ?_;rw[ya];apply vI (by decide) ?_;apply qaH ?_;have eo:decide ((pc.length:Int) % 2=1)=odN pc:=YB.mpr (by lk);rw[eo];ext
      have ef:(ps++[pc]).filter odN=ps.filter odN++if odN pc=true then [pc] else []:=by
       rw[Yh,yU,YF]
      show qL (fun ho=>?_) fun ho=>?_
      .ext;show⟨.inl ⟨rfl,_,.of (S _ _ u)⟩,?_⟩;apply⟨l,_,_,rfl,rfl,S _ _ u,by rw[ya];show qi (by lk),?_⟩;rw[yG ho] at ef;show⟨ps++[pc],d,us++[t],C,_,_,_,rfl,qaE bf hl,by rw[qb,yx];rfl,?_,by rw[qf ai];show e7,ai,ah,by lk,by rw[yt];show _+1+_<=_;lk⟩;rw[ef];show(as.mono fun a ks z=>(⟨by rw[qf z.2];show z.1,z.2⟩:_/\_)).snoc ⟨by rw[qf Y];show aa,Y⟩
      .rw [yC ho,Yb] at ef;show⟨ps++[pc],d,us,C,_,_,_,rfl,bf,S _ _ u,by rw[ef];show as,e7,ai,ah,by lk,by lk⟩
    | true =>
     show zm ⟨fun σ J=>∃(t:Addr) (pc:LN) (g:Bool) (y7:Option V),σ=[some (.int (n:Int)),some (.ref lt),some (.ref lb),some (.ref l),some (.ref X),some (.ref t),some (.bl g),y7]/\L2.Same J4 J/\J t=some (.lst (pc.map iV))/\t≠l/\GwN TI left v pc/\(g=false->moN TI left pc=[])/\left.length-pc.length+(if g=true then 1 else 0)<m2,fun ca J' ⟨t,pc,g,y7,k1,k2,k3,k4,k5,k6,k7⟩=>⟨_,k7,t,pc,g,y7,k1,k2,k3,k4,k5,k6,yh _⟩,?_⟩;apply .inl ⟨⟨_,.of B⟩,qK (xs:=left.map iV) (fun i ys G=>L2.Same J6 G/\ys=((left.take i).filter fun k=>!decide (k∈pc)&&!(pc.filter fun j=>adN TI j k).isEmpty).map iV) ⟨L2.Same.refl J6,rfl⟩ (fun i ys G _ s=>.of (s.1 _ _ B)) (fun i y ys G hy s=>?_) fun ys G s=>?_⟩
     .obtain⟨sG,rfl⟩:=s;rw[yd] at hy;obtain⟨k,hk,rfl⟩:=yn.mp hy;have L:=sG _ _ W;have bq:=qeJ (fun k=>!decide (k∈pc)&&!(pc.filter fun j=>adN TI j k).isEmpty) left i;rw[qeI _ _ _ _ hk];apply qaI L ?_;rw[yG rfl];ext
      cases ce:decide (k∈pc) with
      | true =>
       show yq ?_;show⟨sG,by rw[Bool.not_true,kX,yC (by decide),Yb]⟩
      | false =>
       show zm ?_;apply .inl ⟨⟨_,.of L⟩,qK (xs:=pc.map iV) (fun i ys U=>L2.Same G U/\ys=((pc.take i).filter fun j=>adN TI j k).map iV) ⟨L2.Same.refl G,rfl⟩ (fun i ys U _ s=>.of (s.1 _ _ L)) (fun i2 y2 bz U ba af=>?_) fun bz U af=>?_⟩
       .obtain⟨ak,rfl⟩:=af;rw[yd] at ba;obtain⟨j,hj,rfl⟩:=yn.mp ba;have aw:=qeJ (fun j=>adN TI j k) pc i2;rw[qeI _ _ _ _ hj];obtain⟨k1,k2⟩:=mm2 j k;apply⟨_,_,rfl,?_⟩;rw[k1];apply⟨_,_,rfl,?_⟩;rw[k2];apply⟨by show 2<=sizeLine;decide,fun tq bw=>?_⟩;have s8:=qF (Sr U) (o:=.tup [.int ((min j k:Nat):Int),.int ((max j k:Nat):Int)]) bw;have e8:upd U tq (.tup [.int ((min j k:Nat):Int),.int ((max j k:Nat):Int)]) tq=some (iT (min j k,max j k)):=qb;generalize upd U tq (.tup [.int ((min j k:Nat):Int),.int ((max j k:Nat):Int)])=G3 at s8 e8;have al:=ak.trans s8;apply qeA (bm.same (sG.trans al)) e8 ?_;rw[yC (by decide),show decide ((min j k,max j k)∈TI)=adN TI j k from rfl];apply qL (fun h=>?_) fun h=>?_
        .rw [yG h];apply⟨by rw[ya];show qi (by lk),al,by rw[yx];rfl⟩
        .rw [yC h,Yb];show⟨al,rfl⟩
       .obtain⟨ak,rfl⟩:=af;rw[show(pc.map iV).length=pc.length from ya _,yQ];have aw:=yW (fun j=>adN TI j k) pc;show⟨by rw[ya];show yV (qi (by lk)),fun g1 ad=>?_⟩;have s9:=qF (Sr U) (o:=.lst ((pc.filter fun j=>adN TI j k).map iV)) ad;have e9:upd U g1 (.lst ((pc.filter fun j=>adN TI j k).map iV)) g1=some (.lst ((pc.filter fun j=>adN TI j k).map iV)):=qb;generalize upd U g1 (.lst ((pc.filter fun j=>adN TI j k).map iV))=G4 at s9 e9;apply⟨by show 0<=sizeLine;decide,fun g2 bn=>?_⟩;have x:=qF (Sr G4) (o:=.lst []) bn;have I:upd G4 g2 (.lst []) g2=some (.lst []):=qb;generalize upd G4 g2 (.lst [])=G5 at x I;have be:=sG.trans (ak.trans (s9.trans x));show qdc (x _ _ e9) I ?_;rw[ke,Bool.true_and];apply qL (fun h=>?_) fun h=>?_
        .rw [yG h];apply⟨by rw[ya];show qi (by lk),be,by rw[yx];rfl⟩
        .rw [yC h,Yb];show⟨be,rfl⟩
     .obtain⟨sG,rfl⟩:=s;rw[show(left.map iV).length=left.length from ya _,yQ];have bj:(left.filter fun k=>!decide (k∈pc)&&!(pc.filter fun j=>adN TI j k).isEmpty)=moN TI left pc:=rfl;rw[bj];have N:=hG.more hO.nd;have bv:(moN TI left pc).length<=left.length:=yW _ _;have av:=N.len;rw[yt] at av
      have ax:(moN TI left pc).isEmpty=true->moN TI left (pc++moN TI left pc)=[]:=fun h=>by
       have:=List.isEmpty_iff.mp h;rw[this,Yb,this]
      have ac:(moN TI left pc).isEmpty=false->0<(moN TI left pc).length:=fun h=>by
       cases e:moN TI left pc with
       | nil=>rw[e] at h;cases h
       | cons a b=>simp
      generalize moN TI left pc=p at N bv av ax ac;show⟨by rw[ya];show yV (qi (by lk)),fun g1 ad=>?_⟩;have s9:=qF (Sr G) (o:=.lst (p.map iV)) ad;have e9:upd G g1 (.lst (p.map iV)) g1=some (.lst (p.map iV)):=qb;generalize upd G g1 (.lst (p.map iV))=G4 at s9 e9;have aj:=sG.trans s9;have bh:=(D.trans aj) _ _ u;apply qeC (aj _ _ W) e9 (by rw[ya,ya];lk) fun R O=>?_;rw[<- yx];have x:=qF (Sr G4) (o:=.lst ((pc++p).map iV)) O;have I:upd G4 R (.lst ((pc++p).map iV)) R=some (.lst ((pc++p).map iV)):=qb;have bd:R≠l:=fun z=>by rw[z,bh] at O;cases O
      generalize upd G4 R (.lst ((pc++p).map iV))=G5 at x I;apply⟨by show 0<=sizeLine;decide,fun z2 bx=>?_⟩;have Z:=qF (Sr G5) (o:=.lst []) bx;have an:upd G5 z2 (.lst []) z2=some (.lst []):=qb;generalize upd G5 z2 (.lst [])=G6 at Z an;show qdc ((x.trans Z) _ _ e9) an ?_;show⟨R,pc++p,!p.isEmpty,_,rfl,D.trans (aj.trans (x.trans Z)),Z _ _ I,bd,N,fun h=>ax (by simpa using h),?_⟩;have cb:left.length-pc.length+1<=m2:=bu;rw[yt]
      cases he:p.isEmpty with
      | true=>show _+0<m2;lk
      | false =>
       have:=ac he;show _+1<m2;lk
theorem Kp:FnScope ["_law_names_here","_law_ties","_law_start","_law_thing","_law_hand","_law_pairs","_law_bar","_law_used_here","_law_numbers","_law_pieces"] ["_law_names_here","_law_ties","_law_start","_law_thing"] (qh jG):=fS
theorem vAsgT{a:TE}{gs:TGs}(h:a σ H fun x H1=>qge K n gs x σ H1 D.nx):qfn a (qge K n gs) D σ H:=h
theorem ne_nilN{z:Addr}{Q:VK}(hl:H l=some (.lst []))(hz:H z=some (.lst []))(q:Q (.bl false) H):qft K true (.ref l) (.ref z) H Q:=.inr (.inl ⟨l,z,true,1,rfl,rfl,by decide,EqT.lst (n:=0) (e:=fun _=>true) (SqL.of hl) (SqL.of hz) rfl fun j x y h=>by(simp at h),q⟩)
theorem qeK{z:Addr}{Q:VK}(hl:H l=some (.lst []))(hz:H z=some (.lst []))(q:Q (.bl true) H):qfu K (.ref l) (.ref z) H Q:=.inl (.inl (.inr (.inl ⟨l,z,true,1,rfl,rfl,by decide,EqT.lst (n:=0) (e:=fun _=>true) (SqL.of hl) (SqL.of hz) rfl fun j x y h=>by(simp at h),q⟩)))
def HdV(ss:LS)(tps:LP)(u:Str)(a:Int)(rs:LP):Prop:=PrQ ss tps rs/\((a=1/\∀ q∈rs,q.1≠u/\q.2≠u)\/(a=0/\u∉loQ tps ss))
theorem HdQ.v{rs:LP}{a:Int}(h:HdQ ss ns tps u a rs):HdV ss tps u a rs:=⟨h.1,h.2.imp (fun z=>⟨z.1,z.2.2.2⟩) fun z=>⟨z.1,z.2.1⟩⟩
noncomputable def hgN(tps:LP)(ss:LS)(ns:LN):LN:=(heQ tps ss ns).map ss.idxOf
section
variable{cw x:Addr}{H:Hp}{ss:LS}{ns:LN}{tps:LP}
theorem qeL(h:s∈heQ tps ss ns):s∈ss:=(yp.mp h).1
theorem hg_map(b:ss.Nodup):(hgN tps ss ns).map (tn ss)=heQ tps ss ns:=by
 unfold hgN;rw[kS]
 conv=>rhs;rw[<- List.map_id (heQ tps ss ns)]
 show List.map_congr_left fun s a=>?_;show tn ss (ss.idxOf s)=s;unfold tn;rw[Yp,yb (yX (qeL a)),Yo];rfl
theorem hg_lt:∀ k∈hgN tps ss ns,k<ss.length:=fun k a=>by
 obtain⟨s,b,rfl⟩:=yN.mp a;show yX (qeL b)
theorem hg_nd(f:ss.Nodup):(hgN tps ss ns).Nodup:=Y2.mpr ((f.filter _).imp_of_mem fun{a b} d hb c e=>c (qdb (qeL d) (qeL hb) e))
theorem paper_ok{TI:List (Nat×Nat)}{rs:LP}(W:Wt cw H x ss ns tps)(q:TJ ss.length TI)(o:TEq ss TI tps)(p:MxE ss tps)(g:PrQ ss tps rs)(h:OuN TI (lfN ss.length (hgN tps ss ns)) ps []):(ps.filter odN).length+2*rs.length=ss.length+(hgN tps ss ns).length/\∀ c∈ps.filter odN,∀ k∈c,tn ss k∈loQ tps ss:=by
 have b:=W.wok.nd;have C:=h.pcs W q o hg_lt;rw[hg_map b] at C;obtain⟨qs,a,i⟩:=p;have hl:=g.n.trans (qdU W.ir b a i).symm;obtain⟨S,F⟩:=i;obtain⟨j,r⟩:=odd_loose b a F (he_bar W a F) (b.filter _) C g.g hl
 have m:((ps.map fun c=>c.map (tn ss)).filter qbR)=(ps.filter odN).map fun c=>c.map (tn ss):=by
  rw[List.filter_map]
  congr 1
  show Y3 fun c _=>?_;show qbR (c.map (tn ss))=odN c;unfold qbR odN;rw[ya]
 rw[m,ya] at j;have d:(hgN tps ss ns).length=(heQ tps ss ns).length:=ya _;show⟨by rw[d];show j,fun c hc k f=>?_⟩;obtain⟨e,l⟩:=yp.mp hc;have:=r (c.map (tn ss)) (yN.mpr ⟨c,e,rfl⟩) (by unfold qbR;rw[ya];show l) (tn ss k) (yN.mpr ⟨k,f,rfl⟩);show(qbS W a F).mpr ⟨qeD (mem_lfN.mp ((h.ok c e).2.1 k f).1).1,this⟩
end
inductive spVdQ(cw:Addr)(vs:List V)(H:Hp)(Q:VK)(E:XK):Prop|mk (n lt t l a x:Addr) (k:Nat) (ss:LS) (ns:LN) (ts:LQ) (TI:List (Nat×Nat)) (tps:LP) (ls:LQ) (rs:LP) (hd:Int) (_:vs=[.ref n,.ref lt,.int (k:Int),.ref t]) (_:DwN H n lt ss ts TI tps) (_:Wt cw H x ss ns tps) (_:MxE ss tps) (_:k<ss.length) (_:H t=some (.tup [.int hd,.ref l,.ref a])) (_:PL H l ls rs) (_:H a=some (.lst ((heQ tps ss ns).map V.str))) (_:HdV ss tps (tn ss k) hd rs) (_:∀ H',L2.Same H H'->Q (.bl true) H')
theorem ok_vdQ(F:Fun K "_law_verdict" "_law_verdict" jG f fd)(T:Txt K mg cc cw)(uv:DefOk P w K mg base CX0 1 "_law_used" ["_law_names_here","_law_ties","_law_thing"] spUsQ)(Uy:DefOk P w K mg base CX0 1 "_law_odd" ["_law_size","_law_ties","_law_bar"] spOdQ):FnOk P w K mg base CX0 2 f fd ["_law_names_here","_law_ties","_law_start","_law_thing"] (spVdQ cw):=by
 show F.ok Kp fun _ _ _ s H vs Q E hr h=>?_
 .obtain⟨n,lt,t,l,a,x,k,ss,ns,ts,TI,tps,ls,rs,L,rfl,D,W,hM,hk,ht,hP,ha,O,q⟩:=h;have d:=zd hr;have few:=D.o.few;have af:L=0\/L=1:=O.2.elim (fun z=>.inr z.1) fun z=>.inl z.1;show⟨_,(qc (qH (PW.pt (zK (qX (qO (qj (j8 (K:=K) rfl) rfl T.b_isinstance Ym (qa (pv 3) (qa (qY (v:=.ty "tuple") rfl T.b_tuple Xf rfl) qd))))) (zn (qk (zO (K:=K) rfl d) (qj (jK (K:=K) rfl) rfl T.b_len YC (qa (pv 3) qd)) qg (qz _))))) (qe (qm jH)) qr)
 (qc (jQ (pv 3) (qce rfl (jI (qt (i:=4) Kp.nd rfl (yK rfl)) (jI (qt (i:=5) Kp.nd rfl (yK rfl)) (jI (qt (i:=6) Kp.nd rfl (yK rfl)) qbn)))))
 (qc (qH (PW.pt (zK (qX (qO (qj (j8 (K:=K) rfl) rfl T.b_isinstance Ym (qa (pv 4) (qa (qY (v:=.ty "int") rfl T.b_int boot_int rfl) qd))))) (zK (qO (qj (j8 (K:=K) rfl) rfl T.b_isinstance Ym (qa (pv 4) (qa (qY (v:=.ty "bool") rfl T.b_bool boot_bool rfl) qd)))) (zn (qk (k_notinT (K:=K) rfl d) (pv 4) (qZ (qa qg (qa qg qd))) (by with_unfolding_all rfl)))))) (qe (qm jH)) qr)
 (qc (qo (i:=7) Kp.nd rfl (yK rfl) (qp uv (hmR hr) qB (qa (pv 0) (qa (pv 1) (qa (pv 5) qd)))))
 (qc (qH (PW.pt (zK (qk qfE (pv 7) ju (qz _)) (zK (qX (qO (qj (j8 (K:=K) rfl) rfl T.b_isinstance Ym (qa (pv 6) (qa (qY (v:=.ty "list") rfl T.b_list xz rfl) qd))))) (zn (qk (zO (K:=K) rfl d) (jh (sc:=qh jG) (XN:=["_law_names_here","_law_ties","_law_start","_law_thing","_law_hand","_law_pairs","_law_bar","_law_used_here","_law_numbers","_law_pieces"]) ["_law_one","_law_names_here"] 1 [0] rfl rfl rfl (by room) rfl (by room)
  (qR (K:=K) rfl (pv 6)) (fun _ _ _ _=>(qt (i:=0) (show(["_law_one","_law_names_here"]:LS).Nodup by room) rfl (yK rfl))) qN
  (fun _ _ _ _=>(q8 (qk (jB (K:=K) rfl d) (pv 0) (pv 1) (by with_unfolding_all rfl))))
  (fun _ _ _ _=>(pv 0))) (qQ qd) (qz _)))))) (qe (qm jH)) qr)
 (qc (zN (sc:=qh jG) (XN:=["_law_names_here","_law_ties","_law_start","_law_thing","_law_hand","_law_pairs","_law_bar","_law_used_here","_law_numbers","_law_pieces"]) ["_law_one","_law_names_here"] 1 [0] rfl rfl rfl (by room) rfl (by room) (i:=8) Kp.nd rfl rfl
  (qR (K:=K) rfl (pv 6)) (fun _ _ _ _=>(qt (i:=0) (show(["_law_one","_law_names_here"]:LS).Nodup by room) rfl (yK rfl))) qN
  (fun _ _ _ _=>jA)
  (fun _ _ _ _=>(qa4 (K:=K) rfl yL Yz YI (qad (K:=K) rfl) (pv 1) (qa (pv 0) qd))))
 (qc (qo (i:=9) Kp.nd rfl (yK rfl) (qp Uy (hmR hr) qB (qa (qj (jK (K:=K) rfl) rfl T.b_len YC (qa (pv 0) qd)) (qa (pv 1) (qa (pv 8) qd)))))
 (qc (qH (PW.pt (zK (qk (zO (K:=K) rfl d) (qj (k_lenS) rfl T.b_len YC (qa (jq (k_setI (K:=K) rfl rfl) rfl T.b_set boot_set (qa (pv 8) qd)) qd)) (qj (jK (K:=K) rfl) rfl T.b_len YC (qa (pv 8) qd)) (qz _)) (zn (qk (zO (K:=K) rfl d) (qG zZ (qj (jK (K:=K) rfl) rfl T.b_len YC (qa (pv 9) qd)) (qj (jK (K:=K) rfl) rfl T.b_len YC (qa (pv 8) qd))) (qG zZ (qj (jK (K:=K) rfl) rfl T.b_len YC (qa (pv 0) qd)) (qj (jK (K:=K) rfl) rfl T.b_len YC (qa (pv 7) qd))) (qz _))))) (qe (qm jH)) qr)
 (qc (qH (qk (j3 (K:=K) rfl d) (pv 4) qg (qz _)) (qe (qm (jg (jB (K:=K) rfl d) (pv 2) (pv 7) (by with_unfolding_all rfl)))) qr)
 (qe (qm (jg (j3 (K:=K) rfl d) (jh (sc:=qh jG) (XN:=["_law_names_here","_law_ties","_law_start","_law_thing","_law_hand","_law_pairs","_law_bar","_law_used_here","_law_numbers","_law_pieces"]) ["_law_piece","_law_start"] 1 [2] rfl rfl rfl (by room) rfl (by room)
  (qR (K:=K) rfl (pv 9)) (fun _ _ _ _=>(qt (i:=0) (show(["_law_piece","_law_start"]:LS).Nodup by room) rfl (yK rfl))) qN
  (fun _ _ _ _=>(q8 (qk (zC (K:=K) rfl d) (pv 1) (pv 0) (by with_unfolding_all rfl))))
  (fun _ _ _ _=>(pv 0))) (qQ qd) (qz _))))))))))))),?_⟩
  apply qaz (.inl (.tup ht)) rfl (jw K "tuple" (by simp) "tuple" (by simp)) ?_;apply yq ?_;apply qeb ht ?_;apply .inl ⟨rfl,rfl,?_⟩;apply yq ?_;apply vAsgT ?_;apply⟨t,_,rfl,.of ht,rfl,_,_,rfl,_,_,rfl,_,_,rfl,rfl,?_⟩;apply qaz (.inl (.int L)) rfl (jw K "int" (by simp) "int" (by simp)) ?_;apply yq ?_;apply qaz (.inl (.int L)) rfl (jw K "int" (by simp) "bool" (by simp)) ?_;apply yq ?_;apply⟨by show 2<=sizeLine;decide,fun t2 al=>?_⟩;have s1:=qF (Sr H) (o:=.tup [.int 0,.int 1]) al;have e1:upd H t2 (.tup [.int 0,.int 1]) t2=some (.tup [.int 0,.int 1]):=qb;generalize upd H t2 (.tup [.int 0,.int 1])=H1 at s1 e1;show⟨t2,_,fun z=>eqV z (.int L),1,rfl,.of e1,by decide,fun z hz=>?_,?_⟩
  .rcases yA.mp hz with rfl | hz
   .show .flat rfl rfl
   .rw [yz.mp hz];show .flat rfl rfl
  have e2:([V.int 0,.int 1].any fun z=>eqV z (.int L))=true:=by
   rcases af with rfl | rfl<;>decide
  rw[e2];apply yq ?_;apply⟨n,lt,l,ss,ts,TI,tps,ls,rs,rfl,D.same s1,hP.same s1,O.1.g,fun r H2 s2 ai=>?_⟩;have I:=s1.trans s2;have D2:=D.same I;have p:=I _ _ ha;apply qgc ?_;rw[yl (fun z=>by cases z)];apply yq ?_;apply qaz (.inl (.lst p)) rfl (jw K "list" (by simp) "list" (by simp)) ?_;apply yq ?_;ext;have U:∀ s∈heQ tps ss ns,s∈ss:=fun s hs=>qeL hs;have as:(heQ tps ss ns).length<=ss.length:=yW _ _;have au:(hgN tps ss ns).length=(heQ tps ss ns).length:=ya _;show .inl ⟨⟨_,.of p⟩,qK (xs:=(heQ tps ss ns).map V.str) (fun i ys J=>J=H2/\ys=[]) ⟨rfl,rfl⟩ (fun i ys J _ b=>by rw[b.1];show .of p) (fun i y ys J C b=>?_) fun ys J b=>?_⟩
  .obtain⟨rfl,rfl⟩:=b;obtain⟨sy,N,rfl⟩:=jU C;apply qcc D2.n ?_;rw[yD (U sy (ye N))];apply qL (fun h=>by cases h) fun _=>⟨rfl,rfl⟩
  .obtain⟨rfl,rfl⟩:=b;show⟨by show 0<=sizeLine;decide,fun z1 am=>?_⟩;have s3:=qF (Sr J) (o:=.lst []) am;have e3:upd J z1 (.lst []) z1=some (.lst []):=qb;generalize upd J z1 (.lst [])=H3 at s3 e3;apply⟨by show 0<=sizeLine;decide,fun z2 an=>?_⟩;have s4:=qF (Sr H3) (o:=.lst []) an;have e4:upd H3 z2 (.lst []) z2=some (.lst []):=qb;generalize upd H3 z2 (.lst [])=H4 at s4 e4;show ne_nilN (s4 _ _ e3) e4 ?_;apply yq ?_;have B:=s3.trans s4;have R:=B _ _ p;have M:=D2.same B;have aj:=B _ _ ai;apply .inl ⟨⟨_,.of R⟩,qK (xs:=(heQ tps ss ns).map V.str) (fun i ys J=>J=H4/\ys=(((heQ tps ss ns).take i).map ss.idxOf).map iV) ⟨rfl,rfl⟩ (fun i ys J _ b=>by rw[b.1];show .of R) (fun i y ys J C b=>?_) fun ys J b=>?_⟩
   .obtain⟨rfl,rfl⟩:=b;obtain⟨sy,N,rfl⟩:=jU C;have av:=(yc.mp N).1;apply zm ?_;apply⟨.inl ⟨rfl,_,.of M.n⟩,?_⟩;apply⟨n,ss,_,rfl,rfl,.of M.n,U sy (ye N),?_⟩;show⟨by rw[ya,ya,yT];show qi (by lk),rfl,by rw[yR,N,yx,yx];rfl⟩
   .obtain⟨rfl,rfl⟩:=b;rw[show((heQ tps ss ns).map V.str).length=(heQ tps ss ns).length from ya _,yQ,show(heQ tps ss ns).map ss.idxOf=hgN tps ss ns from rfl];show⟨by rw[ya];show yV (qi (by lk)),fun lb ag=>?_⟩;have s5:=qF (Sr J) (o:=.lst ((hgN tps ss ns).map iV)) ag;have e5:upd J lb (.lst ((hgN tps ss ns).map iV)) lb=some (.lst ((hgN tps ss ns).map iV)):=qb;generalize upd J lb (.lst ((hgN tps ss ns).map iV))=H5 at s5 e5;apply qac (M.same s5).n ?_;rw[ya];apply⟨lt,lb,ss.length,ts,TI,hgN tps ss ns,rfl,few,(M.same s5).i,e5,fun lo us ps H6 s6 G hA hO aw=>?_⟩;obtain⟨c1,c2⟩:=paper_ok W D.j D.e hM O.1 hO;have Z:=hA.len;have ae:=hg_nd (tps:=tps) (ns:=ns) D.o.nd;have e6:=s6 _ _ e5;have X:=(s5.trans s6) _ _ aj;have ar:=s5.trans s6;have aq:(nuQ ss rs).length=2*rs.length:=by unfold nuQ;rw[ya,jW]
    ext;have ad:(hgN tps ss ns).map iV=((hgN tps ss ns).map fun k=>((k:Nat):Int)).map V.int:=by rw[kS];rfl
    show⟨lb,(hgN tps ss ns).map fun k=>((k:Nat):Int),rfl,.of (by rw[e6,ad]),Y2.mpr (ae.imp fun h e=>h (by lk)),by rw[ya];lk,fun sx S ak=>?_⟩;rw[ya];have m:=qF (Sr H6) (o:=.set S (hgN tps ss ns).length) ak;have e7:upd H6 sx (.set S (hgN tps ss ns).length) sx=some (.set S (hgN tps ss ns).length):=qb;generalize upd H6 sx (.set S (hgN tps ss ns).length)=H7 at m e7;have aa:=ar.trans m;have D7:=M.same aa;apply⟨sx,S,_,rfl,e7,?_⟩;apply qac (m _ _ e6) ?_;rw[ya];show qgt ?_;rw[yD rfl];apply yq ?_;apply qac (m _ _ G) ?_;rw[ya];apply qac (m _ _ e6) ?_;rw[ya];apply qac D7.n ?_;rw[ya];apply qac (m _ _ X) ?_;rw[ya,aq];apply qgt ?_;rw[yD (by rw[Z];lk)];apply yq ?_;have ac:=I.trans (B.trans aa);apply qaH ?_;ext;rcases O.2 with⟨rfl,A⟩ | ⟨rfl,A⟩
    .show zm ?_;apply qaI (m _ _ X) ?_
     have ah:k∉nuQ ss rs:=fun z=>by
      obtain⟨y,C,e⟩:=yN.mp z;obtain⟨qq,hq,hm⟩:=YY.mp C;have hg:=O.1.g.inn qq hq
      have ey:∀{y:Str},y∈ss->ss.idxOf y=k->y=tn ss k:=fun{y} hs e=>by
       rw[<- e];unfold tn;rw[Yp,yb (yX hs),Yo];rfl
      rcases yA.mp hm with z | z
      .show(A qq hq).1 (by rw[<- z];show ey (z ▸ hg.2.1) e)
      .have z:=yz.mp z;show(A qq hq).2 (by rw[<- z];show ey (z ▸ hg.2.2.1) e)
     rw[yG rfl,yl ah];show q H7 ac
    .show yq ?_;apply .inl ⟨⟨_,.of (m _ _ G)⟩,qK (xs:=us.map V.ref) (fun i ys J=>J=H7/\ys=[]) ⟨rfl,rfl⟩ (fun i ys J _ b=>by rw[b.1];show .of (m _ _ G)) (fun i y ys J C b=>?_) fun ys J b=>?_⟩
     .obtain⟨rfl,rfl⟩:=b;rw[yd] at C;obtain⟨u,Y,rfl⟩:=yn.mp C;have hi:i<(ps.filter odN).length:=by rw[<- Z];show(yc.mp Y).1
      obtain⟨c,hc⟩:∃ c,(ps.filter odN)[i]?=some c:=⟨_,yb hi⟩;have eu:=m _ _ (hA.at_ i u c Y hc).1;apply qaI eu ?_;rw[yC (by decide),yl fun z=>A (c2 c (ye hc) k z)];apply qL (fun h=>by cases h) fun _=>⟨rfl,rfl⟩
     .obtain⟨rfl,rfl⟩:=b;show⟨by show 0<=sizeLine;decide,fun z3 ao=>?_⟩;have s8:=qF (Sr J) (o:=.lst []) ao;have e8:upd J z3 (.lst []) z3=some (.lst []):=qb;generalize upd J z3 (.lst [])=H8 at s8 e8;apply⟨by show 0<=sizeLine;decide,fun z4 ap=>?_⟩;have s9:=qF (Sr H8) (o:=.lst []) ap;show qeK (s9 _ _ e8) qb (q _ (ac.trans (s8.trans s9)))
theorem KO:FnScope ["_law_web_here","_law_names_here","_law_ties","_law_found","_law_k","_law_paper"] ["_law_web_here","_law_names_here","_law_ties"] (qh qay):=fS
def PpA(B:Addr->Prop)(J:Hp)(ss:LS)(ns:LN)(tps:LP)(k:Nat)(t:Addr):Prop:=∃(l a:Addr) (b:Int),J t=some (.tup [.int b,.ref l,.ref a])/\B a/\J a=some (.lst ((heQ tps ss ns).map V.str))/\((b=1/\tn ss k∈loQ tps ss)\/(b=0/\tn ss k∉loQ tps ss))
theorem PpA.same{B:Addr->Prop}{k:Nat}(h:PpA B J ss ns tps k t)(s:L2.Same J J'):PpA B J' ss ns tps k t:=by
 obtain⟨l,a,e,h1,b,c,d⟩:=h;show⟨l,a,e,s _ _ h1,b,s _ _ c,d⟩
inductive spPpsQ(cw:Addr)(vs:List V)(H:Hp)(Q:VK)(E:XK):Prop|mk (x n lt:Addr) (ss:LS) (ns:LN) (ts:LQ) (TI:List (Nat×Nat)) (tps:LP) (_:vs=[.ref x,.ref n,.ref lt]) (_:DwN H n lt ss ts TI tps) (_:W30 cw H x ss ns tps) (_:∀(lp:Addr) (us:LQ) H',L2.Same H H'->H lp=none->H' lp=some (.lst (us.map V.ref))->us.length=ss.length->(∀ k t,us[k]?=some t->PpA (fun a=>H a=none) H' ss ns tps k t)->(0<ss.length->MxE ss tps)->Q (.ref lp) H')
theorem ok_ppsQ(F:Fun K "_law_papers" "_law_papers" qay f fd)(T:Txt K mg cc cw)(uS:DefOk P w K mg base CX0 19 "start_paper" ["web","start"] (spSpQ cw))(K3:DefOk P w K mg base CX0 2 "_law_verdict" ["_law_names_here","_law_ties","_law_start","_law_thing"] (spVdQ cw)):FnOk P w K mg base CX0 20 f fd ["_law_web_here","_law_names_here","_law_ties"] (spPpsQ cw):=by
 show F.ok KO fun _ _ _ _ H vs Q E O h=>?_
 .obtain⟨x,n,lt,ss,ns,ts,TI,tps,rfl,D,W,q⟩:=h;have hu:=zd O;have few:=D.o.few;show⟨_,(qc (qo (i:=3) KO.nd rfl (yK rfl) (qQ qd))
 (qc (jp yZ rfl (jf rfl T.b_range (qa (qj (jK (K:=K) rfl) rfl T.b_len YC (qa (pv 1) qd)) qd)) (qt (i:=4) KO.nd rfl (yK rfl))
 (qc (qo (i:=5) KO.nd rfl (yK rfl) (qp uS (hmR O) qB (qa (pv 0) (qa (qv (qw (K:=K) rfl hu) (pv 1) (pv 4) (fun _ _=>rfl)) qd))))
 (qc (qH (qX (qO (qp K3 (hmR O) qB (qa (pv 1) (qa (pv 2) (qa (pv 4) (qa (pv 5) qd))))))) (qe (qm ju)) qr)
 (qe (qU (qa4 (K:=K) rfl yL Yd Ye qS (pv 3) (qa (pv 5) qd)))))))
 (qe (qm (pv 3))))),?_⟩
  apply⟨by show 0<=sizeLine;decide,fun b p=>?_⟩;have R:=qF (Sr H) (o:=.lst []) p;have e1:upd H b (.lst []) b=some (.lst []):=qb;generalize upd H b (.lst [])=H1 at R e1;apply qac (D.same R).n ?_;rw[ya];show⟨_,rfl,by lk,by lk,?_⟩;rw[Yw];show jZ (lo:=0) (fun i σ J=>L2.Same H J/\∃(us:LQ) (Y Z:Option V),σ=[some (.ref x),some (.ref n),some (.ref lt),some (.ref b),Y,Z]/\J b=some (.lst (us.map V.ref))/\us.length=i/\(∀ k t,us[k]?=some t->PpA (fun a=>H a=none/\a≠b) J ss ns tps k t)/\(0<i->MxE ss tps)) ⟨R,[],_,_,rfl,e1,rfl,(fun k t h=>by simp at h),fun h=>absurd h (Yv 0)⟩ (fun i σ J L N=>?_) fun σ J N=>?_
  .obtain⟨r,us,Y,Z,rfl,s,d,I,_⟩:=N;rw[x0];have DJ:=D.same r;apply qfA DJ.n L ?_;apply⟨x,ss,ns,tps,_,rfl,W.same r,qeD L,fun t l a ls rs u J2 S ht hP j ha hH B=>?_⟩;have X:=r.trans S;apply⟨n,lt,t,l,a,x,i,ss,ns,ts,TI,tps,ls,rs,u,rfl,DJ.same S,(W.same X).1,B,L,ht,hP,ha,hH.v,fun J3 U=>?_⟩;have c:=S.trans U;apply yq ?_;apply⟨.inl ⟨rfl,_,.of (c _ _ s)⟩,?_⟩;apply⟨b,_,_,rfl,rfl,c _ _ s,by rw[ya];show qi (by lk),?_⟩;have C:a≠b:=fun z=>by rw[z,s] at j;cases j
   have g:∀{k t'},PpA (fun a=>H a=none/\a≠b) J3 ss ns tps k t'->PpA (fun a=>H a=none/\a≠b) (upd J3 b (.lst (us.map V.ref++[.ref t]))) ss ns tps k t':=fun{k t'} h=>by
    obtain⟨l,a,u,h1,A,h3,h4⟩:=h;show⟨l,a,u,by rw[qf (zX h1 (c _ _ s) (fun e=>by cases e))];show h1,A,by rw[qf A.2];show h3,h4⟩
   show⟨qaE (r.trans c) p,us++[t],_,_,rfl,by rw[qb,yx];rfl,by rw[yt,d];rfl,fun k t' m=>?_,fun _=>B⟩;by_cases M:k<us.length
   .rw [y0 M] at m;show g ((I k t' m).same c)
   .have y:=(yc.mp m).1;rw[yt] at y;have ek:k=i:=by simp only[yH,YV] at y;lk
    subst ek;rw[yI (by lk),d,XC] at m;cases m;show g ⟨l,a,u,U _ _ ht,⟨r.free j,C⟩,U _ _ ha,hH.2.imp (fun z=>⟨z.1,z.2.1⟩) fun z=>⟨z.1,z.2.1⟩⟩
  .obtain⟨r,us,Y,Z,rfl,s,d,I,B⟩:=N;apply q b us J r p s d (fun k t m=>?_) B;obtain⟨l,a,u,h1,A,G⟩:=I k t m;show⟨l,a,u,h1,A.1,G⟩
theorem Kj:FnScope ["_law_web_here","_law_names_here","_law_ties","_law_papers_here","_law_hand","_law_first","_law_found","_law_used_here","_law_told","_law_right","_law_at","_law_paper","_law_kept"] ["_law_web_here","_law_names_here","_law_ties","_law_papers_here","_law_hand"] (qh jX):=fS
theorem ref_eqD{b:Addr}(h:EqT K H n a b true):EqD K H n (.ref a) (.ref b) true:=by
 by_cases e:a=b
 .subst e;show .self
 .show .deep h e
theorem qah{v:V}(h:zB v=true):EqD K H n v v true:=by
 have:=EqD.flat (K:=K) (H:=H) (n:=n) (x:=v) (y:=v) h h;have e:eqV v v=true:=by cases v<;>simp_all [eqV,zB]
 rwa[e] at this
theorem qeM{b:Addr}(c:H a=some (.tup xs))(hb:H b=some (.tup ys))(hl:xs.length=ys.length)(d:∀(j:Nat) x y,xs[j]?=some x->ys[j]?=some y->EqD K H n x y true):EqT K H (n+1) a b true:=by
 have z:=EqT.tup (K:=K) (H:=H) (n:=n) (e:=fun _=>true) (SqT.of c) (SqT.of hb) d
 have e:((List.range (min xs.length ys.length)).all (fun _=>true)&&xs.length==ys.length)=true:=by
  rw[hl,Y8,k8];show YG.mpr fun _ _=>rfl
 rw[e] at z;show z
theorem eq_consN{z:Addr}{x:V}{Q:VK}(hl:H l=some (.lst (x::xs)))(hz:H z=some (.lst []))(q:Q (.bl false) H):qfu K (.ref l) (.ref z) H Q:=.inl (.inl (.inr (.inl ⟨l,z,false,1,rfl,rfl,by decide,EqT.lstL (SqL.of hl) (SqL.of hz) (by simp),q⟩)))
theorem qeN{b:Addr}{i:Int}{v:V}(e:H a=some (.tup [.int i,v]))(hb:H b=some (.tup [.int i,v]))(hv:zB v=true):EqT K H 1 a b true:=qeM e hb rfl fun j x y c d=>by
 rw[c] at d;cases d
 match j with
 | 0=>cases c;show qah rfl
 | 1=>cases c;show qah hv
 | j+2=>simp at c
theorem three_eqT{b r:Addr}{i:Int}{v:V}(e:H a=some (.tup [.int i,v,.ref l]))(hb:H b=some (.tup [.int i,v,.ref r]))(hv:zB v=true)(h:EqT K H 2 l r true):EqT K H 3 a b true:=qeM e hb rfl fun j x y c d=>by
 match j with
 | 0=>cases c;cases d;show qah rfl
 | 1=>cases c;cases d;show qah hv
 | 2=>cases c;cases d;show ref_eqD h
 | j+3=>simp at c
theorem eqT_ipl2{r:Addr}{TI:List (Nat×Nat)}(h:IPL H l ts TI)(g:IPL H r us TI):EqT K H 2 l r true:=qc3 h.1 g.1 (by rw[h.lenV,g.lenV]) fun j x y c d=>by
 rw[yd] at c d;obtain⟨t,b,rfl⟩:=yn.mp c;obtain⟨u,e,rfl⟩:=yn.mp d;have a:j<TI.length:=by rw[<- h.2.len];show(yc.mp b).1
 have z:=qcJ (K:=K) (h.2.at_ j t _ b (yb a)) (g.2.at_ j u _ e (yb a))
 rwa[yD rfl] at z
noncomputable def ixP(ss:LS)(q:Str×Str):Nat×Nat:=(ss.idxOf q.1,ss.idxOf q.2)
noncomputable def loN(tps:LP)(ss:LS)(n:Nat):LN:=(List.range n).filter fun k=>decide (tn ss k∈loQ tps ss)
theorem qfk(tps:LP)(ss:LS):(loN tps ss ss.length).map (tn ss)=loQ tps ss:=by
 have c:(List.range ss.length).map (tn ss)=ss:=by
  apply List.ext_getElem?;intro k;rw[yd];by_cases h:k<ss.length
  .rw [List.getElem?_range h,qb5 h];rfl
  .rw [List.getElem?_eq_none (by rw[XB];lk),List.getElem?_eq_none (by lk)];rfl
 have a:loQ tps ss=ss.filter fun s=>decide (s∈loQ tps ss):=by
  conv=>lhs;unfold loQ
  show Y3 fun s d=>?_;rw[YA,yO,yO];unfold loQ;rw[yp,yO];show⟨fun z=>⟨d,z⟩,fun z=>z.2⟩
 have b:ss.filter (fun s=>decide (s∈loQ tps ss))=((List.range ss.length).map (tn ss)).filter fun s=>decide (s∈loQ tps ss):=by rw[c]
 conv=>rhs;rw[a,b]
 rw[List.filter_map];rfl
theorem all_paired{rs:LP}(W:Wt cw H x ss ns tps)(g:PrQ ss tps rs)(j:0<ss.length->MxE ss tps)(h:loQ tps ss=[]):2*rs.length=ss.length:=by
 by_cases i:0<ss.length
 .obtain⟨qs,a,c⟩:=j i;have hl:=g.n.trans (qdU W.ir W.wok.nd a c).symm;obtain⟨S,F⟩:=c;have b:=qaX (f:=pt qs) (ss:=ss);have p:=a.cnt W.wok.nd
  have:snL (pt qs) ss=[]:=List.eq_nil_iff_forall_not_mem.mpr fun s m=>by
   obtain⟨d,o⟩:=mem_sn.mp m;have:=(qbS W a F).mpr ⟨d,F.sng s d o⟩;rw[h] at this;cases this
  rw[this] at b;simp only[YV] at b;lk
 .have e:ss=[]:=List.length_eq_zero_iff.mp (by lk)
  have:rs=[]:=List.eq_nil_iff_forall_not_mem.mpr fun q l=>by
   have:=(g.g.inn q l).2.1;rw[e] at this;cases this
  rw[this,e];rfl
theorem ChQ.det{rs e:LP}{n:Int}{v o:V}(a:ChQ ss ns tps h h1 v rs)(b:ChQ ss ns tps h n o e):h1=n/\v=o/\rs=e:=by
 rcases a.2 with⟨d,f,g,i⟩ | ⟨u,r,d,f,g,i,_⟩<;>rcases b.2 with⟨c,j,l,m⟩ | ⟨q,p,c,j,l,m,_⟩
 .show⟨f.trans j.symm,g.trans l.symm,i.det m⟩
 .rw [d] at c;cases c
 .rw [c] at d;cases d
 .rw [d] at c;cases c;show⟨f.trans j.symm,g.trans l.symm,i.det m⟩
inductive spCnQ(cw:Addr)(vs:List V)(H:Hp)(Q:VK)(E:XK):Prop|mk (x n lt lp:Addr) (ss:LS) (ns:LN) (ts us:LQ) (TI:List (Nat×Nat)) (tps:LP) (h:Int) (_:vs=[.ref x,.ref n,.ref lt,.ref lp,.int h]) (_:DwN H n lt ss ts TI tps) (_:W30 cw H x ss ns tps) (_:H lp=some (.lst (us.map V.ref))) (_:us.length=ss.length) (_:(∀ k t,us[k]?=some t->PpA (fun _=>True) H ss ns tps k t)) (_:(0<ss.length->MxE ss tps)) (_:0<=h) (_:h<=1) (_:∀ H',L2.Same H H'->Q (.bl true) H')
inductive T9(cw x n lt lp:Addr)(h:Int)(D:Ends)(σ:L2.St)(J:Hp):Prop|mk (H0:Hp) (t l:Addr) (ls:LQ) (ss:LS) (ns:LN) (tps rs:LP) (h':Int) (v:V) (y5 y7 y8 y10 y11 y12:Option V) (_:σ=[some (.ref x),some (.ref n),some (.ref lt),some (.ref lp),some (.int h),y5,some (.ref t),y7,y8,some (.bl true),y10,y11,y12]) (_:L2.Same H0 J) (_:W30 cw H0 x ss ns tps) (_:0<=h) (_:h<=1) (_:H0 l=none) (_:J t=some (.tup [.int h',v,.ref l])) (_:PL J l ls rs) (_:ChQ ss ns tps h h' v rs) (_:∀ J',L2.Same H0 J'->D.rt (.bl true) J')
theorem ChQ.flat{rs:LP}{v:V}(a:ChQ ss ns tps h h1 v rs):zB v=true:=by
 rcases a.2 with⟨_,_,rfl,_⟩ | ⟨u,r,_,_,rfl,_⟩<;>rfl
theorem ok_cnQ(F:Fun K "_law_chosen" "_law_chosen" jX f fd)(T:Txt K mg cc cw)(uo:DefOk P w K mg base CX0 18 "chosen_by" ["web","hand"] (spChQ cw))(uv:DefOk P w K mg base CX0 1 "_law_used" ["_law_names_here","_law_ties","_law_thing"] spUsQ)(K3:DefOk P w K mg base CX0 2 "_law_verdict" ["_law_names_here","_law_ties","_law_start","_law_thing"] (spVdQ cw)):FnOk P w K mg base CX0 19 f fd ["_law_web_here","_law_names_here","_law_ties","_law_papers_here","_law_hand"] (spCnQ cw):=by
 show F.ok Kj fun _ _ _ _ H vs Q E hr h=>?_
 .obtain⟨x,n,lt,lp,ss,ns,ts,us,TI,tps,h,rfl,D,W,au,cs,hU,hM,h0,h1,q⟩:=h;have m:=zd hr;have few:=D.o.few;obtain⟨TC9,U⟩:∃ t:TS,t=T9 cw x n lt lp h:=⟨_,rfl⟩;show⟨_,(qc (qo (i:=5) Kj.nd rfl (yK rfl) (jJ (qec (K:=K) rfl) (jh (sc:=qh jX) (XN:=["_law_web_here","_law_names_here","_law_ties","_law_papers_here","_law_hand","_law_first","_law_found","_law_used_here","_law_told","_law_right","_law_at","_law_paper","_law_kept"]) ["_law_k","_law_papers_here"] 1 [3] rfl rfl rfl (by room) rfl (by room)
  (jf rfl T.b_range (qa (qj (jK (K:=K) rfl) rfl T.b_len YC (qa (pv 1) qd)) qd)) (fun _ _ _ _=>(qt (i:=0) (show(["_law_k","_law_papers_here"]:LS).Nodup by room) rfl (yK rfl))) qN
  (fun _ _ _ _=>(q8 (qk (j3 (K:=K) rfl m) (qv (qw (K:=K) rfl m) (qv (qw (K:=K) rfl m) (pv 1) (pv 0) (fun _ _=>rfl)) qg (fun _ _=>rfl)) qg (qz _))))
  (fun _ _ _ _=>(pv 0))) zo (jE qg)))
 (qc (qo (i:=6) Kj.nd rfl (yK rfl) (qp uo (hmR hr) qB (qa (pv 0) (qa (pv 4) qd))))
 (qc (qH (PW.pt (zK (qX (qO (qj (j8 (K:=K) rfl) rfl T.b_isinstance Ym (qa (pv 6) (qa (qY (v:=.ty "tuple") rfl T.b_tuple Xf rfl) qd))))) (zn (qk (zO (K:=K) rfl m) (qj (jK (K:=K) rfl) rfl T.b_len YC (qa (pv 6) qd)) qg (qz _))))) (qe (qm jH)) qr)
 (qc (qH (PW.pt (zK (qX (qO (qj (j8 (K:=K) rfl) rfl T.b_isinstance Ym (qa (qv (qw (K:=K) rfl m) (pv 6) qg (fun _ _=>rfl)) (qa (qY (v:=.ty "int") rfl T.b_int boot_int rfl) qd))))) (zn (qO (qj (j8 (K:=K) rfl) rfl T.b_isinstance Ym (qa (qv (qw (K:=K) rfl m) (pv 6) qg (fun _ _=>rfl)) (qa (qY (v:=.ty "bool") rfl T.b_bool boot_bool rfl) qd))))))) (qe (qm jH)) qr)
 (qc (qo (i:=7) Kj.nd rfl (yK rfl) (qp uv (hmR hr) qB (qa (pv 1) (qa (pv 2) (qa (qv (qw (K:=K) rfl m) (pv 6) qg (fun _ _=>rfl)) qd)))))
 (qc (qH (qk qfE (pv 7) ju (qz _)) (qe (qm jH)) qr)
 (qc (zN (sc:=qh jX) (XN:=["_law_web_here","_law_names_here","_law_ties","_law_papers_here","_law_hand","_law_first","_law_found","_law_used_here","_law_told","_law_right","_law_at","_law_paper","_law_kept"]) ["_law_one","_law_other","_law_names_here"] 2 [1] rfl rfl rfl (by room) rfl (by room) (i:=8) Kj.nd rfl rfl
  (qe7 (K:=K) rfl (qv (qw (K:=K) rfl m) (pv 6) qg (fun _ _=>rfl))) (fun _ _ _ _=>(qce (n:=2) rfl (jI (qt (i:=0) (show(["_law_one","_law_other","_law_names_here"]:LS).Nodup by room) rfl (yK rfl)) (jI (qt (i:=1) (show(["_law_one","_law_other","_law_names_here"]:LS).Nodup by room) rfl (yK rfl)) qbn)))) qe8
  (fun _ _ _ _=>jA)
  (fun _ _ _ _=>(qZ (qa (qa4 (K:=K) rfl yL Yz YI (qad (K:=K) rfl) (pv 2) (qa (pv 0) qd)) (qa (qa4 (K:=K) rfl yL Yz YI (qad (K:=K) rfl) (pv 2) (qa (pv 1) qd)) qd)))))
 (qc (qH (qk (zO (K:=K) rfl m) (pv 8) (qj (k_sortR) rfl T.b_sorted boot_sorted (qa (jh (sc:=qh jX) (XN:=["_law_web_here","_law_names_here","_law_ties","_law_papers_here","_law_hand","_law_first","_law_found","_law_used_here","_law_told","_law_right","_law_at","_law_paper","_law_kept"]) ["_law_two"] 1 [] rfl rfl rfl (by room) rfl (by room)
  (qR (K:=K) rfl (pv 8)) (fun _ _ _ _=>(qt (i:=0) (show(["_law_two"]:LS).Nodup by room) rfl (yK rfl))) qN
  (fun _ _ _ _=>jA)
  (fun _ _ _ _=>(qZ (qa (qj (qfa (K:=K) rfl rfl) rfl T.b_min boot_min (qa (pv 0) qd)) (qa (qj (qe9 (K:=K) rfl rfl) rfl T.b_max boot_max (qa (pv 0) qd)) qd))))) qd)) (qz _)) (qe (qm jH)) qr)
 (qc (qH (qk (j3 (K:=K) rfl m) (pv 5) (qQ qd) (qz _)) (qe (qo (i:=9) Kj.nd rfl (yK rfl) (qaC (jg (j3 (K:=K) rfl m) (jJ (qec (K:=K) rfl) (pv 6) zo (jE qg)) (qZ (qa (qG zZ qg (pv 4)) (qa ju qd))) (qz _)) (qaB (jg (j3 (K:=K) rfl m) (qj (jK (K:=K) rfl) rfl T.b_len YC (qa (pv 7) qd)) (qj (jK (K:=K) rfl) rfl T.b_len YC (qa (pv 1) qd)) (qz _)))))) (qc (qo (i:=10) Kj.nd rfl (yK rfl) (qv (qw (K:=K) rfl m) (pv 5) qg (fun _ _=>rfl)))
 (qc (qo (i:=11) Kj.nd rfl (yK rfl) (qZ (qa qg (qa (qv (qw (K:=K) rfl m) (pv 6) qg (fun _ _=>rfl)) (qa (qv (qw (K:=K) rfl m) (qv (qw (K:=K) rfl m) (pv 3) (pv 10) (fun _ _=>rfl)) qg (fun _ _=>rfl)) qd)))))
 (qe (qo (i:=9) Kj.nd rfl (yK rfl) (qaC (jg (j3 (K:=K) rfl m) (jJ (qec (K:=K) rfl) (pv 6) zo (jE qg)) (qZ (qa (pv 4) (qa (qv (qw (K:=K) rfl m) (pv 1) (pv 10) (fun _ _=>rfl)) qd))) (qz _)) (qaB (qp K3 (hmR hr) qB (qa (pv 1) (qa (pv 2) (qa (pv 10) (qa (pv 11) qd))))))))))))
 (qc9 TC9 (qc (qo (i:=12) Kj.nd rfl (yK rfl) (qZ (qa (qv (qw (K:=K) rfl m) (pv 6) qg (fun _ _=>rfl)) (qa (qv (qw (K:=K) rfl m) (pv 6) qg (fun _ _=>rfl)) (qa (jq (qbw (K:=K) rfl rfl) rfl T.b_list xz (qa (qv (qw (K:=K) rfl m) (pv 6) qg (fun _ _=>rfl)) qd)) qd)))))
 (qc (qU (k_bm0 (K:=K) rfl yL PySem.F.slot_list_clear PySem.F.type_list_clear mtR_clear (qv (qw (K:=K) rfl m) (pv 6) qg (fun _ _=>rfl))))
 (qe (qm (qaC (pv 9) (qaB (jg (j3 (K:=K) rfl m) (qp uo (hmR hr) qB (qa (pv 0) (qa (pv 4) qd))) (pv 12) (qz _)))))))) ?cut9)))))))))),?_⟩
  case cut9 =>
   intro D σ J hh;rw[U] at hh;obtain⟨H0,t,l,Y,ss,ns,tps,rs,h',v,y5,y7,y8,ai,aj,ak,rfl,sJ,W,h0,h1,as,A,hP,M,q⟩:=hh;clear hU hM au cs;have cp:=M.1.g.few;have cv:=hP.2.len;apply .inl (zD A (v:=.int h') (qu (j:=0) rfl) ?_);apply .inl (zD A (v:=v) (qu (j:=1) rfl) ?_);apply .inl (zD A (v:=.ref l) (qu (j:=2) rfl) ?_);apply .inl ⟨l,_,rfl,.inl (.of hP.1),fun kk ar=>?_⟩;have s3:=qF (Sr J) (o:=.lst (Y.map V.ref)) ar;have ek:upd J kk (.lst (Y.map V.ref)) kk=some (.lst (Y.map V.ref)):=qb;have ct:kk≠l:=fun z=>by rw[z,hP.1] at ar;cases ar
   generalize upd J kk (.lst (Y.map V.ref))=J3 at s3 ek;apply⟨by show 3<=sizeLine;decide,fun kt ch=>?_⟩;have s4:=qF (Sr J3) (o:=.tup [.int h',v,.ref kk]) ch;have e4:upd J3 kt (.tup [.int h',v,.ref kk]) kt=some (.tup [.int h',v,.ref kk]):=qb;generalize upd J3 kt (.tup [.int h',v,.ref kk])=J4 at s4 e4;have ay:=s3.trans s4;have s:=hP.same ay;apply .inl (zD (ay _ _ A) (v:=.ref l) (qu (j:=2) rfl) ?_);apply⟨.inl ⟨rfl,_,.of s.1⟩,l,_,rfl,rfl,s.1,?_⟩;have s5:L2.Same H0 (upd J4 l (.lst [])):=qaE (sJ.trans ay) as;have bg:PL (upd J4 l (.lst [])) kk Y rs:=⟨by rw[qf ct];show s4 _ _ ek,s.2.mono fun u ab z=>by rw[qf (zX z s.1 (fun e=>by cases e))];show z⟩;have e5:upd J4 l (.lst []) kt=some (.tup [.int h',v,.ref kk]):=by rw[qf (zX e4 s.1 (fun e=>by cases e))];show e4
   generalize upd J4 l (.lst [])=J5 at s5 bg e5;apply zm ?_;apply⟨x,ss,ns,tps,h,rfl,W.same s5,h0,h1,fun t2 l2 cy da h2 v2 J6 s6 cq _ bw bu=>?_⟩;obtain⟨rfl,rfl,rfl⟩:=M.det bu;apply .inl (.inl (.inr (.inl ⟨t2,kt,true,3,rfl,rfl,by decide,three_eqT cq (s6 _ _ e5) M.flat (eqT_pl bw (bg.same s6)),q _ (s5.trans s6)⟩)))
  apply qac D.n ?_;rw[ya];show⟨_,rfl,by lk,by lk,?_⟩;rw[Yw];show jS (lo:=0) (fun i ys J=>J=H/\ys=(loN tps ss i).map iV) ⟨rfl,rfl⟩ (fun i ys J hi I=>?_) fun ys J I=>?_
  .obtain⟨rfl,rfl⟩:=I;rw[x0];obtain⟨t,A⟩:∃ t,us[i]?=some t:=⟨_,yb (by lk)⟩;obtain⟨l,a,hd,e1,_,e2,e3⟩:=hU i t A;apply .inl (zY au (v:=.ref t) (qu (by rw[yd,A];rfl)) ?_);apply .inl (zD e1 (v:=.int hd) (qu (j:=0) rfl) ?_);apply qaH ?_
   have ed:decide (hd=1)=decide (tn ss i∈loQ tps ss):=by
    rcases e3 with⟨rfl,z⟩ | ⟨rfl,z⟩
    .rw [yD z];rfl
    .rw [yl z];rfl
   rw[ed];have e0:loN tps ss (i+1)=loN tps ss i++if decide (tn ss i∈loQ tps ss)=true then [i] else []:=by unfold loN;show qcb _ i
   have l1:(loN tps ss i).length<=i:=qa8 _ i;rw[e0];apply qL (fun h=>?_) fun h=>?_
   .rw [yG h];apply⟨by rw[ya];show qi (by lk),rfl,by rw[yx];rfl⟩
   .rw [yC h,Yb];show⟨rfl,rfl⟩
  .obtain⟨rfl,rfl⟩:=I;have l1:(loN tps ss ss.length).length<=ss.length:=qa8 _ _;show⟨by rw[ya];show yV (qi (by lk)),fun g0 cd=>?_⟩;have s1:=qF (Sr J) (o:=.lst ((loN tps ss ss.length).map iV)) cd;have e1:upd J g0 (.lst ((loN tps ss ss.length).map iV)) g0=some (.lst ((loN tps ss ss.length).map iV)):=qb;generalize upd J g0 (.lst ((loN tps ss ss.length).map iV))=H1 at s1 e1;apply .inl ⟨g0,_,rfl,.of e1,fun g1 ce=>?_⟩
   have bi:qco ((loN tps ss ss.length).map iV) none (some 1)=((loN tps ss ss.length).take 1).map iV:=by
    have:=qae ((loN tps ss ss.length).map iV) 1;rw[show((1:Nat):Int)=1 from rfl] at this;rw[this,List.map_take]
   rw[bi];have s2:=qF (Sr H1) (o:=.lst (((loN tps ss ss.length).take 1).map iV)) ce;have e2:upd H1 g1 (.lst (((loN tps ss ss.length).take 1).map iV)) g1=some (.lst (((loN tps ss ss.length).take 1).map iV)):=qb;generalize upd H1 g1 (.lst (((loN tps ss ss.length).take 1).map iV))=H2 at s2 e2;have aw:=s1.trans s2;apply⟨x,ss,ns,tps,h,rfl,W.same aw,h0,h1,fun t l Y rs h' v H3 s3 A as hP M=>?_⟩;have bp:=aw.trans s3;have D3:=D.same bp;apply qaz (.inl (.tup A)) rfl (jw K "tuple" (by simp) "tuple" (by simp)) ?_;apply yq ?_;apply qeb A ?_;apply .inl ⟨rfl,rfl,?_⟩;apply yq ?_;apply .inl (zD A (v:=.int h') (qu (j:=0) rfl) ?_);apply qaz (.inl (.int h')) rfl (jw K "int" (by simp) "int" (by simp)) ?_;apply yq ?_;apply .inl (zD A (v:=.int h') (qu (j:=0) rfl) ?_);apply qaz (.inl (.int h')) rfl (jw K "int" (by simp) "bool" (by simp)) ?_;apply yq ?_;apply .inl (zD A (v:=.ref l) (qu (j:=2) rfl) ?_);apply⟨n,lt,l,ss,ts,TI,tps,Y,rs,rfl,D3,hP,M.1.g,fun r H4 s4 cn=>?_⟩;have D4:=D3.same s4;have s:=hP.same s4;have cr:=s4 _ _ A;have cu:(nuQ ss rs).length=2*rs.length:=by unfold nuQ;rw[ya,jW]
   apply qgc ?_;rw[yl (fun z=>by cases z)];apply yq ?_;ext;have cp:rs.length<=30:=M.1.g.few;have cj:=s.2.len;show qf1 ?_;apply .inl (zD cr (v:=.ref l) (qu (j:=2) rfl) ?_);show⟨l,_,rfl,.of s.1,qK (xs:=Y.map V.ref) (fun i ys G=>L2.Same H4 G/\∃ ts:LQ,ys=ts.map V.ref/\All2 (fun t q=>G t=some (iT q)) ts ((rs.take i).map (ixP ss))) ⟨L2.Same.refl _,[],rfl,.nil⟩ (fun i ys G _ I=>.of (I.1 _ _ s.1)) (fun i y ys G hy I=>?_) fun ys G I=>?_⟩
   .obtain⟨sG,C,rfl,hA⟩:=I;rw[yd] at hy;obtain⟨u,X,rfl⟩:=yn.mp hy;have cg:=(yc.mp X).1;obtain⟨⟨c,d⟩,aq⟩:∃ q,rs[i]?=some q:=⟨_,yb (by lk)⟩;have eu:=sG _ _ (s.2.at_ i u _ X aq);obtain⟨_,mc,md,_⟩:=M.1.g.inn _ (ye aq);dsimp only at eu mc md;have ad:=sG _ _ D4.n;show⟨u,_,rfl,.of eu,rfl,_,_,rfl,_,_,rfl,rfl,?_⟩;apply zm ?_;apply⟨.inl ⟨rfl,_,.of ad⟩,?_⟩;apply⟨n,ss,c,rfl,rfl,.of ad,mc,?_⟩;apply⟨.inl ⟨rfl,_,.of ad⟩,?_⟩;apply⟨n,ss,d,rfl,rfl,.of ad,md,?_⟩;apply⟨by show 2<=sizeLine;decide,fun t A=>?_⟩;have s5:=qF (Sr G) (o:=.tup [.int (ss.idxOf c:Nat),.int (ss.idxOf d:Nat)]) A;have aa:=hA.len;rw[ya,yT] at aa;show⟨by rw[ya];show qi (by lk),sG.trans s5,C++[t],by rw[yx];rfl,?_⟩;rw[yR,aq,yx];show(hA.mono fun _ _ z=>s5 _ _ z).snoc qb
   .obtain⟨sG,C,rfl,hA⟩:=I;rw[show(Y.map V.ref).length=rs.length by rw[ya,cj],yQ] at hA;have aa:=hA.len;rw[ya] at aa;show⟨by rw[ya];show yV (qi (by lk)),fun g hg=>?_⟩;have s5:=qF (Sr G) (o:=.lst (C.map V.ref)) hg;have eg:upd G g (.lst (C.map V.ref)) g=some (.lst (C.map V.ref)):=qb;have am:=hA.mono fun _ _ z=>s5 _ _ z;generalize upd G g (.lst (C.map V.ref))=G1 at s5 eg am;have bq:=sG.trans s5;have bv:IPL G1 g C (rs.map (ixP ss)):=⟨eg,am⟩;apply .inl ⟨⟨_,.of eg⟩,qK (xs:=C.map V.ref) (fun i ys G=>L2.Same G1 G/\∃ ts:LQ,ys=ts.map V.ref/\All2 (fun t q=>G t=some (iT q)) ts ((rs.take i).map (ixP ss))) ⟨L2.Same.refl _,[],rfl,.nil⟩ (fun i ys G _ I=>.of (I.1 _ _ eg)) (fun i y ys G hy I=>?_) fun ys G I=>?_⟩
    .obtain⟨ah,p,rfl,N⟩:=I;rw[yd] at hy;obtain⟨u,X,rfl⟩:=yn.mp hy;have cg:=(yc.mp X).1;obtain⟨q0,B⟩:∃ q,rs[i]?=some q:=⟨_,yb (by lk)⟩;have eu:=ah _ _ (am.at_ i u (ixP ss q0) X (by rw[yd,B];rfl));have cx:=M.1.up.1 q0 (ye B);obtain⟨k1,k2⟩:=mmI (ss.idxOf q0.1) (ss.idxOf q0.2);rw[XW (by lk)] at k1;rw[kM (by lk)] at k2;apply zm ?_;apply⟨u,((ss.idxOf q0.1:Nat):Int),((ss.idxOf q0.2:Nat):Int),rfl,.inr eu,?_⟩;dsimp only;rw[k1];apply⟨u,((ss.idxOf q0.1:Nat):Int),((ss.idxOf q0.2:Nat):Int),rfl,.inr eu,?_⟩;dsimp only;rw[k2];apply⟨by show 2<=sizeLine;decide,fun t A=>?_⟩;have s6:=qF (Sr G) (o:=.tup [.int (ss.idxOf q0.1:Nat),.int (ss.idxOf q0.2:Nat)]) A;have S:=N.len;rw[ya,yT] at S;show⟨by rw[ya];show qi (by lk),ah.trans s6,p++[t],by rw[yx];rfl,?_⟩;rw[yR,B,yx];show(N.mono fun _ _ z=>s6 _ _ z).snoc qb
    .obtain⟨ah,p,rfl,N⟩:=I;rw[show(C.map V.ref).length=rs.length by rw[ya,aa],yQ] at N;have S:=N.len;rw[ya] at S;show⟨by rw[ya];show yV (qi (by lk)),fun g2 cf=>?_⟩;have s6:=qF (Sr G) (o:=.lst (p.map V.ref)) cf;have e6:upd G g2 (.lst (p.map V.ref)) g2=some (.lst (p.map V.ref)):=qb;have an:=N.mono fun _ _ z=>s6 _ _ z;generalize upd G g2 (.lst (p.map V.ref))=G2 at s6 e6 an;apply⟨g2,p,(rs.map (ixP ss)).map fun q=>((q.1:Int),(q.2:Int)),rfl,e6,by lk,by rw[ya,ya];lk,fun j t q A hq=>?_,fun j a b ha hb=>?_,fun l2 ci=>?_⟩
     .rw [yd] at hq;obtain⟨q',cm,rfl⟩:=yn.mp hq;show an.at_ j t q' A cm
     .rw [yd,yd] at ha hb;obtain⟨a',bx,rfl⟩:=yn.mp ha;obtain⟨b',ca,rfl⟩:=yn.mp hb;obtain⟨a2,bz,rfl⟩:=yn.mp bx;obtain⟨b2,cb,rfl⟩:=yn.mp ca;have:=M.1.up.2 j a2 b2 bz cb;show((ss.idxOf a2.1:Nat):Int)<((ss.idxOf b2.1:Nat):Int);lk
     have s7:=qF (Sr G2) (o:=.lst (p.map V.ref)) ci;have e7:upd G2 l2 (.lst (p.map V.ref)) l2=some (.lst (p.map V.ref)):=qb;generalize upd G2 l2 (.lst (p.map V.ref))=G3 at s7 e7;have ax:=ah.trans (s6.trans s7);show .inr (.inl ⟨g,l2,true,2,rfl,rfl,by decide,eqT_ipl2 (bv.same ax) ⟨e7,an.mono fun _ _ z=>s7 _ _ z⟩,?_⟩);apply yq ?_;have af:=s4.trans (bq.trans ax);have Z:=bp.trans af;have ae:=af _ _ A;have bf:=hP.same af;have D7:=D.same Z;have br:=(s3.trans af) _ _ e2;have co:=(bq.trans ax) _ _ cn;have be:∀(y5 y7 y8 ai aj ak:Option V) (J':Hp),L2.Same G3 J'->T9 cw x n lt lp h { nx:=fun x H'=>Q V.non H',rt:=Q } [some (.ref x),some (.ref n),some (.ref lt),some (.ref lp),some (.int h),y5,some (.ref t),y7,y8,some (.bl true),ai,aj,ak] J':=fun y5 y7 y8 ai aj ak J' sJ=>⟨J,t,l,Y,ss,ns,tps,rs,h',v,y5,y7,y8,ai,aj,ak,rfl,Z.trans sJ,W,h0,h1,aw.free as,sJ _ _ ae,bf.same sJ,M,q⟩;apply⟨by show 0<=sizeLine;decide,fun z hz=>?_⟩;have s8:=qF (Sr G3) (o:=.lst []) hz;have e8:upd G3 z (.lst []) z=some (.lst []):=qb;generalize upd G3 z (.lst [])=G4 at s8 e8;have R:=s8 _ _ br;have ac:=qfk tps ss;have bj:∀ k∈loN tps ss ss.length,k<ss.length:=fun k hk=>YT.mp (yp.mp hk).1
     have al:∀(v2:V),qco [.int h',v2,.ref l] none (some 2)=[.int h',v2]:=fun v2=>by
      have:=qae [.int h',v2,.ref l] 2;rw[show((2:Nat):Int)=2 from rfl] at this;rw[this];rfl
     cases bm:loN tps ss ss.length with
     | nil =>
      rw[bm] at R ac;have B:loQ tps ss=[]:=ac.symm;rcases M.2 with⟨_,rfl,rfl,_⟩ | ⟨u,rr,z,_⟩
      .show qeK R e8 ?_;apply zm ?_;apply .inr ⟨t,_,rfl,.of (s8 _ _ ae),(by show ¬ (HT.sIx 3 0 none=0/\HT.sIx 3 3 (some 2)=3);decide),fun c1 ao=>?_⟩;rw[al];have s9:=qF (Sr G4) (o:=.tup [.int (1-h),.non]) ao;have e9:upd G4 c1 (.tup [.int (1-h),.non]) c1=some (.tup [.int (1-h),.non]):=qb;generalize upd G4 c1 (.tup [.int (1-h),.non])=G5 at s9 e9;apply⟨by show 2<=sizeLine;decide,fun c2 ap=>?_⟩;have L:=qF (Sr G5) (o:=.tup [.int (1-h),.non]) ap;have O:upd G5 c2 (.tup [.int (1-h),.non]) c2=some (.tup [.int (1-h),.non]):=qb;generalize upd G5 c2 (.tup [.int (1-h),.non])=G6 at L O;show .inl (.inl (.inr (.inl ⟨c1,c2,true,1,rfl,rfl,by decide,qeN (L _ _ e9) O rfl,?_⟩)));show⟨true,rfl,zm ?_⟩;have az:=s8.trans (s9.trans L);apply qac (az _ _ co) ?_;rw[ya,cu];apply qac (D7.same az).n ?_;rw[ya];show qaH ?_;rw[yD (by rw[all_paired W.1 M.1 hM B])];ext;rw[U];show be _ _ _ _ _ _ G6 az
      .rw [B] at z;cases z
     | cons at_ r9 =>
      rw[bm] at R ac bj;have B:loQ tps ss=tn ss at_::r9.map (tn ss):=ac.symm;have bh:=bj at_ yE;rcases M.2 with⟨z,_⟩ | ⟨u,rr,z,rfl,rfl,_,ck⟩
      .rw [B] at z;cases z
      rw[B] at z;have eu:u=tn ss at_:=by injection z with z1 _;show z1.symm
      subst eu;show eq_consN R e8 ?_;apply yq ?_;apply .inl (zY R (v:=iV at_) (qu (j:=0) rfl) ?_);ext;obtain⟨tt,bn⟩:∃ tt,us[at_]?=some tt:=⟨_,yb (by lk)⟩;obtain⟨pl,pa,cz,p1,_,p2,_⟩:=(hU at_ tt bn).same (Z.trans s8);show .inl (zD (s8 _ _ ae) (v:=.ref l) (qu (j:=2) rfl) ?_);apply .inl (zY ((Z.trans s8) _ _ au) (v:=.ref tt) (qu (by rw[yd,bn];rfl)) ?_);apply .inl (zD p1 (v:=.ref pa) (qu (j:=2) rfl) ?_);apply⟨by show 3<=sizeLine;decide,fun pp cl=>?_⟩;have s9:=qF (Sr G4) (o:=.tup [.int 1,.ref l,.ref pa]) cl;have e9:upd G4 pp (.tup [.int 1,.ref l,.ref pa]) pp=some (.tup [.int 1,.ref l,.ref pa]):=qb;generalize upd G4 pp (.tup [.int 1,.ref l,.ref pa])=G5 at s9 e9;have ba:=s8.trans s9;apply .inr ⟨t,_,rfl,.of (ba _ _ ae),(by show ¬ (HT.sIx 3 0 none=0/\HT.sIx 3 3 (some 2)=3);decide),fun c1 ao=>?_⟩;rw[al];have L:=qF (Sr G5) (o:=.tup [.int h',.str (tn ss at_)]) ao;have O:upd G5 c1 (.tup [.int h',.str (tn ss at_)]) c1=some (.tup [.int h',.str (tn ss at_)]):=qb;generalize upd G5 c1 (.tup [.int h',.str (tn ss at_)])=G6 at L O;apply qfA (D7.same (ba.trans L)).n bh ?_;apply⟨by show 2<=sizeLine;decide,fun c2 ap=>?_⟩;have av:=qF (Sr G6) (o:=.tup [.int h',.str (tn ss at_)]) ap;have bd:upd G6 c2 (.tup [.int h',.str (tn ss at_)]) c2=some (.tup [.int h',.str (tn ss at_)]):=qb;generalize upd G6 c2 (.tup [.int h',.str (tn ss at_)])=G7 at av bd;show .inl (.inl (.inr (.inl ⟨c1,c2,true,1,rfl,rfl,by decide,qeN (av _ _ O) bd rfl,?_⟩)));show⟨true,rfl,zm ?_⟩;have bc:=L.trans av;have ag:=ba.trans bc;apply⟨n,lt,pp,l,pa,x,at_,ss,ns,ts,TI,tps,Y,rs,1,rfl,D7.same ag,(W.same (Z.trans ag)).1,hM (by lk),bh,bc _ _ e9,bf.same ag,(s9.trans bc) _ _ p2,⟨M.1,.inl ⟨rfl,ck⟩⟩,fun G8 bo=>?_⟩;ext;rw[U];show be _ _ _ _ _ _ G8 (ag.trans bo)
theorem KA:FnScope ["_law_script","_law_k","_law_state","_law_names_here","_law_ties","_law_web_here","_law_papers_here","_law_due","_law_hand","_law_found","_law_turn"] ["_law_script"] (qh qcK):=fS
inductive spLaw(K:W.Frag)(vs:List V)(H:Hp)(Q:VK)(E:XK):Prop|mk (a:Addr) (ns:LX) (_:vs=[.ref a]) (_:SqL K H a (ns.map V.int)) (_:ns.length<=63) (_:∀ H',Q (.bl true) H')
theorem pair_len:∀{l m:LP},l.Nodup->(∀ x∈l,x∈m)->l.length<=m.length:=fun a h=>a.length_le_of_subset fun x b=>h x b
theorem qeO{TI:List (Nat×Nat)}(W:Wt cw H x ss ns tps)(c:TJ ss.length TI)(f:TEq ss TI tps):(qE ss ns ss.length).length<=30:=by
 show yi (pair_len (m:=TI.map fun q=>(tn ss q.1,tn ss q.2)) (qeu W.wok) fun ab h=>?_) (by rw[ya];show c.1);obtain⟨z,i,j,g,d,e⟩:=(zr W.wok W.adj (a:=ab.1) (b:=ab.2)).mp h
 have at_:∀{i:Nat} {s:Str},ss[i]?=some s->tn ss i=s:=fun{i s} h=>by
  have hl:=(yc.mp h).1;rw[qb5 hl] at h;show ym h
 rcases(f i j _ _ d e).mp z with y | y
 .show yN.mpr ⟨(i,j),y,xI (at_ d) (at_ e)⟩
 .have:=(c.2.1 _ y).1;dsimp only at this;lk
structure LK(cw p x n lt lp:Addr)(ss:LS)(ns:LN)(ts us:LQ)(TI:List (Nat×Nat))(tps:LP)(J:Hp):Prop where
 bx:Box J p
 d:DwN J n lt ss ts TI tps
 np:n≠p
 tp:lt≠p
 kw:∀ J',BB p J J'->Wt cw J' x ss ns tps
 pl:J lp=some (.lst (us.map V.ref))
 pp:lp≠p
 ul:us.length=ss.length
 pa:∀ k t,us[k]?=some t->PpA (fun a=>a≠p) J ss ns tps k t
 m:0<ss.length->MxE ss tps
section
variable{cw p x n lt lp:Addr}{ss:LS}{ns:LN}{ts us:LQ}{TI:List (Nat×Nat)}{tps:LP}{J J':Hp}
theorem LK.bb(h:LK cw p x n lt lp ss ns ts us TI tps J)(b:BB p J J'):LK cw p x n lt lp ss ns ts us TI tps J':=⟨b.2,⟨b.1 _ _ h.np h.d.n,h.d.o,h.d.i.bb h.bx b h.tp,h.d.j,h.d.e⟩,h.np,h.tp,fun f g=>h.kw f (b.trans g),b.1 _ _ h.pp h.pl,h.pp,h.ul,fun k t u=>by
 obtain⟨l,a,s,h1,c,q,r⟩:=h.pa k t u;show⟨l,a,s,b.tup h.bx h1,c,b.1 _ _ c q,r⟩,h.m⟩
theorem LK.same(h:LK cw p x n lt lp ss ns ts us TI tps J)(s:L2.Same J J'):LK cw p x n lt lp ss ns ts us TI tps J':=h.bb ((BB.refl h.bx).same s)
theorem LK.w3(h:LK cw p x n lt lp ss ns ts us TI tps J):W30 cw J x ss ns tps:=⟨h.kw J (BB.refl h.bx),qeO (h.kw J (BB.refl h.bx)) h.d.j h.d.e⟩
theorem LK.pt(h:LK cw p x n lt lp ss ns ts us TI tps J):∀ k t,us[k]?=some t->PpA (fun _=>True) J ss ns tps k t:=fun k t d=>by
 obtain⟨l,a,c,h1,_,b⟩:=h.pa k t d;show⟨l,a,c,h1,trivial,b⟩
end
theorem qdO{b:Addr}{ks:LS}(d:H a=some (.lst (ks.map V.str)))(hb:H b=some (.lst (ks.map V.str))):EqT K H (m+1) a b true:=qc3 d hb rfl fun j x y h1 c=>by
 rw[h1] at c;cases c;obtain⟨k,_,rfl⟩:=yN.mp (ye h1);show qah rfl
inductive Sg(a:Addr)(σ:L2.St):Prop|mk (y1 y2 y3 y4 y5 y6 y7 y8 y9 y10:Option V) (_:σ=[some (.ref a),y1,y2,y3,y4,y5,y6,y7,y8,y9,y10])
inductive T108(cw a:Addr)(D:Ends)(σ:L2.St)(J:Hp):Prop|mk (H1:Hp) (p x n lt lp ld:Addr) (ss:LS) (ns:LN) (ts us:LQ) (TI:List (Nat×Nat)) (tps:LP) (hn:Int) (y1 y9 y10:Option V) (_:(∀ σ' J',L2.Same H1 J'->Sg a σ'->D.nx σ' J')) (_:σ=[some (.ref a),y1,some (.ref p),some (.ref n),some (.ref lt),some (.ref x),some (.ref lp),some (.ref ld),some (.int hn),y9,y10]) (_:L2.Same H1 J) (_:LK cw p x n lt lp ss ns ts us TI tps J) (_:J ld=some (.lst ((loQ tps ss).map V.str))) (_:0<=hn) (_:hn<=1)
theorem ok_law56(F:Fun K "law" "law" qcK f fd)(T:Txt K mg cc cw)(Uv:DefOk P w K mg base CX0 1 "_law_cell" ["_law_script","_law_k"] (spCeQ K))(Uq:DefOk P w K mg base CX0 1 "_law_begun" ["_law_cell_here"] spBgQ)(Ke:DefOk P w K mg base CX0 1 "_law_take" ["_law_state","_law_many"] spTake)(Ur:DefOk P w K mg base CX0 3 "_law_drawn" ["_law_state","_law_most"] spDrQ)(Uz:DefOk P w K mg base CX0 7 "_law_web" ["_law_state","_law_names_here","_law_ties"] (spWbQ cw))(Ui:DefOk P w K mg base CX0 20 "_law_papers" ["_law_web_here","_law_names_here","_law_ties"] (spPpsQ cw))(uC:DefOk P w K mg base CX0 19 "_law_chosen" ["_law_web_here","_law_names_here","_law_ties","_law_papers_here","_law_hand"] (spCnQ cw))(KC:DefOk P w K mg base CX0 16 "good_starts" ["web"] (spGsQ cw)):FnOk P w K mg base CX0 21 f fd ["_law_script"] (spLaw K):=by
 show F.ok KA fun _ _ _ _ H vs Q E A h=>?_
 .obtain⟨a,zs,rfl,ha,hl,q⟩:=h;have S:=zd A;obtain⟨TC108,R⟩:∃ t:TS,t=T108 cw a:=⟨_,rfl⟩;show⟨_,(qc (jp yZ rfl (jf rfl T.b_range (qa (qj (qaL rfl) rfl T.b_max boot_max (qa qg (qa (qj (qaM rfl) rfl T.b_min boot_min (qa qg (qa (qj (jK (K:=K) rfl) rfl T.b_len YC (qa (pv 0) qd)) qd))) qd))) qd)) (qt (i:=1) KA.nd rfl (yK rfl))
 (qc (qo (i:=2) KA.nd rfl (yK rfl) (qp Uq (hmR A) qB (qa (qp Uv (hmR A) qB (qa (pv 0) (qa (pv 1) qd))) qd)))
 (qc (jQ (qp Ur (hmR A) qB (qa (pv 2) (qa qg qd))) (pg_tupU rfl (jI (qt (i:=3) KA.nd rfl (Xr rfl)) (jI (qt (i:=4) KA.nd rfl (yK rfl)) qbn))))
 (qc (qo (i:=5) KA.nd rfl (yK rfl) (qp Uz (hmR A) qB (qa (pv 2) (qa (pv 3) (qa (pv 4) qd)))))
 (qc (qo (i:=6) KA.nd rfl (Xr rfl) (qp Ui (hmR A) qB (qa (pv 5) (qa (pv 3) (qa (pv 4) qd)))))
 (qc (qH (qk qfE (pv 6) ju (qz _)) (qe (qm jH)) qr)
 (qc (zN (sc:=qh qcK) (XN:=["_law_script","_law_k","_law_state","_law_names_here","_law_ties","_law_web_here","_law_papers_here","_law_due","_law_hand","_law_found","_law_turn"]) ["_law_k","_law_names_here","_law_papers_here"] 1 [3,6] rfl rfl rfl (by room) rfl (by room) (i:=7) KA.nd rfl rfl
  (jf rfl T.b_range (qa (qj (jK (K:=K) rfl) rfl T.b_len YC (qa (pv 3) qd)) qd)) (fun _ _ _ _=>(qt (i:=0) (show(["_law_k","_law_names_here","_law_papers_here"]:LS).Nodup by room) rfl (yK rfl))) qN
  (fun _ _ _ _=>(q8 (qk (j3 (K:=K) rfl S) (qv (qw (K:=K) rfl S) (qv (qw (K:=K) rfl S) (pv 2) (pv 0) (fun _ _=>rfl)) qg (fun _ _=>rfl)) qg (qz _))))
  (fun _ _ _ _=>(qv (qw (K:=K) rfl S) (pv 1) (pv 0) (fun _ _=>rfl))))
 (qc (qo (i:=8) KA.nd rfl (yK rfl) (qp Ke (hmR A) qB (qa (pv 2) (qa qg qd))))
 (qc (qH (qk (j3 (K:=K) rfl S) (qp Ke (hmR A) qB (qa (pv 2) (qa qg qd))) qg (qz _)) (qe (qH (qX (qO (qp uC (hmR A) qB (qa (pv 5) (qa (pv 3) (qa (pv 4) (qa (pv 6) (qa (pv 8) qd)))))))) (qe (qm jH)) qr)) qr)
 (qc9 TC108 (qc (qo (i:=9) KA.nd rfl (yK rfl) (qp KC (hmR A) qB (qa (pv 5) qd)))
 (qc (qH (PW.pt (zK (qX (qO (qj (j8 (K:=K) rfl) rfl T.b_isinstance Ym (qa (pv 9) (qa (qY (v:=.ty "list") rfl T.b_list xz rfl) qd))))) (zn (qk (zO (K:=K) rfl S) (pv 9) (pv 7) (qz _))))) (qe (qm jH)) qr)
 (qc (qU (qa4 (K:=K) rfl yL Yd Ye qS (pv 9) (qa qaA qd)))
 (qe (jp yZ rfl (jf rfl T.b_range (qa qg qd)) (qt (i:=10) KA.nd rfl (yK rfl))
 (qc (qH (qX (qO (qp uC (hmR A) qB (qa (pv 5) (qa (pv 3) (qa (pv 4) (qa (pv 6) (qa (qG zW (qG (zu (K:=K) rfl) (pv 8) (pv 10)) qg) qd)))))))) (qe (qm jH)) qr)
 (qe (qH (qk (zO (K:=K) rfl S) (qp KC (hmR A) qB (qa (pv 5) qd)) (pv 7) (qz _)) (qe (qm jH)) qr)))))))) ?cut108))))))))))
 (qe (qm jH))),?_⟩
  case cut108 =>
   intro D σ J hh;rw[R] at hh;obtain⟨H1,p,x,n,lt,U,L,ss,ns,ts,us,TI,tps,hn,y1,Z,y,hD,rfl,sJ,hL,B,h0,h1⟩:=hh;apply⟨x,ss,ns,tps,rfl,hL.w3.1,fun l J1 W au el=>?_⟩;have ah:=W _ _ B;apply qaz (.inl (.lst el)) rfl (jw K "list" (by simp) "list" (by simp)) ?_;apply yq ?_;apply .inr (.inl ⟨l,L,true,1,rfl,rfl,by decide,qdO el ah,?_⟩);apply yq ?_;apply⟨.inl ⟨rfl,_,.of el⟩,?_⟩;ext;have bf:(loQ tps ss).length<=ss.length:=yW _ _;have few:=hL.d.o.few;show⟨l,_,_,rfl,rfl,el,by rw[ya];show qi (by lk),?_⟩;have X:L2.Same J (upd J1 l (.lst ((loQ tps ss).map V.str++[.str "a"]))):=qaE W au;generalize upd J1 l (.lst ((loQ tps ss).map V.str++[.str "a"]))=J2 at X;have as:=hL.same X;have ai:=X _ _ B;apply⟨2,rfl,by decide,by decide,jZ (lo:=0) (n:=2) (fun i σ G=>L2.Same J2 G/\∃ Z y,σ=[some (.ref a),y1,some (.ref p),some (.ref n),some (.ref lt),some (.ref x),some (.ref U),some (.ref L),some (.int hn),Z,y]) ⟨L2.Same.refl J2,_,_,rfl⟩ (fun i σ G hi C=>?_) fun σ G C=>?_⟩
   .obtain⟨sG,z9,bc,rfl⟩:=C;rw[x0];have u:=as.same sG;apply vI (by decide) ?_;apply⟨x,n,lt,U,ss,ns,ts,us,TI,tps,_,rfl,u.d,u.w3,u.pl,u.ul,u.pt,u.m,by lk,by lk,fun G2 s3=>?_⟩;apply yq ?_;have ag:=u.same s3;apply⟨x,ss,ns,tps,rfl,ag.w3.1,fun l3 G3 s4 be aq=>?_⟩;have am:=s3.trans s4;apply .inr (.inl ⟨l3,L,true,1,rfl,rfl,by decide,qdO aq ((sG.trans am) _ _ ai),?_⟩);apply yq ?_;show⟨sG.trans am,_,_,rfl⟩
   .obtain⟨sG,z9,bc,rfl⟩:=C;show hD _ _ (sJ.trans (X.trans sG)) ⟨_,_,_,_,_,_,_,_,_,_,rfl⟩
  apply qdp ha ?_;apply⟨_,_,rfl,?_⟩;apply⟨_,_,rfl,?_⟩;ext;rw[ya];show⟨_,rfl,by split<;>split<;>lk,by split<;>split<;>lk,?_⟩;generalize hN:(Int.toNat _)=N;have bd:N<=63:=by rw[<- hN];split<;>split<;>lk
  clear hN;show jZ (fun i σ H'=>L2.Same H H'/\Sg a σ) ⟨L2.Same.refl H,⟨_,_,_,_,_,_,_,_,_,_,rfl⟩⟩ (fun i σ H1 hi C=>?_) fun σ H1 C=>?_
  .obtain⟨W,⟨x1,x2,x3,x4,x5,x6,x7,x8,x9,ba,rfl⟩⟩:=C;apply⟨a,zs,_,rfl,W.seq ha,by lk,by lk,fun c=>?_⟩;apply⟨c,rfl,fun p u1 u2 u3 ak=>?_⟩;have X:=qF W (o:=.lst [.int u1,.int u2,.int u3]) ak;have hB:Box (upd H1 p (.lst [.int u1,.int u2,.int u3])) p:=⟨u1,u2,u3,qb⟩;have av:H p=none:=W.free ak;generalize upd H1 p (.lst [.int u1,.int u2,.int u3])=H2 at X hB;apply vAsgU ?_;apply⟨p,rfl,hB,fun r ln lt ss ts TI H3 g ax=>?_⟩;show⟨r,_,rfl,.inr (.of ax),rfl,_,_,rfl,_,_,rfl,rfl,?_⟩;apply⟨p,ln,lt,ss,ts,TI,rfl,g.bb.2,g.n1,g.n2,g.nm,g.nok,g.few,g.li,g.tj,fun x ns tps H4 Y W4 keep hE=>?_⟩;have an:=g.bb.trans Y;have D4:DwN H4 ln lt ss ts TI tps:=⟨Y.1 _ _ g.n1 g.nm,g.nok,g.li.bb g.bb.2 Y g.n2,g.tj,hE⟩;have few:=g.few;apply⟨x,ln,lt,ss,ns,ts,TI,tps,rfl,D4,⟨W4,qeO W4 g.tj hE⟩,fun U us H5 s5 aj ac ay aw hM=>?_⟩;have O:BB p H4 H5:=(BB.refl Y.2).same s5
   have I:LK cw p x ln lt U ss ns ts us TI tps H5:=⟨O.2,D4.same s5,g.n1,g.n2,fun J' b=>keep J' (O.trans b),ac,Y.apart aj,ay,fun k t hk=>by
    obtain⟨l,a,hd,h1,h2,ar⟩:=aw k t hk;show⟨l,a,hd,h1,Y.apart h2,ar⟩,hM⟩
   have aa:=an.trans O;apply qgc ?_;rw[yl (fun z=>by cases z)];apply yq ?_;apply qac I.d.n ?_;rw[ya];show⟨_,rfl,by lk,by lk,?_⟩;rw[Yw];show jS (lo:=0) (fun i ys J=>J=H5/\ys=((loN tps ss i).map (tn ss)).map V.str) ⟨rfl,rfl⟩ (fun i ys J hi C=>?_) fun ys J C=>?_
   .obtain⟨rfl,rfl⟩:=C;rw[x0];obtain⟨t,ht⟩:∃ t,us[i]?=some t:=⟨_,yb (by lk)⟩;obtain⟨l,a',hd,e1,_,e2,e3⟩:=I.pa i t ht;apply .inl (zY ac (v:=.ref t) (qu (by rw[yd,ht];rfl)) ?_);apply .inl (zD e1 (v:=.int hd) (qu (j:=0) rfl) ?_);apply qaH ?_
    have ed:decide (hd=1)=decide (tn ss i∈loQ tps ss):=by
     rcases e3 with⟨rfl,z⟩ | ⟨rfl,z⟩
     .rw [yD z];rfl
     .rw [yl z];rfl
    rw[ed];have e0:loN tps ss (i+1)=loN tps ss i++if decide (tn ss i∈loQ tps ss)=true then [i] else []:=by unfold loN;show qcb _ i
    have l1:(loN tps ss i).length<=i:=qa8 _ i;rw[e0];apply qL (fun h=>?_) fun h=>?_
    .rw [yG h];apply qfA I.d.n (by lk) ?_;show⟨by rw[ya,ya];show qi (by lk),rfl,by rw[yx,yx];rfl⟩
    .rw [yC h,Yb];show⟨rfl,rfl⟩
   .obtain⟨rfl,rfl⟩:=C;have l1:(loN tps ss ss.length).length<=ss.length:=qa8 _ _;show⟨by rw[ya,ya];show yV (qi (by lk)),fun L B=>?_⟩;rw[qfk];have s6:=qF (Sr J) (o:=.lst ((loQ tps ss).map V.str)) B;have e6:upd J L (.lst ((loQ tps ss).map V.str)) L=some (.lst ((loQ tps ss).map V.str)):=qb;have al:=aa.apart B;generalize upd J L (.lst ((loQ tps ss).map V.str))=H6 at s6 e6;have ae:=I.same s6;have ao:=aa.same s6;apply⟨p,2,rfl,ae.bx,by decide,by decide,fun hn H7 r0 r1 b7=>?_⟩;have af:=ae.bb b7;have e7:=b7.1 _ _ al e6;apply⟨p,2,rfl,af.bx,by decide,by decide,fun r2 H8 _ _ b8=>?_⟩;have s:=af.bb b8;have e8:=b8.1 _ _ al e7;have ap:=(ao.trans b7).trans b8;have az:L2.Same H H8:=fun c o e=>ap.1 c o (fun z=>by rw[z,av] at e;cases e) (X c o e);apply qaH ?_;ext;have ad:∀(D:Ends) (_:∀ M J',L2.Same H J'->Sg a M->D.nx M J') (y1 Z y:Option V) (J':Hp),L2.Same H8 J'->T108 cw a D [some (.ref a),y1,some (.ref p),some (.ref ln),some (.ref lt),some (.ref x),some (.ref U),some (.ref L),some (.int hn),Z,y] J':=fun D hD y1 Z y J' sJ=>⟨H,p,x,ln,lt,U,L,ss,ns,ts,us,TI,tps,hn,y1,Z,y,hD,rfl,az.trans sJ,s.same sJ,sJ _ _ e8,r0,by lk⟩;show qL (fun h=>?_) fun h=>?_
    .ext;show⟨x,ln,lt,U,ss,ns,ts,us,TI,tps,_,rfl,s.d,s.w3,s.pl,s.ul,s.pt,s.m,r0,by lk,fun G2 s3=>?_⟩;apply yq ?_;ext;rw[R];show ad _ ?_ _ _ _ G2 s3;show fun M J' s' e'=>⟨s',e'⟩
    .ext;rw[R];show ad _ ?_ _ _ _ H8 (Sr H8);show fun M J' s' e'=>⟨s',e'⟩
  .obtain⟨W,⟨x1,x2,x3,x4,x5,x6,x7,x8,x9,ba,rfl⟩⟩:=C;apply q H1
end
theorem all_mk{l:W.OpenLaw}{w:World}{h:Heap}{n:Str->Option Value}{fa f c :Addr}{o p q:Tok}(X:K.In h)(G:h.Ns mainGlobals n)(z:n "law"=some (.ref fa))
  (Cw_:W.nsIn K mainGlobals "Web"=some (some (.ref f)))
  (Cf_:W.nsIn K mainGlobals "Forest"=some (some (.ref c)))
  (vE:FG K "are_pairs" zR)
  (U5:FG K "partners_in" zf)
  (vp:FG K "told_pairs" j5)
  (VD:FG K "is_row" qbh)
  (UI:FG K "are_unlike_places" jj)
  (UX:FG K "goes_by_turns" qV)
  (vP:FG K "can_turn" qas)
  (VE:FG K "turned" qaW)
  (vQ:FG K "greatest" qat)
  (vR:FG K "count_of" qau)
  (UY:FG K "greatest_from" jO)
  (wX:FG K "sorts" qb8)
  (vS:FG K "word_for" zI)
  (wY:FG K "loose" qb9)
  (Wg:FG K "held" qdK)
  (U6:FG K "places_with" jP)
  (U7:FG K "leaving_out" zi)
  (U8:FG K "leaving_all" zj)
  (vT:FG K "is_whole" qax)
  (vF:FG K "is_within" zU)
  (Vh:FG K "is_name" qaf)
  (U9:FG K "start_paper" zk)
  (Vi:FG K "is_hand" qa0)
  (va:FG K "good_starts" zl)
  (vG:FG K "chosen_by" zV)
  (Vj:FG K "has_bit" qaT)
  (vV:FG K "is_place" qan)
  (UP:FG K "are_two_places" jC)
  (vq:FG K "numbers_of" zw)
  (Vk:FG K "near_of" qaU)
  (VF:FG K "_law_cell" qbj)
  (Vl:FG K "_law_begun" qaY)
  (VG:FG K "_law_take" qbk)
  (Vm:FG K "_law_names" zF)
  (Vn:FG K "_law_shape" zG)
  (Vo:FG K "_law_drawn" qaZ)
  (wZ:FG K "_law_web" qb4)
  (VH:FG K "_law_used" qbl)
  (Wa:FG K "_law_odd" qaJ)
  (vH:FG K "_law_verdict" jG)
  (vW:FG K "_law_papers" qay)
  (vX:FG K "_law_chosen" jX)
  (Wj:FG K "law" qcK)
  (WH:FM K f "__init__" "Web.__init__" qao)
  (vY:FM K f "places" "Web.places" zx)
  (VI:FM K f "ties" "Web.ties" qar)
  (vb:FM K f "has_place" "Web.has_place" jL)
  (vJ:FM K f "has_tie" "Web.has_tie" ze)
  (vc:FM K f "number_of" "Web.number_of" jM)
  (vZ:FM K f "beside" "Web.beside" zy)
  (UZ:FM K f "bits_beside" "Web.bits_beside" js)
  (VJ:FM K f "tied" "Web.tied" qap)
  (vv:FM K f "names_in" "Web.names_in" jz)
  (vK:FM K f "without" "Web.without" jt)
  (vd:FM K c "__init__" "Forest.__init__" zh)
  (VL:FM K c "row" "Forest.row" zA)
  (vw:FM K c "reached" "Forest.reached" jm)
  (Vp:FM K c "grow" "Forest.grow" zg)
  (v6:FM K c "reach" "Forest.reach" jY)
  (UQ:FM K c "look_around" "Forest.look_around" je)
  (UJ:FM K c "bring_together" "Forest.bring_together" qM)
  (UE:FM K c "bases_down_from" "Forest.bases_down_from" qT)
  (UR:FM K c "reach_round" "Forest.reach_round" jd)
  (Vq:FM K c "fold" "Forest.fold" jN)
  (w1:W.plainGet K f Str.empty=true)
  (w2:W.hasDictIn K f=true)
  (w3:W.plainOver K f=true)
  (w4:W.findIn K (.ref f) "__setattr__"=some (some (.builtin "object.__setattr__")))
  (w5:W.makesIn K f=true)
  (w6:W.keepIn K (.ref f)=true)
  (w7:W.findIn K (.ref f) "numbers"=some none)
  (w8:W.findIn K (.ref f) "order"=some none)
  (w9:W.findIn K (.ref f) "near"=some none)
  (B:W.plainGet K c Str.empty=true)
  (C:W.hasDictIn K c=true)
  (D:W.plainOver K c=true)
  (E:W.findIn K (.ref c) "__setattr__"=some (some (.builtin "object.__setattr__")))
  (F:W.makesIn K c=true)
  (H:W.keepIn K (.ref c)=true)
  (aa:W.findIn K (.ref c) "board"=some none)
  (ac:W.findIn K (.ref c) "partners"=some none)
  (ad:W.findIn K (.ref c) "rows"=some none)
  (ae:W.findIn K (.ref c) "parents"=some none)
  (af:W.findIn K (.ref c) "bases"=some none)
  (ag:W.findIn K (.ref c) "rings"=some none)
  (ah:W.findIn K (.ref c) "waiting"=some none)
  (ai:W.findIn K (.ref c) "longer"=some none)
  (L:W.nsIn K mainGlobals "zip"=some none)
  (u:W.nsIn K mainGlobals "sorted"=some none)
  (r:W.nsIn K mainGlobals "any"=some none)
  (t:W.nsIn K mainGlobals "set"=some none)
  (z0:W.nsIn K mainGlobals "len"=some none)
  (z1:W.nsIn K mainGlobals "int"=some none)
  (z2:W.nsIn K mainGlobals "enumerate"=some none)
  (z3:W.nsIn K mainGlobals "all"=some none)
  (z4:W.nsIn K mainGlobals "max"=some none)
  (z5:W.nsIn K mainGlobals "min"=some none)
  (z6:W.nsIn K mainGlobals "isinstance"=some none)
  (z7:W.nsIn K mainGlobals "bool"=some none)
  (z8:W.nsIn K mainGlobals "str"=some none)
  (z9:W.nsIn K mainGlobals "range"=some none)
  (I:W.nsIn K mainGlobals "list"=some none)
  (J:W.nsIn K mainGlobals "tuple"=some none)
  (u0:W.nsIn K mainGlobals "LONGEST_NAME"=some (some (.int 6 o)))
  (u1:W.nsIn K mainGlobals "MOST_PLACES"=some (some (.int 14 p)))
  (u2:W.nsIn K mainGlobals "MOST_TIES"=some (some (.int 30 q))) :
  ∃ fd:FuncData,(∀(s:Shared) (v:Value),BindsTo s fd ⟨[v],[]⟩ [("_law_script",v)])/\∀ d:Heap,K.In d->d.Ns mainGlobals n->FnOk l.prog w K n d CX0 21 fa fd ["_law_script"] (spLaw K):=by
 obtain⟨_,_,vL,VT⟩:=vE;obtain⟨_,_,ve,VU⟩:=U5;obtain⟨_,_,vx,VV⟩:=vp;obtain⟨_,_,VM,VW⟩:=VD;obtain⟨_,_,UK,VX⟩:=UI;obtain⟨_,_,U0,VY⟩:=UX;obtain⟨_,_,v7,VZ⟩:=vP;obtain⟨_,_,VN,V0⟩:=VE;obtain⟨_,_,v8,V1⟩:=vQ;obtain⟨_,_,v9,V2⟩:=vR;obtain⟨_,_,U1,V3⟩:=UY;obtain⟨_,_,Wc,V4⟩:=wX;obtain⟨_,_,Va,V5⟩:=vS;obtain⟨_,_,Wd,V6⟩:=wY;obtain⟨_,_,Wh,V7⟩:=Wg;obtain⟨_,_,vf,V8⟩:=U6;obtain⟨_,_,vg,V9⟩:=U7;obtain⟨_,_,vh,wa⟩:=U8;obtain⟨_,_,Vb,wc⟩:=vT;obtain⟨_,_,vM,we⟩:=vF;obtain⟨_,_,Vr,wf⟩:=Vh;obtain⟨_,_,vk,wg⟩:=U9;obtain⟨_,_,Vs,wj⟩:=Vi;obtain⟨_,_,vm,wm⟩:=va;obtain⟨_,_,vN,wq⟩:=vG;obtain⟨_,_,Vt,wu⟩:=Vj;obtain⟨_,_,Vc,wv⟩:=vV;obtain⟨_,_,US,ww⟩:=UP;obtain⟨_,_,vy,wy⟩:=vq;obtain⟨_,_,Vu,wz⟩:=Vk;obtain⟨_,_,VO,wA⟩:=VF;obtain⟨_,_,Vv,wB⟩:=Vl;obtain⟨_,_,VP,wC⟩:=VG;obtain⟨_,_,Vw,wD⟩:=Vm;obtain⟨_,_,Vx,wE⟩:=Vn;obtain⟨_,_,Vy,wF⟩:=Vo;obtain⟨_,_,We,wG⟩:=wZ;obtain⟨_,_,VQ,wH⟩:=VH;obtain⟨_,_,Wf,wI⟩:=Wa;obtain⟨_,_,vO,wJ⟩:=vH;obtain⟨_,_,Vd,wK⟩:=vW;obtain⟨_,_,Ve,wL⟩:=vX;obtain⟨_,_,Wk,wM⟩:=Wj;obtain⟨_,_,WI,WJ,Wi⟩:=WH;obtain⟨_,_,Wl,Wm,wN⟩:=vY;obtain⟨_,_,Wn,Wo,wO⟩:=VI;obtain⟨_,_,Wp,Wq,wP⟩:=vb;obtain⟨_,_,Wr,Ws,wQ⟩:=vJ;obtain⟨_,_,Wu,Ww,wR⟩:=vc;obtain⟨_,_,Wx,Wy,wS⟩:=vZ;obtain⟨_,_,Wz,WA,wT⟩:=UZ;obtain⟨_,_,WB,WC,wU⟩:=VJ;obtain⟨_,_,WD,WE,wV⟩:=vv;obtain⟨_,_,WF,WG,wW⟩:=vK;obtain⟨_,_,vn,vo,Y⟩:=vd;obtain⟨_,_,VR,VS,vz⟩:=VL;obtain⟨_,_,vA,vD,Z⟩:=vw;obtain⟨_,_,Vz,VA,N⟩:=Vp;obtain⟨_,_,Vf,Vg,M⟩:=v6;obtain⟨_,_,UT,UU,S⟩:=UQ;obtain⟨_,_,UL,UM,R⟩:=UJ;obtain⟨_,_,UF,UG,P⟩:=UE;obtain⟨_,_,UV,UW,U⟩:=UR;obtain⟨_,_,VB,VC,O⟩:=Vq;have e:=z.symm.trans (W.mg_of X G Wk);cases e;have g:Cls K f:=⟨w1,w2,w3,w4⟩;have j:Cls K c:=⟨B,C,D,E⟩
 have A:∀ a∈fAtt,NoAttr K c a:=fun a y=>by
  unfold fAtt at y;simp only[yA,Yj,Y6] at y;rcases y with rfl | rfl | rfl | rfl | rfl | rfl | rfl | rfl<;>assumption
 have T:Txt K n (fun i=>c) f:=⟨YK X G z0,
  YK X G z1,
  YK X G z2,
  YK X G z3,
  YK X G z4,
  YK X G z5,
  YK X G z6,
  YK X G z7,
  YK X G z8,
  YK X G z9,
  YK X G I,
  YK X G J,
  ⟨o,W.mg_of X G u0⟩,
  ⟨p,W.mg_of X G u1⟩,
  ⟨q,W.mg_of X G u2⟩,
  g,
  w7,
  w8,
  w9,
  W.mg_of X G Cw_,
  W.mg_of X G Cf_,
  j,
  A,
  YK X G L,
  YK X G u,
  YK X G r,
  YK X G t⟩
 obtain⟨oc,od,kV,x,pm,an,cd,ct,sl,rfl,lk,hc⟩:=wM.ex;show⟨W.fnOf "law" "law" (qaF qcK) (qab qcK) (qh qcK) .none kV x pm an cd ct,fun s v=>.of_eq rfl,fun d _ _=>?_⟩;have b:=@fg_mk l.prog w K n d h;have m:=@fm_mk l.prog w K n d;have fw:=@fw_mk l.prog w K n d h;have d_name:=b X G Vr wf (ok_name wf T);have d_place:=b X G Vc wv (ok_place wv d_name);have d_two:=b X G US ww (ok_two ww T d_place);have d_bit:=b X G Vt wu (ok_bit wu);have d_nums:=b X G vy wy (ok_nums wy T d_name);have d_near:=b X G Vu wz (ok_near wz T d_two d_bit);have q_web:MakeOk l.prog w K n d CX0 5 f "Web" ["self","names","ties"] (spWeb f):=fw X G Cw_ w5 w6 WI WJ Wi (ok_web Wi T d_nums d_near);have m_has:=m g Wp Wq wP (ok_has wP T d_place);have m_num:=m g Wu Ww wR (ok_num wR T m_has);have m_bb:=m g Wz WA wT (ok_bb wT T m_num);have m_nin:=m g WD WE wV (ok_nin wV T d_bit);have m_bs:=m g Wx Wy wS (ok_bs wS T m_bb m_nin);have m_tied:=m g WB WC wU (ok_tied wU T m_bb m_num d_bit);have m_pls:=m g Wl Wm wN (ok_pls wN T);have m_ts:=m g Wn Wo wO (ok_ts wO T m_bs);have m_ht:=m g Wr Ws wQ (ok_ht wQ T d_two m_tied);have d_ap:=b X G vL VT (ok_ap VT T m_ht);have d_pn:=b X G ve VU (ok_pn VU T d_ap);have d_tp:=b X G vx VV (ok_tp VV T d_pn m_ts);have d_ul:=b X G UK VX (ok_ul VX T m_has);have d_gt:=b X G U0 VY (ok_gt VY T m_ht);have d_ir:=b X G VM VW (ok_ir VW T d_pn d_ul d_gt);have d_ct:=b X G v7 VZ (ok_ct VZ T d_pn d_ir);have d_tu:=b X G VN V0 (ok_tu V0 T d_pn m_ts d_ct);have p_re:=m j Vf Vg M (ok_re M T);have p_bd:=m j UF UG P (ok_bd P T);have p_rr:=m j UV UW U (ok_rr U T p_re);have p_fd:=m j VB VC O (ok_fdF O T m_pls);have p_bt:=m j UL UM R (ok_bt R T p_bd p_rr p_fd);have p_la:=m j UT UU S (ok_la S T m_bs p_bt p_re);have p_gw:=m j Vz VA N (ok_gw N T m_pls p_re p_la);have p_mk:MakeOk l.prog w K n d CX0 10 c "Forest" ["self","web","pairs"] (spFi (fun i=>c) f):=fw X G Cf_ F H vn vo Y (ok_fi Y T d_pn p_gw);have p_row:=m j VR VS vz (ok_fr vz T);have p_rch:=m j vA vD Z (ok_fd2 Z T m_pls);have d_gf:=b X G U1 V3 (ok_gf V3 T d_tp p_mk p_row d_tu);have d_gr:=b X G v8 V1 (ok_gr V1 T d_gf);have d_co:=b X G v9 V2 (ok_co V2 T d_gr);have m_wo:=m g WF WG wW (ok_wo wW T m_num m_ts q_web);have d_la:=b X G vh wa (ok_lvQ wa T m_wo d_gr d_co);have d_l1:=b X G vg V9 (ok_lv1 V9 T d_la);have d_lo:=b X G Wd V6 (ok_lo V6 T d_gr p_mk p_rch);have d_wf:=b X G Va V5 (ok_wf V5 T m_bs);have d_so:=b X G Wc V4 (ok_so V4 T d_lo d_wf m_pls);have d_pw:=b X G vf V8 (ok_pw V8 T d_so m_pls);have d_he:=b X G Wh V7 (ok_he V7 T d_pw);have d_ha:=b X G Vs wj (ok_haI wj (b X G vM we (ok_inI we (b X G Vb wc (ok_whI wc T)))));have d_sp:=b X G vk wg (ok_spQ wg T d_l1 d_gr d_he);have d_gs:=b X G vm wm (ok_gsQ wm T d_lo);have d_ch:=b X G vN wq (ok_chQ wq T d_ha d_gs d_gr d_l1);have d_us:=b X G VQ wH (ok_usQ wH T);have d_vd:=b X G vO wJ (ok_vdQ wJ T d_us (b X G Wf wI (ok_odQ wI T)));have d_pp:=b X G Vd wK (ok_ppsQ wK T d_sp d_vd);have d_cn:=b X G Ve wL (ok_cnQ wL T d_ch d_us d_vd) (hb:=fun _ _ _ _ _ _=>lN5 fun _ _ _ _ _=>rfl);have d_tk:=b X G VP wC (ok_tkQ wC);show ok_law56 wM T (b X G VO wA (ok_ceQ wA T)) (b X G Vv wB (ok_bgQ wB T)) d_tk (b X G Vy wF (ok_drQ wF T d_tk (b X G Vw wD (ok_nmQ wD T d_tk)) (b X G Vx wE (ok_shQ wE T d_tk)))) (b X G We wG (ok_wbQ wG T d_tk q_web)) d_pp d_cn d_gs
theorem walk{l:PySem.W.OpenLaw}{q:Program}{loose:LS}{XP:(Str->Option Value)->Heap->Prop}{YP:World->Heap->Prop}{d:DefRec}{K:Params->yg}(o:l.most=some 63)(e:d.params.defaults=[])
  (m:∀(w:World) (h:Heap),YP w h->(K w.params).In h)
  (F:∀(w:World) (c:Str->Option Value) (g:Addr) (h:Heap),(K w.params).In h->h.Ns mainGlobals c->c d.name=some (.ref g) ->
   ∃ i:FuncData,(∀(s:Shared) (u:Value),BindsTo s i ⟨[u],[]⟩ [("_law_script",u)])/\∀ b:Heap,(K w.params).In b->b.Ns mainGlobals c->FnOk l.prog w (K w.params) c b CX0 21 g i ["_law_script"] (spLaw (K w.params))) :
  PySem.W.WalkO q loose XP YP l.row.toRowW d [] (fun f vs=>PySem.call f vs):=
 L2.walk_of (n:=63) (k:=21) (x:="_law_script") (CX:=fun _=>CX0) (sp:=fun w=>spLaw (K w.params)) o (by decide) e ⟨rfl,by decide,by decide,rfl⟩ m F (fun _ _ a ns hl _ j=>⟨a,ns,rfl,j,hl,fun _=>rfl⟩) fun _ _ _ _ _ z=>z
end K56
set_option maxRecDepth 100000 in
set_option maxHeartbeats 0 in
theorem PySem.Challenge.cw_onceroad_k56_starts_chosen_holds : PySem.Challenge.rw_onceroad_k56_starts_chosen.Holds := by
  w_on; o_law
  show PySem.W.holds_open (q := K56.Q) (loose := []) (Xt := K56.Xt) (XP := PySem.W.XL K56.Q []) (Yf := PySem.W.Hook.obs K56.Hk) (Ya := PySem.W.Hook.val K56.Hk) (YP := PySem.W.Hook.says (PySem.W.kHook K56.Kf K56.ks K56.ks_eq)) (N := K56.NN) K56.hl (PySem.W.Hook.of K56.Hk) (PySem.W.Hook.keeps K56.Hk) (fun s e => PySem.W.xl_of s (Bool.and_eq_true_iff.mp e).1) PySem.W.XL.keeps (by rfl) (by rfl) (by rfl) (fun s e => PySem.W.recFacts_of (Bool.and_eq_true_iff.mp e).2) (by rfl) (by first | assumption | room) (by room) ⟨rfl, rfl, rfl, rfl, rfl, by room⟩ ?hw ?hc
  (case hw => w_witness2)
  k_fill
  show K56.walk (l := PySem.Challenge.rw_onceroad_k56_starts_chosen) rfl rfl (fun w h Y => PySem.W.kIn_of Y) ?F
  case F =>
    intro w mg fa h KX G hmg
    refine' K56.all_mk KX G hmg ?_ ?_ ?_ ?_ ?_ ?_ ?_ ?_ ?_ ?_ ?_ ?_ ?_ ?_ ?_ ?_ ?_ ?_ ?_ ?_ ?_ ?_ ?_ ?_ ?_ ?_ ?_ ?_ ?_ ?_ ?_ ?_ ?_ ?_ ?_ ?_ ?_ ?_ ?_ ?_ ?_ ?_ ?_ ?_ ?_ ?_ ?_ ?_ ?_ ?_ ?_ ?_ ?_ ?_ ?_ ?_ ?_ ?_ ?_ ?_ ?_ ?_ ?_ ?_ ?_ ?_ ?_ ?_ ?_ ?_ ?_ ?_ ?_ ?_ ?_ ?_ ?_ ?_ ?_ ?_ ?_ ?_ ?_ ?_ ?_ ?_ ?_ ?_ ?_ ?_ ?_ ?_ ?_ ?_ ?_ ?_ ?_ ?_ ?_ ?_ ?_ ?_ ?_ ?_ ?_ ?_ ?_ ?_
    any_goals first | k_is | decide
    any_goals first | k_is | decide | show⟨_, _, by k_is, L2.fun_mk (by k_is) (by k_is) (by k_is)⟩ | show⟨_, _, by k_is, by k_is, L2.fun_mk (by k_is) (by k_is) (by k_is)⟩ | show⟨_, _, _, _, _, _, _, _, _, _, _, _, _, _, _, by k_is⟩ | show⟨by k_is, by k_is, by k_is, by k_is, by k_is, by k_is, by k_is, by k_is⟩ | kernel_rfl | fail
