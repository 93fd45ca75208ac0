import PyProof.Rows.All
import Wide.All
import OpenK.AllK
import Wide.FinOn
import PyProof.EqAt
import PyProof.EqKinds
import PyProof.TupleCall
import Lean
import PySem.Challenge.RW_onceroad_k35_what_are_no_pairs
set_option Elab.async false
set_option linter.all false
set_option maxRecDepth 100000
local macro_rules | `(tactic| show $e)=>`(tactic| refine $e)
abbrev LX:=List Int
abbrev LQ:=List PySem.Addr
abbrev LN:=List Nat
abbrev LS:=List PySem.Str
abbrev LP:=List (PySem.Str×PySem.Str)
local macro_rules | `(tactic| room)=>`(tactic| decide +kernel)
local macro_rules | `(tactic| lk)=>`(tactic| first | lia | omega)
theorem ya{a b:Type}{as:List a}(f:a→b):(as.map f).length=as.length:=List.length_map f
theorem yb{a:Type}{l:List a}{i:Nat}(h:i<l.length):l[i]?=some l[i]:=List.getElem?_eq_getElem h
theorem yc{b:Type}{l:List b}{i:Nat}{a:b}:l[i]?=some a↔∃h:i<l.length,l[i]=a:=List.getElem?_eq_some_iff
theorem yd{a b:Type}{f:a→b}{l:List a}{i:Nat}:(l.map f)[i]?=l[i]?.map f:=List.getElem?_map
theorem ye{b:Type}{l:List b}{i:Nat}{a:b}(h:l[i]?=some a):a∈l:=List.mem_of_getElem? h
theorem yf{b:Type}{a:b}{l:List b}(h:a∈l):∃i:Nat,l[i]?=some a:=List.getElem?_of_mem h
noncomputable abbrev yg:=PySem.W.Frag
theorem yh(n:Nat):n≤n:=Nat.le_refl n
theorem yi{a b c:Nat}(h:a≤b)(k:b≤c):a≤c:=Nat.le_trans h k
theorem yj{a b c:Nat}(h:a<b)(k:b≤c):a<c:=Nat.lt_of_lt_of_le h k
theorem yk{p:Prop}[Decidable p](h:decide p=true):p:=of_decide_eq_true h
theorem yl{p:Prop}[Decidable p](h:¬p):decide p=false:=decide_eq_false h
theorem ym{c:Type}{a b:c}(h:some a=some b):a=b:=Option.some.inj h
theorem yn{c d:Type}{f:c→d}{x:Option c}{b:d}:x.map f=some b↔∃a,x=some a∧f a=b:=Option.map_eq_some_iff
theorem yo{b:Type}{a:b}{l:List b}:(a::l).Nodup↔a∉l∧l.Nodup:=List.nodup_cons
theorem yp{a:Type}{p:a→Bool}{as:List a}{x:a}:x∈as.filter p↔x∈as∧p x=true:=List.mem_filter
theorem yq{A B:Prop}(h:B):if false=true then A else B:=h
def yr:=@PySem.wpAny_bind
def yt:=@List.length_append
def yu:=@PySem.wpAny_pure
def yv:=@List.mem_cons
def yw:=@PySem.Heap.get?_push_of_some
def yx:=@List.mem_singleton
def yy:=@List.size_toArray
def yz:=@List.not_mem_nil
def yA:=@List.mem_append
def yB:=@List.getElem?_append_right
def yC:=@if_neg
def yD:=@List.length_cons
def yE:=@if_pos
def yF:=@PySem.Heap.lt_size
def yG:=@Nat.ne_of_lt
def yH:=@decide_eq_true
def yI:=@List.mem_cons_of_mem
def yJ:=@Or.inl
def yK:=@List.map_append
def yL:=@List.mem_append_right
def yM:=@List.mem_append_left
def yN:=@PySem.F.plainAttrs_list
def yO:=@List.mem_cons_self
def yP:=@List.length_take
def yQ:=@List.getElem?_append_left
def yR:=@List.take_add_one
def yS:=@PySem.Heap.get?_push_size
def yT:=@PySem.PassesOwn.never
def yU:=@or_false
def yV:=@List.nodup_append
def yW:=@List.take_length
def yX:=@Nat.le_of_lt
def yY:=@PyProof.Rows.slot_tuple_getitem
def yZ:=@List.append_assoc
def y8:=@PySem.F.slot_list_append
def y9:=@PySem.F.type_list_append
def Yb:=@Ne.symm
def Yc:=@Bool.and_eq_true
def Yd:=@Nat.ne_of_gt
def Ye:=@beq_iff_eq
def Yg:=@List.append_nil
def Yh:=@List.getD_eq_getElem?_getD
def Yi:=@PySem.wpAny_holding
def Yj:=@List.append_of_mem
def Yk:=@PyProof.Rows.boot_isinstance
def Yl:=@List.contains_cons
def Ym:=@Bool.false_ne_true
def Yn:=@PySem.sizeLine_eq
def Yo:=@beq_eq_false_iff_ne
def Yp:=@Nat.lt_irrefl
def Yq:=@List.filter_cons
def Yr:=@PySem.Heap.get?_update_other
def Ys:=@Nat.lt_of_le_of_lt
def Yt:=@List.filter_append
def Yu:=@PySem.wpAny_field
def Yv:=@PySem.Heap.get?_update_self
def Yw:=@List.length_filter_le
def Yx:=@List.length_reverse
def Yy:=@List.map_cons
def Yz:=@PySem.wpAny_loadPart_at
def YA:=@PySem.wpAny_mono
def YB:=@List.any_eq_true
def YC:=@PySem.wpAny_newObj_type
def YD:=@List.idxOf_lt_length_of_mem
def YE:=@PySem.W.looks_findIn
def YF:=@True.intro
def YG:=@decide_eq_true_iff
def YH:=@Bool.eq_iff_iff
def YI:=@List.mem_map
def YJ:=@PySem.W.mg_none_of
def YK:=@List.length_replicate
def YL:=@PySem.Heap.size_push
def YM:=@PySem.F.slot_NoneType_eq
def YN:=@List.length_nil
def YO:=@Int.emod_nonneg
def YQ:=@Int.emod_lt_of_pos
def YR:=@List.all_eq_true
def YS:=@PySem.wpAny_of_eq
def YT:=@PySem.boot_len
def YU:=@PyProof.Rows.callWith_type1
def YV:=@PySem.F.excBase_ValueError
def YW:=@Array.getElem?_eq_some_iff
def YX:=@List.take_of_length_le
def YY:=@PyProof.Rows.boot_list
def YZ:=@List.mem_iff_getElem?
def Y4:=@PySem.wpAny_Call_Name_kw
def Y5:=@PySem.W.callWith_K
def Y6:=@beq_self_eq_true
def Y7:=@List.getElem_idxOf
def Y8:=@decide_eq_decide
def Y9:=@List.getElem?_set_ne
def xi:=@PySem.wpAny_truthy_bool
def xj:=@PySem.wpAny_callSpecial?_slot
def xk:=@List.dropLast_concat_getLast
def xl:=@Array.length_toList
def xm:=@List.replicate_succ
def xn:=@PySem.W.looks_mroIn
def xo:=@PySem.wpAny_isSubtype_exc
def xp:=@Nat.zero_le
def xq:=@List.cons.inj
def xr:=@PySem.wpAny_call_entry
def xt:=@List.mem_flatMap
def xu:=@List.lookup_append
def xv:=@Bool.false_eq_true
def xw:=@PySem.F.slot_dict_eq_refl
def xx:=@List.pairwise_iff_getElem
def xy:=@Array.getElem?_eq_getElem
def xz:=@PySem.wpAny_passesOwn
def xA:=@List.find?_cons
def xB:=@List.filter_nil
def xC:=@Sum.inr.inj
def xD:=@Int.toNat_natCast
def xE:=@Bool.not_eq_true'
def xF:=@PySem.codeAny_call_builtin
def xG:=@PySem.wpAny_call
def xH:=@PySem.mem_of_lookup
def xI:=@List.mem_range
def xJ:=@PySem.W.any_some
def xK:=@Nat.lt_succ_self
def xL:=@List.lookup_cons
def xM:=@PySem.wpAny_getItem_str_slice
def xN:=@Int.eq_ofNat_of_zero_le
def xO:=@PySem.F.slot_list_index
def xP:=@Nat.le_add_right
def xQ:=@List.length_tail
def xR:=@Nat.le_succ
def xS:=@List.getElem?_set_self
def xT:=@Nat.le_of_eq
def xU:=@PySem.codeAny_mono
def xV:=@PySem.Heap.IsSliceOf.new
def xW:=@PySem.tupleKind_room_in1
def xX:=@Array.getElem?_eq_none
def xY:=@Nat.zero_add
def xZ:=@List.getElem?_tail
def x0:=@PySem.W.methodCall_KW
def Xa:=@List.length_singleton
def Xb:=@Array.getElem?_toList
def Xc:=@List.flatten_cons
def Xd:=@Option.isSome_map
def Xe:=@PyProof.Rows.slicePart_none
def Xf:=@if_true
def Xg:=@List.getElem_mem
def Xh:=@Classical.byContradiction
def Xi:=@List.drop_eq_getElem_cons
def Xj:=@List.filterMap_cons
def Xk:=@PySem.F.plain_extend_loop
def Xl:=@PySem.Heap.SameBut.update
def Xm:=@List.getElem_of_mem
def Xn:=@List.flatMap_append
def Xo:=@PySem.wpAny_standAt
def Xp:=@List.all_cons
def Xq:=@Prod.mk.injEq
def Xr:=@List.Pairwise.imp_of_mem
def Xs:=@PySem.SeqAt.EqAt.same
def Xu:=@List.getElem?_replicate
def Xv:=@decide_eq_false_iff_not
def Xw:=@PySem.F.type_list_index
def Xx:=@List.take_sublist
def Xy:=@if_false
def Xz:=@Prod.ext
def XA:=@PySem.Calls.callWith_builtin
def XB:=@PySem.wpAny_nextOf_list_item
def XC:=@PySem.F.slot_dict_get
def XD:=@Nat.min_le_right
def XE:=@PySem.call_meets
def XF:=@List.drop_length
def XG:=@PySem.evalPart_none
def XH:=@List.any_cons
def XI:=@PySem.wpAny_attempt
def XJ:=@PySem.Value.ref.inj
def XM:=@PySem.Calls.evalArgs_plain
def XR:=@PySem.wpAny_execs_nil
def XS:=@List.length_set
def XT:=@Option.map_some
def XU:=@PySem.post_val_or_str
def XV:=@PySem.F.slot_zip_next
def XW:=@PySem.wpAny_updateSeq
def XY:=@List.all_append
def XZ:=@PySem.W.plainGet_of
def X4:=@PySem.W.looks_clsIn
def X5:=@PyProof.Rows.entry_tuple_getitem
def X6:=@PySem.wpAny_typeOf
def X7:=@List.all_map
def X8:=@Bool.or_true
def X9:=@PySem.W.mg_of
def kc:=@LawfulBEq.eq_of_beq
def ke:=@PySem.Calls.spliced_cons
def kf:=@PySem.SeqAt.notIn_listAt
def kg:=@Or.inr
def kh:=@PyProof.Rows.boot_tuple
def ki:=@PySem.Calls.spliced_nil
def kj:=@PySem.wpAny_sequenceKey
def kl:=@PySem.slot_list_getitem
def km:=@PySem.wpAny_pyIter_list
def kn:=@PySem.Heap.get?_push_at
def ko:=@Nat.le_succ_of_le
def kt:=@decide_eq_true_eq
def ku:=@Bool.or_false
def kx:=@PySem.W.mg_of
def ky:=@List.map_tail
def kz:=@List.length_drop
def kA:=@PyProof.Rows.tail_any
def kB:=@List.cons_append
def kC:=@PySem.wpAny_askSetting
def kD:=@PySem.wpAny_isInstance
def kE:=@Nat.min_eq_right
def kF:=@PySem.wpAny_pyIter_zip
def kG:=@Nat.lt_of_not_le
def kH:=@List.cons_ne_nil
def kI:=@List.mem_reverse
def kJ:=@PySem.typeIs_str
def kK:=@Nat.lt_trans
def kL:=@PySem.Txt.slice_le
def kM:=@PySem.wpAny_rule
def kN:=@Nat.sub_self
def kO:=@List.of_mem_zip
def kP:=@List.forIn_cons
def kQ:=@Nat.min_eq_left
def kR:=@List.cons.injEq
def kS:=@List.range_succ
def kT:=@PySem.wpAny_Slice
def kU:=@List.forIn_nil
def kW:=@Bool.not_false
def kX:=@List.nodup_nil
def kY:=@decide_false
def kZ:=@Nat.succ.inj
def k7:=@Nat.sub_zero
def k8:=@Int.zero_add
def k9:=@not_or
namespace L2
open PySem PySem.Spec PyProof.Rows
noncomputable def qU(s:Stmt)(j:Nat):Stmt:=match s with
 | .ClassDef _ _ _ body _ _ _ _ _ _ _=>body.getD j (.Pass ⟨0,0,0,0⟩)
 | _=>.Pass ⟨0,0,0,0⟩
noncomputable def qax(s:Stmt):Arguments:=match s with
 | .FunctionDef _ a _ _ _ _ _ _ _ _=>a
 | _=>{ posonlyargs:=[],args:=[],vararg:=none,kwonlyargs:=[],kw_defaults:=[],kwarg:=none,defaults:=[] }
noncomputable def zt(s:Stmt):List Stmt:=match s with
 | .FunctionDef _ _ b _ _ _ _ _ _ _=>b
 | _=>[]
noncomputable def qh(s:Stmt):Scope:=match s with
 | .FunctionDef _ _ _ _ _ _ sc _ _ _=>sc
 | _=>{ kind:=.function,names:=[],isGenerator:=false,isCoroutine:=false }
end L2
namespace K35
open PySem L2 PyProof.Rows
noncomputable def top(i:Nat):Stmt:=PySem.Challenge.pw_onceroad_k35_what_are_no_pairs.main.body.getD i (.Pass ⟨0,0,0,0⟩)
noncomputable abbrev jy:Stmt:=qU (top 2) 0
noncomputable abbrev jW:Stmt:=qU (top 8) 0
noncomputable abbrev zb:Stmt:=top 26
noncomputable abbrev qaJ:Stmt:=top 31
noncomputable abbrev zx:Stmt:=top 32
noncomputable abbrev je:Stmt:=top 33
noncomputable abbrev zm:Stmt:=top 34
noncomputable abbrev qaf:Stmt:=qU (top 30) 0
noncomputable abbrev qaK:Stmt:=top 35
noncomputable abbrev zn:Stmt:=qU (top 30) 1
noncomputable abbrev jH:Stmt:=qU (top 30) 4
noncomputable abbrev jI:Stmt:=qU (top 30) 6
noncomputable abbrev zo:Stmt:=qU (top 30) 7
noncomputable abbrev jr:Stmt:=qU (top 30) 8
noncomputable abbrev qag:Stmt:=qU (top 30) 9
noncomputable abbrev jw:Stmt:=qU (top 30) 12
noncomputable abbrev qai:Stmt:=qU (top 30) 2
noncomputable abbrev qa7:Stmt:=top 37
noncomputable abbrev qbU:Stmt:=top 38
noncomputable abbrev qa8:Stmt:=top 39
noncomputable abbrev zW:Stmt:=top 44
noncomputable abbrev qbm:Stmt:=top 46
noncomputable abbrev zy:Stmt:=top 40
noncomputable abbrev qa9:Stmt:=top 41
noncomputable abbrev qaN:Stmt:=top 42
noncomputable abbrev j4:Stmt:=top 43
noncomputable abbrev zd:Stmt:=top 11
noncomputable abbrev jJ:Stmt:=qU (top 30) 5
noncomputable abbrev jK:Stmt:=top 12
noncomputable abbrev jX:Stmt:=qU (top 15) 6
noncomputable abbrev qO:Stmt:=qU (top 15) 9
noncomputable abbrev qY:Stmt:=qU (top 15) 10
noncomputable abbrev jL:Stmt:=qU (top 15) 11
noncomputable abbrev qJ:Stmt:=qU (top 15) 8
noncomputable abbrev qZ:Stmt:=qU (top 15) 7
noncomputable abbrev j8:Stmt:=qU (top 15) 5
noncomputable abbrev jM:Stmt:=qU (top 15) 0
noncomputable abbrev zr:Stmt:=qU (top 15) 1
noncomputable abbrev jp:Stmt:=top 13
noncomputable abbrev jd:Stmt:=top 18
noncomputable abbrev qba:Stmt:=top 17
noncomputable abbrev qP:Stmt:=top 19
noncomputable abbrev qak:Stmt:=top 20
noncomputable abbrev qaP:Stmt:=top 21
noncomputable abbrev jq:Stmt:=top 23
noncomputable abbrev zI:Stmt:=top 47
noncomputable abbrev zf:Stmt:=top 48
noncomputable abbrev jY:Stmt:=top 49
noncomputable abbrev qbW:Stmt:=top 52
noncomputable abbrev j9:Stmt:=top 51
noncomputable abbrev qal:Stmt:=top 53
noncomputable abbrev zL:Stmt:=top 54
noncomputable abbrev qcR:Stmt:=top 55
end K35
namespace Hd
open PySem PySem.W PySem.Calls PyProof.Rows
variable{p:Program}{α:Type}
noncomputable def qe4(c:String->Option Builtin)(p:Program)(w:World)(a:Nat)(b:Option Value):Nat->SharedT->Thread->Option SharedT
 | 0,_,_=>none
 | n+1,s,t=>match through t with
  | true=>some s
  | false=>match stepOk a b t with
   | false=>none
   | true=>match stepT (denote c) p w s t with
    | some (s',t')=>qe4 c p w a b n s' t'
    | none=>none
theorem qeM{d:String->Option Builtin}{w:World}{a:Nat}{b:Option Value}:∀{n:Nat} {s s':SharedT} {t:Thread},qe4 d p w a b n s t=some s'->topRun d p w a b n s.abs t=some s'.abs
 | 0,_,_,_,h=>by cases h
 | n+1,s,s',t,h=>by
  unfold qe4 at h;unfold topRun
  cases e:through t with
  | true=>rw[e] at h;cases h;rfl
  | false =>
   rw[e] at h
   cases f:stepOk a b t with
   | false=>rw[f] at h;cases h
   | true =>
    rw[f] at h
    cases c:stepT (denote d) p w s t with
    | none=>rw[c] at h;cases h
    | some r=>obtain⟨g,i⟩:=r;rw[c] at h;rw[stepT_spec c];show qeM h
noncomputable def qcS:List Obj->Nat->BT->BT
 | [],_,t=>t
 | o::r,n,t=>qcS r (n+1) (t.ins n o)
noncomputable def qd6(P:Params)(a:OsState):SharedT:=⟨qcS (boot_heap P).objs.toList 0 .nil,(boot_heap P).objs.size,(boot_heap P).life,Array.mk [],boot_drawn,boot_toks,a⟩
theorem boot_abs(P:Params):absHeap (qcS (boot_heap P).objs.toList 0 .nil) (boot_heap P).objs.size (boot_heap P).life=boot_heap P:=by kernel_rfl
noncomputable def qeh(p q:Program)(Xt:Shared->Bool){α:Type}(Yf:Shared->α)(N:Nat)(w:World)(a:OsState):=match (boot_heap w.params).isNs mainGlobals&&(Array.mk []:Array GenState).size==0 with
 | true=>(qe4 treeTable p w (boot_heap w.params).objs.size ((boot_heap w.params).nsMap mainGlobals "__annotations__") N (qd6 w.params a) (topStub p)).bind fun s=>match staticsOk (importedModules p.main.body) (boot_heap w.params) s.abs.heap&&namesBound p s.abs.heap&&gensDone s.abs&&laidKept (boot_heap w.params) s.abs.heap with
   | true=>some (openSeen q [] (importedModules p.main.body) Xt true s.abs,Yf s.abs)
   | false=>none
 | false=>none
noncomputable def lookS(p:Program)(N:Nat)(w:World)(a:OsState):Option Shared:=match (boot_heap w.params).isNs mainGlobals&&(Array.mk []:Array GenState).size==0 with
 | true=>(qe4 treeTable p w (boot_heap w.params).objs.size ((boot_heap w.params).nsMap mainGlobals "__annotations__") N (qd6 w.params a) (topStub p)).bind fun s=>match staticsOk (importedModules p.main.body) (boot_heap w.params) s.abs.heap&&namesBound p s.abs.heap&&gensDone s.abs&&laidKept (boot_heap w.params) s.abs.heap with
   | true=>some s.abs
   | false=>none
 | false=>none
theorem lookT_map(p q:Program)(Xt:Shared->Bool)(Yf:Shared->α)(N:Nat)(w:World)(a:OsState):qeh p q Xt Yf N w a=(lookS p N w a).map fun s=>(openSeen q [] (importedModules p.main.body) Xt true s,Yf s):=by
 unfold qeh lookS
 cases (boot_heap w.params).isNs mainGlobals&&(Array.mk []:Array GenState).size==0 with
 | false=>rfl
 | true =>
  dsimp only
  cases qe4 treeTable p w (boot_heap w.params).objs.size ((boot_heap w.params).nsMap mainGlobals "__annotations__") N (qd6 w.params a) (topStub p) with
  | none=>rfl
  | some s =>
   show(match _ with | true=>_ | false=>_)=Option.map _ (match _ with | true=>_ | false=>_);cases staticsOk (importedModules p.main.body) (boot_heap w.params) s.abs.heap&&namesBound p s.abs.heap&&gensDone s.abs&&laidKept (boot_heap w.params) s.abs.heap<;>rfl
theorem packs{b A B C D E Y:Type}{o:Option b}{f:b->A×B×C×D×E}{g:b->Y}{x:A×B×C×D×E}{y:Y}(h1:o.map (fun s=>((f s).1,(f s).2.1,(f s).2.2.1,(f s).2.2.2.1))=some (x.1,x.2.1,x.2.2.1,x.2.2.2.1))(h:o.map (fun s=>(f s).2.2.2.2)=some x.2.2.2.2)(c:o.map g=some y):o.map (fun s=>(f s,g s))=some (x,y):=by
 cases o with
 | none=>cases c
 | some s =>
  have a:=ym h1;have d:=ym h;have e:=ym c;have i:=congrArg Prod.fst a;have j:=congrArg (fun z=>z.2.1) a;have l:=congrArg (fun z=>z.2.2.1) a;have m:=congrArg (fun z=>z.2.2.2) a;show congrArg some (Xz (Xz i (Xz j (Xz l (Xz m d)))) e)
theorem left_of{q:Program}{Xt:Shared->Bool}{Yf:Shared->α}{Ya:World->α}{N:Nat}(e:opening p=plainProg p.main.scope.names)(n:Nat.ble 600 N=true)(f:∀ s,fenceModules? p s=some s)
  (h:∀ w a,qeh p q Xt Yf N w a=some (openGood q [],Ya w)):LeftO p q [] Xt Yf Ya N:=fun w=>by
 obtain⟨⟨m,l,d,k,a⟩,i,j⟩:=yn.mp (boot_open e n f w);obtain⟨rfl,rfl,rfl,rfl⟩:m=boot_heap w.params/\l=Array.mk []/\d=boot_drawn/\k=boot_toks:=by simpa using j
 have b:=h w a;unfold qeh at b;unfold openEnds;rw[i];show(topFrom treeTable p w N _).map _=_;unfold topFrom;dsimp only;split at b
 .rename_i z
  rw[z];obtain⟨s,o,c⟩:=Option.bind_eq_some_iff.mp b;have r:=qeM o
  have g:(qd6 w.params a).abs=⟨boot_heap w.params,Array.mk [],boot_drawn,boot_toks,a⟩:=by
   unfold qd6 SharedT.abs;dsimp only;rw[boot_abs]
  rw[g] at r;dsimp only;rw[r];split at c
  .rename_i z2
   show((match staticsOk (importedModules p.main.body) (boot_heap w.params) s.abs.heap&&namesBound p s.abs.heap&&gensDone s.abs&&laidKept (boot_heap w.params) s.abs.heap with | true=>some s.abs | false=>none):Option Shared).map _=_;rw[z2];show c
  .cases c
 .cases b
end Hd
namespace K35
open PySem L2 PyProof.Rows PySem.W
noncomputable abbrev NN:Nat:=20000
noncomputable def Q:Program:=view PySem.Challenge.pw_onceroad_k35_what_are_no_pairs [0,2,3,4,5,6,7,8,9,11,12,13,15,17,18,19,20,21,23,25,26,28,29,30,31,32,33,34,35,37,38,39,40,41,42,43,44,45,46,47,48,49,50,51,52,53,54,55]
noncomputable def en(P:Params)(t:Tok)(v:Value)(k:Str):DictEntry:=⟨PyData.keyHash P k,.str k t,v⟩
noncomputable def cO(t a b r:Nat)(x y z v:Value)(e u:Nat)(q n:Str):Obj:=⟨.type "code",none,.fields #[.str n t,.str q (t+1),.str "/claim/cut.py" (t+2),.int a 0,.int b 0,.int 0 0,.int 0 0,.int 3 0,.ref r,.bool true,.int 181 0,x,y,z,v,.ref e,.int u 0,.int a 0,.str "/claim/cut.py" (u+1)],#[]⟩
noncomputable def cE(t b a r:Nat)(x y z v:Value)(e u:Nat)(n:Str):Obj:=cO t b a r x y z v e u n n
noncomputable def fO(k c:Nat)(s:Stmt)(m q n:Str):Obj:=⟨.type "function",none,.func (fnOf n q (qax s) (zt s) (qh s) .none .none .none (.str m k) none (.ref c) .none),#[]⟩
noncomputable def fE(k c:Nat)(s:Stmt)(m n:Str):Obj:=fO k c s m n n
noncomputable def Kf(P:Params):Frag:=
 (nat_lit 2,(⟨.none,none,.dict #[] 0,#[]⟩:Obj)) ::
 (nat_lit 3,(⟨(.type "dict"),none,.dict #[en P 165 (.str "law_onceroad_k35_what_are_no_pairs" 837) "__name__",en P 166 .none "__doc__",en P 167 .none "__package__",en P 168 (.builtin "__main__.__loader__#opaque") "__loader__",en P 169 .none "__spec__",en P 170 (.ref 6) "__annotations__",en P 171 (.ref 4) "__builtins__",en P 173 (.str "/claim/cut.py" 172) "__file__",en P 174 .none "__cached__",en P 193 (.ref 21) "_wall",en P 221 (.ref 38) "OnceError",en P 246 (.ref 58) "NoName",en P 271 (.ref 77) "Twice",en P 296 (.ref 96) "NoPlace",en P 321 (.ref 115) "NoTie",en P 346 (.ref 134) "TooMany",en P 371 (.ref 153) "NoPairs",en P 396 (.ref 172) "NoRow",en P 408 (.ref 181) "are_pairs",en P 418 (.ref 188) "partners_in",en P 424 (.ref 193) "told_pairs",en P 555 (.ref 283) "Forest",en P 567 (.ref 294) "is_row",en P 577 (.ref 301) "are_unlike_places",en P 583 (.ref 306) "goes_by_turns",en P 595 (.ref 313) "can_turn",en P 601 (.ref 318) "turned",en P 614 (.ref 325) "greatest_from",en P 618 (.int 6 617) "LONGEST_NAME",en P 624 (.ref 330) "is_name",en P 628 (.int 14 627) "MOST_PLACES",en P 630 (.int 30 629) "MOST_TIES",en P 790 (.ref 457) "Web",en P 798 (.ref 468) "has_bit",en P 806 (.ref 475) "is_place",en P 815 (.ref 482) "are_two_places",en P 824 (.ref 489) "numbers_of",en P 836 (.ref 496) "near_of",en P 846 (.ref 503) "_law_cell",en P 853 (.ref 510) "_law_box",en P 862 (.ref 517) "_law_take",en P 868 (.ref 522) "_law_names",en P 880 (.ref 529) "_law_ties",en P 890 (.ref 536) "_law_drawn",en P 896 (.ref 541) "_law_shuffled",en P 902 (.ref 546) "_law_fresh",en P 908 (.ref 551) "_law_rising",en P 915 (.ref 558) "_law_odd",en P 925 (.ref 565) "_law_partner",en P 931 (.ref 570) "_law_singles",en P 942 (.ref 577) "_law_some_pairs",en P 951 (.ref 584) "_law_tied",en P 961 (.ref 591) "_law_are_pairs",en P 971 (.ref 598) "_law_put",en P 986 (.ref 605) "_law_spoilt",en P 998 (.ref 612) "_law_refused",en P 1015 (.ref 619) "law"] 57,#[]⟩:Obj)) ::
 (nat_lit 34,cO 208 7 2 29 (.ref 30) .none (.ref 31) (.ref 32) 33 213 "OnceError.__init__" "__init__") ::
 (nat_lit 35,fO 194 34 jy "onceroad.errors" "OnceError.__init__" "__init__") ::
 (nat_lit 37,(⟨(.type "dict"),none,.dict #[en P 203 (.str "onceroad.errors" 194) "__module__",en P 207 (.int 5 206) "__firstlineno__",en P 215 (.ref 35) "__init__",en P 216 (.ref 36) "__static_attributes__",en P 218 (.ref 39) "__weakref__",en P 219 .none "__doc__"] 3,#[]⟩:Obj)) ::
 (nat_lit 38,(⟨(.type "type"),none,.cls { name:="OnceError",bases:=[(.type "ValueError")],mro:=[(.ref 38),(.type "ValueError"),(.type "Exception"),(.type "BaseException"),(.type "object")],ns:=37,qualname:="OnceError",hasDict:=true,slotNames:=[],subclasses:=[(.ref 58),(.ref 77),(.ref 96),(.ref 115),(.ref 134),(.ref 153),(.ref 172)],abstract:=false,collection:=none,hasDel:=false },#[(some (.ref 22)),none,(some (.str "OnceError" 196)),(some (.str "OnceError" 204)),(some (.builtin "ValueError.__new__")),(some (.bool true))]⟩:Obj)) ::
 (nat_lit 95,(⟨(.type "dict"),none,.dict #[en P 279 (.str "onceroad.errors" 194) "__module__",en P 283 (.int 19 282) "__firstlineno__",en P 291 (.ref 93) "__init__",en P 293 (.ref 94) "__static_attributes__",en P 294 .none "__doc__"] 2,#[]⟩:Obj)) ::
 (nat_lit 96,(⟨(.type "type"),none,.cls { name:="NoPlace",bases:=[(.ref 38)],mro:=[(.ref 96),(.ref 38),(.type "ValueError"),(.type "Exception"),(.type "BaseException"),(.type "object")],ns:=95,qualname:="NoPlace",hasDict:=true,slotNames:=[],subclasses:=[],abstract:=false,collection:=none,hasDel:=false },#[(some (.ref 80)),none,(some (.str "NoPlace" 272)),(some (.str "NoPlace" 280)),(some (.builtin "ValueError.__new__")),(some (.bool true))]⟩:Obj)) ::
 (nat_lit 114,(⟨(.type "dict"),none,.dict #[en P 304 (.str "onceroad.errors" 194) "__module__",en P 308 (.int 24 307) "__firstlineno__",en P 316 (.ref 112) "__init__",en P 318 (.ref 113) "__static_attributes__",en P 319 .none "__doc__"] 2,#[]⟩:Obj)) ::
 (nat_lit 115,(⟨(.type "type"),none,.cls { name:="NoTie",bases:=[(.ref 38)],mro:=[(.ref 115),(.ref 38),(.type "ValueError"),(.type "Exception"),(.type "BaseException"),(.type "object")],ns:=114,qualname:="NoTie",hasDict:=true,slotNames:=[],subclasses:=[],abstract:=false,collection:=none,hasDel:=false },#[(some (.ref 99)),none,(some (.str "NoTie" 297)),(some (.str "NoTie" 305)),(some (.builtin "ValueError.__new__")),(some (.bool true))]⟩:Obj)) ::
 (nat_lit 149,cO 359 36 2 144 (.ref 145) .none (.ref 146) (.ref 147) 148 364 "NoPairs.__init__" "__init__") ::
 (nat_lit 150,fO 194 149 jW "onceroad.errors" "NoPairs.__init__" "__init__") ::
 (nat_lit 152,(⟨(.type "dict"),none,.dict #[en P 354 (.str "onceroad.errors" 194) "__module__",en P 358 (.int 34 357) "__firstlineno__",en P 366 (.ref 150) "__init__",en P 368 (.ref 151) "__static_attributes__",en P 369 .none "__doc__"] 2,#[]⟩:Obj)) ::
 (nat_lit 153,(⟨(.type "type"),none,.cls { name:="NoPairs",bases:=[(.ref 38)],mro:=[(.ref 153),(.ref 38),(.type "ValueError"),(.type "Exception"),(.type "BaseException"),(.type "object")],ns:=152,qualname:="NoPairs",hasDict:=true,slotNames:=[],subclasses:=[],abstract:=false,collection:=none,hasDel:=false },#[(some (.ref 137)),none,(some (.str "NoPairs" 347)),(some (.str "NoPairs" 355)),(some (.builtin "ValueError.__new__")),(some (.bool true))]⟩:Obj)) ::
 (nat_lit 180,cE 399 45 2 175 (.ref 176) .none (.ref 177) (.ref 178) 179 406 "are_pairs") ::
 (nat_lit 181,fE 397 180 zd "onceroad.pairs" "are_pairs") ::
 (nat_lit 187,cE 409 55 2 182 (.ref 183) .none (.ref 184) (.ref 185) 186 416 "partners_in") ::
 (nat_lit 188,fE 397 187 jK "onceroad.pairs" "partners_in") ::
 (nat_lit 192,cE 419 63 2 189 (.ref 190) .none .none .none 191 422 "told_pairs") ::
 (nat_lit 193,fE 397 192 jp "onceroad.pairs" "told_pairs") ::
 (nat_lit 206,cO 439 69 3 201 (.ref 202) .none (.ref 203) (.ref 204) 205 445 "Forest.__init__" "__init__") ::
 (nat_lit 207,fO 425 206 jM "onceroad.forests" "Forest.__init__" "__init__") ::
 (nat_lit 213,cO 448 80 1 208 (.ref 209) .none (.ref 210) (.ref 211) 212 452 "Forest.row" "row") ::
 (nat_lit 214,fO 425 213 zr "onceroad.forests" "Forest.row" "row") ::
 (nat_lit 241,cO 477 92 1 236 (.ref 237) .none (.ref 238) (.ref 239) 240 482 "Forest.grow" "grow") ::
 (nat_lit 242,fO 425 241 j8 "onceroad.forests" "Forest.grow" "grow") ::
 (nat_lit 248,cO 485 100 3 243 (.ref 244) .none (.ref 245) (.ref 246) 247 491 "Forest.reach" "reach") ::
 (nat_lit 249,fO 425 248 jX "onceroad.forests" "Forest.reach" "reach") ::
 (nat_lit 255,cO 494 104 2 250 (.ref 251) .none (.ref 252) (.ref 253) 254 501 "Forest.look_around" "look_around") ::
 (nat_lit 256,fO 425 255 qZ "onceroad.forests" "Forest.look_around" "look_around") ::
 (nat_lit 260,cO 504 115 3 257 (.ref 258) .none .none .none 259 507 "Forest.bring_together" "bring_together") ::
 (nat_lit 261,fO 425 260 qJ "onceroad.forests" "Forest.bring_together" "bring_together") ::
 (nat_lit 267,cO 510 126 2 262 (.ref 263) .none (.ref 264) (.ref 265) 266 517 "Forest.bases_down_from" "bases_down_from") ::
 (nat_lit 268,fO 425 267 qO "onceroad.forests" "Forest.bases_down_from" "bases_down_from") ::
 (nat_lit 274,cO 520 133 4 269 (.ref 270) .none (.ref 271) (.ref 272) 273 531 "Forest.reach_round" "reach_round") ::
 (nat_lit 275,fO 425 274 qY "onceroad.forests" "Forest.reach_round" "reach_round") ::
 (nat_lit 279,cO 534 142 3 276 (.ref 277) .none .none .none 278 537 "Forest.fold" "fold") ::
 (nat_lit 280,fO 425 279 jL "onceroad.forests" "Forest.fold" "fold") ::
 (nat_lit 282,(⟨(.type "dict"),none,.dict #[en P 434 (.str "onceroad.forests" 425) "__module__",en P 438 (.int 67 437) "__firstlineno__",en P 447 (.ref 207) "__init__",en P 454 (.ref 214) "row",en P 461 (.ref 221) "reached",en P 469 (.ref 228) "row_to",en P 476 (.ref 235) "folds",en P 484 (.ref 242) "grow",en P 493 (.ref 249) "reach",en P 503 (.ref 256) "look_around",en P 509 (.ref 261) "bring_together",en P 519 (.ref 268) "bases_down_from",en P 533 (.ref 275) "reach_round",en P 539 (.ref 280) "fold",en P 548 (.ref 281) "__static_attributes__",en P 550 (.ref 284) "__dict__",en P 552 (.ref 285) "__weakref__",en P 553 .none "__doc__"] 4,#[]⟩:Obj)) ::
 (nat_lit 283,(⟨(.type "type"),none,.cls { name:="Forest",bases:=[(.type "object")],mro:=[(.ref 283),(.type "object")],ns:=282,qualname:="Forest",hasDict:=true,slotNames:=[],subclasses:=[],abstract:=false,collection:=none,hasDel:=false },#[none,none,(some (.str "Forest" 427)),(some (.str "Forest" 435)),(some (.builtin "object.__new__")),(some (.bool true))]⟩:Obj)) ::
 (nat_lit 293,cE 558 148 3 288 (.ref 289) .none (.ref 290) (.ref 291) 292 565 "is_row") ::
 (nat_lit 294,fE 556 293 qba "onceroad.rows" "is_row") ::
 (nat_lit 300,cE 568 153 2 295 (.ref 296) .none (.ref 297) (.ref 298) 299 575 "are_unlike_places") ::
 (nat_lit 301,fE 556 300 jd "onceroad.rows" "are_unlike_places") ::
 (nat_lit 305,cE 578 162 3 302 (.ref 303) .none .none .none 304 581 "goes_by_turns") ::
 (nat_lit 306,fE 556 305 qP "onceroad.rows" "goes_by_turns") ::
 (nat_lit 312,cE 584 168 3 307 (.ref 308) .none (.ref 309) (.ref 310) 311 593 "can_turn") ::
 (nat_lit 313,fE 556 312 qak "onceroad.rows" "can_turn") ::
 (nat_lit 317,cE 596 175 3 314 (.ref 315) .none .none .none 316 599 "turned") ::
 (nat_lit 318,fE 556 317 qaP "onceroad.rows" "turned") ::
 (nat_lit 324,cE 604 182 2 319 (.ref 320) .none (.ref 321) (.ref 322) 323 612 "greatest_from") ::
 (nat_lit 325,fE 602 324 jq "onceroad.greatest" "greatest_from") ::
 (nat_lit 329,cE 619 193 1 326 (.ref 327) .none .none .none 328 622 "is_name") ::
 (nat_lit 330,fE 615 329 zb "onceroad.names" "is_name") ::
 (nat_lit 343,cO 643 202 3 338 (.ref 339) .none (.ref 340) (.ref 341) 342 649 "Web.__init__" "__init__") ::
 (nat_lit 344,fO 625 343 qaf "onceroad.webs" "Web.__init__" "__init__") ::
 (nat_lit 350,cO 652 207 1 345 (.ref 346) .none (.ref 347) (.ref 348) 349 656 "Web.places" "places") ::
 (nat_lit 351,fO 625 350 zn "onceroad.webs" "Web.places" "places") ::
 (nat_lit 357,cO 659 210 1 352 (.ref 353) .none (.ref 354) (.ref 355) 356 666 "Web.ties" "ties") ::
 (nat_lit 358,fO 625 357 qai "onceroad.webs" "Web.ties" "ties") ::
 (nat_lit 371,cO 676 221 2 366 (.ref 367) .none (.ref 368) (.ref 369) 370 681 "Web.has_place" "has_place") ::
 (nat_lit 372,fO 625 371 jH "onceroad.webs" "Web.has_place" "has_place") ::
 (nat_lit 378,cO 684 224 2 373 (.ref 374) .none (.ref 375) (.ref 376) 377 689 "Web.has_tie" "has_tie") ::
 (nat_lit 379,fO 625 378 jJ "onceroad.webs" "Web.has_tie" "has_tie") ::
 (nat_lit 385,cO 692 227 2 380 (.ref 381) .none (.ref 382) (.ref 383) 384 697 "Web.number_of" "number_of") ::
 (nat_lit 386,fO 625 385 jI "onceroad.webs" "Web.number_of" "number_of") ::
 (nat_lit 392,cO 700 232 2 387 (.ref 388) .none (.ref 389) (.ref 390) 391 705 "Web.beside" "beside") ::
 (nat_lit 393,fO 625 392 zo "onceroad.webs" "Web.beside" "beside") ::
 (nat_lit 399,cO 708 235 2 394 (.ref 395) .none (.ref 396) (.ref 397) 398 713 "Web.bits_beside" "bits_beside") ::
 (nat_lit 400,fO 625 399 jr "onceroad.webs" "Web.bits_beside" "bits_beside") ::
 (nat_lit 406,cO 716 238 3 401 (.ref 402) .none (.ref 403) (.ref 404) 405 723 "Web.tied" "tied") ::
 (nat_lit 407,fO 625 406 qag "onceroad.webs" "Web.tied" "tied") ::
 (nat_lit 425,cO 740 248 2 422 (.ref 423) .none .none .none 424 743 "Web.names_in" "names_in") ::
 (nat_lit 426,fO 625 425 jw "onceroad.webs" "Web.names_in" "names_in") ::
 (nat_lit 456,(⟨(.type "dict"),none,.dict #[en P 638 (.str "onceroad.webs" 625) "__module__",en P 642 (.int 200 641) "__firstlineno__",en P 651 (.ref 344) "__init__",en P 658 (.ref 351) "places",en P 668 (.ref 358) "ties",en P 675 (.ref 365) "how_many",en P 683 (.ref 372) "has_place",en P 691 (.ref 379) "has_tie",en P 699 (.ref 386) "number_of",en P 707 (.ref 393) "beside",en P 715 (.ref 400) "bits_beside",en P 725 (.ref 407) "tied",en P 732 (.ref 414) "pieces",en P 739 (.ref 421) "told",en P 745 (.ref 426) "names_in",en P 753 (.ref 433) "without",en P 761 (.ref 440) "with_place",en P 770 (.ref 447) "with_tie",en P 779 (.ref 454) "without_tie",en P 783 (.ref 455) "__static_attributes__",en P 785 (.ref 458) "__dict__",en P 787 (.ref 459) "__weakref__",en P 788 .none "__doc__"] 4,#[]⟩:Obj)) ::
 (nat_lit 457,(⟨(.type "type"),none,.cls { name:="Web",bases:=[(.type "object")],mro:=[(.ref 457),(.type "object")],ns:=456,qualname:="Web",hasDict:=true,slotNames:=[],subclasses:=[],abstract:=false,collection:=none,hasDel:=false },#[none,none,(some (.str "Web" 631)),(some (.str "Web" 639)),(some (.builtin "object.__new__")),(some (.bool true))]⟩:Obj)) ::
 (nat_lit 467,cE 791 262 2 462 (.ref 463) .none (.ref 464) (.ref 465) 466 796 "has_bit") ::
 (nat_lit 468,fE 625 467 qaJ "onceroad.webs" "has_bit") ::
 (nat_lit 474,cE 799 264 2 469 (.ref 470) .none (.ref 471) (.ref 472) 473 804 "is_place") ::
 (nat_lit 475,fE 625 474 zx "onceroad.webs" "is_place") ::
 (nat_lit 481,cE 807 266 2 476 (.ref 477) .none (.ref 478) (.ref 479) 480 813 "are_two_places") ::
 (nat_lit 482,fE 625 481 je "onceroad.webs" "are_two_places") ::
 (nat_lit 488,cE 816 271 1 483 (.ref 484) .none (.ref 485) (.ref 486) 487 822 "numbers_of") ::
 (nat_lit 489,fE 625 488 zm "onceroad.webs" "numbers_of") ::
 (nat_lit 495,cE 825 284 2 490 (.ref 491) .none (.ref 492) (.ref 493) 494 834 "near_of") ::
 (nat_lit 496,fE 625 495 qaK "onceroad.webs" "near_of") ::
 (nat_lit 502,cE 839 301 2 497 (.ref 498) .none (.ref 499) (.ref 500) 501 844 "_law_cell") ::
 (nat_lit 503,fE 837 502 qa7 "law_onceroad_k35_what_are_no_pairs" "_law_cell") ::
 (nat_lit 509,cE 847 305 1 504 (.ref 505) .none (.ref 506) (.ref 507) 508 851 "_law_box") ::
 (nat_lit 510,fE 837 509 qbU "law_onceroad_k35_what_are_no_pairs" "_law_box") ::
 (nat_lit 516,cE 854 309 2 511 (.ref 512) .none (.ref 513) (.ref 514) 515 860 "_law_take") ::
 (nat_lit 517,fE 837 516 qa8 "law_onceroad_k35_what_are_no_pairs" "_law_take") ::
 (nat_lit 521,cE 863 318 2 518 (.ref 519) .none .none .none 520 866 "_law_names") ::
 (nat_lit 522,fE 837 521 zy "law_onceroad_k35_what_are_no_pairs" "_law_names") ::
 (nat_lit 528,cE 869 332 2 523 (.ref 524) .none (.ref 525) (.ref 526) 527 878 "_law_ties") ::
 (nat_lit 529,fE 837 528 qa9 "law_onceroad_k35_what_are_no_pairs" "_law_ties") ::
 (nat_lit 535,cE 881 340 2 530 (.ref 531) .none (.ref 532) (.ref 533) 534 888 "_law_drawn") ::
 (nat_lit 536,fE 837 535 qaN "law_onceroad_k35_what_are_no_pairs" "_law_drawn") ::
 (nat_lit 540,cE 891 346 2 537 (.ref 538) .none .none .none 539 894 "_law_shuffled") ::
 (nat_lit 541,fE 837 540 j4 "law_onceroad_k35_what_are_no_pairs" "_law_shuffled") ::
 (nat_lit 545,cE 897 352 1 542 (.ref 543) .none .none .none 544 900 "_law_fresh") ::
 (nat_lit 546,fE 837 545 zW "law_onceroad_k35_what_are_no_pairs" "_law_fresh") ::
 (nat_lit 557,cE 909 359 1 552 (.ref 553) .none (.ref 554) (.ref 555) 556 913 "_law_odd") ::
 (nat_lit 558,fE 837 557 qbm "law_onceroad_k35_what_are_no_pairs" "_law_odd") ::
 (nat_lit 564,cE 916 361 2 559 (.ref 560) .none (.ref 561) (.ref 562) 563 923 "_law_partner") ::
 (nat_lit 565,fE 837 564 zI "law_onceroad_k35_what_are_no_pairs" "_law_partner") ::
 (nat_lit 569,cE 926 368 2 566 (.ref 567) .none .none .none 568 929 "_law_singles") ::
 (nat_lit 570,fE 837 569 zf "law_onceroad_k35_what_are_no_pairs" "_law_singles") ::
 (nat_lit 576,cE 932 370 2 571 (.ref 572) .none (.ref 573) (.ref 574) 575 940 "_law_some_pairs") ::
 (nat_lit 577,fE 837 576 jY "law_onceroad_k35_what_are_no_pairs" "_law_some_pairs") ::
 (nat_lit 590,cE 952 379 2 585 (.ref 586) .none (.ref 587) (.ref 588) 589 959 "_law_are_pairs") ::
 (nat_lit 591,fE 837 590 j9 "law_onceroad_k35_what_are_no_pairs" "_law_are_pairs") ::
 (nat_lit 597,cE 962 390 3 592 (.ref 593) .none (.ref 594) (.ref 595) 596 969 "_law_put") ::
 (nat_lit 598,fE 837 597 qbW "law_onceroad_k35_what_are_no_pairs" "_law_put") ::
 (nat_lit 604,cE 972 393 4 599 (.ref 600) .none (.ref 601) (.ref 602) 603 984 "_law_spoilt") ::
 (nat_lit 605,fE 837 604 qal "law_onceroad_k35_what_are_no_pairs" "_law_spoilt") ::
 (nat_lit 611,cE 987 409 3 606 (.ref 607) .none (.ref 608) (.ref 609) 610 996 "_law_refused") ::
 (nat_lit 612,fE 837 611 zL "law_onceroad_k35_what_are_no_pairs" "_law_refused") ::
 (nat_lit 618,cE 999 426 1 613 (.ref 614) .none (.ref 615) (.ref 616) 617 1013 "law") ::
 (nat_lit 619,fE 837 618 qcR "law_onceroad_k35_what_are_no_pairs" "law") ::
 []
noncomputable def ks:LQ:=[2,3,34,35,37,38,95,96,114,115,149,150,152,153,180,181,187,188,192,193,206,207,213,214,241,242,248,249,255,256,260,261,267,268,274,275,279,280,282,283,293,294,300,301,305,306,312,313,317,318,324,325,329,330,343,344,350,351,357,358,371,372,378,379,385,386,392,393,399,400,406,407,425,426,456,457,467,468,474,475,481,482,488,489,495,496,502,503,509,510,516,517,521,522,528,529,535,536,540,541,545,546,557,558,564,565,569,570,576,577,590,591,597,598,604,605,611,612,618,619]
theorem ks_eq:∀ P,ks=(Kf P).map (·.1):=fun P=>by kernel_rfl
noncomputable abbrev Hk:Hook:=kHook Kf ks ks_eq
noncomputable abbrev Xt(s:Shared):Bool:=xlAt Q [] s&&recOk [] s
noncomputable abbrev sn(s:Shared):=openSeen Q [] (importedModules PySem.Challenge.pw_onceroad_k35_what_are_no_pairs.main.body) Xt true s
noncomputable def runA(w:World)(a:OsState):=(Hd.lookS PySem.Challenge.pw_onceroad_k35_what_are_no_pairs NN w a).map fun s=>((sn s).1,(sn s).2.1,(sn s).2.2.1,(sn s).2.2.2.1)
noncomputable def runB(w:World)(a:OsState):=(Hd.lookS PySem.Challenge.pw_onceroad_k35_what_are_no_pairs NN w a).map fun s=>(sn s).2.2.2.2
noncomputable def runC(w:World)(a:OsState):=(Hd.lookS PySem.Challenge.pw_onceroad_k35_what_are_no_pairs NN w a).map fun s=>ks.map s.heap.get?
noncomputable def gdA(_:World)(_:OsState):=some ((openGood Q []).1,(openGood Q []).2.1,(openGood Q []).2.2.1,(openGood Q []).2.2.2.1)
noncomputable def gdB(_:World)(_:OsState):=some (openGood Q []).2.2.2.2
noncomputable def gdC(w:World)(_:OsState):=some ((Kf w.params).map fun p=>some p.2)
noncomputable def tag{a:Type}(f g:World->OsState->a):Bool:=true
theorem tag1:(tag runA gdA&&(tag runB gdB&&tag runC runC))=true:=by k_qdec
theorem hA1(w:World)(a:OsState):runA w a=gdA w a:=by
 rw[PySem.W.Fast.te14745548880878055719,PySem.W.Fast.te15605132439026674665]
 kernel_rfl
theorem hB1(w:World)(a:OsState):runB w a=gdB w a:=by
 rw[PySem.W.Fast.te16726177139795414276,PySem.W.Fast.te10955230426491990054]
 kernel_rfl
theorem hC1(w:World)(a:OsState):runC w a=gdC w a:=by
 rw[PySem.W.Fast.te18165619460132568557]
 kernel_rfl
theorem hl:LeftO PySem.Challenge.pw_onceroad_k35_what_are_no_pairs Q [] Xt (Hook.obs Hk) (Hook.val Hk) NN:=Hd.left_of (by kernel_rfl) (by decide) (fun s=>by kernel_rfl) fun w a=>(Hd.lookT_map ..).trans (Hd.packs (hA1 w a) (hB1 w a) (hC1 w a))
end K35
namespace L2
open PySem PySem.Spec PyProof.Rows
variable{A:Around}{C a b dx it:Addr}{CX:CXT}{D:Ends}{E:Value->Shared->Prop}{H:Hp}{M:Model}{N ps:LS}{P:Program}{X:Cx}{base h:Heap}{body:List Stmt}{c e tg:Expr}{ch fp:LQ}{d':Drawn}{es:List Expr}{f:Value->Value->Sem Value}{g:TG}{g':Array GenState}{i j n t':Nat}{kindOf:Str->Option NameKind}{kw:List (Str×Value)}{lo:Int}{mA mg:Str->Option Value}{o:HO}{op op':CmpOp}{outer:List Env}{pins:List (Addr×Obj)}{pos:Pos}{qual x:Str}{r r':R2}{s s':Shared}{sc scope:Scope}{t te:TE}{tb:TS}{tc:TT}{u:Value}{us:List Value}{v y:V}{vs xs:List V}{w:World}{α:Type}{σ:St}
noncomputable abbrev Key:=Sum Int Str
noncomputable def qcv:Key->Value->Bool
 | .inl k,v=>Value.isInt k v
 | .inr x,v=>Value.isStrOf x v
noncomputable def keyH(w:World):Key->Int
 | .inl k=>hashInt k
 | .inr x=>hashStr w x
theorem qT:∀{k:Key} {v:Value},qcv k v=true->(∃ i t,k=Sum.inl i/\v=Value.int i t)\/(∃ x t,k=Sum.inr x/\v=Value.str x t)
 | .inl i,v,h=>by
  obtain⟨t,e⟩:=Value.isInt_shape (k:=i) (v:=v) h;show .inl ⟨i,t,rfl,e⟩
 | .inr x,v,h=>by
  obtain⟨t,e⟩:=Value.isStrOf_shape (x:=x) (v:=v) h;show .inr ⟨x,t,rfl,e⟩
theorem keyIs_int(i:Int)(t:Tok):qcv (.inl i) (.int i t)=true:=by simp[qcv,Value.isInt]
theorem keyIs_str(x:Str)(t:Tok):qcv (.inr x) (.str x t)=true:=by simp[qcv,Value.isStrOf]
theorem key_ll(a b:Int):decide ((Sum.inl a:Key)=Sum.inl b)=(a==b):=by
 by_cases e:a=b
 .subst e;simp
 .have h:¬ (Sum.inl a:Key)=Sum.inl b:=fun q=>e (Sum.inl.inj q);rw[yl h];show(Yo.mpr e).symm
theorem key_rr(a b:Str):decide ((Sum.inr a:Key)=Sum.inr b)=decide (a=b):=by
 by_cases e:a=b
 .subst e;simp
 .have h:¬ (Sum.inr a:Key)=Sum.inr b:=fun q=>e (xC q);rw[yl h,yl e]
theorem key_lr(a:Int)(b:Str):decide ((Sum.inl a:Key)=Sum.inr b)=false:=yl (fun q=>nomatch q)
theorem key_rl(a:Str)(b:Int):decide ((Sum.inr a:Key)=Sum.inl b)=false:=yl (fun q=>nomatch q)
noncomputable def js(prog:Program)(w:World):PySem.KeyKind prog w Key where
 is:=qcv
 hash:=keyH w
 inj:=fun v a b d c=>by
  rcases qT d with⟨i,t,rfl,rfl⟩ | ⟨x,t,rfl,rfl⟩
  .rcases qT c with⟨j,u,rfl,e⟩ | ⟨y,u,rfl,e⟩
   .injection e with e1 _;rw[e1]
   .show nomatch e
  .rcases qT c with⟨j,u,rfl,e⟩ | ⟨y,u,rfl,e⟩
   .show nomatch e
   .injection e with e1 _;rw[e1]
 byValue:=fun k v h=>by
  rcases qT h with⟨i,t,rfl,rfl⟩ | ⟨x,t,rfl,rfl⟩<;>rfl
 pyHash:=fun hv h=>by
  rcases qT hv with⟨i,t,rfl,rfl⟩ | ⟨x,t,rfl,rfl⟩
  .show wpAny_pyHash_int h
  .show wpAny_pyHash_str h
 eqBool:=fun f hv h=>by
  rcases qT f with⟨i,t,rfl,rfl⟩ | ⟨x,t,rfl,rfl⟩
  .rcases qT hv with⟨j,u,rfl,rfl⟩ | ⟨y,u,rfl,rfl⟩
   .rw [key_ll] at h;show wpAny_eqBool_int h
   .rw [key_lr] at h;show SeqAt.EqAt.int_str i t y u _ _ _ _ h
  .rcases qT hv with⟨j,u,rfl,rfl⟩ | ⟨y,u,rfl,rfl⟩
   .rw [key_rl] at h;show SeqAt.EqAt.str_int x t j u _ _ _ _ h
   .rw [key_rr] at h;show wpAny_eqBool_str h
 «strs»:=fun k x t v h=>by
  rcases qT h with⟨i,u,rfl,e⟩ | ⟨y,u,rfl,e⟩
  .show nomatch e
  .injection e with e1 _
   subst e1;cases v<;>rfl
theorem mixKind_int(prog:Program)(w:World)(i:Int)(t:Tok):(js prog w).is (.inl i) (.int i t)=true:=keyIs_int i t
theorem mixKind_str(prog:Program)(w:World)(x:Str)(t:Tok):(js prog w).is (.inr x) (.str x t)=true:=keyIs_str x t
inductive V where
 | non | bl (b:Bool) | int (i:Int) | str (x:Str) | byt (b:Array UInt8) | flt (b:UInt64) | ref (a:Addr) | ty (n:String)
 deriving DecidableEq
def RelV:V->Value->Prop
 | .non,u=>u=Value.none
 | .bl b,u=>u=Value.bool b
 | .int i,u=>∃ t,u=Value.int i t
 | .str x,u=>∃ t,u=Value.str x t
 | .byt b,u=>∃ t,u=Value.bytes b t
 | .flt b,u=>∃ t,u=Value.float b t
 | .ref a,u=>u=Value.ref a
 | .ty n,u=>u=Value.type n
abbrev Vals:List V->List Value->Prop:=Paired RelV
theorem Vals.length(r:Vals xs us):xs.length=us.length:=Paired.length r
theorem Vals.get:∀{xs:List V} {us:List Value} {i:Nat} {x:V},Vals xs us->xs[i]?=some x->∃ u,us[i]?=some u/\RelV x u
 | _,_,_,_,.nil,e=>by simp at e
 | _,_,0,_,.cons r _,e=>by simp at e;subst e;show⟨_,rfl,r⟩
 | _,_,i+1,x,.cons _ t,e=>by
  obtain⟨u,h1,a⟩:=Vals.get (i:=i) (x:=x) t (by simpa using e);show⟨u,by simpa using h1,a⟩
theorem Vals.set{x:V}(r:RelV x u):∀{xs:List V} {us:List Value} (i:Nat),Vals xs us->Vals (xs.set i x) (us.set i u)
 | _,_,_,.nil=>.nil
 | _,_,0,.cons _ t=>.cons r t
 | _,_,i+1,.cons q t=>.cons q (Vals.set r i t)
theorem Vals.append:∀{xs ys:List V} {us a:List Value},Vals xs us->Vals ys a->Vals (xs++ys) (us++a)
 | _,_,_,_,.nil,s=>s
 | _,_,_,_,.cons r t,s=>.cons r (Vals.append t s)
theorem Vals.take:∀{xs:List V} {us:List Value} (n:Nat),Vals xs us->Vals (xs.take n) (us.take n)
 | _,_,0,_=>.nil
 | _,_,_+1,.nil=>.nil
 | _,_,n+1,.cons r t=>.cons r (Vals.take n t)
theorem Vals.drop:∀{xs:List V} {us:List Value} (n:Nat),Vals xs us->Vals (xs.drop n) (us.drop n)
 | _,_,0,r=>r
 | _,_,_+1,.nil=>.nil
 | _,_,n+1,.cons _ t=>Vals.drop n t
def RelO:Option V->Option Value->Prop
 | some v,some u=>RelV v u
 | none,none=>True
 | _,_=>False
def KV{a:Type}:List (a×V)->List (a×Value)->Prop:=Paired fun(p:a×V) (q:a×Value)=>p.1=q.1/\RelV p.2 q.2
noncomputable def kV:Key->V
 | .inl i=>.int i
 | .inr x=>.str x
inductive HO where
 /-- a list -/
 | lst (xs:List V)
 /-- a tuple (never changes) -/
 | tup (xs:List V)
 /-- a dict whose keys are ints and texts;one whose keys are tuples of ints and texts (the empty one is both) -/
 | dK (kvs:List (Key×V)) | dT (kvs:List (List Key×V))
 /-- a set of ints: its members,its size -/
 | set (S:Int->Bool) (n:Nat)
 /-- an instance of the class at C,its dict at dx,its attributes -/
 | ins (C dx:Addr) (fs:List (Str×V))
 /-- the dict of the instance at x -/
 | own (x:Addr)
 /-- the dict of an exception -/
 | xd (fs:List (Str×V))
 /-- a bound method,f of x -/
 | met (f x:Addr)
 /-- a range object lo,lo+1,.. below hi -/
 | rng (lo hi:Int)
 /-- a thing that is known to the object (the script;a dict while a loop walks it): read,never written while it is so -/
 | frz (o:Obj) (u:HO)
 /-- a code object's table -/
 | tbl (ps:Array Value)
 /-- any other thing,by what is true of its one object (a def of one's own: SetO a S n:=HO.ext fun h=>..) -/
 | ext (φ:Heap->Prop)
noncomputable abbrev Hp:=Addr->Option HO
noncomputable def upd(H:Hp)(a:Addr)(o:HO):Hp:=fun b=>if b=a then some o else H b
theorem qb:upd H a o a=some o:=by unfold upd;rw[yE rfl]
theorem qf(h:b≠a):upd H a o b=H b:=by unfold upd;rw[yC h]
theorem qat{u:HO}(h:H a=some o)(h':H b=some u)(d:o≠u):a≠b:=by
 intro e;subst e;rw[h] at h';show d (ym h')
theorem qB(h:H a=some o)(h':H b=none):a≠b:=by
 intro e;subst e;rw[h] at h';cases h'
section
variable(P:Program)(w:World)
def ObjOk(H:Hp)(h:Heap)(a:Addr):HO->Prop
 | .lst xs=>xs.length<=sizeLine/\∃(b:List Value) (n:Nat),Vals xs b/\h.get? a=some { cls:=.type "list",data:=.seq b.toArray n }
 | .tup xs=>xs.length<=sizeLine/\∃ b:List Value,Vals xs b/\IsTup h a b.toArray
 | .dK kvs=>kvs.length<=sizeLine/\(a==sysModules)=false/\∃ vs,KV kvs vs/\h.DictOf (js P w) a vs
 | .dT kvs=>kvs.length<=sizeLine/\(a==sysModules)=false/\∃ xs:List (List Key×Addr×Value),
   Paired (fun(p:List Key×V) (q:List Key×Addr×Value)=>p.1=q.1/\H q.2.1=some (.tup (p.1.map kV))/\RelV p.2 q.2.2) kvs xs /\
   ∃ o es ep,h.get? a=some o/\o.ExactDict/\o.data=.dict es ep/\es.toList=xs.map (entryOfKey (tupleKind (js P w)))/\(xs.map (·.1)).Nodup
 | .set S n=>h.SetOf (intKind P w) a S n
 | .ins C dx fs=>H dx=some (.own a)/\fs.length<=1000/\dx≠a/\h.get? a=some (PySem.W.instObj C dx) /\
   ∃ mA,h.Ns1 dx mA/\(∀ f,RelO (fs.lookup f) (mA f))/\PySem.Within mA (fs.map (·.1))
 | .own _=>∃ o,h.get? a=some o
 | .xd fs=>∃ mA,h.Ns1 a mA/\∀ f,RelO (fs.lookup f) (mA f)
 | .rng lo hi=>∃ t u v,h.get? a=some { cls:=.type "range",data:=.fields #[.int lo t,.int hi u,.int 1 v] }
 | .frz o u=>h.get? a=some o/\ObjOk H h a u
 | .tbl ps=>h.get? a=some { cls:=.none,data:=.fields ps }
 | .met f x=>h.get? a=some (PySem.W.methodObj (.ref f) (.ref x))
 | .ext φ=>φ h/\(∃ o,h.get? a=some o)/\∀ h1 c:Heap,φ h1->(∀ o,h1.get? a=some o->c.get? a=some o)->φ c
def HOk(H:Hp)(h:Heap):Prop:=∀ a o,H a=some o->ObjOk P w H h a o
end
section
variable{P:Program}{w:World}{H H':Hp}{h h':Heap}{a:Addr}{o:HO}
theorem ObjOk.lt(x:ObjOk P w H h a o):a<h.objs.size:=by
 cases o with
 | lst xs=>obtain⟨_,_,_,_,e⟩:=x;show yF e
 | tup xs=>obtain⟨_,_,_,p⟩:=x;show p.lt
 | dK kvs=>obtain⟨_,_,_,_,o,_,_,e,_⟩:=x;show yF e
 | dT kvs=>obtain⟨_,_,_,_,o,_,_,e,_⟩:=x;show yF e
 | set S n=>obtain⟨o,_,_,_,e,_⟩:=x;show yF e
 | ins C dx fs=>obtain⟨_,_,_,e,_⟩:=x;show yF e
 | own y=>obtain⟨_,e⟩:=x;show yF e
 | xd fs=>obtain⟨_,⟨_,_,_,e,_⟩,_⟩:=x;show yF e
 | rng lo hi=>obtain⟨_,_,_,e⟩:=x;show yF e
 | frz ob u=>obtain⟨e,_⟩:=x;show yF e
 | tbl ps=>show yF (show h.get? a=some _ from x)
 | met f y=>show yF (show h.get? a=some _ from x)
 | ext φ=>obtain⟨_,⟨_,e⟩,_⟩:=x;show yF e
theorem Paired.mapP{d:Type}{F G:α->d->Prop}:∀{l₁:List α} {c:List d},Paired F l₁ c->(∀ a b,F a b->G a b)->Paired G l₁ c
 | _,_,.nil,_=>.nil
 | _,_,.cons r t,f=>.cons (f _ _ r) (Paired.mapP t f)
theorem ObjOk.stay(x:ObjOk P w H h a o)(k:∀ b u,(b=a\/H b=some (.own a))->h.get? b=some u->h'.get? b=some u)
  (j:∀ b,H b=some (.own a)->H' b=some (.own a)) (l:∀ b xs,H b=some (.tup xs)->H' b=some (.tup xs)):ObjOk P w H' h' a o:=by
 induction o with
 | lst xs=>obtain⟨z,g,n,r,e⟩:=x;show⟨z,g,n,r,k _ _ (.inl rfl) e⟩
 | tup xs=>obtain⟨z,g,r,ob,e,c⟩:=x;show⟨z,g,r,ob,k _ _ (.inl rfl) e,c⟩
 | dK kvs=>obtain⟨z,y,vs,r,ob,es,ep,e,c⟩:=x;show⟨z,y,vs,r,ob,es,ep,k _ _ (.inl rfl) e,c⟩
 | dT kvs =>
  obtain⟨z,y,xs,r,ob,es,ep,e,c⟩:=x;show⟨z,y,xs,Paired.mapP r fun p q z=>⟨z.1,l _ _ z.2.1,z.2.2⟩,ob,es,ep,k _ _ (.inl rfl) e,c⟩
 | set S n=>obtain⟨ob,es,ep,t,e,c⟩:=x;show⟨ob,es,ep,t,k _ _ (.inl rfl) e,c⟩
 | ins C dx fs =>
  obtain⟨d,z,ne,e,mA,⟨od,es,ep,i,c⟩,r⟩:=x;show⟨j _ d,z,ne,k _ _ (.inl rfl) e,mA,⟨od,es,ep,k _ _ (.inr d) i,c⟩,r⟩
 | own y=>obtain⟨ob,e⟩:=x;show⟨ob,k _ _ (.inl rfl) e⟩
 | xd fs=>obtain⟨mA,⟨od,es,ep,e,c⟩,r⟩:=x;show⟨mA,⟨od,es,ep,k _ _ (.inl rfl) e,c⟩,r⟩
 | rng lo hi=>obtain⟨t,u,v,e⟩:=x;show⟨t,u,v,k _ _ (.inl rfl) e⟩
 | frz ob u ih=>obtain⟨e,q⟩:=x;show⟨k _ _ (.inl rfl) e,ih q⟩
 | tbl ps =>
  have e:h.get? a=some { cls:=.none,data:=.fields ps }:=x;show h'.get? a=some { cls:=.none,data:=.fields ps };show k a _ (.inl rfl) e
 | met f y =>
  have e:h.get? a=some (PySem.W.methodObj (.ref f) (.ref y)):=x;show h'.get? a=some (PySem.W.methodObj (.ref f) (.ref y));show k a _ (.inl rfl) e
 | ext φ=>obtain⟨p,⟨o,e⟩,st⟩:=x;show⟨st _ _ p fun o q=>k _ _ (.inl rfl) q,⟨o,k _ _ (.inl rfl) e⟩,st⟩
theorem HOk.lt(x:HOk P w H h)(e:H a=some o):a<h.objs.size:=(x a o e).lt
theorem HOk.fresh(x:HOk P w H h)(e:h.objs.size<=a):H a=none:=by
 cases q:H a with
 | none=>rfl
 | some u=>show absurd (yj (x.lt q) e) (Yp _)
theorem HOk.kept(x:HOk P w H h)(k:∀ b u,h.get? b=some u->h'.get? b=some u):HOk P w H h':=fun a o e =>
 (x a o e).stay (fun b u _ q=>k b u q) (fun _ q=>q) fun _ _ q=>q
theorem HOk.laid(x:HOk P w H h)(k:∀ b u,h.get? b=some u->h'.get? b=some u)(g:h.objs.size<=a)(new:ObjOk P w (upd H a o) h' a o):HOk P w (upd H a o) h':=fun b u e=>by
 have f:=x.fresh g;by_cases d:b=a
 .subst d;rw[qb] at e;cases e;show new
 .rw [qf d] at e;show(x b u e).stay (fun c v _ q=>k c v q) (fun c q=>by rw[qf (qB q f)];show q) fun c xs q=>by rw[qf (qB q f)];show q
end
def Rd(H:Hp)(a:Addr)(u:HO):Prop:=H a=some u\/∃ o,H a=some (.frz o u)
theorem Rd.ok{u:HO}(r:Rd H a u)(x:HOk P w H h):ObjOk P w H h a u:=by
 rcases r with r | ⟨o,r⟩
 .show x a u r
 .obtain⟨_,q⟩:=x a _ r;show q
def Mut:Option HO->Prop
 | some (.lst _)=>True
 | some (.dK _)=>True
 | some (.dT _)=>True
 | some (.set _ _)=>True
 | some (.ins _ _ _)=>True
 | some (.ext _)=>True
 | _=>False
section
variable{P:Program}{w:World}{H:Hp}{h h':Heap}{x e:Addr}{o':HO}
theorem HOk.write(ok:HOk P w H h)(i:Mut (H x))(l:e=x\/H e=some (.own x))(k:∀ b u,b≠e->h.get? b=some u->h'.get? b=some u)(j:∃ u,h'.get? e=some u)
  (new:ObjOk P w (upd H x o') h' x o'):HOk P w (upd H x o') h':=fun b u q=>by
 have d:∀ c y,H c=some (.own y)->c≠x:=fun c y r z=>by subst z;rw[r] at i;show i
 have f:∀ c xs,H c=some (.tup xs)->c≠x:=fun c xs r z=>by subst z;rw[r] at i;show i
 by_cases g:b=x
 .subst g;rw[qb] at q;cases q;show new
 .rw [qf g] at q;by_cases a:b=e
  .have m:H b=some (.own x):=by
    rcases l with z | z
    .show absurd (a.trans z) g
    .rw [a];show z
   rw[q] at m;cases m;obtain⟨v,hv⟩:=j;show⟨v,by rw[a];show hv⟩
  .show(ok b u q).stay (fun c v hc r=>k c v ?_ r) (fun c r=>by rw[qf (d c b r)];show r) fun c xs r=>by rw[qf (f c xs r)];show r
   rcases hc with rfl | hc
   .show a
   .rintro rfl;rcases l with z | z
    .show d c b hc z
    .rw [hc] at z;cases z;show g rfl
end
structure Un(fs ex:LQ)(H H':Hp)(h h':Heap):Prop where
 keep:∀ b o,h.get? b=some o->H b=none->b∉fs->b∉ex->h'.get? b=some o
 slot:∀ b o,h.get? b=some o->H b=none->b∈fs->b∉ex->∃ sl,h'.get? b=some { o with slots:=sl }
 free:∀ b o,h.get? b=some o->H b=none->b∉ex->H' b=none
 there:∀ b o,h.get? b=some o->b∉ex->∃ o',h'.get? b=some o'
 tups:∀ b xs,H b=some (.tup xs)->H' b=some (.tup xs)
 frzs:∀ b o u,H b=some (.frz o u)->H' b=some (.frz o u)
 tbls:∀ b ps,H b=some (.tbl ps)->∃ more,H' b=some (.tbl (ps++more))
section
variable{fs fs' ex ex':LQ}{H H1 H2:Hp}{h h1 h2 h':Heap}{a x e:Addr}{o:HO}
theorem Un.any(u:Un fs ex H H1 h h1){ob:Obj}(q:h.get? b=some ob)(n:H b=none)(c:b∉ex):∃ d,h1.get? b=some { ob with slots:=d }:=by
 by_cases a:b∈fs
 .show u.slot b ob q n a c
 .show⟨ob.slots,u.keep b ob q n a c⟩
theorem Un.kept(k:∀ b u,h.get? b=some u->h'.get? b=some u):Un fs ex H H h h':=
 ⟨fun b ob q _ _ _=>k b ob q,fun b ob q _ _ _=>⟨ob.slots,k b ob q⟩,fun _ _ _ n _=>n,fun b ob q _=>⟨ob,k b ob q⟩,fun _ _ q=>q,fun _ _ _ q=>q,fun _ ps q=>⟨#[],by rw[q];simp⟩⟩
theorem Un.refl:Un fs ex H H h h:=Un.kept fun _ _ q=>q
theorem Un.laid(k:∀ b u,h.get? b=some u->h'.get? b=some u)(d:h.objs.size<=a)(c:H a=none):Un fs ex H (upd H a o) h h' where
 keep:=fun b u q _ _ _=>k b u q
 slot:=fun b u q _ _ _=>⟨u.slots,k b u q⟩
 free:=fun b u q n _=>by rw[qf (yG (yj (yF q) d))];show n
 there:=fun b u q _=>⟨u,k b u q⟩
 tups:=fun b xs q=>by rw[qf (qB q c)];show q
 frzs:=fun b u xs q=>by rw[qf (qB q c)];show q
 tbls:=fun b ps q=>⟨#[],by rw[qf (qB q c),q];simp⟩
theorem Un.write(c:Mut (H x))(j:e=x\/H e=some (.own x))(k:∀ b u,b≠e->h.get? b=some u->h'.get? b=some u)(d:∃ u,h'.get? e=some u):Un fs ex H (upd H x o) h h':=by
 have i:∀ b,H b=none->b≠x:=fun b n z=>by subst z;rw[n] at c;show c
 have g:∀ b,H b=none->b≠e:=fun b n z=>by
  subst z;rcases j with r | r
  .show i b n r
  .rw [n] at r;cases r
 have f:∀ b u,H b=some u->¬ Mut (some u)->b≠x:=fun b u q l z=>by subst z;rw[q] at c;show l c
 show⟨fun b u q n _ _=>k b u (g b n) q,fun b u q n _ _=>⟨u.slots,k b u (g b n) q⟩,fun b u q n _=>by rw[qf (i b n)];show n,fun b u q _=>?_,
  fun b xs q=>by rw[qf (f b _ q fun z=>z)];show q,fun b u xs q=>by rw[qf (f b _ q fun z=>z)];show q,fun b ps q=>⟨#[],by rw[qf (f b _ q fun z=>z),q];simp⟩⟩
 by_cases a:b=e
 .subst a;show d
 .show⟨u,k b u a q⟩
end
noncomputable def trk(h:Heap)(H:Hp):LQ:=(List.range h.objs.size).filter fun a=>(H a).isSome
noncomputable def qd8(h:Heap)(H:Hp):Heap:=PySem.W.hideAll h (trk h H)
theorem hidT_size(h:Heap)(H:Hp):(qd8 h H).objs.size=h.objs.size:=PySem.W.hideAll_size _ _
theorem hidT_get{o:Obj}(e:h.get? b=some o)(n:H b=none):(qd8 h H).get? b=some o:=
 PySem.W.hideAll_get _ e fun a=>by
  have q:(H b).isSome=true:=(yp.mp a).2;rw[n] at q;simp at q
theorem of_hidT{o:Obj}(e:(qd8 h H).get? b=some o):h.get? b=some o/\H b=none:=by
 have a:h.get? b=some o:=PySem.W.of_hideAll (trk h H) e;show⟨a,?_⟩
 cases q:H b with
 | none=>rfl
 | some x =>
  have c:b∈trk h H:=yp.mpr ⟨xI.mpr (yF a),by simp[q]⟩;have z:(qd8 h H).get? b=none:=PySem.W.hideAll_none (trk h H) c;rw[z] at e;cases e
noncomputable def allNews(g h:Heap)(L:Addr):List (Addr×Obj):=(List.range h.objs.size).filterMap fun a=>if a=L\/(g.get? a).isSome=true then none else(h.get? a).map fun o=>(a,o)
noncomputable def rest(g h:Heap)(L d:Addr):List (Addr×Obj):=(allNews g h L).filter fun p=>decide (p.1≠d)
structure Mod(K:yg)(mg:Str->Option Value)(base:Heap):Prop where
 kin:K.In base
 glob:base.Ns mainGlobals mg
 blt:∃ mb,base.Ns builtinsNs mb/\∀ x:Str,x≠"__name__"->mb x=bootBuiltins x
 nolimit:base.NoLimit
structure Cx where
 prog:Program
 w:World
 K:yg
 mg:Str->Option Value
 base:Heap
 A:Around
 N:LS
 s₀:Shared
 H₀:Hp
 env:Env
 outer:List Env
 stack:List Env
 ex:LQ
 fn:Str->Bool
 calm:Bool
 pn:List (Addr×Obj)
 xe:Value->Shared->Prop
noncomputable def frs(l:List Env):LQ:=l.filterMap (·.frame)
noncomputable abbrev Cx.fs(X:Cx):LQ:=frs X.outer
def Vis(sc:Scope)(x:Str):Prop:=sc.names.lookup x=some .local\/sc.names.lookup x=some .cell\/sc.names.lookup x=some .free
def Loc(sc:Scope)(x:Str):Prop:=sc.names.lookup x=some .local\/sc.names.lookup x=some .cell
def Look(env:Env)(h:Heap)(m:Str->Option Value)(x:Str)(u:Value):Prop:=
 (env.kindOf x=some .local/\m x=some u)\/((env.kindOf x=some .cell\/env.kindOf x=some .free)/\∃ c,env.cells.lookup x=some c/\h.IsCell c (some u))
structure Cx.Ok(X:Cx):Prop where
 mod:Mod X.K X.mg X.base
 kind:X.env.scope.kind=.function
 glob:X.env.globals=mainGlobals
 blt:X.env.builtins=builtinsNs
 above:X.s₀.heap.objs.size<=X.env.locals
 inj:∀ x y c,X.env.cells.lookup x=some c->X.env.cells.lookup y=some c->x=y
 has:∀ x,(X.env.kindOf x=some .cell\/X.env.kindOf x=some .free)->∃ c,X.env.cells.lookup x=some c
 cab:∀ x c,X.fn x=true->X.env.cells.lookup x=some c->X.s₀.heap.objs.size<=c
 hd:X.calm=true->X.A.handled=none
 frames:X.A.frames=some X.stack
 stk:X.stack=X.outer\/(X.stack=X.env::X.outer/\X.env.frame=some X.env.locals)
 exf:∀ b∈X.ex,b≠X.env.locals/\∀ x c,X.env.cells.lookup x=some c->c≠b
 bs:∀ b o,X.base.get? b=some o->X.s₀.heap.get? b=some o/\X.H₀ b=none
 bsz:X.base.objs.size<=X.s₀.heap.objs.size
 noex:∀ b o,X.base.get? b=some o->b∉X.ex
 exfs:∀ b∈X.ex,b∉X.fs
 funs:X.s₀.heap.FunFrames X.base X.outer
 frf:∀ b∈X.fs,X.H₀ b=none
structure Inv(X:Cx)(pins:List (Addr×Obj))(σ:List (Option V))(H:Hp)(s:Shared):Prop where
 ok:X.Ok
 os:s.os=X.s₀.os
 bare:AllBare s.gens
 base:Un X.fs X.ex X.H₀ H X.s₀.heap s.heap
 loc:∃ m,s.heap.Ns X.env.locals m/\∀(i:Nat) (x:Str) (v:V),X.N[i]?=some x->σ[i]?=some (some v)->Vis X.env.scope x->∃ u,RelV v u/\Look X.env s.heap m x u
 cell:∀ x c,X.env.cells.lookup x=some c->∃ v,s.heap.IsCell c v
 free:H X.env.locals=none
 freeC:∀ x c,X.env.cells.lookup x=some c->H c=none
 pin:∀ p∈X.pn++pins,s.heap.get? p.1=some p.2/\H p.1=none/\p.1≠X.env.locals/\p.1∉X.fs/\∀ v,p.2.data≠.cell v
 hok:HOk X.prog X.w H s.heap
 len:σ.length=X.N.length
section
variable{X:Cx}{pins:List (Addr×Obj)}{σ:List (Option V)}{H H':Hp}{s:Shared}{h':Heap}
theorem Cx.Ok.nofr(ok:X.Ok){o:Obj}(e:X.base.get? b=some o):b∉X.fs:=fun a=>by
 have:=(ok.funs.mem a).1;rw[e] at this;cases this
theorem Inv.bs(I:Inv X pins σ H s):∀ b o,X.base.get? b=some o->s.heap.get? b=some o/\H b=none:=fun b o e =>
 ⟨I.base.keep b o (I.ok.bs b o e).1 (I.ok.bs b o e).2 (I.ok.nofr e) (I.ok.noex b o e),I.base.free b o (I.ok.bs b o e).1 (I.ok.bs b o e).2 (I.ok.noex b o e)⟩
theorem Inv.bk(I:Inv X pins σ H s):∀ b o,X.base.get? b=some o->s.heap.get? b=some o:=fun b o e=>(I.bs b o e).1
theorem Inv.mod(I:Inv X pins σ H s):Mod X.K X.mg X.base:=I.ok.mod
theorem Inv.kIn(I:Inv X pins σ H s):X.K.In s.heap:=I.ok.mod.kin.keeps I.bk
theorem Inv.lt(I:Inv X pins σ H s):X.env.locals<s.heap.objs.size:=let ⟨_,hn,_⟩:=I.loc;hn.lt
theorem Inv.sz(I:Inv X pins σ H s):X.s₀.heap.objs.size<=s.heap.objs.size:=yi I.ok.above (yX I.lt)
theorem Inv.nofs(I:Inv X pins σ H s)(h:s.heap.objs.size<=a):a∉X.fs:=fun b=>by
 obtain⟨_,o,c,_⟩:=I.ok.funs.mem b;show absurd (yj (yF c) (yi I.sz h)) (Yp _)
theorem Inv.cne(I:Inv X pins σ H s):∀ x c,X.env.cells.lookup x=some c->c≠X.env.locals:=fun x c e z=>by
 obtain⟨v,o,f,d⟩:=I.cell x c e;obtain⟨m,⟨g,es,ep,b,a,_⟩,_⟩:=I.loc;rw[z,b] at f;cases f;rw[a] at d;cases d
theorem Inv.funs(I:Inv X pins σ H s):s.heap.FunFrames X.base X.outer:=by
 have all:∀(l:List Env),(∀ b∈frs l,b∈X.fs)->X.s₀.heap.FunFrames X.base l->s.heap.FunFrames X.base l:=by
  intro l
  induction l with
  | nil=>intro _ _;trivial
  | cons env r ih =>
   intro f hl;obtain⟨h,⟨L,o,d,i,j,g⟩,m⟩:=hl;have a:L∈X.fs:=f L (by unfold frs;rw[Xj,d];show yO);obtain⟨n,e⟩:=I.base.slot L o j (I.ok.frf L a) a fun z=>I.ok.exfs L z a;show⟨h,⟨L,_,d,i,e,g⟩,ih (fun b c=>f b (by unfold frs;rw[Xj,d];show yI _ c)) m⟩
 show all X.outer (fun _ c=>c) I.ok.funs
theorem Inv.stack(I:Inv X pins σ H s):s.heap.FunFrames X.base X.stack:=by
 rcases I.ok.stk with e | ⟨e,hf⟩
 .rw [e];show I.funs
 .rw [e];obtain⟨m,a,_⟩:=I.loc;show .cons (by rw[I.ok.kind];decide) hf a ?_ I.funs;show Heap.get?_none_of_le (yi I.ok.bsz I.ok.above)
theorem Inv.stkSub(I:Inv X pins σ H s):∀ b∈frs X.stack,b∈X.env.locals::X.fs:=fun b a=>by
 rcases I.ok.stk with e | ⟨e,hf⟩
 .rw [e] at a;show yI _ a
 .rw [e] at a;unfold frs at a;rw[Xj,hf] at a;show a
theorem Inv.stkFree(I:Inv X pins σ H s):∀ b∈frs X.stack,H b=none:=fun b hb=>by
 rcases yv.mp (I.stkSub b hb) with e | hb
 .rw [e];show I.free
 .obtain⟨_,o,a,_⟩:=I.ok.funs.mem hb;show I.base.free b o a (I.ok.frf b hb) fun z=>I.ok.exfs b z hb
theorem Inv.step(I:Inv X pins σ H s)
  (f:∀ b∈ch,(b∈X.ex\/X.s₀.heap.objs.size<=b)/\b≠X.env.locals/\(∀ x c,X.env.cells.lookup x=some c->c≠b)/\∀ p∈X.pn++pins,p.1≠b)
  (keep:∀ b o,b≠X.env.locals->b∉X.fs->b∉ch->s.heap.get? b=some o->H b=none->h'.get? b=some o)
  (t:∀ b o,b≠X.env.locals->b∈X.fs->b∉ch->s.heap.get? b=some o->H b=none->∃ M,h'.get? b=some { o with slots:=M }) (free:∀ b o,b∉ch->s.heap.get? b=some o->H b=none->H' b=none)
  (A:∀ b o,b∉ch->s.heap.get? b=some o->∃ F,h'.get? b=some F)
  (J:∀ b xs,H b=some (.tup xs)->H' b=some (.tup xs)) (D:∀ b o u,H b=some (.frz o u)->H' b=some (.frz o u)) (G:∀ b ps,H b=some (.tbl ps)->∃ more,H' b=some (.tbl (ps++more)))
  (ns:∀ m,s.heap.Ns X.env.locals m->h'.Ns X.env.locals m) (L:HOk X.prog X.w H' h') (S:AllBare g') :
  Inv X pins σ H' { s with heap:=h',gens:=g',drawn:=d',toks:=t' }:=by
 have E:∀ b o,X.s₀.heap.get? b=some o->b≠X.env.locals:=fun b o e=>yG (yj (yF e) I.ok.above)
 have j:∀ b o,X.s₀.heap.get? b=some o->b∉X.ex->b∉ch:=fun b o e a y=>by
  rcases(f b y).1 with z | z
  .show a z
  .show absurd (yj (yF e) z) (Yp _)
 have cellK:∀ x c,X.env.cells.lookup x=some c->∀ v,s.heap.IsCell c v->h'.IsCell c v:=fun x c e v ⟨o,B,K⟩=>by
  have g:c∉ch:=fun z=>(f c z).2.2.1 x c e rfl;by_cases hc:c∈X.fs
  .obtain⟨M,q⟩:=t c o (I.cne x c e) hc g B (I.freeC x c e);show⟨_,q,K⟩
  .show⟨o,keep c o (I.cne x c e) hc g B (I.freeC x c e),K⟩
 show⟨I.ok,I.os,S,⟨fun b o e n y a=>?_,fun b o e n y a=>?_,fun b o e n a=>?_,fun b o e a=>?_,fun b xs e=>J b xs (I.base.tups b xs e),fun b o xs e=>D b o xs (I.base.frzs b o xs e),fun b ps e=>?_⟩,?_,fun x c e=>?_,?_,fun x c e=>?_,fun p O=>?_,L,I.len⟩
 .show keep b o (E b o e) y (j b o e a) (I.base.keep b o e n y a) (I.base.free b o e n a)
 .obtain⟨M,h⟩:=I.base.slot b o e n y a;obtain⟨N,C⟩:=t b _ (E b o e) y (j b o e a) h (I.base.free b o e n a);show⟨N,C⟩
 .obtain⟨F,h⟩:=I.base.there b o e a;show free b F (j b o e a) h (I.base.free b o e n a)
 .obtain⟨F,h⟩:=I.base.there b o e a;show A b F (j b o e a) h
 .obtain⟨U,h⟩:=I.base.tbls b ps e;obtain⟨W,C⟩:=G b _ h;show⟨U++W,by rw[C,Array.append_assoc]⟩
 .obtain⟨m,T,hl⟩:=I.loc;show⟨m,ns m T,fun i x v h C R=>?_⟩;obtain⟨u,r,l⟩:=hl i x v h C R;show⟨u,r,?_⟩;rcases l with l | ⟨k,c,e,z⟩
  .show .inl l
  .show .inr ⟨k,c,e,cellK x c e _ z⟩
 .obtain⟨v,z⟩:=I.cell x c e;show⟨v,cellK x c e v z⟩
 .obtain⟨m,⟨o,_,_,B,_⟩,_⟩:=I.loc;show free _ o (fun z=>(f _ z).2.1 rfl) B I.free
 .obtain⟨v,o,B,K⟩:=I.cell x c e;show free c o (fun z=>(f c z).2.2.1 x c e rfl) B (I.freeC x c e)
 .obtain⟨e,n,ne,P,d⟩:=I.pin p O;have g:p.1∉ch:=fun z=>(f p.1 z).2.2.2 p O rfl;show⟨keep p.1 p.2 ne P g e n,free p.1 p.2 g e n,ne,P,d⟩
theorem Inv.un(I:Inv X pins σ H s)(u:Un X.fs [] H H' s.heap h')(g:HOk X.prog X.w H' h'):Inv X pins σ H' { s with heap:=h',toks:=t' }:=by
 obtain⟨m,⟨o,es,ep,h,r⟩,_⟩:=id I.loc;obtain⟨q,i⟩:=u.any h I.free (by simp)
 show I.step (g':=s.gens) (d':=s.drawn) (ch:=[]) (fun _ z=>nomatch z) (fun b o _ f _ e n=>u.keep b o e n f (by simp)) (fun b o _ f _ e n=>u.slot b o e n f (by simp)) (fun b o _ e n=>u.free b o e n (by simp)) (fun b o _ e=>u.there b o e (by simp)) u.tups u.frzs u.tbls (fun l j=>by
  obtain⟨p,d,c,a,r'⟩:=j;rw[h] at a;cases a;show⟨_,d,c,i,r'⟩) g I.bare
theorem Inv.call(I:Inv X pins σ H s)(u:Un (frs X.stack) ch H H' s.heap h')(i:HOk X.prog X.w H' h')(q:AllBare g')
  (a:∀ b∈ch,(b∈X.ex\/X.s₀.heap.objs.size<=b)/\b≠X.env.locals/\(∀ x c,X.env.cells.lookup x=some c->c≠b)/\∀ p∈X.pn++pins,p.1≠b) :
  Inv X pins σ H' { s with heap:=h',gens:=g',drawn:=d',toks:=t' }:=by
 obtain⟨m,⟨o,es,ep,j,r⟩,_⟩:=id I.loc;obtain⟨A,h⟩:=u.any j I.free fun z=>(a _ z).2.1 rfl
 show I.step (ch:=ch) a (fun b o h l hc e n=>u.keep b o e n (fun z=>(yv.mp (I.stkSub b z)).elim h l) hc) (fun b o _ _ hc e n=>u.any e n hc) (fun b o hc e n=>u.free b o e n hc) (fun b o hc e=>u.there b o e hc) u.tups u.frzs u.tbls (fun v t=>by
  obtain⟨y,g,f,d,r'⟩:=t;rw[j] at d;cases d;show⟨_,g,f,h,r'⟩) i q
theorem Inv.turned(I:Inv X pins σ H s)(k:∀ b o,b≠it->s.heap.get? b=some o->h'.get? b=some o)(j:H it=none)(d:it≠X.env.locals)
  (h1:it∈X.ex\/X.s₀.heap.objs.size<=it) (f:∀ x c,X.env.cells.lookup x=some c->c≠it) (g:∀ p∈X.pn++pins,p.1≠it):Inv X pins σ H { s with heap:=h',toks:=t' }:=by
 have a:∀ b u,H b=some u->b≠it:=fun b u e z=>by rw[z,j] at e;cases e
 show I.step (g':=s.gens) (d':=s.drawn) (ch:=[it]) (fun b h=>?_) (fun b o _ _ hc e _=>k b o (fun z=>hc (by simp[z])) e) (fun b o _ _ hc e _=>⟨o.slots,k b o (fun z=>hc (by simp[z])) e⟩) (fun _ _ _ _ n=>n)
  (fun b o hc e=>⟨o,k b o (fun z=>hc (by simp[z])) e⟩) (fun _ _ e=>e) (fun _ _ _ e=>e) (fun b ps e=>⟨#[],by rw[e];simp⟩) (fun m i=>?_) (fun b u e=>?_) I.bare
 .have e:b=it:=by simpa using h
  subst e;show⟨h1,d,f,g⟩
 .obtain⟨o,es,ep,l,r⟩:=i;show⟨o,es,ep,k _ o (Yb d) l,r⟩
 .show(I.hok b u e).stay (fun c v hc q=>k c v ?_ q) (fun _ q=>q) fun _ _ q=>q;rcases hc with z | z
  .rw [z];show a b u e
  .show a c _ z
theorem Inv.tok(I:Inv X pins σ H s)(t:Nat):Inv X pins σ H { s with toks:=t }:=I.un (h':=s.heap) (t':=t) Un.refl I.hok
theorem Inv.kept(I:Inv X pins σ H s)(k:∀ b u,s.heap.get? b=some u->h'.get? b=some u):Inv X pins σ H { s with heap:=h',toks:=t' }:=I.un (Un.kept k) (I.hok.kept k)
theorem Inv.laid(I:Inv X pins σ H s)(k:∀ b u,s.heap.get? b=some u->h'.get? b=some u)(c:s.heap.objs.size<=a)(new:ObjOk X.prog X.w (upd H a o) h' a o) :
  Inv X pins σ (upd H a o) { s with heap:=h',toks:=t' }:=I.un (Un.laid k c (I.hok.fresh c)) (I.hok.laid k c new)
theorem Inv.write{x e:Addr}(I:Inv X pins σ H s)(d:Mut (H x))(c:e=x\/H e=some (.own x))(k:∀ b u,b≠e->s.heap.get? b=some u->h'.get? b=some u)(a:∃ u,h'.get? e=some u)
  (new:ObjOk X.prog X.w (upd H x o) h' x o):Inv X pins σ (upd H x o) { s with heap:=h',toks:=t' }:=I.un (Un.write d c k a) (I.hok.write d c k a new)
theorem Inv.weak{a:List (Option V)}(I:Inv X pins σ H s)(hl:a.length=σ.length)(w:∀(i:Nat) v,a[i]?=some (some v)->σ[i]?=some (some v)):Inv X pins a H s:=
 ⟨I.ok,I.os,I.bare,I.base,let ⟨m,hn,hl'⟩:=I.loc;⟨m,hn,fun i x v b c d=>hl' i x v b (w i v c) d⟩,I.cell,I.free,I.freeC,I.pin,I.hok,hl.trans I.len⟩
theorem Inv.pins_of{pins':List (Addr×Obj)}(I:Inv X pins σ H s)(h:∀ p∈pins',s.heap.get? p.1=some p.2/\H p.1=none/\p.1≠X.env.locals/\p.1∉X.fs/\∀ v,p.2.data≠.cell v):Inv X pins' σ H s:=
 ⟨I.ok,I.os,I.bare,I.base,I.loc,I.cell,I.free,I.freeC,fun p a=>(yA.mp a).elim (fun z=>I.pin p (yM _ z)) (h p),I.hok,I.len⟩
theorem qbG(e:N.Nodup)(a:N[i]?=some x)(b:N[j]?=some x):i=j:=by
 obtain⟨h1,c⟩:=yc.mp a;obtain⟨f,d⟩:=yc.mp b;show(List.getElem_inj e).mp (c.trans d.symm)
theorem qbZ{Q:Unit->Shared->Prop}(I:Inv X pins σ H s)(hN:X.N.Nodup)(P:X.N[i]?=some x)(t:Loc X.env.scope x)(r:RelV v u)
  (h:∀ s',Inv X pins (σ.set i (some v)) H s'->(∃ a,Heap.SameBut a s.heap s'.heap/\(a=X.env.locals\/X.env.cells.lookup x=some a))->Q () s') (hf:X.fn x=true\/X.env.scope.names.lookup x=some .local:=by first | show .inl rfl | show .inr rfl | assumption):wpAny M A (storeName X.env x u) Q E s:=by
 obtain⟨m,Y,hl⟩:=id I.loc;have O:(X.env.scope.kind==.class||(X.env.scope.kind==.module&&X.env.locals != X.env.globals))=false:=by rw[I.ok.kind];rfl
 have D:i<σ.length:=by rw[I.len];show(yc.mp P).1
 have cne:=I.cne
 have l:∀{a:Addr} {h':Heap},(∃ o,s.heap.get? a=some o/\H a=none)->Heap.SameBut a s.heap h'->HOk X.prog X.w H h':=fun{a h'} ha f b ob e=>by
  obtain⟨_,_,B⟩:=ha;show(I.hok b ob e).stay (fun c U hc q=>(f.2 c ?_).trans q) (fun _ q=>q) fun _ _ q=>q;rintro rfl;rcases hc with rfl | hc
  .rw [B] at e;cases e
  .rw [B] at hc;cases hc
 rcases t with hk | hk
 .show wpAny_storeName_local hk Y (fun h' Z f=>?_) O;obtain⟨oL,_,_,aa,_⟩:=id Y;show h _ ⟨I.ok,I.os,I.bare,⟨fun b o e n F t=>?_,fun b o e n F t=>?_,I.base.free,fun b o e t=>?_,I.base.tups,I.base.frzs,I.base.tbls⟩,⟨_,Z,fun j y v' g C W=>?_⟩,fun y c e=>?_,I.free,I.freeC,fun p hp=>?_,l ⟨oL,aa,I.free⟩ f,by simpa using I.len⟩ ⟨_,f,.inl rfl⟩
  .show(f.2 b (yG (yj (yF e) I.ok.above))).trans (I.base.keep b o e n F t)
  .obtain⟨sl,g⟩:=I.base.slot b o e n F t;show⟨sl,(f.2 b (yG (yj (yF e) I.ok.above))).trans g⟩
  .obtain⟨o',g⟩:=I.base.there b o e t;show⟨o',(f.2 b (yG (yj (yF e) I.ok.above))).trans g⟩
  .by_cases J:j=i
   .subst J;rw[P] at g;cases g;rw[xS D] at C;cases C;show⟨u,r,.inl ⟨hk,by simp⟩⟩
   .rw [Y9 (Yb J)] at C;obtain⟨u',r',q⟩:=hl j y v' g C W;show⟨u',r',?_⟩;rcases q with⟨k,e⟩ | ⟨k,c,e,z⟩
    .show .inl ⟨k,?_⟩;have:y≠x:=fun e=>J (qbG hN g (e ▸ P));simp[this,e]
    .show .inr ⟨k,c,e,z.sameBut f (cne y c e)⟩
  .obtain⟨U,z⟩:=I.cell y c e;show⟨U,z.sameBut f (cne y c e)⟩
  .obtain⟨e,n,ne,nf,d⟩:=I.pin p hp;show⟨(f.2 p.1 ne).trans e,n,ne,nf,d⟩
 .have G:X.fn x=true:=by
   rcases hf with z | z
   .show z
   .rw [z] at hk;cases hk
  obtain⟨c,hc⟩:=I.ok.has x (.inl hk);obtain⟨U,z⟩:=I.cell x c hc;show wpAny_storeName_cell I.ok.kind hk hc z (fun h' K f=>?_);obtain⟨oc,R,S⟩:=id z;show h { s with heap:=h' } ⟨I.ok,I.os,I.bare,⟨fun b o e n F t=>?_,fun b o e n F t=>?_,I.base.free,fun b o e t=>?_,I.base.tups,I.base.frzs,I.base.tbls⟩,⟨m,Y.sameBut f (Yb (cne x c hc)),fun j y v' g C W=>?_⟩,fun y T e=>?_,I.free,I.freeC,fun p hp=>?_,l ⟨oc,R,I.freeC x c hc⟩ f,by simpa using I.len⟩ ⟨c,f,.inr hc⟩
  .show(f.2 b (yG (yj (yF e) (I.ok.cab x c G hc)))).trans (I.base.keep b o e n F t)
  .obtain⟨sl,g⟩:=I.base.slot b o e n F t;show⟨sl,(f.2 b (yG (yj (yF e) (I.ok.cab x c G hc)))).trans g⟩
  .obtain⟨o',g⟩:=I.base.there b o e t;show⟨o',(f.2 b (yG (yj (yF e) (I.ok.cab x c G hc)))).trans g⟩
  .by_cases J:j=i
   .subst J;rw[P] at g;cases g;rw[xS D] at C;cases C;show⟨u,r,.inr ⟨.inl hk,c,hc,K⟩⟩
   .rw [Y9 (Yb J)] at C;obtain⟨u',r',q⟩:=hl j y v' g C W;show⟨u',r',?_⟩;rcases q with q | ⟨k,T,e,z'⟩
    .show .inl q
    .show .inr ⟨k,T,e,z'.sameBut f ?_⟩;rintro rfl;show J (qbG hN g (I.ok.inj _ _ _ e hc ▸ P))
  .by_cases L:T=c
   .subst L;show⟨_,K⟩
   .obtain⟨w2,z2⟩:=I.cell y T e;show⟨w2,z2.sameBut f L⟩
  .obtain⟨e,n,ne,nf,d⟩:=I.pin p hp;show⟨(f.2 p.1 ?_).trans e,n,ne,nf,d⟩;intro q;rw[q,R] at e;have q':oc=p.2:=ym e;show d U (by rw[<- q'];show S)
theorem qaZ{Q:Unit->Shared->Prop}(I:Inv X pins σ H s)(b:X.N.Nodup)(d:X.N[i]?=some x)(e:Loc X.env.scope x)(r:RelV v u)
  (h:∀ s',Inv X pins (σ.set i (some v)) H s'->Q () s') (c:X.fn x=true\/X.env.scope.names.lookup x=some .local:=by first | show .inl rfl | show .inr rfl | assumption):wpAny M A (storeName X.env x u) Q E s:=
 qbZ I b d e r (fun s' a _=>h s' a) c
theorem Inv.call'(I:Inv X pins σ H s)(g:s'.os=s.os)(u:Un (frs X.stack) ch H H' s.heap s'.heap)(d:HOk X.prog X.w H' s'.heap)(f:AllBare s'.gens)
  (a:∀ b∈ch,(b∈X.ex\/X.s₀.heap.objs.size<=b)/\b≠X.env.locals/\(∀ x c,X.env.cells.lookup x=some c->c≠b)/\∀ p∈X.pn++pins,p.1≠b):Inv X pins σ H' s':=by
 obtain⟨h',g',d',t',h⟩:=s';have e:h=s.os:=g;subst e;show I.call (g':=g') (t':=t') (d':=d') u d f a
end
abbrev XK:=Value->Option Addr->Hp->Prop
noncomputable abbrev St:=List (Option V)
abbrev VK:=V->Hp->Prop
abbrev TE:=St->Hp->VK->Prop
abbrev TT:=St->Hp->(Bool->Hp->Prop)->Prop
abbrev TA:=St->Hp->(List V->Hp->Prop)->Prop
structure Ends where
 nx:St->Hp->Prop
 rt:VK
 bk:St->Hp->Prop:=fun _ _=>False
 ct:St->Hp->Prop:=fun _ _=>False
abbrev TS:=Ends->St->Hp->Prop
def EP(X:Cx)(pins:List (Addr×Obj))(σ:St)(Q:VK)(u:Value)(s':Shared):Prop:=∃ v H',Inv X pins σ H' s'/\RelV v u/\Q v H'
def TP(X:Cx)(pins:List (Addr×Obj))(σ:St)(Q:Bool->Hp->Prop)(b:Bool)(s':Shared):Prop:=∃ H',Inv X pins σ H' s'/\Q b H'
def AP(X:Cx)(pins:List (Addr×Obj))(σ:St)(Q:List V->Hp->Prop)(us:List Value)(s':Shared):Prop:=∃ vs H',Inv X pins σ H' s'/\Vals vs us/\Q vs H'
def SP(X:Cx)(pins:List (Addr×Obj))(D:Ends)(f:Flow)(s':Shared):Prop:=
 match f with
 | .next=>∃ a H',Inv X pins a H' s'/\D.nx a H'
 | .brk=>∃ a H',Inv X pins a H' s'/\D.bk a H'
 | .cont=>∃ a H',Inv X pins a H' s'/\D.ct a H'
 | .ret u=>∃ v a H',Inv X pins a H' s'/\RelV v u/\D.rt v H'
def PE(X:Cx)(e:Expr)(t:TE):Prop:=
 ∀(pins:List (Addr×Obj)) (s:Shared) (σ:St) (H:Hp) (Q:VK),Inv X pins σ H s->t σ H Q->wpAny (model X.prog X.w) X.A (eval e X.env) (EP X pins σ Q) X.xe s
def PT(X:Cx)(e:Expr)(t:TT):Prop:=
 ∀(pins:List (Addr×Obj)) (s:Shared) (σ:St) (H:Hp) (Q:Bool->Hp->Prop),Inv X pins σ H s->t σ H Q->wpAny (model X.prog X.w) X.A (isTrue e X.env (eval e X.env)) (TP X pins σ Q) X.xe s
def PW(X:Cx)(e:Expr)(t:TT):Prop:=
 ∀(a:Sem Value) (pins:List (Addr×Obj)) (s:Shared) (σ:St) (H:Hp) (Q:Bool->Hp->Prop),Inv X pins σ H s->t σ H Q->wpAny (model X.prog X.w) X.A (isTrue e X.env a) (TP X pins σ Q) X.xe s
theorem PW.pt{t:TT}(h:PW X e t):PT X e t:=h _
def PA(X:Cx)(es:List Expr)(t:TA):Prop:=
 ∀(pos:Pos) (pins:List (Addr×Obj)) (s:Shared) (σ:St) (H:Hp) (Q:List V->Hp->Prop),Inv X pins σ H s->t σ H Q->wpAny (model X.prog X.w) X.A (spliced (backTo pos (starEach es X.env))) (AP X pins σ Q) X.xe s
def PS(X:Cx)(st:Stmt)(t:TS):Prop:=
 ∀(pins:List (Addr×Obj)) (s:Shared) (σ:St) (H:Hp) (D:Ends),Inv X pins σ H s->t D σ H->wpAny (model X.prog X.w) X.A (exec st X.env) (SP X pins D) X.xe s
def PSs(X:Cx)(st:List Stmt)(t:TS):Prop:=
 ∀(pins:List (Addr×Obj)) (s:Shared) (σ:St) (H:Hp) (D:Ends),Inv X pins σ H s->t D σ H->wpAny (model X.prog X.w) X.A (execs st X.env) (SP X pins D) X.xe s
theorem thn{t:Sem α}{Q b:α->Shared->Prop}(h:wpAny M A t Q E s)(c:∀ a s,Q a s->b a s):wpAny M A t b E s:=YA h c fun _ _ x=>x
section
variable{X:Cx}
def qfI(i:Nat):TE:=fun σ H Q=>∃ v,σ[i]?=some (some v)/\Q v H
def tC(v:V):TE:=fun _ H Q=>Q v H
theorem pe_var(g:X.N[i]?=some x)(hv:Vis X.env.scope x)(f:(x==("__debug__":Str))=false:=by decide)(d:(x==("__classdict__":Str))=false:=by decide):PE X (.Name x pos) (qfI i):=by
 intro pins s σ H Q I h;obtain⟨v,e,h⟩:=h;obtain⟨m,n,hl⟩:=I.loc;obtain⟨u,r,l⟩:=hl i x v g e hv;have b:EP X pins σ Q u s:=⟨v,H,I,r,h⟩;rcases l with⟨hk,j⟩ | ⟨hk,c,hc,a⟩
 .show wpAny_Name (wpAny_loadName_local I.ok.kind hk n j b) f
 .rcases hk with hk | hk
  .show wpAny_Name (wpAny_loadName_cell I.ok.kind hk hc a b) f
  .show wpAny_Name (wpAny_loadName_free I.ok.kind hk hc a b d) f
theorem qg{i j pos}:PE X (.Constant (.int i) j pos) (tC (.int i)):=fun _ _ _ H _ I h=>wpAny_Constant_int ⟨.int i,H,I.tok _,⟨_,rfl⟩,h⟩
theorem jz{b j pos}:PE X (.Constant (.bool b) j pos) (tC (.bl b)):=fun _ _ _ H _ I h=>Constant_bool ⟨.bl b,H,I,rfl,h⟩
theorem j7{j pos}:PE X (.Constant .none j pos) (tC .non):=fun _ _ _ H _ I h=>Constant_none ⟨.non,H,I,rfl,h⟩
theorem jt{x j pos}:PE X (.Constant (.str x) j pos) (tC (.str x)):=fun _ _ _ H _ I h=>Calls.Constant_str ⟨.str x,H,I.tok _,⟨_,rfl⟩,h⟩
def Gl(X:Cx)(x:Str):Prop:=X.env.kindOf x=some .globalImplicit
theorem zQ{Q:Value->Shared->Prop}(I:Inv X pins σ H s)(b:Gl X x)(c:X.mg x=some u)(h:Q u s)
  (a:(x==("__debug__":Str))=false:=by decide):wpAny (model X.prog X.w) X.A (eval (.Name x pos) X.env) Q E s:=
 Calls.Name_function_global I.ok.kind b (Calls.loadGlobal_global (by rw[I.ok.glob];show I.mod.glob.keeps I.bk) c h) a
theorem qaW{Q:Value->Shared->Prop}(I:Inv X pins σ H s)(c:Gl X x)(d:X.mg x=none)(hv:bootBuiltins x=some u)(h:Q u s)
  (e:x≠"__name__":=by decide) (b:(x==("__debug__":Str))=false:=by decide):wpAny (model X.prog X.w) X.A (eval (.Name x pos) X.env) Q E s:=by
 obtain⟨f,h1,a⟩:=I.mod.blt;show Calls.Name_function_global I.ok.kind c (Calls.loadGlobal_builtin (by rw[I.ok.glob];show I.mod.glob.keeps I.bk) d (by rw[I.ok.blt];show h1.keeps I.bk) ((a x e).trans hv) h) b
theorem qbH(b:Gl X x)(c:X.mg x=some u)(r:RelV v u)(a:(x==("__debug__":Str))=false:=by decide):PE X (.Name x pos) (tC v):=
 fun _ _ _ H _ I h=>zQ I b c ⟨v,H,I,r,h⟩ a
theorem jh(b:Gl X x)(c:X.mg x=none)(hv:bootBuiltins x=some u)(r:RelV v u)(d:x≠"__name__":=by decide)(a:(x==("__debug__":Str))=false:=by decide):PE X (.Name x pos) (tC v):=
 fun _ _ _ H _ I h=>qaW I b c hv ⟨v,H,I,r,h⟩ d a
variable{a b:Expr}{ta tb:TE}{pos:Pos}
def tB(t:TE):TT:=fun σ H Q=>t σ H fun x a=>∃ c,x=.bl c/\Q c a
theorem qQ(h:PE X e t)(f:∀ a,isTrue e X.env a=(do let v <- a;standAt e.pos;holding [v] (truthy v)):=by intro _;rfl):PT X e (tB t):=by
 intro pins s σ H Q I hw;show isTrue_plain (thn (h pins s σ H _ I hw) fun v j ⟨x,b,c,i,g⟩=>?_) (f _);obtain⟨d,rfl,q⟩:=g;cases i;show xi ⟨b,c,q⟩
variable{tA tB':TT}{rest:List Expr}
def qfT(t u:TT):TT:=fun σ H Q=>t σ H fun c a=>if c=true then u σ a Q else Q false a
def tOr(t u:TT):TT:=fun σ H Q=>t σ H fun c a=>if c=true then Q true a else u σ a Q
def qfU(t:TT):TT:=fun σ H Q=>t σ H fun c a=>Q (!c) a
theorem qau(b:PT X a tA):PW X (.BoolOp .And [a] pos) tA:=by
 intro f pins s σ H Q I h;show isTrue_and (thn (b pins s σ H Q I h) fun c d e=>?_)
 cases c with
 | true=>show isTrue_and_nil e
 | false=>show e
theorem zR(b:PT X a tA):PW X (.BoolOp .Or [a] pos) tA:=by
 intro f pins s σ H Q I h;show isTrue_or (thn (b pins s σ H Q I h) fun c d e=>?_)
 cases c with
 | false=>show isTrue_or_nil e
 | true=>show e
theorem qbc(g:PT X a tA)(i:PW X (.BoolOp .And (b::rest) pos) tB'):PW X (.BoolOp .And (a::b::rest) pos) (qfT tA tB'):=by
 intro l pins s σ H Q I h;show isTrue_and (thn (g pins s σ H _ I h) fun c j ⟨d,e,f⟩=>?_)
 cases c with
 | true=>show i l pins j σ d Q e f
 | false=>show⟨d,e,f⟩
theorem qav(g:PT X a tA)(i:PW X (.BoolOp .Or (b::rest) pos) tB'):PW X (.BoolOp .Or (a::b::rest) pos) (tOr tA tB'):=by
 intro l pins s σ H Q I h;show isTrue_or (thn (g pins s σ H _ I h) fun c j ⟨d,e,f⟩=>?_)
 cases c with
 | true=>show⟨d,e,f⟩
 | false=>show i l pins j σ d Q e f
theorem q8(d:PT X a tA):PT X (.UnaryOp .Not a pos) (qfU tA):=by
 intro pins s σ H Q I h;show isTrue_not (d pins s σ H (fun c b=>Q (!c) b) I h)
def qe5(ta tb:TE):TE:=fun σ H Q=>ta σ H fun x a=>∃ c,x=.bl c/\if c=true then tb σ a Q else Q (.bl false) a
def tOrV(ta tb:TE):TE:=fun σ H Q=>ta σ H fun x a=>∃ c,x=.bl c/\if c=true then Q (.bl true) a else tb σ a Q
def tNotV(ta:TE):TE:=fun σ H Q=>ta σ H fun x a=>∃ c,x=.bl c/\Q (.bl (!c)) a
theorem qao{op}(h:PE X a t):PE X (.BoolOp op [a] pos) t:=fun pins s σ H Q I hw=>BoolOp_one (h pins s σ H Q I hw)
theorem qap(g:PE X a ta)(i:PE X (.BoolOp .And (b::rest) pos) tb):PE X (.BoolOp .And (a::b::rest) pos) (qe5 ta tb):=by
 intro pins s σ H Q I h;show BoolOp_and (thn (g pins s σ H _ I h) fun v l ⟨x,e,f,j,d⟩=>?_);obtain⟨c,rfl,d⟩:=d;cases j;show xi ?_
 cases c with
 | true=>show i pins l σ e Q f d
 | false=>show⟨.bl false,e,f,rfl,d⟩
def tIf(t:TT)(ta tb:TE):TE:=fun σ H Q=>t σ H fun c a=>if c=true then ta σ a Q else tb σ a Q
theorem qcT(hc:PT X c tA)(j:PE X a ta)(l:PE X b tb):PE X (.IfExp c a b pos) (tIf tA ta tb):=by
 intro pins s σ H Q I h;show wpAny_IfExp (thn (hc pins s σ H _ I h) fun d i ⟨e,f,g⟩=>?_)
 cases d with
 | true=>show j pins i σ e Q f g
 | false=>show l pins i σ e Q f g
end
def SqL(K:yg)(H:Hp)(a:Addr)(xs:List V):Prop:=
 Rd H a (.lst xs) \/
  ∃(o:Obj) (b:Array Value) (n:Nat),K.lookup a=some o/\o.cls=.type "list"/\o.dict=none/\o.data=.seq b n/\b.size<=sizeLine/\Vals xs b.toList
def SqT(K:yg)(H:Hp)(a:Addr)(xs:List V):Prop:=
 Rd H a (.tup xs) \/
  ∃(o:Obj) (b:Array Value) (n:Nat),K.lookup a=some o/\o.cls=.type "tuple"/\o.data=.seq b n/\b.size<=sizeLine/\Vals xs b.toList
noncomputable def absV:Value->Option V
 | .none=>some .non
 | .bool b=>some (.bl b)
 | .int i _=>some (.int i)
 | .str x _=>some (.str x)
 | .bytes b _=>some (.byt b)
 | .float b _=>some (.flt b)
 | .ref a=>some (.ref a)
 | .type n=>some (.ty n)
 | _=>none
theorem RelV.abs{x:V}(r:RelV x u):absV u=some x:=by
 cases x with
 | non=>cases r;rfl
 | bl _=>cases r;rfl
 | int _=>obtain⟨t,rfl⟩:=r;rfl
 | str _=>obtain⟨t,rfl⟩:=r;rfl
 | byt _=>obtain⟨t,rfl⟩:=r;rfl
 | flt _=>obtain⟨t,rfl⟩:=r;rfl
 | ref _=>cases r;rfl
 | ty _=>cases r;rfl
theorem RelV.inj{x:V}(r:RelV x u)(q:RelV y u):x=y:=ym (r.abs.symm.trans q.abs)
theorem Vals.inj:∀{xs ys:List V} {us:List Value},Vals xs us->Vals ys us->xs=ys
 | _,_,_,.nil,.nil=>rfl
 | _,_,_,.cons r t,.cons r' t'=>by rw[r.inj r',Vals.inj t t']
section
variable{X:Cx}{pins:List (Addr×Obj)}{σ:St}{H:Hp}{s:Shared}{a:Addr}{xs ys:List V}
theorem SqL.of{K:yg}(h:H a=some (.lst xs)):SqL K H a xs:=.inl (.inl h)
theorem SqT.of{K:yg}(h:H a=some (.tup xs)):SqT K H a xs:=.inl (.inl h)
theorem Inv.list(I:Inv X pins σ H s)(h:SqL X.K H a xs):∃ b:List Value,Vals xs b/\PlainL s.heap a b.toArray/\xs.length<=sizeLine:=by
 rcases h with h | ⟨o,b,n,hk,hc,hd,hs,hz,r⟩
 .obtain⟨z,b,n,r,e⟩:=h.ok I.hok;show⟨b,r,⟨_,n,e,rfl,rfl,rfl⟩,z⟩
 .show⟨b.toList,r,⟨o,n,I.kIn a o hk,hc,hd,by simpa using hs⟩,?_⟩;have e:=r.length;simp only[xl] at e;lk
theorem Inv.tuple(I:Inv X pins σ H s)(h:SqT X.K H a xs):∃ b:List Value,Vals xs b/\IsTup s.heap a b.toArray/\xs.length<=sizeLine:=by
 rcases h with h | ⟨o,b,n,hk,hc,hs,hz,r⟩
 .obtain⟨z,b,r,p⟩:=h.ok I.hok;show⟨b,r,p,z⟩
 .show⟨b.toList,r,⟨o,I.kIn a o hk,hc,n,by simpa using hs⟩,?_⟩;have e:=r.length;simp only[xl] at e;lk
theorem Inv.list_inj(I:Inv X pins σ H s)(h:SqL X.K H a xs)(h':SqL X.K H a ys):xs=ys:=by
 obtain⟨b,r,⟨o,n,e,_,_,d⟩,_⟩:=I.list h;obtain⟨its',r',⟨g,f,c,_,_,d'⟩,_⟩:=I.list h';rw[e] at c;cases c;rw[d] at d'
 injection d' with d1 _
 have:b=its':=by simpa using congrArg Array.toList d1
 subst this;show r.inj r'
theorem Inv.tuple_inj(I:Inv X pins σ H s)(h:SqT X.K H a xs)(h':SqT X.K H a ys):xs=ys:=by
 obtain⟨b,r,⟨o,e,_,n,d⟩,_⟩:=I.tuple h;obtain⟨its',r',⟨g,c,_,f,d'⟩,_⟩:=I.tuple h';rw[e] at c;cases c;rw[d] at d'
 injection d' with d1 _
 have:b=its':=by simpa using congrArg Array.toList d1
 subst this;show r.inj r'
end
noncomputable abbrev Cx.wish(X:Cx)(E:Value->Shared->Prop):Cx:={ X with xe:=E }
noncomputable abbrev Cx.nox(X:Cx):Cx:=X.wish fun _ _=>False
theorem Cx.Ok.wish(ok:X.Ok)(E:Value->Shared->Prop):(X.wish E).Ok:=
 ⟨ok.mod,ok.kind,ok.glob,ok.blt,ok.above,ok.inj,ok.has,ok.cab,ok.hd,ok.frames,ok.stk,ok.exf,ok.bs,ok.bsz,ok.noex,ok.exfs,ok.funs,ok.frf⟩
theorem Cx.Ok.unwish(ok:(X.wish E).Ok):X.Ok:=
 ⟨ok.mod,ok.kind,ok.glob,ok.blt,ok.above,ok.inj,ok.has,ok.cab,ok.hd,ok.frames,ok.stk,ok.exf,ok.bs,ok.bsz,ok.noex,ok.exfs,ok.funs,ok.frf⟩
section
variable{X:Cx}{pins:List (Addr×Obj)}{σ:St}{H:Hp}{s:Shared}{E:Value->Shared->Prop}
theorem Inv.wish(I:Inv X pins σ H s)(E:Value->Shared->Prop):Inv (X.wish E) pins σ H s:=⟨I.ok.wish E,I.os,I.bare,I.base,I.loc,I.cell,I.free,I.freeC,I.pin,I.hok,I.len⟩
theorem Inv.unwish(I:Inv (X.wish E) pins σ H s):Inv X pins σ H s:=⟨I.ok.unwish,I.os,I.bare,I.base,I.loc,I.cell,I.free,I.freeC,I.pin,I.hok,I.len⟩
theorem SP.unwish{f:Flow}(h:SP (X.wish E) pins D f s'):SP X pins D f s':=by
 cases f with
 | next=>obtain⟨a,H',I,q⟩:=h;show⟨a,H',I.unwish,q⟩
 | brk=>obtain⟨a,H',I,q⟩:=h;show⟨a,H',I.unwish,q⟩
 | cont=>obtain⟨a,H',I,q⟩:=h;show⟨a,H',I.unwish,q⟩
 | ret u=>obtain⟨v,a,H',I,r,q⟩:=h;show⟨v,a,H',I.unwish,r,q⟩
theorem PSs.nox{st:List Stmt}{t:TS}(h:PSs X.nox st t):PSs X st t:=fun pins s σ H D I hw =>
 YA (h pins s σ H D (I.wish _) hw) (fun _ _ q=>q.unwish) fun _ _ z=>False.elim z
end
section
variable{X:Cx}{st:Stmt}{rest:List Stmt}{t u:TS}{e:Expr}{te:TE}{pos:Pos}
def qe6:TS:=fun D σ H=>D.nx σ H
def qfJ(t u:TS):TS:=fun D σ H=>t { D with nx:=u D } σ H
theorem qr:PSs X [] qe6:=fun _ _ σ H _ I h=>XR ⟨σ,H,I,h⟩
theorem qc(h1:PS X st t)(c:PSs X rest u):PSs X (st::rest) (qfJ t u):=by
 intro pins s σ H D I h;show wpAny_execs_cons (thn (h1 pins s σ H { D with nx:=u D } I h) fun f d q=>?_)
 cases f with
 | next =>
  obtain⟨a,H',b,q⟩:=q;show c pins d a H' D b q
 | ret v=>show q
 | brk=>show q
 | cont=>show q
theorem qe(h1:PS X st t):PSs X [st] t:=by
 intro pins s σ H D I h;show wpAny_execs_cons (thn (h1 pins s σ H D I h) fun f a q=>?_)
 cases f with
 | next=>show XR q
 | ret v=>show q
 | brk=>show q
 | cont=>show q
theorem Inv.quiet(I:Inv X pins σ H s):interactive X.env=false:=by simp[interactive,I.ok.kind]
def qe7(te:TE):TS:=fun D σ H=>te σ H fun _ a=>D.nx σ a
theorem qL(c:PE X e te)(d:swapsWith e none pos.line X.env=pure false:=by rfl):PS X (.Expr e pos) (qe7 te):=by
 intro pins s σ H D I h;show wpAny_Expr_any (thn (c pins s σ H _ I h) fun v i ⟨x,a,b,g,f⟩=>⟨σ,a,b,f⟩) I.quiet d
def qfV(te:TE):TS:=fun D σ H=>te σ H D.rt
theorem qk(c:PE X e te):PS X (.Return (some e) pos) (qfV te):=by
 intro pins s σ H D I h;show wpAny_Return_some (thn (c pins s σ H _ I h) fun v g ⟨x,a,b,f,d⟩=>⟨x,σ,a,b,f,d⟩)
def qe8:TS:=fun D _ H=>D.rt .non H
theorem ps_retN:PS X (.Return none pos) qe8:=fun _ _ σ H _ I h=>wpAny_Return_none ⟨.non,σ,H,I,rfl,h⟩
def qfW(c:TT)(t u:TS):TS:=fun D σ H=>c σ H fun b a=>if b=true then t D σ a else u D σ a
theorem qK{a b:List Stmt}(hc:PT X c tc)(j:PSs X a t)(l:PSs X b u):PS X (.If c a b pos) (qfW tc t u):=by
 intro pins s σ H D I h;show wpAny_If (thn (hc pins s σ H _ I h) fun d i ⟨e,f,g⟩=>?_)
 cases d with
 | true=>show j pins i σ e D f g
 | false=>show l pins i σ e D f g
def tNever:TS:=fun _ _ _=>False
theorem jC:PS X st tNever:=fun _ _ _ _ _ _ h=>h.elim
end
abbrev TG:=V->St->Hp->(St->Hp->Prop)->Prop
abbrev TGs:=List V->St->Hp->(St->Hp->Prop)->Prop
def PG(X:Cx)(a:Expr)(t:TG):Prop:=
 ∀(pins:List (Addr×Obj)) (s:Shared) (σ:St) (H:Hp) (v:V) (u:Value) (Q:St->Hp->Prop),Inv X pins σ H s->RelV v u->t v σ H Q ->
  wpAny (model X.prog X.w) X.A (assign a X.env u) (fun _ s'=>∃ b H',Inv X pins b H' s'/\Q b H') X.xe s
def PGs(X:Cx)(b:List Expr)(t:TGs):Prop:=
 ∀(pins:List (Addr×Obj)) (s:Shared) (σ:St) (H:Hp) (vs:List V) (us:List Value) (Q:St->Hp->Prop),Inv X pins σ H s->Vals vs us->t vs σ H Q ->
  wpAny (model X.prog X.w) X.A (assignInOrder ((assignEach b X.env).map (·.2)) us) (fun _ s'=>∃ a H',Inv X pins a H' s'/\Q a H') X.xe s
abbrev qe9:=V->V->V->Hp->(Hp->Prop)->Prop
def qfK(X:Cx)(t:qe9):Prop:=
 ∀(pins:List (Addr×Obj)) (s:Shared) (σ:St) (H:Hp) (o i v:V) (b a u:Value) (Q:Hp->Prop),Inv X pins σ H s->RelV o b->RelV i a->RelV v u->t o i v H Q ->
  wpAny (model X.prog X.w) X.A (setItem b a u) (fun _ s'=>∃ H',Inv X pins σ H' s'/\Q H') X.xe s
section
variable{X:Cx}{pos:Pos}
def qbI(i:Nat):TG:=fun v σ H Q=>Q (σ.set i (some v)) H
theorem qw(b:X.N.Nodup)(d:X.N[i]?=some x)(e:Loc X.env.scope x)(c:X.fn x=true\/X.env.scope.names.lookup x=some .local:=by first | show .inl rfl | show .inr rfl | assumption):PG X (.Name x pos) (qbI i):=by
 intro pins s σ H v u Q I r h;show wpAny_assign_Name (qaZ I b d e r (fun s' a=>⟨_,H,a,h⟩) c)
def qfX:TGs:=fun vs σ H Q=>vs=[]/\Q σ H
def qeN(t:TG)(u:TGs):TGs:=fun vs σ H Q=>∃ v r,vs=v::r/\t v σ H fun a H'=>u r a H' Q
theorem qcw:PGs X [] qfX:=by
 intro pins s σ H vs us Q I r h;obtain⟨e,h⟩:=h;subst e;cases r;show assignInOrder_nil ⟨σ,H,I,h⟩
theorem zY{t:TG}{u:TGs}(h1:PG X e t)(f:PGs X es u)
  (g:(assignEach (e::es) X.env).map (·.2)=assign e X.env::(assignEach es X.env).map (·.2):=by rfl):PGs X (e::es) (qeN t u):=by
 intro pins s σ H vs us Q I r h;obtain⟨v,l,d,h⟩:=h;subst d
 cases r with
 | cons r rr =>
  rw[g];show assignInOrder_cons (thn (h1 pins s σ H _ _ _ I r h) fun _ j ⟨a,b,c,i⟩=>?_);show f pins j a b _ _ Q c rr i
def qfz(K:yg)(n:Nat)(t:TGs):TG:=fun v σ H Q=>∃ a xs,v=.ref a/\SqT K H a xs/\xs.length=n/\t xs σ H Q
theorem qdz{k:Nat}{t:TGs}(hc:X.calm=true)(h:PGs X es t)
  (i:(assignEach es X.env).length=n:=by rfl) (c:(assignEach es X.env).findIdx? (·.1)=none:=by rfl):PG X (.Tuple es k pos) (qfz X.K n t):=by
 intro pins s σ H v u Q I r hw;obtain⟨a,xs,g,j,hl,hw⟩:=hw;subst g;cases r;obtain⟨p,d,l,hz⟩:=I.tuple j;show assign_Tuple_tuple (I.ok.hd hc) l (by simp[i,<- hl,d.length]) c fun h' m=>?_;have f:Inv X pins σ H { s with heap:=h' }:=I.kept (t':=s.toks) fun b o e=>m b o (yG (yF e)) e;show h pins _ σ H xs _ Q f (by simpa using d) hw
def qfY(e d:TE)(t:qe9):TG:=fun v σ H Q=>e σ H fun o a=>d σ a fun i b=>t o i v b fun c=>Q σ c
theorem jO{o i:Expr}{d c:TE}{t:qe9}(q:PE X o d)(p:PE X i c)(w:qfK X t)
  (n:∀ v,assign (.Subscript o i pos) X.env v=(do
   let a <- holding [v] (eval o X.env);let b <- holding [v,a] (eval i X.env)
   standAt pos
   holding [v,a,b] (setItem a b v)
   release [v,a,b] []):=by intro _;rfl):PG X (.Subscript o i pos) (qfY d c t):=by
 intro pins s σ H v u Q I r h;rw[n];show yr (Yi (thn (q pins s σ H _ I h) fun a E ⟨x,e,j,C,z⟩=>?_));show yr (Yi (thn (p pins E σ e _ j z) fun b F ⟨y,f,l,D,A⟩=>?_));show yr (Xo (yr (Yi (thn (w pins F σ f x y v a b u _ l C D r A) fun _ G ⟨g,m,B⟩=>?_))));show wpAny_release ⟨σ,g,m,B⟩
def qeZ(te:TE)(g:TG):TS:=fun D σ H=>te σ H fun x a=>g x σ a D.nx
theorem jD(c:PE X e te)(d:PG X tg g)(f:swapsWithSole [tg] e pos.line X.env=pure false:=by rfl)(hw:swappedStores [tg] e X.env=pure none:=by rfl)
  (h1:(assignEach [tg] X.env).map (·.2)=[assign tg X.env]:=by rfl):PS X (.Assign [tg] e pos) (qeZ te g):=by
 intro pins s σ H D I h;show wpAny_Assign_stores (thn (c pins s σ H _ I h) fun v l ⟨x,a,b,j,i⟩=>?_) f hw;rw[h1];show thn (d pins l σ a x v _ b j i) fun _ m q=>q
theorem qo{a:Pos}(f:X.N.Nodup)(l:X.N[i]?=some x)(n:Loc X.env.scope x)(g:PE X e te)(m:swapsWith e (some (.Name x a)) pos.line X.env=pure false:=by rfl)(j:X.fn x=true\/X.env.scope.names.lookup x=some .local:=by first | show .inl rfl | show .inr rfl | assumption) :
  PS X (.Assign [.Name x a] e pos) (qeZ te (qbI i)):=by
 intro pins s σ H D I h;show wpAny_Assign_Name (thn (g pins s σ H _ I h) fun v q ⟨y,b,c,p,o⟩=>?_) m;show qaZ c f l n p (fun r d=>⟨_,b,d,o⟩) j
end
section
variable{X:Cx}{pos:Pos}
def tWhile(c:TT)(tb:TS):TS:=fun D σ H=>∃ W:Nat->St->Hp->Prop,(∃ m,W m σ H)/\∀ m σ H,W m σ H ->
 c σ H fun b d=>if b=true then ∃ N:St->Hp->Prop,(∀ a H',N a H'->∃ e,e<m/\W e a H')/\tb { D with nx:=N,ct:=N,bk:=D.nx } σ d else D.nx σ d
theorem qaC(y:PassesOwn (model X.prog X.w) X.A X.env X.xe)(hc:PT X c tc)(B:PSs X body tb):PS X (.While c body [] pos) (tWhile tc tb):=by
 intro pins s σ H D I h;obtain⟨W,⟨C,G⟩,turn⟩:=h;show wpAny_While (codeAny_whileLoop (fun n s'=>∃ g H',Inv X pins g H' s'/\W n g H') ?_ C ⟨σ,H,I,G⟩);rintro n E ⟨d,r,z,J⟩;show xz y (thn (hc pins E d r _ z (turn n d r J)) fun b F ⟨t,u,i⟩=>?_)
 cases b with
 | true =>
  obtain⟨N,x,i⟩:=i;rw[yE rfl];show xz y (thn (B pins F d t _ u i) fun f K j=>?_)
  cases f with
  | next =>
   obtain⟨a,e,l,p⟩:=j;obtain⟨o,m,q⟩:=x a e p;show⟨o,m,a,e,l,q⟩
  | cont =>
   obtain⟨a,e,l,p⟩:=j;obtain⟨o,m,q⟩:=x a e p;show⟨o,m,a,e,l,q⟩
  | brk=>show j
  | ret v=>show j
 | false =>
  rw[yC Ym];show XR ⟨d,t,u,i⟩
end
structure It where
 go:Nat->Hp->Prop
 yld:Nat->Hp->V->Hp->Prop
 stop:Nat->Hp->Prop
def qcx(X:Cx)(pins:List (Addr×Obj))(H:Hp)(b:Addr):Prop:=
 H b=none/\b≠X.env.locals/\b∉X.fs/\(b∈X.ex\/X.s₀.heap.objs.size<=b)/\(∀ x c,X.env.cells.lookup x=some c->c≠b)/\∀ p∈X.pn++pins,p.1≠b
theorem Inv.fpOk{H':Hp}(I:Inv X pins σ H s)(a:s.heap.objs.size<=b)(d:H' b=none):qcx X pins H' b:=by
 show⟨d,Yd (yj I.lt a),I.nofs a,.inr (yi I.sz a),fun x c e z=>?_,fun p f z=>?_⟩
 .obtain⟨v,q⟩:=I.cell x c e;show absurd (yj q.lt (by rw[z];show a)) (Yp _)
 .show absurd (yj (yF (I.pin p f).1) (by rw[z];show a)) (Yp _)
structure Turn(P:Program)(w:World)(K:yg)(tg:Expr)(J:It)(fp:LQ)(it:Addr)(tn:Nat->Heap->Prop):Prop where
 mem:it∈fp
 obj:∀ i h,tn i h->∀ b∈fp,∃ o,h.get? b=some o/\∀ v,o.data≠.cell v
 keep:∀ i h h',tn i h->(∀ b∈fp,∀ o,h.get? b=some o->h'.get? b=some o)->tn i h'
 item:∀(X:Cx),X.prog=P->X.w=w->X.K=K->X.calm=true->∀(i:Nat) (pins:List (Addr×Obj)) (s:Shared) (σ:St) (H:Hp) (E:Value->Shared->Prop),Inv X pins σ H s->(∀ b∈fp,qcx X pins H b)->tn i s.heap->J.go i H ->
  wpAny (model P w) X.A (pyNext (.ref it)) (fun r s1=>∃ u,r=some u /\
   wpAny (model P w) X.A (letOwnedTupleGo tg (.ref it) u) (fun _ s2=>∃ x H',Inv X pins σ H' s2/\RelV x u/\J.yld i H x H'/\tn (i+1) s2.heap/\∀ b∈fp,H' b=none) E s1) E s
 done:∀(X:Cx),X.prog=P->X.w=w->X.K=K->X.calm=true->∀(i:Nat) (pins:List (Addr×Obj)) (s:Shared) (σ:St) (H:Hp) (E:Value->Shared->Prop),Inv X pins σ H s->(∀ b∈fp,qcx X pins H b)->tn i s.heap->J.stop i H ->
  wpAny (model P w) X.A (pyNext (.ref it)) (fun r s1=>r=none/\Inv X pins σ H s1) E s
 self:∀(A:Around) (i:Nat) (s:Shared) (Q:Value->Shared->Prop) (E:Value->Shared->Prop),tn i s.heap->Q (.ref it) s->wpAny (model P w) A (pyIter (.ref it)) Q E s
abbrev TI:=St->Hp->(It->Hp->Prop)->Prop
def PIE(X:Cx)(pins:List (Addr×Obj))(σ:St)(tg:Expr)(R:It->Hp->Prop)(a:Value)(c:Shared):Prop:=
 ∃(it:Addr) (fp:LQ) (d:Nat->Heap->Prop) (J:It) (H':Hp),a=.ref it/\Inv X pins σ H' c/\Turn X.prog X.w X.K tg J fp it d/\d 0 c.heap/\(∀ b∈fp,qcx X pins H' b)/\R J H'
def PI(X:Cx)(tg a:Expr)(c:TI):Prop:=
 ∀(pins:List (Addr×Obj)) (s:Shared) (σ:St) (H:Hp) (R:It->Hp->Prop),Inv X pins σ H s->c σ H R ->
  wpAny (model X.prog X.w) X.A (eval a X.env) (fun v b=>wpAny (model X.prog X.w) X.A (pyIter v) (PIE X pins σ tg R) X.xe b) X.xe s
theorem qeO{o:Obj}{n:String}{vs:Array Value}{Q:Unit->Shared->Prop}(d:s.heap.get? it=some o)(hc:o.cls=.type n)(b:o.data=.fields vs)
    (c:["enumerate","zip","dict_itemiterator","dict_reverseitemiterator","odict_iterator","itertools.zip_longest","itertools.pairwise"].contains n=false) (a:Q () s):wpAny M A (letOwnedTupleGo tg (.ref it) u) Q E s:=by
  unfold letOwnedTupleGo;cases tg<;>first
    | show yu a
    | (cases u<;>first
        | show yu a
        | (show yr (wpAny_load d ?_)
           rw[hc,b];show wpAny M A (if (["enumerate","zip","dict_itemiterator","dict_reverseitemiterator","odict_iterator","itertools.zip_longest","itertools.pairwise"].contains n&&vs[0]?==some (rawInt _))=true then _ else _) Q E s;rw[yC (by intro h;rw[c,Bool.false_and] at h;cases h)];show yu a))
noncomputable def Itl(K:yg)(a:Addr):It:=
 ⟨fun i H=>∃ xs x,SqL K H a xs/\xs[i]?=some x,fun i H x H'=>H'=H/\∀ xs,SqL K H a xs->xs[i]?=some x,fun i H=>∃ xs,SqL K H a xs/\xs.length<=i⟩
noncomputable def Itt(K:yg)(a:Addr):It:=
 ⟨fun i H=>∃ xs x,SqT K H a xs/\xs[i]?=some x,fun i H x H'=>H'=H/\∀ xs,SqT K H a xs->xs[i]?=some x,fun i H=>∃ xs,SqT K H a xs/\xs.length<=i⟩
noncomputable def Itr(lo:Int)(n:Nat):It:=⟨fun i _=>i<n,fun i H x H'=>H'=H/\x=.int (lo+i),fun i _=>n<=i⟩
theorem qb0{K:yg}(a it:Addr):Turn P w K tg (Itl K a) [it] it (fun i h=>h.IsListIter it a i) where
 mem:=by simp
 obj:=fun i h st b f=>by
  have e:b=it:=by simpa using f
  subst e;obtain⟨o,e,c,d⟩:=st;show⟨o,e,fun v z=>by rw[d] at z;cases z⟩
 keep:=fun i h h' st k=>st.at fun o e=>k it (by simp) o e
 item:=by
  intro X A hw y hc i pins s σ H E I j st B;subst A hw y;obtain⟨xs,x,l,C⟩:=B;obtain⟨D,F,p,hz⟩:=I.list l;obtain⟨u,M,O⟩:=F.get C;obtain⟨m,n,L,q,r,t⟩:=j it (by simp);show wpAny_pyNext_list_item st p.isList (x:=u) (by simpa using M) fun h' g R=>?_;have G:Inv X pins σ H { s with heap:=h' }:=I.turned (t':=s.toks) (fun b o f e=>(R.2 b f).trans e) m n q r t;obtain⟨o,e,c,d⟩:=id g;show⟨u,rfl,qeO (s:={ s with heap:=h' }) e c d (by decide) ⟨x,H,G,O,⟨rfl,fun ys N=>by rw[I.list_inj N l];show C⟩,g,fun b f=>(j b f).1⟩⟩
 done:=by
  intro X A hw y hc i pins s σ H E I j st B;subst A hw y;obtain⟨xs,l,C⟩:=B;obtain⟨D,F,p,hz⟩:=I.list l;obtain⟨m,n,L,q,r,t⟩:=j it (by simp);have hl:=F.length;show wpAny_pyNext_list_end (I.ok.hd hc) st p.isList (by simp;lk) fun h' J=>⟨rfl,I.turned (t':=s.toks) (fun b o f e=>J b o f e) m n q r t⟩
 self:=fun _ _ _ _ _ st h=>wpAny_pyIter_listiter st h
theorem turn_tuple{K:yg}(a it:Addr):Turn P w K tg (Itt K a) [it] it (fun i h=>h.IsTupleIter it a i) where
 mem:=by simp
 obj:=fun i h st b f=>by
  have e:b=it:=by simpa using f
  subst e;obtain⟨o,e,c,d⟩:=st;show⟨o,e,fun v z=>by rw[d] at z;cases z⟩
 keep:=fun i h h' st k=>st.at fun o e=>k it (by simp) o e
 item:=by
  intro X B hw A hc i pins s σ H E I l st C;subst B hw A;obtain⟨xs,x,m,D⟩:=C;obtain⟨g,F,p,hz⟩:=I.tuple m;obtain⟨u,M,O⟩:=F.get D;obtain⟨n,q,L,r,t,y⟩:=l it (by simp);show wpAny_pyNext_tuple_item st (show s.heap.IsTuple a g.toArray from p) (x:=u) (by simpa using M) fun h' j R=>?_;have G:Inv X pins σ H { s with heap:=h' }:=I.turned (t':=s.toks) (fun b o f e=>(R.2 b f).trans e) n q r t y;obtain⟨o,e,c,d⟩:=id j;show⟨u,rfl,qeO (s:={ s with heap:=h' }) e c d (by decide) ⟨x,H,G,O,⟨rfl,fun ys N=>by rw[I.tuple_inj N m];show D⟩,j,fun b f=>(l b f).1⟩⟩
 done:=by
  intro X B hw A hc i pins s σ H E I l st C;subst B hw A;obtain⟨xs,m,D⟩:=C;obtain⟨g,F,p,hz⟩:=I.tuple m;obtain⟨n,q,L,r,t,y⟩:=l it (by simp);have hl:=F.length;show wpAny_pyNext_tuple_end (I.ok.hd hc) st (show s.heap.IsTuple a g.toArray from p) (by simp;lk) fun h' J=>⟨rfl,I.turned (t':=s.toks) (fun b o f e=>J b o f e) n q r t y⟩
 self:=fun _ _ _ _ _ st h=>wpAny_pyIter_tupleiter st h
theorem turn_range{K:yg}(it:Addr)(lo:Int)(n:Nat):Turn P w K tg (Itr lo n) [it] it (fun i h=>IsRangeIter h it (lo+(i:Nat)*1) ((n:Int)-(i:Nat)) 1) where
 mem:=by simp
 obj:=fun i h st b a=>by
  have e:b=it:=by simpa using a
  subst e
  show⟨_,st,fun v z=>by
   have B:Data.fields _=Data.cell v:=z;cases B⟩
 keep:=fun i h h' st k=>k it (by simp) _ st
 item:=by
  intro X q hw p hc i pins s σ H E I d st r;subst q hw p;obtain⟨f,g,y,j,l,m⟩:=d it (by simp);have W:=Walks.range (prog:=X.prog) (w:=X.w) (I.ok.hd hc) it lo 1 n;show W.item i s _ _ r st fun v h' tk hv c A=>?_;obtain⟨t,rfl⟩:=hv;have u:Inv X pins σ H { s with heap:=h',toks:=tk }:=I.turned (fun b o a e=>A b o (by simpa using a) e) f g j l m;show⟨_,rfl,qeO (s:={ s with heap:=h',toks:=tk }) (n:="range_iterator") c rfl rfl (by decide) ⟨.int (lo+i),H,u,⟨t,?_⟩,⟨rfl,rfl⟩,c,fun b a=>(d b a).1⟩⟩;rw[Int.mul_one]
 done:=by
  intro X q hw p hc i pins s σ H E I d st r;subst q hw p;obtain⟨f,g,y,j,l,m⟩:=d it (by simp);show wpAny_pyNext_range_end (I.ok.hd hc) st (by have:n<=i:=r;lk) fun h' x=>⟨rfl,I.turned (t':=s.toks) (fun b o a e=>x b o a e) f g j l m⟩
 self:=fun _ _ _ _ _ st h=>wpAny_pyIter_rangeiter st h
section
variable{X:Cx}{tg:Expr}
theorem range_it{R:It->Hp->Prop}{a:Int}{t u v:Tok}{tk:Nat}(I:Inv X pins σ H s)(h1:-(2 ^ 62)<=lo)(g:lo<2 ^ 62)(h:-(2 ^ 62)<=a)(i:a<2 ^ 62)
  (q:R (Itr lo (a-lo).toNat) H):wpAny (model X.prog X.w) X.A (pyIter (.ref s.heap.objs.size)) (PIE X pins σ tg R) E { s with heap:=s.heap.push { cls:=.type "range",data:=.fields #[.int lo t,.int a u,.int 1 v] },toks:=tk }:=by
 show wpAny_pyIter_range (IsRange.new ..) (small_one h1 g h i) ?_;have c:Inv X pins σ H { s with heap:=s.heap.push { cls:=.type "range",data:=.fields #[.int lo t,.int a u,.int 1 v] },toks:=tk }:=I.kept fun b o e=>yw _ e;show⟨(s.heap.push { cls:=.type "range",data:=.fields #[.int lo t,.int a u,.int 1 v] }).objs.size,[(s.heap.push { cls:=.type "range",data:=.fields #[.int lo t,.int a u,.int 1 v] }).objs.size],_,_,H,rfl,
  c.kept (t':=tk) fun b o e=>yw _ e,turn_range _ lo (a-lo).toNat,?_,fun b j=>?_,q⟩
 .have d:lo+((0:Nat):Int)*1=lo:=by simp
  have f:(((a-lo).toNat:Nat):Int)-((0:Nat):Int)=Builtin.Range.rangeSize lo a 1:=by rw[rangeSize_one];split<;>lk
  show IsRangeIter _ _ (lo+((0:Nat):Int)*1) ((((a-lo).toNat:Nat):Int)-((0:Nat):Int)) 1;rw[d,f];show yS _ rfl
 .have e:b=(s.heap.push { cls:=.type "range",data:=.fields #[.int lo t,.int a u,.int 1 v] }).objs.size:=by simpa using j
  subst e;show c.fpOk (yh _) (c.hok.fresh (yh _))
def qfa(b:TA):TI:=fun σ H R=>b σ H fun vs a=>∃ j:Int,vs=[.int j]/\-(2 ^ 62)<=j/\j<2 ^ 62/\R (Itr 0 j.toNat) a
theorem za{a:Expr}{c:TA}{p:Pos}(g:Gl X "range")(i:X.mg "range"=none)(f:PA X [a] c)(l:starEach [a] X.env=[(false,eval a X.env)]:=by rfl):PI X tg (.Call (.Name "range" p) [a] [] pos) (qfa c):=by
 intro pins s σ H R I h;show Call_ (qaW I g i boot_range (YU (thn (f pos pins s σ H _ I h) fun us u ⟨vs,o,d,n,b⟩=>?_) l rfl));obtain⟨j,e,b,m,q⟩:=b;subst e
 cases n with
 | cons r rr =>
  cases rr;obtain⟨t,rfl⟩:=r;show call_range_1 (range_it d (by lk) (by lk) b m (by simpa using q))
def qfZ(f:TI)(g:TG)(tb:TS):TS:=fun D σ H=>f σ H fun J d=>∃ W:Nat->Nat->St->Hp->Prop,(∃ m,W 0 m σ d)/\∀ i m σ H,W i m σ H ->
 (J.stop i H/\D.nx σ H)\/(J.go i H/\∃ N:St->Hp->Prop,(∀ a H',N a H'->∃ c,c<m/\W (i+1) c a H')/\∀ x H',J.yld i H x H'->g x σ H' fun b e=>tb { D with nx:=N,ct:=N,bk:=D.nx } b e)
noncomputable def qb1(fp:LQ)(h:Heap):List (Addr×Obj):=fp.filterMap fun b=>(h.get? b).map fun o=>(b,o)
theorem zZ{o:Obj}(a:b∈fp)(e:h.get? b=some o):(b,o)∈qb1 fp h:=List.mem_filterMap.mpr ⟨b,a,by rw[e];rfl⟩
theorem of_pinsAt{p:Addr×Obj}(d:p∈qb1 fp h):p.1∈fp/\h.get? p.1=some p.2:=by
 obtain⟨b,c,e⟩:=List.mem_filterMap.mp d
 cases q:h.get? b with
 | none=>rw[q] at e;cases e
 | some o =>
  rw[q] at e;have a:(b,o)=p:=ym e;subst a;show⟨c,q⟩
theorem Inv.pinned(I:Inv X pins σ H s)(i:∀ b∈fp,qcx X pins H b)(j:∀ b∈fp,∃ o,s.heap.get? b=some o/\∀ v,o.data≠.cell v):Inv X (pins++qb1 fp s.heap) σ H s:=
 I.pins_of fun p l=>(yA.mp l).elim (fun z=>I.pin p (yL _ z)) fun z=>by
  obtain⟨c,e⟩:=of_pinsAt z;obtain⟨f,g,h,_⟩:=i p.1 c;obtain⟨o,a,d⟩:=j p.1 c;rw[e] at a;cases a;show⟨e,f,g,h,d⟩
theorem Inv.unpinned{pl:List (Addr×Obj)}(I:Inv X (pins++pl) σ H s):Inv X pins σ H s:=I.pins_of fun p a=>I.pin p (yL _ (yM _ a))
theorem ju{p:Expr}{wi:TI}(E:PassesOwn (model X.prog X.w) X.A X.env X.xe)(hc:X.calm=true)(hi:PI X tg p wi)(hg:PG X tg g)(l:PSs X body tb)
  (hs:∀ x,foldedSetIterable p X.env x=pure x:=by intro _;rfl):PS X (.For tg p body [] pos) (qfZ wi g tb):=by
 intro pins s σ H D I h;show wpAny_For (thn (hi pins s σ H _ I h) fun v s1 h1=>thn h1 fun aa s2 h2=>?_) hs;obtain⟨it,fp,tn,J,H2,e,I2,T,S,f2,W,⟨m0,w0⟩,turn⟩:=h2;subst e;have q:∀{H':Hp},(∀ b∈fp,H' b=none)->∀ b∈fp,qcx X pins H' b:=fun hn b l=>⟨hn b l,(f2 b l).2⟩;show codeAny_forLoop_any (fun n s'=>∃ i t H',Inv X pins t H' s'/\tn i s'.heap/\(∀ b∈fp,H' b=none)/\W i n t H') ?_ m0 ⟨0,σ,H2,I2,S,fun b l=>(f2 b l).1,w0⟩;rintro n s3 ⟨i,y,L,Z,G,C,w3⟩;rcases turn i n y L w3 with⟨K,qn⟩ | ⟨go,N,hN,step⟩
 .show xz E (thn (T.done X rfl rfl rfl hc i pins s3 y L X.xe Z (q C) G K) fun r s4 ⟨P,I4⟩=>?_);subst P;show XR ⟨y,L,I4,qn⟩
 .show xz E (thn (T.item X rfl rfl rfl hc i pins s3 y L X.xe Z (q C) G go) fun r s4 ⟨u,P,h4⟩=>?_);subst P;show xz E (thn h4 fun _ s5 ⟨x,Y,I5,r5,y5,B,O⟩=>?_);have M:=I5.pinned (q O) (T.obj _ _ B);show xz E (thn (hg _ s5 y Y x u _ M r5 (step x Y y5)) fun _ s6 ⟨U,H6,I6,q6⟩=>?_);show xz E (thn (l _ s6 U H6 _ I6 q6) fun f R z=>?_)
  have again:∀{a:St} {c:Hp},Inv X (pins++qb1 fp s5.heap) a c R->N a c->∃ m,m<n/\∃ i t H',Inv X pins t H' R/\tn i R.heap/\(∀ b∈fp,H' b=none)/\W i m t H':=fun{a c} j F=>by
   obtain⟨m',hm,w7⟩:=hN a c F;show⟨m',hm,i+1,a,c,j.unpinned,T.keep _ _ _ B fun b l o e=>(j.pin (b,o) (yL _ (yL _ (zZ l e)))).1,fun b l=>?_,w7⟩;obtain⟨o,e,d⟩:=T.obj _ _ B b l;show(j.pin (b,o) (yL _ (yL _ (zZ l e)))).2.1
  cases f with
  | next=>obtain⟨a,c,j,F⟩:=z;show again j F
  | cont=>obtain⟨a,c,j,F⟩:=z;show again j F
  | brk=>obtain⟨a,c,j,z⟩:=z;show⟨a,c,j.unpinned,z⟩
  | ret v=>obtain⟨x7,a,c,j,r7,z⟩:=z;show⟨x7,a,c,j.unpinned,r7,z⟩
end
theorem jc{K:yg}(b:Nat->St->Hp->Prop)(l:b 0 σ H)(hl:∀ i σ H,i<=xs.length->b i σ H->SqL K H a xs)
  (r:∀ i x σ H,xs[i]?=some x->b i σ H->g x σ H fun d h=>tb { D with nx:=b (i+1),ct:=b (i+1),bk:=D.nx } d h) (n:∀ σ H,b xs.length σ H->D.nx σ H) :
  ∃ W:Nat->Nat->St->Hp->Prop,(∃ m,W 0 m σ H)/\∀ i m σ H,W i m σ H ->
   ((Itl K a).stop i H/\D.nx σ H)\/((Itl K a).go i H/\∃ N:St->Hp->Prop,(∀ c H',N c H'->∃ j,j<m/\W (i+1) j c H')/\∀ x H',(Itl K a).yld i H x H'->g x σ H' fun d h=>tb { D with nx:=N,ct:=N,bk:=D.nx } d h):=by
 show⟨fun i m σ H=>m=xs.length-i/\i<=xs.length/\b i σ H,⟨xs.length,by simp,xp _,l⟩,?_⟩;rintro i m σ H ⟨rfl,o,p⟩;have q:=hl i σ H o p;by_cases f:i<xs.length
 .show .inr ⟨⟨xs,xs[i],q,by simp[f]⟩,b (i+1),fun c H' s=>⟨xs.length-(i+1),by lk,rfl,f,s⟩,fun x H' y=>?_⟩;obtain⟨e,y⟩:=y;subst e;show r i x σ _ (y xs q) p
 .have e:i=xs.length:=by lk
  subst e;show .inl ⟨⟨xs,q,yh _⟩,n σ H p⟩
theorem zS(a:Nat->St->Hp->Prop)(j:a 0 σ H)
  (o:∀ i σ H,i<n->a i σ H->g (.int (lo+i)) σ H fun d f=>tb { D with nx:=a (i+1),ct:=a (i+1),bk:=D.nx } d f) (l:∀ σ H,a n σ H->D.nx σ H) :
  ∃ W:Nat->Nat->St->Hp->Prop,(∃ m,W 0 m σ H)/\∀ i m σ H,W i m σ H ->
   ((Itr lo n).stop i H/\D.nx σ H)\/((Itr lo n).go i H/\∃ N:St->Hp->Prop,(∀ c H',N c H'->∃ h,h<m/\W (i+1) h c H')/\∀ x H',(Itr lo n).yld i H x H'->g x σ H' fun d f=>tb { D with nx:=N,ct:=N,bk:=D.nx } d f):=by
 show⟨fun i m σ H=>m=n-i/\i<=n/\a i σ H,⟨n,by simp,xp _,j⟩,?_⟩;rintro i m σ H ⟨rfl,r,p⟩;by_cases b:i<n
 .show .inr ⟨b,a (i+1),fun c H' q=>⟨n-(i+1),by lk,rfl,b,q⟩,fun x H' y=>?_⟩;obtain⟨e,y⟩:=y;subst e y;show o i σ _ b p
 .have e:i=n:=by lk
  subst e;show .inl ⟨yh _,l σ H p⟩
abbrev R2:=V->V->Hp->VK->Prop
def OpR(X:Cx)(f:Value->Value->Sem Value)(r:R2):Prop:=
 ∀(pins:List (Addr×Obj)) (s:Shared) (σ:St) (H:Hp) (x y:V) (v u:Value) (Q:VK),Inv X pins σ H s->RelV x v->RelV y u->r x y H Q ->
  wpAny (model X.prog X.w) X.A (f v u) (EP X pins σ Q) X.xe s
def UnR(X:Cx)(f:Value->Sem Value)(r:V->Hp->VK->Prop):Prop:=
 ∀(pins:List (Addr×Obj)) (s:Shared) (σ:St) (H:Hp) (x:V) (v:Value) (Q:VK),Inv X pins σ H s->RelV x v->r x H Q ->
  wpAny (model X.prog X.w) X.A (f v) (EP X pins σ Q) X.xe s
def zN(X:Cx)(f:Value)(r:List V->Hp->VK->Prop):Prop:=
 ∀(pins:List (Addr×Obj)) (s:Shared) (σ:St) (H:Hp) (xs:List V) (us:List Value) (Q:VK),Inv X pins σ H s->Vals xs us->r xs H Q ->
  wpAny (model X.prog X.w) X.A (call f us) (EP X pins σ Q) X.xe s
def tOp(r:R2)(c tb:TE):TE:=fun σ H Q=>c σ H fun x a=>tb σ a fun y b=>r x y b Q
def tUn(r:V->Hp->VK->Prop)(b:TE):TE:=fun σ H Q=>b σ H fun x a=>r x a Q
def rI(C:Int->Int->Prop)(g:Int->Int->V):R2:=fun x y H Q=>∃ i j,x=.int i/\y=.int j/\C i j/\Q (g i j) H
def rI0(g:Int->Int->V):R2:=fun x y H Q=>∃ i j,x=.int i/\y=.int j/\Q (g i j) H
def rU(g:Int->V):V->Hp->VK->Prop:=fun x H Q=>∃ i,x=.int i/\Q (g i) H
section
variable{X:Cx}{a b c:Expr}{ta tb tc:TE}{pos:Pos}
theorem qfL(m:PE X a ta)(n:PE X b tb){R:V->V->Hp->Prop}(I:Inv X pins σ H s)
  (h:ta σ H fun x i=>tb σ i fun y c=>R x y c) {Q:Value->Shared->Prop}
  (o:∀ v u g x y c,Inv X pins σ c g->RelV x v->RelV y u->R x y c->wpAny (model X.prog X.w) X.A (f v u) Q X.xe g) :
  wpAny (model X.prog X.w) X.A (eval a X.env) (fun v d=>wpAny (model X.prog X.w) X.A (eval b X.env) (fun u e=>wpAny (model X.prog X.w) X.A (f v u) Q X.xe e) X.xe d) X.xe s:=by
 show thn (m pins s σ H _ I h) fun v z ⟨x,i,j,r,p⟩=>?_;show thn (n pins z σ i _ j p) fun u g ⟨y,c,l,t,q⟩=>?_;show o v u g x y c l r t q
theorem qH{op:Operator}(g:OpR X (binaryOp op) r)(e:PE X a ta)(f:PE X b tb):PE X (.BinOp a op b pos) (tOp r ta tb):=by
 intro pins s σ H Q I h;show wpAny_BinOp (qfL e f I h fun v u l x y c d i j q=>g pins l σ c x y v u Q d i j q)
theorem qaX{op:UnaryOp}{r:V->Hp->VK->Prop}(e:UnR X (unaryOp op) r)(d:PE X a ta):PE X (.UnaryOp op a pos) (tUn r ta):=by
 intro pins s σ H Q I h;show UnaryOp_ (thn (d pins s σ H _ I h) fun v i ⟨x,b,c,g,f⟩=>e pins i σ b x v Q c g f)
theorem opI{C:Int->Int->Prop}{g:Int->Int->Int}
  (a:∀(i j:Int) (t u:Tok) (s:Shared) (Q:Value->Shared->Prop) (E:Value->Shared->Prop),C i j->Q (.int (g i j) s.toks) { s with toks:=s.toks+1 }->wpAny (model X.prog X.w) X.A (f (.int i t) (.int j u)) Q E s) :
  OpR X f (rI C fun i j=>.int (g i j)):=by
 intro pins s σ H x y v u Q I b c h;obtain⟨i,j,rfl,rfl,hc,q⟩:=h;obtain⟨t,rfl⟩:=b;obtain⟨t',rfl⟩:=c;show a i j t t' s _ _ hc ⟨.int (g i j),H,I.tok _,⟨_,rfl⟩,q⟩
theorem qfA{g:Int->Int->Int}
  (a:∀(i j:Int) (t u:Tok) (s:Shared) (Q:Value->Shared->Prop) (E:Value->Shared->Prop),Q (.int (g i j) s.toks) { s with toks:=s.toks+1 }->wpAny (model X.prog X.w) X.A (f (.int i t) (.int j u)) Q E s) :
  OpR X f (rI0 fun i j=>.int (g i j)):=by
 intro pins s σ H x y v u Q I b c h;obtain⟨i,j,rfl,rfl,q⟩:=h;obtain⟨t,rfl⟩:=b;obtain⟨t',rfl⟩:=c;show a i j t t' s _ _ ⟨.int (g i j),H,I.tok _,⟨_,rfl⟩,q⟩
theorem qfB{g:Int->Int->Bool}
  (a:∀(i j:Int) (t u:Tok) (s:Shared) (Q:Value->Shared->Prop) (E:Value->Shared->Prop),Q (.bool (g i j)) s->wpAny (model X.prog X.w) X.A (f (.int i t) (.int j u)) Q E s) :
  OpR X f (rI0 fun i j=>.bl (g i j)):=by
 intro pins s σ H x y v u Q I b c h;obtain⟨i,j,rfl,rfl,q⟩:=h;obtain⟨t,rfl⟩:=b;obtain⟨t',rfl⟩:=c;show a i j t t' s _ _ ⟨.bl (g i j),H,I,rfl,q⟩
def CDiv(i j:Int):Prop:=0<j/\j<1073741824
def qf0(i j:Int):Prop:=0<=j/\j<=1000000/\i.natAbs<2 ^ 64
def CMul(i j:Int):Prop:=(-(2 ^ 64)<i/\i<2 ^ 64)\/(-(2 ^ 64)<j/\j<2 ^ 64)
theorem CMul.ok{i j:Int}(h:CMul i j):IntMulOk i j:=by
 rcases h with⟨h1,a⟩ | ⟨h1,a⟩
 .show .of_left (intBits_le_64 h1 a)
 .show .of_right (intBits_le_64 h1 a)
theorem two_pow_nn(k:Nat):(0:Int)<=2 ^ k:=by
 rw[two_pow_cast];show Int.natCast_nonneg _
theorem op_add:OpR X (binaryOp .Add) (rI0 fun i j=>.int (i+j)):=qfA fun _ _ _ _ _ _ _ q=>add_int q
theorem qei:OpR X (binaryOp .Sub) (rI0 fun i j=>.int (i-j)):=qfA fun _ _ _ _ _ _ _ q=>sub_int q
theorem op_mul:OpR X (binaryOp .Mult) (rI CMul fun i j=>.int (i*j)):=opI fun _ _ _ _ _ _ _ hc q=>mul_int q hc.ok
theorem qdA:OpR X (binaryOp .FloorDiv) (rI CDiv fun i j=>.int (i / j)):=opI fun i j _ _ _ _ _ hc q=>by
 have h1:(0:Int)<j:=hc.1;have a:j<1073741824:=hc.2;show floordiv_int (by lk) (by rw[Int.fdiv_eq_ediv_of_nonneg i (by lk)];show q) (.inl (PyProof.noPylong_small (by lk)))
theorem qaq:OpR X (binaryOp .Mod) (rI (fun _ j=>0<j) fun i j=>.int (i % j)):=opI fun i j _ _ _ _ _ hc q=>by
 have h1:(0:Int)<j:=hc;show mod_int' (by lk) (by rw[Int.fmod_eq_emod_of_nonneg i (by lk)];show q)
theorem op_pow:OpR X (binaryOp .Pow) (rI qf0 fun i j=>.int (i ^ j.toNat)):=opI fun _ _ _ _ _ _ _ hc q=>pow_int_small hc.1 hc.2.1 hc.2.2 q
theorem qej:OpR X (binaryOp .LShift) (rI qf0 fun i j=>.int (i*2 ^ j.toNat)):=opI fun _ _ _ _ _ _ _ hc q=>lshift_int_small hc.1 hc.2.1 hc.2.2 q
theorem op_shr:OpR X (binaryOp .RShift) (rI (fun _ j=>0<=j) fun i j=>.int (i / 2 ^ j.toNat)):=opI fun i j _ _ _ _ _ hc q =>
 rshift_int hc (by rw[Int.fdiv_eq_ediv_of_nonneg i (two_pow_nn _)];show q)
theorem op_and:OpR X (binaryOp .BitAnd) (rI0 fun i j=>.int (Builtin.bitAnd i j)):=qfA fun _ _ _ _ _ _ _ q=>and_int q
theorem qfb:OpR X (binaryOp .BitOr) (rI0 fun i j=>.int (Builtin.bitOr i j)):=qfA fun _ _ _ _ _ _ _ q=>or_int q
theorem unI{f:Value->Sem Value}{g:Int->Int}
  (a:∀(i:Int) (t:Tok) (s:Shared) (Q:Value->Shared->Prop) (E:Value->Shared->Prop),Q (.int (g i) s.toks) { s with toks:=s.toks+1 }->wpAny (model X.prog X.w) X.A (f (.int i t)) Q E s) :
  UnR X f (rU fun i=>.int (g i)):=by
 intro pins s σ H x v Q I b h;obtain⟨i,rfl,q⟩:=h;obtain⟨t,rfl⟩:=b;show a i t s _ _ ⟨.int (g i),H,I.tok _,⟨_,rfl⟩,q⟩
theorem zM:UnR X (unaryOp .USub) (rU fun i=>.int (-i)):=unI fun _ _ _ _ _ q=>neg_int q
end
noncomputable def scal:V->V->Bool
 | .non,.non=>true | .non,.int _=>true | .int _,.non=>true | .non,.bl _=>true | .bl _,.non=>true | .non,.str _=>true | .str _,.non=>true
 | .int _,.int _=>true | .bl _,.bl _=>true | .str _,.str _=>true | .byt _,.byt _=>true
 | .int _,.str _=>true | .str _,.int _=>true | .bl _,.str _=>true | .str _,.bl _=>true
 | _,_=>false
def rEq:R2:=fun x y H Q=>scal x y=true/\Q (.bl (decide (x=y))) H
theorem dec_bl{i j:Bool}:decide (V.bl i=V.bl j)=(i==j):=by
 rw[YH];simp
section
variable{X:Cx}{a b c:Expr}{ta tb tc:TE}{pos:Pos}
theorem qcU{Q:VK}{k k':Bool}(I:Inv X pins σ H s)(q:Q (.bl k) H)(e:k=k'):EP X pins σ Q (.bool k') s:=by
 subst e;show⟨.bl k,H,I,rfl,q⟩
theorem qdB:OpR X (compareOp .Lt) (rI0 fun i j=>.bl (decide (i<j))):=qfB fun _ _ _ _ _ _ _ q=>lt_int q
theorem op_le:OpR X (compareOp .LtE) (rI0 fun i j=>.bl (decide (i<=j))):=qfB fun _ _ _ _ _ _ _ q=>le_int q
theorem qdC:OpR X (compareOp .Gt) (rI0 fun i j=>.bl (decide (j<i))):=qfB fun _ _ _ _ _ _ _ q=>gt_int q
theorem op_ge:OpR X (compareOp .GtE) (rI0 fun i j=>.bl (decide (j<=i))):=qfB fun _ _ _ _ _ _ _ q=>ge_int q
theorem op_isN:OpR X (compareOp .Is) (fun x y H Q=>y=.non/\Q (.bl (decide (x=.non))) H):=by
 intro pins s σ H x y v u Q I a b h;obtain⟨rfl,q⟩:=h;cases b;show is_none_gen (qcU I q ?_);cases x<;>first
  | (cases a;rfl)
  | (obtain⟨t,rfl⟩:=a;rfl)
theorem qcy:OpR X (compareOp .IsNot) (fun x y H Q=>y=.non/\Q (.bl (!decide (x=.non))) H):=by
 intro pins s σ H x y v u Q I a b h;obtain⟨rfl,q⟩:=h;cases b;show isnot_none_gen (qcU I q ?_);cases x<;>first
  | (cases a;rfl)
  | (obtain⟨t,rfl⟩:=a;rfl)
theorem qx(b:Expr)(h:op≠.In:=by decide)(d:op≠.NotIn:=by decide):behindInMarks op b=false:=by
 have a:(op==CmpOp.In)=false:=by cases op<;>first | rfl | show absurd rfl h
 have c:(op==CmpOp.NotIn)=false:=by cases op<;>first | rfl | show absurd rfl d
 cases b<;>simp[behindInMarks,a,c]
theorem jE(i:OpR X (compareOp op) r)(e:PE X a ta)(f:PE X b tb)(g:behindInMarks op b=false):PE X (.Compare a [op] [b] pos) (tOp r ta tb):=by
 intro pins s σ H Q I h;show wpAny_Compare1 (qfL e f I h fun v u m x y c d j l q=>i pins m σ c x y v u Q d j l q) g
def qeP(t:TE):TT:=fun σ H Q=>t σ H fun x H'=>∃ k,x=.bl k/\Q k H'
theorem qm(p:OpR X (compareOp op) r)(m:PE X a ta)(n:PE X b tb)(o:behindInMarks op b=false):PT X (.Compare a [op] [b] pos) (qeP (tOp r ta tb)):=by
 intro pins s σ H Q I h
 show wpAny_isTrue_Compare1 (thn (m pins s σ H _ I h) fun v D ⟨x,d,i,A,q⟩=>thn (n pins D σ d _ i q) fun u E ⟨y,f,j,B,t⟩ =>
  thn (p pins E σ f x y v u _ j A B t) fun c F ⟨z,g,l,C,k,e,w⟩=>?_) o
 subst e;cases C;show xi ⟨g,l,w⟩
def qdD(r r':R2)(ta tb tc:TE):TE:=fun σ H Q=>ta σ H fun x b=>tb σ b fun y c=>r x y c fun z a=>∃ k,z=.bl k /\
 (if k=true then tc σ a fun e d=>r' y e d Q else Q (.bl false) a)
theorem qcV(C:OpR X (compareOp op) r)(f:OpR X (compareOp op') r')(w:PE X a ta)(A:PE X b tb)(hc:PE X c tc)
  (B:lastMarks [op,op'] [b,c]=false:=by with_unfolding_all rfl):PE X (.Compare a [op,op'] [b,c] pos) (qdD r r' ta tb tc):=by
 intro pins s σ H Q I h
 show Compare_chain (thn (w pins s σ H _ I h) fun v L ⟨x,m,p,G,D⟩=>chain_link (thn (A pins L σ m _ p D) fun u M ⟨y,n,q,l,E⟩ =>
  thn (C pins M σ n x y v u _ q G l E) fun d N ⟨z,g,i,J,k,e,j⟩=>?_)) B
 subst e;cases J;show xi ?_
 cases k with
 | false=>show ite_ff ⟨.bl false,g,i,rfl,j⟩
 | true=>show ite_tt (chain_last (thn (hc pins N σ g _ i j) fun P O ⟨R,o,t,K,F⟩=>f pins O σ o y R u P Q t l K F))
theorem qcW(G:OpR X (compareOp op) r)(f:OpR X (compareOp op') r')(D:PE X a ta)(E:PE X b tb)(hc:PE X c tc)
  (F:lastMarks [op,op'] [b,c]=false:=by with_unfolding_all rfl):PT X (.Compare a [op,op'] [b,c] pos) (qeP (qdD r r' ta tb tc)):=by
 intro pins s σ H Q I h
 show isTrue_chain (thn (D pins s σ H _ I h) fun v T ⟨x,m,q,O,K⟩=>test_link (thn (E pins T σ m _ q K) fun u U ⟨y,n,t,l,L⟩ =>
  thn (G pins U σ n x y v u _ t O l L) fun d W ⟨z,g,i,P,k,e,j⟩=>?_)) F
 subst e;cases P;show xi ?_
 cases k with
 | false =>
  obtain⟨k',B,J⟩:=j;cases B;show ite_ff ⟨g,i,J⟩
 | true =>
  show ite_tt (test_last (thn (hc pins W σ g _ i j) fun Z Y ⟨z',o,w,R,M⟩=>thn (f pins Y σ o y z' u Z _ w l R M) fun d' s5 ⟨z2,p,A,S,k2,C,N⟩=>?_));subst C;cases S;show xi ⟨p,A,N⟩
theorem qbu:(sizeLine:Nat)<2 ^ 63:=by rw[Yn];decide
theorem op_add_str:OpR X (binaryOp .Add) (fun x y H Q=>∃ i j,x=.str i/\y=.str j/\i.length+j.length<=sizeLine/\Q (.str (i++j)) H):=by
 intro pins s σ H x y v u Q I a b h;obtain⟨i,j,rfl,rfl,hz,q⟩:=h;obtain⟨t,rfl⟩:=a;obtain⟨t',rfl⟩:=b;show add_str (fun t' tk=>⟨.str (i++j),H,I.tok _,⟨_,rfl⟩,q⟩) hz
theorem qbt{x:V}(r:Vals [x] us):∃ u,us=[u]/\RelV x u:=by
 cases r with
 | cons r1 r2=>cases r2;show⟨_,rfl,r1⟩
theorem qbJ{x:V}(r:Vals [x,y] us):∃ u a,us=[u,a]/\RelV x u/\RelV y a:=by
 cases r with
 | cons r1 r2 =>
  cases r2 with
  | cons r3 r4=>cases r4;show⟨_,_,rfl,r1,r3⟩
theorem call_max2(hc:X.calm=true):zN X (.builtin "max") (fun xs H Q=>∃ i j,xs=[.int i,.int j]/\Q (.int (if j>i then j else i)) H):=by
 intro pins s σ H xs us Q I r h;obtain⟨i,j,rfl,q⟩:=h;obtain⟨u,b,rfl,⟨t,rfl⟩,⟨t',rfl⟩⟩:=qbJ r;show max_two_ints (I.ok.hd hc) fun h' tk k=>⟨_,H,I.kept k,?_,q⟩;by_cases a:j>i
 .rw [yE a,yE a];show⟨_,rfl⟩
 .rw [yC a,yC a];show⟨_,rfl⟩
theorem call_min2(hc:X.calm=true):zN X (.builtin "min") (fun xs H Q=>∃ i j,xs=[.int i,.int j]/\Q (.int (if j<i then j else i)) H):=by
 intro pins s σ H xs us Q I r h;obtain⟨i,j,rfl,q⟩:=h;obtain⟨u,b,rfl,⟨t,rfl⟩,⟨t',rfl⟩⟩:=qbJ r;show min_two_ints (I.ok.hd hc) fun h' tk k=>⟨_,H,I.kept k,?_,q⟩;by_cases a:j<i
 .rw [yE a,yE a];show⟨_,rfl⟩
 .rw [yC a,yC a];show⟨_,rfl⟩
theorem qb2:zN X (.type "int") (fun xs H Q=>(∃ i,xs=[.int i]/\Q (.int i) H)\/∃ k,xs=[.bl k]/\Q (.int (if k then 1 else 0)) H):=by
 intro pins s σ H xs us Q I r h;rcases h with⟨i,rfl,q⟩ | ⟨k,rfl,q⟩
 .obtain⟨u,rfl,t,rfl⟩:=qbt r;show call_int_int ⟨.int i,H,I,⟨_,rfl⟩,q⟩
 .obtain⟨u,rfl,a⟩:=qbt r;cases a;show call_int_bool ⟨.int (if k then 1 else 0),H,I.tok _,⟨_,rfl⟩,q⟩
end
structure ObjM(h:Heap)(x dx C:Addr)(mA:Str->Option Value):Prop where
 obj:h.get? x=some (PySem.W.instObj C dx)
 ns:h.Ns1 dx mA
 ne:dx≠x
theorem qb3(n:h.Ns1 dx mA):∃ od,h.get? dx=some od/\∀ name,PySem.W.lookIn name od=some (mA name):=by
 obtain⟨o,es,ep,i,d,f,_,g⟩:=n;show⟨o,i,fun name=>?_⟩;have e:=g name;unfold nsFind findBy at e;rw[<- Array.find?_toList] at e;unfold PySem.W.lookIn;rw[d];dsimp only;split
 .rename_i y q
  rw[q] at e;show congrArg some e
 .rename_i q
  rw[q] at e
  have a:es.toList.any (·.refKey)=false:=by
   rw[List.any_eq_false];intro y j;obtain⟨z,t,b⟩:=f y (Array.mem_toList_iff.mp j);simp[DictEntry.refKey,b]
  have c:¬ es.toList.any (·.refKey)=true:=by rw[a];show Ym
  rw[yC c];show congrArg some e
theorem ObjM.look{x:Addr}(I:ObjM h x dx C mA):∃ od,PySem.W.InstAt h x (PySem.W.instObj C dx) C (some od)/\∀ name,PySem.W.lookIn name od=some (mA name):=
 let ⟨od,ho,hl⟩:=qb3 I.ns
 ⟨od,⟨I.obj,rfl,rfl,ho⟩,hl⟩
section
variable{prog:Program}{w:World}{A:Around}{E:Value->Shared->Prop}{s:Shared}{K:yg}{x dx C f:Addr}{mA:Str->Option Value}{name:Str}{v:Value}
theorem get_map{a:Bool}{Q:Value->Shared->Prop}(X:K.In s.heap)(I:ObjM s.heap x dx C mA)(d:PySem.W.plainGet K C name=true)(e:PySem.W.hasDictIn K C=true)
  (c:PySem.W.findIn K (.ref C) name=some none) (hv:mA name=some v) (b:PySem.W.handedIn v=true) (h:Q v { s with toks:=s.toks+1 }) :
  wpAny (model prog w) A (getAttr (.ref x) name a) Q E s:=by
 obtain⟨od,J,hl⟩:=I.look;show PySem.W.get_value X J (XZ d).1 (PySem.W.findObj_own e c rfl (by rw[hl,hv])) b h
theorem get_meth{pl:Sem Bool}{Q:Value×List Value->Shared->Prop}(X:K.In s.heap)(I:ObjM s.heap x dx C mA)(a:PySem.W.plainGet K C name=true)
  (b:PySem.W.findIn K (.ref C) name=some (some (.ref f))) (c:PySem.W.isFn K (.ref f)=true) (hv:mA name=none) (h:Q (.ref f,[.ref x]) s) :
  wpAny (model prog w) A (getMethod (.ref x) name pl) Q E s:=by
 obtain⟨od,J,hl⟩:=I.look;show PySem.W.method_fn X J (XZ a).1 (XZ a).2 b (Ye.mp c) (by show(PySem.W.lookIn name od).map (·.isSome)=some false;rw[hl,hv];rfl) h
theorem set_map{ns:LS}{Q:Unit->Shared->Prop}(X:K.In s.heap)(I:ObjM s.heap x dx C mA)
  (o:PySem.W.findIn K (.ref C) "__setattr__"=some (some (.builtin "object.__setattr__"))) (n:PySem.W.plainOver K C=true) (p:PySem.W.takerIn K C name=some none) (m:PySem.W.hasDictIn K C=true)
  (hw:PySem.Within mA ns) (hsz:ns.length<=sizeLine)
  (h:∀ h',ObjM h' x dx C (fun y=>if y=name then some v else mA y)->Heap.SameBut dx s.heap h'->Q () { s with heap:=h',toks:=s.toks+2 }) :
  wpAny (model prog w) A (setAttr (.ref x) name v) Q E s:=by
 obtain⟨od,J,hl⟩:=I.look;show PySem.W.set_plain X J o (PySem.W.osa_open (s:={ s with toks:=s.toks+1 }) (r:=none) X J n p fun b=>?_);obtain⟨t,hc,f⟩:=xJ m;have q:s.heap.get? x=some ⟨.ref C,some dx,.plain,#[]⟩:=I.obj;show yr (yu (yr (yr (wpAny_loadPart q (yr (PySem.W.Looks.here (s:={ s with toks:=s.toks+1 }) (X4 X hc) ?_))))));rw[f];show yu (a:=some dx) (yr (yu (yr ?_)));show wpAny_nsSet1 (s:={ s with toks:=s.toks+1 }) I.ns fun h' c d=>?_;obtain⟨u,l,j,i,g,e⟩:=c.count (PySem.Within.cons name v hw);show yr (wpAny_lookBehind i (by rw[g];show pastItsLine_dict (yi e (by rw[yD];lk))) ?_);show yu (h _ ⟨(d.2 _ (Yb I.ne)).trans I.obj,c,I.ne⟩ d)
theorem qcX{R:Result->Shared->Prop}{vs:List Value}(X:K.In s.heap)(c:PySem.W.makesIn K C=true)
  (b:PySem.W.findIn K (.ref C) "__init__"=some (some (.ref f))) (a:PySem.W.typeIn K (.ref f)=some (.type "function"))
  (h:codeAny (model prog w) (A.under (.builtin "type.__call__" ⟨.ref C::vs,kw⟩)) (.call (.ref f) ⟨.ref (s.heap.objs.size+1)::vs,kw⟩) (PySem.W.InitBack (s.heap.objs.size+1) R)
   { s with heap:=(s.heap.push PySem.W.emptyDict).push (PySem.W.instObj C s.heap.objs.size) }) :
  codeAny (model prog w) A (.call (.ref C) ⟨vs,kw⟩) R s:=by
 obtain⟨e,g,d,t,i⟩:=s;show PySem.W.make_core (PySem.W.makes_of X c) (YE X b) (fun self=>PySem.W.bind_fn X self a) (.inl rfl) h
end
noncomputable def qE(f:Str)(v:V):List (Str×V)->List (Str×V)
 | []=>[(f,v)]
 | (g,x)::r=>if g=f then(g,v)::r else(g,x)::qE f v r
theorem qC(f g:Str)(v:V):∀ fs:List (Str×V),(qE f v fs).lookup g=if g=f then some v else fs.lookup g
 | []=>by
  show List.lookup g [(f,v)]=_;by_cases h:g=f
  .have a:(g==f)=true:=Ye.mpr h;simp only[List.lookup,a,yE h]
  .have a:(g==f)=false:=Yo.mpr h;simp only[List.lookup,a,yC h]
 | (k,x)::r=>by
  have c:=qC f g v r;rw[show qE f v ((k,x)::r)=(if k=f then(k,v)::r else(k,x)::qE f v r) from rfl];by_cases b:k=f
  .rw [yE b];by_cases h:g=k
   .have a:(g==k)=true:=Ye.mpr h;simp only[List.lookup,a,yE (h.trans b)]
   .have a:(g==k)=false:=Yo.mpr h;simp only[List.lookup,a,yC (fun e:g=f=>h (e.trans b.symm))]
  .rw [yC b];by_cases h:g=k
   .have a:(g==k)=true:=Ye.mpr h;simp only[List.lookup,a,yC (fun e:g=f=>b (h.symm.trans e))]
   .have a:(g==k)=false:=Yo.mpr h;simp only[List.lookup,a];show c
theorem qbd(f:Str)(v:V):∀ fs:List (Str×V),f∈(qE f v fs).map (·.1)/\∀ g,g∈fs.map (·.1)->g∈(qE f v fs).map (·.1)
 | []=>⟨by simp[qE],fun g h=>by simp at h⟩
 | (k,x)::r=>by
  obtain⟨b,c⟩:=qbd f v r;rw[show qE f v ((k,x)::r)=(if k=f then(k,v)::r else(k,x)::qE f v r) from rfl];by_cases a:k=f
  .rw [yE a];subst a;show⟨by simp,fun g h=>by simpa using h⟩
  .rw [yC a];show⟨?_,fun g h=>?_⟩
   .rw [Yy];show yI _ b
   .rw [Yy] at h ⊢;rcases yv.mp h with e | e
    .show yv.mpr (.inl e)
    .show yI _ (c g e)
theorem jA(f:Str)(v:V):∀ fs:List (Str×V),(qE f v fs).length<=fs.length+1
 | []=>by simp[qE]
 | (k,x)::r=>by
  have b:=jA f v r;rw[show qE f v ((k,x)::r)=(if k=f then(k,v)::r else(k,x)::qE f v r) from rfl];by_cases a:k=f
  .rw [yE a,yD,yD];lk
  .rw [yC a,yD,yD];lk
theorem RelO.some_of{o:Option Value}(r:RelO (some v) o):∃ u,o=some u/\RelV v u:=by
 cases o with
 | none=>show(show False from r).elim
 | some u=>show⟨u,rfl,r⟩
theorem RelO.none_of{o:Option Value}(r:RelO none o):o=none:=by
 cases o with
 | none=>rfl
 | some u=>show(show False from r).elim
theorem qb4(r:RelV v u):PySem.W.handedIn u=true:=by
 cases v with
 | non=>cases (show u=Value.none from r);rfl
 | bl b=>cases (show u=Value.bool b from r);rfl
 | int i=>obtain⟨t,e⟩:=(show ∃ t,u=Value.int i t from r);cases e;rfl
 | str x=>obtain⟨t,e⟩:=(show ∃ t,u=Value.str x t from r);cases e;rfl
 | byt b=>obtain⟨t,e⟩:=(show ∃ t,u=Value.bytes b t from r);cases e;rfl
 | flt b=>obtain⟨t,e⟩:=(show ∃ t,u=Value.float b t from r);cases e;rfl
 | ref a=>cases (show u=Value.ref a from r);rfl
 | ty n=>cases (show u=Value.type n from r);rfl
section
variable{P:Program}{w:World}{H H':Hp}{h h':Heap}{a C dx:Addr}{fs fs':List (Str×V)}
theorem qaU(b:HOk P w H h)(e:H a=some (.ins C dx fs)):∃ mA,ObjM h a dx C mA/\(∀ f,RelO (fs.lookup f) (mA f))/\PySem.Within mA (fs.map (·.1))/\fs.length<=1000/\H dx=some (.own a):=by
 obtain⟨d,z,ne,ob,mA,n,r,q⟩:=(show ObjOk P w H h a (.ins C dx fs) from b a _ e);show⟨mA,⟨ob,n,ne⟩,r,q,z,d⟩
end
structure Cls(K:yg)(C:Addr):Prop where
 pg:PySem.W.plainGet K C Str.empty=true
 hd:PySem.W.hasDictIn K C=true
 po:PySem.W.plainOver K C=true
 sa:PySem.W.findIn K (.ref C) "__setattr__"=some (some (.builtin "object.__setattr__"))
theorem Cls.get{K:yg}(c:Cls K C)(f:Str):PySem.W.plainGet K C f=true:=c.pg
def NoAttr(K:yg)(C:Addr)(f:Str):Prop:=PySem.W.findIn K (.ref C) f=some none
theorem NoAttr.taker{K:yg}{f:Str}(n:NoAttr K C f):PySem.W.takerIn K C f=some none:=by
 unfold PySem.W.takerIn;rw[show PySem.W.findIn K (.ref C) f=some none from n];rfl
structure Con(K:yg)(C:Addr)(f:Str)(v:V)(u:Value):Prop where
 at_:PySem.W.findIn K (.ref C) f=some (some u)
 rel:RelV v u
 get:PySem.W.specialIn K u "__get__"=some none
 cp:PySem.W.copiedNames.contains f=false
structure Meth(K:yg)(C:Addr)(m:Str)(f:Addr):Prop where
 at_:PySem.W.findIn K (.ref C) m=some (some (.ref f))
 fn:PySem.W.isFn K (.ref f)=true
 kp:PySem.W.keepIn K (.ref f)=true
section
variable{X:Cx}{pins:List (Addr×Obj)}{σ:St}{H:Hp}{s:Shared}{a C dx:Addr}{fs:List (Str×V)}{f:Str}{v:V}{A:Around}{E:Value->Shared->Prop}
theorem getattr_ok{b:Bool}{Q:Value->Shared->Prop}(I:Inv X pins σ H s)(e:H a=some (.ins C dx fs))(c:Cls X.K C)(n:NoAttr X.K C f)(l:fs.lookup f=some v)
  (h:∀ u s',Inv X pins σ H s'->RelV v u->Q u s'):wpAny (model X.prog X.w) A (getAttr (.ref a) f b) Q E s:=by
 obtain⟨mA,O,r,_,_,_⟩:=qaU I.hok e;obtain⟨u,g,d⟩:=RelO.some_of (v:=v) (o:=mA f) (by rw[<- l];show r f);show get_map I.kIn O (c.get f) c.hd n g (qb4 d) (h u _ (I.tok _) d)
theorem qbv{m:Str}{g:Addr}{pl:Sem Bool}{Q:Value×List Value->Shared->Prop}(I:Inv X pins σ H s)(e:H a=some (.ins C dx fs))(c:Cls X.K C)(k:Meth X.K C m g)(l:fs.lookup m=none)
  (h:Q (.ref g,[.ref a]) s):wpAny (model X.prog X.w) A (getMethod (.ref a) m pl) Q E s:=by
 obtain⟨mA,O,r,_,_,_⟩:=qaU I.hok e;have b:mA m=none:=RelO.none_of (by rw[<- l];show r m);show get_meth I.kIn O (c.get m) k.at_ k.fn b h
theorem setattr_ok{Q:Unit->Shared->Prop}(I:Inv X pins σ H s)(e:H a=some (.ins C dx fs))(c:Cls X.K C)(n:NoAttr X.K C f)(hl:fs.length<1000)(t:RelV y u)
  (h:∀ s',Inv X pins σ (upd H a (.ins C dx (qE f y fs))) s'->Q () s'):wpAny (model X.prog X.w) A (setAttr (.ref a) f u) Q E s:=by
 obtain⟨mA,O,r,j,_,i⟩:=qaU I.hok e;have hz:(fs.map (·.1)).length<=sizeLine:=by rw[ya,Yn];lk
 show set_map I.kIn O c.sa c.po n.taker c.hd j hz fun h' d v=>h _ ?_;have m:∃ o,h'.get? dx=some o:=let ⟨o,_,_,e',_⟩:=d.ns;⟨o,e'⟩;show I.write (x:=a) (e:=dx) (by rw[e];show YF) (.inr i) (fun b q l z=>(v.2 b l).trans z) m ?_;show⟨by rw[qf O.ne];show i,?_,O.ne,d.obj,_,d.ns,fun g=>?_,fun g p=>?_⟩
 .have:=jA f y fs;lk
 .show RelO ((qE f y fs).lookup g) (if g=f then some u else mA g);rw[qC];by_cases q:g=f
  .rw [yE q,yE q];show t
  .rw [yC q,yC q];show r g
 .by_cases q:g=f
  .rw [q];show(qbd f y fs).1
  .show(qbd f y fs).2 g (j g fun z=>p ?_);show(if g=f then some u else mA g)=none;rw[yC q];show z
theorem Inv.made(I:Inv X pins σ H s):Inv X pins σ (upd (upd H s.heap.objs.size (.own (s.heap.objs.size+1))) (s.heap.objs.size+1) (.ins C s.heap.objs.size []))
  { s with heap:=(s.heap.push PySem.W.emptyDict).push (PySem.W.instObj C s.heap.objs.size) }:=by
 have c:(s.heap.push PySem.W.emptyDict).get? s.heap.objs.size=some PySem.W.emptyDict:=yS s.heap rfl
 have f:((s.heap.push PySem.W.emptyDict).push (PySem.W.instObj C s.heap.objs.size)).get? (s.heap.objs.size+1)=some (PySem.W.instObj C s.heap.objs.size):=by
  have:=yS (s.heap.push PySem.W.emptyDict) (o:=PySem.W.instObj C s.heap.objs.size) rfl
  rwa[YL] at this
 have g:(s.heap.push PySem.W.emptyDict).Ns s.heap.objs.size (fun _=>none):=⟨PySem.W.emptyDict,#[],_,c,rfl,(fun e h=>absurd h (by simp)),fun _=>rfl⟩;have d:=I.laid (a:=s.heap.objs.size) (o:=.own (s.heap.objs.size+1)) (h':=s.heap.push PySem.W.emptyDict) (t':=s.toks) (fun b u q=>yw _ q) (yh _) ⟨_,c⟩;show d.laid (a:=s.heap.objs.size+1) (o:=.ins C s.heap.objs.size []) (t':=s.toks) (fun b u q=>yw _ q) (xT (YL _ _)) ?_;have ne:s.heap.objs.size≠s.heap.objs.size+1:=yG (xK _);show⟨by rw[qf ne,qb],xp _,ne,f,fun _=>none,(Heap.Ns1.of_empty g).at fun o q=>yw _ q,fun _=>YF,fun y i=>absurd rfl i⟩
theorem attr_of{prog:Program}{env:Env}{f:Str}{Q:Value->Shared->Prop}(b:attributeBase e f env (eval e env)=eval e env)
  (h:wpAny (model prog w) A (eval e env) (fun o a=>wpAny (model prog w) A (getAttr o f true) Q E a) E s):wpAny (model prog w) A (eval (.Attribute e f pos) env) Q E s:=
 Attribute_any_ h (by rw[arm_eval_Attribute,b])
end
section
variable{X:Cx}{o e value:Expr}{f:Str}{pos pos' tpos:Pos}{ta tv:TE}
end
section
variable{X:Cx}{pins:List (Addr×Obj)}{σ:St}{H:Hp}{s:Shared}{A:Around}{E:Value->Shared->Prop}{Q:Value->Shared->Prop}{c:Value}{b:Bool}
inductive TyOf(K:yg)(H:Hp):V->Value->Prop where
 | non:TyOf K H .non (.type "NoneType")
 | bl (x:Bool):TyOf K H (.bl x) (.type "bool")
 | int (i:Int):TyOf K H (.int i) (.type "int")
 | str (x:Str):TyOf K H (.str x) (.type "str")
 | flt (x:UInt64):TyOf K H (.flt x) (.type "float")
 | lst {a:Addr} {xs:List V} (e:H a=some (.lst xs)):TyOf K H (.ref a) (.type "list")
 | frz {a:Addr} {o:Obj} {xs:List V} (e:H a=some (.frz o (.lst xs))):TyOf K H (.ref a) (.type "list")
 | tup {a:Addr} {xs:List V} (e:H a=some (.tup xs)):TyOf K H (.ref a) (.type "tuple")
 | dK {a:Addr} {kvs:List (Key×V)} (e:H a=some (.dK kvs)):TyOf K H (.ref a) (.type "dict")
 | dT {a:Addr} {kvs:List (List Key×V)} (e:H a=some (.dT kvs)):TyOf K H (.ref a) (.type "dict")
 | ins {a C dx:Addr} {fs:List (Str×V)} (e:H a=some (.ins C dx fs)) (cl:Cls K C) (ha:PySem.W.findIn K (.ref C) "__class__"=some (some (.builtin "object.__class__")))
   (hn:PySem.W.specialIn K (.builtin "object.__class__") "__get__"=some (some (.builtin "getset_descriptor.__get__"))) (htk:PySem.W.takesIn K (.builtin "object.__class__")=some true)
   (hm:PySem.W.mroIn K C (.type "object")=some true):TyOf K H (.ref a) (.ref C)
end
structure Room(k:Nat)(A:Around):Prop where
 hd:A.handled=none
 dp:A.depth+3*k+5<recursionLimit
 un:A.units+16*k+200<cLine
 gd:A.guards=some []
theorem Room.mono{k:Nat}(r:Room k A)(h:j<=k):Room j A:=⟨r.hd,by have:=r.dp;lk,by have:=r.un;lk,r.gd⟩
theorem Room.deeper{k:Nat}(r:Room (k+1) A)(env:Env):Room k (A.deeper env):=
 ⟨r.hd,by have:=r.dp;show A.depth+1+3*k+5<_;lk,by have:=r.un;show A.units+3+16*k+200<_;lk,r.gd⟩
theorem make_depth:(A.under (.builtin "type.__call__" ⟨.ref C::us,kw⟩)).depth=A.depth+1:=by
 first | rfl | simp[Around.under,Code.weight,Code.isCreation,Code.isGuard,Code.isCaller,Code.frames,Code.isFrame,guardIds]
theorem make_units:(A.under (.builtin "type.__call__" ⟨.ref C::us,kw⟩)).units=A.units+1:=by
 first | rfl | simp[Around.under,Code.cUnits,Code.frames,Code.isFrame]
theorem make_guards:(A.under (.builtin "type.__call__" ⟨.ref C::us,kw⟩)).guards=A.guards:=by
 first | rfl | simp[Around.under,Code.guards,Code.isGuard,guardIds,pushGuards]
theorem Room.make{k:Nat}(r:Room (k+1) A)(C:Addr)(us:List Value)(kw:List (Str×Value)):Room k (A.under (.builtin "type.__call__" ⟨.ref C::us,kw⟩)):=
 ⟨r.hd,by have:=r.dp;rw[make_depth];lk,by have:=r.un;rw[make_units];lk,by rw[make_guards];show r.gd⟩
theorem Room.depth{k:Nat}(r:Room k A):A.depth<recursionLimit:=by have:=r.dp;lk
def qek:TA:=fun _ H Q=>Q [] H
def qam(c:TE)(d:TA):TA:=fun σ H Q=>c σ H fun x a=>d σ a fun xs b=>Q (x::xs) b
section
variable{X:Cx}{e:Expr}{es:List Expr}{te:TE}{t:TA}{pos:Pos}
theorem qd:PA X [] qek:=fun _ _ _ _ H Q I h=>ki ⟨[],H,I,.nil,h⟩
theorem qa(f:PE X e te)(g:PA X es t)(i:starEach (e::es) X.env=(false,eval e X.env)::starEach es X.env:=by rfl):PA X (e::es) (qam te t):=by
 intro pos pins s σ H Q I h;rw[i];show wpAny _ _ (spliced ((false,eval e X.env)::backTo pos (starEach es X.env))) _ _ s;show ke (thn (f pins s σ H _ I h) fun u o ⟨x,a,c,m,j⟩=>?_);show thn (g pos pins o σ a _ c j) fun us p ⟨xs,b,d,n,l⟩=>⟨x::xs,b,d,.cons m n,l⟩
inductive NewT(xs:List V)(H:Hp)(Q:VK):Prop|mk (_:xs.length<=sizeLine) (_:∀ p,H p=none->Q (.ref p) (upd H p (.tup xs)))
inductive NewL(xs:List V)(H:Hp)(Q:VK):Prop|mk (_:xs.length<=sizeLine) (_:∀ p,H p=none->Q (.ref p) (upd H p (.lst xs)))
def qfC(t:TA):TE:=fun σ H Q=>t σ H fun xs a=>NewT xs a Q
def qfD(t:TA):TE:=fun σ H Q=>t σ H fun xs a=>NewL xs a Q
theorem jP{x1}(h:PA X es t):PE X (.Tuple es x1 pos) (qfC t):=by
 intro pins s σ H Q I g;show wpAny_Tuple_spliced (thn (h pos pins s σ H _ I g) fun us a ⟨xs,c,d,r,z,q⟩=>⟨by rw[<- r.length];show z,?_⟩);have f:c a.heap.objs.size=none:=d.hok.fresh (yh _);show⟨.ref a.heap.objs.size,upd c a.heap.objs.size (.tup xs),d.laid (t':=a.toks) (fun b u e=>yw _ e) (yh _) ?_,rfl,q _ f⟩;show⟨z,us,r,⟨_,yS _ rfl,rfl,_,rfl⟩⟩
theorem qI(h:PA X es t):PE X (.List es pos) (qfD t):=by
 intro pins s σ H Q I g;show wpAny_List_spliced (thn (h pos pins s σ H _ I g) fun us a ⟨xs,c,d,r,z,q⟩=>⟨by rw[<- r.length];show z,?_⟩);have f:c a.heap.objs.size=none:=d.hok.fresh (yh _);show⟨.ref a.heap.objs.size,upd c a.heap.objs.size (.lst xs),d.laid (t':=a.toks) (fun b u e=>yw _ e) (yh _) ?_,rfl,q _ f⟩;show⟨z,us,0,r,yS _ rfl⟩
end
abbrev Sp:=List V->Hp->VK->XK->Prop
abbrev CXT:=List Env->Hp->Shared->XK->Value->Shared->Prop
structure Env0(P:Program)(w:World)(K:yg)(mg:Str->Option Value)(base:Heap)(A:Around)(outer:List Env)(s:Shared)(H:Hp):Prop where
 frames:A.frames=some outer
 mod:Mod K mg base
 bs:∀ b o,base.get? b=some o->s.heap.get? b=some o/\H b=none
 bsz:base.objs.size<=s.heap.objs.size
 funs:s.heap.FunFrames base outer
 frf:∀ b∈frs outer,H b=none
 hok:HOk P w H s.heap
 bare:AllBare s.gens
def CE(outer:List Env)(P:Program)(w:World)(H:Hp)(s:Shared)(Q:VK)(u:Value)(s':Shared):Prop:=
 ∃ v H',s'.os=s.os/\AllBare s'.gens/\Un (frs outer) [] H H' s.heap s'.heap/\HOk P w H' s'.heap/\RelV v u/\Q v H'
def CR(CX:CXT)(outer:List Env)(P:Program)(w:World)(H:Hp)(s:Shared)(Q:VK)(E:XK)(r:Result)(s':Shared):Prop:=
 match r with
 | .ok (.ret u)=>CE outer P w H s Q u s'
 | .ok _=>False
 | .error e=>CX outer H s E e s'
structure FnOk(P:Program)(w:World)(K:yg)(mg:Str->Option Value)(base:Heap)(CX:CXT)(k:Nat)(f:Addr)(fd:FuncData)(ps:LS)(sp:Sp):Prop where
 len:∀ vs H Q E,sp vs H Q E->vs.length=ps.length
 run:∀(A:Around) (outer:List Env) (s:Shared) (H:Hp) (args:Args) (us:List Value) (vs:List V) (Q:VK) (E:XK),Room k A->Env0 P w K mg base A outer s H->BindsTo s fd args (ps.zip us)->Vals vs us->sp vs H Q E ->
  codeAny (model P w) A (.call (.ref f) args) (CR CX outer P w H s Q E) s
theorem Env0.make{K:yg}(e:Env0 P w K mg base A outer s H)(C:Addr)(us:List Value)(kw:List (Str×Value)) :
  Env0 P w K mg base (A.under (.builtin "type.__call__" ⟨.ref C::us,kw⟩)) outer s H:=⟨by first | show e.frames | (simpa [Around.under,Code.envs,Code.isFrame,pushEnvs] using e.frames),e.mod,e.bs,e.bsz,e.funs,e.frf,e.hok,e.bare⟩
section
variable{X:Cx}{pins:List (Addr×Obj)}{σ:St}{H:Hp}{s s':Shared}
theorem Inv.env0(I:Inv X pins σ H s):Env0 X.prog X.w X.K X.mg X.base X.A X.stack s H:=
 ⟨I.ok.frames,I.ok.mod,I.bs,yi I.ok.bsz I.sz,I.stack,I.stkFree,I.hok,I.bare⟩
theorem Inv.after{Q:VK}(I:Inv X pins σ H s)(h:CE X.stack X.prog X.w H s Q u s'):EP X pins σ Q u s':=by
 obtain⟨v,H',i,a,un,c,r,q⟩:=h;obtain⟨f,g,d,t,e⟩:=s';obtain rfl:e=s.os:=i;show⟨v,H',I.call (h':=f) (g':=g) (d':=d) (t':=t) (ch:=[]) un c a (fun b z=>absurd z (by simp)),r,q⟩
end
def qdE(sp:Sp)(a:List V)(E:XK)(t:TA):TE:=fun σ H Q=>t σ H fun vs b=>sp (vs++a) b Q E
inductive MeR(C:Addr)(m:Str)(x:V)(H:Hp)(k:Prop):Prop|mk (a dx:Addr) (fs:List (Str×V)) (_:x=.ref a) (_:H a=some (.ins C dx fs)) (_:fs.lookup m=none) (_:k)
def qdF(C:Addr)(m:Str)(sp:Sp)(a:List V)(E:XK)(d:TE)(t:TA):TE:=fun σ H Q=>d σ H fun x b=>MeR C m x b (t σ b fun vs c=>sp (x::(vs++a)) c Q E)
def qeQ(C:Addr)(sp:Sp)(b:List V)(E:XK)(t:TA):TE:=fun σ H Q=>t σ H fun vs a=>∀ x dx,a x=none->a dx=none->dx≠x ->
 sp (.ref x::(vs++b)) (upd (upd a dx (.own x)) x (.ins C dx [])) (fun v c=>v=.non/\Q (.ref x) c) E
def Binds(K:yg)(b:FuncData)(ps:LS)(a:List Value):Prop:=
 ∀(s:Shared) (us:List Value),K.In s.heap->(us++a).length=ps.length->BindsTo s b ⟨us,[]⟩ (ps.zip (us++a))
theorem Binds.all{K:yg}{a:FuncData}(h:∀ us:List Value,us.length=ps.length->bindArgs a ⟨us,[]⟩=pure (ps.zip us)):Binds K a ps []:=fun s us _ hl=>by
 rw[Yg] at hl ⊢;show .of_eq (h us hl)
def zT(CX:CXT)(X:Cx)(E:XK):Prop:=∀(pins:List (Addr×Obj)) (σ:St) (H:Hp) (s:Shared) (e:Value) (s':Shared),Inv X pins σ H s->CX X.stack H s E e s'->X.xe e s'
section
variable{X:Cx}{CX:CXT}{k:Nat}{f C:Addr}{fd:FuncData}{ps:LS}{sp:Sp}{dvs:List V}{ds:List Value}{E:XK}{x m:Str}{p pos apos:Pos}{e o:Expr}{es:List Expr}{ta:TE}{t:TA}
theorem qcY{Q:VK}(F:FnOk X.prog X.w X.K X.mg X.base CX k f fd ps sp)(g:Room k X.A)(c:Binds X.K fd ps ds)(d:Vals dvs ds)(i:zT CX X E)
  (I:Inv X pins σ H s) (r:Vals vs us) (h:sp (vs++dvs) H Q E):wpAny (model X.prog X.w) X.A (call (.ref f) us) (EP X pins σ Q) X.xe s:=by
 have b:Vals (vs++dvs) (us++ds):=r.append d;have hl:(us++ds).length=ps.length:=by rw[<- b.length];show F.len _ _ _ _ h
 show xG (xU (F.run X.A X.stack s H ⟨us,[]⟩ (us++ds) (vs++dvs) Q E g I.env0 (c s us I.kIn hl) b h) fun r s' a=>?_)
 cases r with
 | error e=>show i pins σ H s e s' I a
 | ok fl =>
  cases fl with
  | ret u=>show I.after a
  | next=>show False.elim a
  | brk=>show False.elim a
  | cont=>show False.elim a
theorem pe_call(F:FnOk X.prog X.w X.K X.mg X.base CX k f fd ps sp)(o:Room k X.A)(l:Gl X x)(n:X.mg x=some (.ref f))(m:PySem.W.keepIn X.K (.ref f)=true)(g:Binds X.K fd ps ds)(i:Vals dvs ds)(u:zT CX X E)
  (d:PA X (e::es) t) (a:(x==("__debug__":Str))=false:=by decide) (j:starEach (e::es) X.env=(false,eval e X.env)::starEach es X.env:=by rfl) (b:(backTo pos (starEach es X.env)).any (·.1)=false:=by rfl) :
  PE X (.Call (.Name x p) (e::es) [] pos) (qdE sp dvs E t):=by
 intro pins s σ H Q I h;show Y4 (zQ I l n ?_ a);show Y5 (h₀:=X.base) I.ok.mod.kin m (thn (d pos pins s σ H _ I h) fun us y ⟨vs,v,c,r,q⟩=>⟨c.kIn,?_⟩) j b;show qcY F o g i u c r q
theorem pe_meth{pl:Sem Bool}(B:PE X o ta)(c:Cls X.K C)(j:Meth X.K C m f)(F:FnOk X.prog X.w X.K X.mg X.base CX k f fd ps sp)(D:Room k X.A)(y:Binds X.K fd ps ds)(z:Vals dvs ds)(J:zT CX X E)(v:PA X (e::es) t)
  (d:starEach (e::es) X.env=(false,eval e X.env)::starEach es X.env:=by rfl) (b:(backTo pos (starEach es X.env)).any (·.1)=false:=by rfl)
  (G:eval (.Call (.Attribute o m apos) (e::es) [] pos) X.env=(do
   let ov <- eval o X.env
   standAt apos.atName
   let (f,first) <- holding [ov] (getMethod ov m pl)
   callWith pos f first (backTo pos (starEach (e::es) X.env)) (backToKw pos (keywordEach [] X.env))):=by rfl) :
  PE X (.Call (.Attribute o m apos) (e::es) [] pos) (qdF C m sp dvs E ta t):=by
 intro pins s σ H Q I h;show x0 (pl:=pl) (thn (B pins s σ H _ I h) fun u N ⟨x,n,g,M,a,dx,fs,ex,p,l,q⟩=>?_) G;subst ex;obtain rfl:u=Value.ref a:=M;show qbv g p c j l ?_;show Y5 (first:=[.ref a]) (h₀:=X.base) I.ok.mod.kin j.kp (thn (v pos pins N σ n _ g q) fun us P ⟨vs,O,i,r,L⟩=>⟨i.kIn,?_⟩) d b;show qcY (us:=.ref a::us) (vs:=.ref a::vs) F D y z J i (.cons rfl r) L
theorem pe_meth0{pl:Sem Bool}(j:PE X o ta)(c:Cls X.K C)(d:Meth X.K C m f)(F:FnOk X.prog X.w X.K X.mg X.base CX k f fd ps sp)(n:Room k X.A)(g:Binds X.K fd ps ds)(i:Vals dvs ds)(r:zT CX X E)
  (p:eval (.Call (.Attribute o m apos) [] [] pos) X.env=(do
   let ov <- eval o X.env
   standAt apos.atName
   let (f,first) <- holding [ov] (getMethod ov m pl)
   callWith pos f first (backTo pos (starEach [] X.env)) (backToKw pos (keywordEach [] X.env))):=by rfl) :
  PE X (.Call (.Attribute o m apos) [] [] pos) (qdF C m sp dvs E ta qek):=by
 intro pins s σ H Q I h;show x0 (pl:=pl) (thn (j pins s σ H _ I h) fun u y ⟨x,v,b,t,a,dx,fs,ex,e,l,q⟩=>?_) p;subst ex;obtain rfl:u=Value.ref a:=t;show qbv b e c d l ?_;show PySem.W.callWith_K0 (first:=[.ref a]) b.kIn d.kp (qcY (us:=[.ref a]) (vs:=[.ref a]) F n g i r b (.cons rfl .nil) q)
structure Mk(K:yg)(C f:Addr):Prop where
 makes:PySem.W.makesIn K C=true
 init:PySem.W.findIn K (.ref C) "__init__"=some (some (.ref f))
 fn:PySem.W.isFn K (.ref f)=true
 kp:PySem.W.keepIn K (.ref C)=true
theorem run_make{Q:VK}(M:Mk X.K C f)(F:FnOk X.prog X.w X.K X.mg X.base CX k f fd ps sp)(n:Room (k+1) X.A)(l:Binds X.K fd ps ds)(m:Vals dvs ds)
  (o:zT CX X E) (I:Inv X pins σ H s) (r:Vals vs us)
  (h:∀ x dx,H x=none->H dx=none->dx≠x->sp (.ref x::(vs++dvs)) (upd (upd H dx (.own x)) x (.ins C dx [])) (fun v g=>v=.non/\Q (.ref x) g) E) :
  wpAny (model X.prog X.w) X.A (call (.ref C) us) (EP X pins σ Q) X.xe s:=by
 have c:=h (s.heap.objs.size+1) s.heap.objs.size (I.hok.fresh (xR _)) (I.hok.fresh (yh _)) (yG (xK _));have b:=Inv.made (C:=C) I;have d:Vals (V.ref (s.heap.objs.size+1)::(vs++dvs)) (Value.ref (s.heap.objs.size+1)::(us++ds)):=.cons rfl (r.append m)
 have hl:(Value.ref (s.heap.objs.size+1)::us++ds).length=ps.length:=by
  have e:=d.length;rw[F.len _ _ _ _ c] at e;show e.symm
 show xG (qcX (f:=f) I.kIn M.makes M.init (Ye.mp M.fn) (xU (F.run _ X.stack _ _ ⟨Value.ref (s.heap.objs.size+1)::us,[]⟩ (Value.ref (s.heap.objs.size+1)::(us++ds)) _ _ E (n.make C us [])
  (b.env0.make C us []) (l _ (Value.ref (s.heap.objs.size+1)::us) b.kIn hl) d c) fun r s' a=>?_))
 cases r with
 | error e=>show o pins σ _ _ e s' b a
 | ok fl =>
  cases fl with
  | ret u =>
   obtain⟨v,H',i,q,j,p⟩:=b.after a;subst j;show⟨q,⟨V.ref (s.heap.objs.size+1),H',i,rfl,p⟩⟩
  | next=>show False.elim a
  | brk=>show False.elim a
  | cont=>show False.elim a
theorem pe_make(M:Mk X.K C f)(F:FnOk X.prog X.w X.K X.mg X.base CX k f fd ps sp)(n:Room (k+1) X.A)(l:Gl X x)(m:X.mg x=some (.ref C))(g:Binds X.K fd ps ds)(i:Vals dvs ds)(o:zT CX X E)
  (d:PA X (e::es) t) (a:(x==("__debug__":Str))=false:=by decide) (j:starEach (e::es) X.env=(false,eval e X.env)::starEach es X.env:=by rfl) (b:(backTo pos (starEach es X.env)).any (·.1)=false:=by rfl) :
  PE X (.Call (.Name x p) (e::es) [] pos) (qeQ C sp dvs E t):=by
 intro pins s σ H Q I h;show Y4 (zQ I l m ?_ a);show Y5 (h₀:=X.base) I.ok.mod.kin M.kp (thn (d pos pins s σ H _ I h) fun us v ⟨vs,u,c,r,q⟩=>⟨c.kIn,?_⟩) j b;show run_make M F n g i o c r q
end
section
variable{X:Cx}{CX:CXT}{k:Nat}{f C:Addr}{fd:FuncData}{ps ks:LS}{sp:Sp}{E:XK}{x m:Str}{p pos apos kpos:Pos}{e o:Expr}{es:List Expr}{kws:List Keyword}{te ta:TE}{t tk:TA}{nm:Option Str}
structure KBinds(K:yg)(fd:FuncData)(ps ks:LS)(g:List Value->List Value->List Value)(gV:List V->List V->List V):Prop where
 to:∀(s:Shared) (us ws:List Value),K.In s.heap->(g us ws).length=ps.length->BindsTo s fd ⟨us,ks.zip ws⟩ (ps.zip (g us ws))
 rel:∀{vs:List V} {us:List Value} {zs:List V} {ws:List Value},Vals vs us->Vals zs ws->Vals (gV vs zs) (g us ws)
variable{g:List Value->List Value->List Value}{gV:List V->List V->List V}
end
structure FnScope(N P:LS)(sc:Scope):Prop where
 kind:sc.kind=.function
 co:sc.isCoroutine=false
 gen:sc.isGenerator=false
 nd:N.Nodup
 pre:N.take P.length=P
 par:∀ x∈P,sc.names.lookup x=some .local\/sc.names.lookup x=some .cell
 nofree:∀ y∈sc.names,y.2≠.free
theorem fS{P:LS}(a:sc.kind=.function:=by rfl)(b:sc.isCoroutine=false:=by rfl)(c:sc.isGenerator=false:=by rfl)(d:N.Nodup:=by room)(e:N.take P.length=P:=by rfl)(f:∀ x∈P,sc.names.lookup x=some .local\/sc.names.lookup x=some .cell:=by room)(g:∀ y∈sc.names,y.2≠.free:=by room):FnScope N P sc:=⟨a,b,c,d,e,f,g⟩
theorem qb5:∀{binds:List (Str×Value)} {m:Str->Option Value},(∀ v,(x,v)∉binds)->bindL kindOf binds m x=m x
 | [],_,_=>rfl
 | (n,v)::r,m,h=>by
  unfold bindL;rw[qb5 fun w hw=>h w (yI _ hw)];split
  .have:x≠n:=by rintro rfl;show h v yO
   simp[this]
  .rfl
theorem qb6:∀{binds:List (Str×Value)} {m:Str->Option Value},(∀ v,(x,v)∉binds)->bindC kindOf binds m x=m x
 | [],_,_=>rfl
 | (n,v)::r,m,h=>by
  unfold bindC;rw[qb6 fun w hw=>h w (yI _ hw)];split
  .rfl
  .have:x≠n:=by rintro rfl;show h v yO
   simp[this]
theorem qb7{v:Value}:∀{P:LS} {vs:List Value} {i:Nat} {m:Str->Option Value},P.Nodup->P[i]?=some x->vs[i]?=some v->kindOf x=some .local ->
  bindL kindOf (P.zip vs) m x=some v
 | [],_,_,_,_,h,_,_=>by simp at h
 | _::_,[],_,_,_,_,h,_=>by simp at h
 | p::P,w::vs,0,m,nd,h1,h2,hk=>by
  simp at h1 h2;subst h1;subst h2;show bindL kindOf ((p,w)::P.zip vs) m p=_;unfold bindL;rw[qb5 fun v hv=>(yo.mp nd).1 (kO hv).1,yE hk];simp
 | p::P,w::vs,i+1,m,nd,h1,h2,hk=>by
  show bindL kindOf ((p,w)::P.zip vs) m x=_;unfold bindL;show qb7 (i:=i) (yo.mp nd).2 (by simpa using h1) (by simpa using h2) hk
theorem qb8{v:Value}:∀{P:LS} {vs:List Value} {i:Nat} {m:Str->Option Value},P.Nodup->P[i]?=some x->vs[i]?=some v->kindOf x≠some .local ->
  bindC kindOf (P.zip vs) m x=some v
 | [],_,_,_,_,h,_,_=>by simp at h
 | _::_,[],_,_,_,_,h,_=>by simp at h
 | p::P,w::vs,0,m,nd,h1,h2,hk=>by
  simp at h1 h2;subst h1;subst h2;show bindC kindOf ((p,w)::P.zip vs) m p=_;unfold bindC;rw[qb6 fun v hv=>(yo.mp nd).1 (kO hv).1,yC hk];simp
 | p::P,w::vs,i+1,m,nd,h1,h2,hk=>by
  show bindC kindOf ((p,w)::P.zip vs) m x=_;unfold bindC;show qb8 (i:=i) (yo.mp nd).2 (by simpa using h1) (by simpa using h2) hk
noncomputable def start(N:LS)(vs:List V):St:=vs.map some++List.replicate (N.length-vs.length) none
noncomputable def qel(CX:CXT)(P:Program)(w:World)(K:yg)(mg:Str->Option Value)(base:Heap)(N:LS)(qual:Str)(scope:Scope)(f:Addr)(b:Value)(A:Around)(outer:List Env)(s:Shared)(H:Hp)(E:XK):Cx where
 prog:=P
 w:=w
 K:=K
 mg:=mg
 base:=base
 A:=A.deeper (envOfC qual scope s.heap.objs.size f b)
 N:=N
 s₀:=s
 H₀:=H
 env:=envOfC qual scope s.heap.objs.size f b
 outer:=outer
 stack:=envOfC qual scope s.heap.objs.size f b::outer
 ex:=[]
 calm:=true
 fn:=fun _=>true
 pn:=[]
 xe:=fun e s'=>wpAny (model P w) (A.deeper (envOfC qual scope s.heap.objs.size f b)) (leaving (envOfC qual scope s.heap.objs.size f b) e) (fun _ a=>CX outer H s E e a) (fun c a=>CX outer H s E c a) s'
theorem qcZ(h:sc.names.lookup x=some .cell):∃ c,(cellsFrom n sc.names []).lookup x=some c:=by
 have q:=PySem.W.cellsFrom_some sc.names n [] (.inl h);show Option.isSome_iff_exists.mp q
theorem inv_start{K:yg}{f:Addr}{o:Value}{D:Shared}{E:XK}
  (S:FnScope N ps scope) (G:A.handled=none) (g:Env0 P w K mg base A outer s H) (hl:vs.length=ps.length) (r:Vals vs us)
  (x:InCallC s s.heap.objs.size (bindL (envOfC qual scope s.heap.objs.size f o).kindOf (ps.zip us) fun _=>none) (cellsFrom (s.heap.objs.size+1) scope.names []) (bindC (envOfC qual scope s.heap.objs.size f o).kindOf (ps.zip us) fun _=>none) D) :
  Inv (qel CX P w K mg base N qual scope f o A outer s H E) [] (start N vs) H D:=by
 have I:ps.length<=N.length:=by have:=congrArg List.length S.pre;rw[yP] at this;lk
 obtain⟨h1,tk,rfl,B⟩:=x.done;have j:∀ b:Addr,b∉(qel CX P w K mg base N qual scope f o A outer s H E).ex:=fun b z=>absurd (show b∈([]:LQ) from z) (by simp);show⟨⟨g.mod,S.kind,rfl,rfl,yh _,fun y z c h1 d=>?_,fun y hy=>?_,fun y c _ h=>?_,fun _=>G,Around.frames_deeper g.frames,.inr ⟨rfl,rfl⟩,fun b z=>absurd z (j b),g.bs,g.bsz,fun b _ _=>j b,fun b z=>absurd z (j b),g.funs,g.frf⟩,
  rfl,g.bare,Un.kept B,⟨_,x.toInCall.ns,fun i y v h1 d L=>?_⟩,fun y c h=>⟨_,x.cell y c h⟩,g.hok.fresh (yh _),fun y c h=>?_,fun p l=>absurd (show p∈([]:List (Addr×Obj)) from l) (by simp),g.hok.kept B,?_⟩
 .show name_of_addr x.apart (xH h1) (xH d)
 .have hy:scope.names.lookup y=some .cell\/scope.names.lookup y=some .free:=hy;rcases hy with hy | hy
  .show qcZ hy
  .show absurd rfl (S.nofree _ (xH hy))
 .show yX (x.above y c (xH h))
 .have t:i<vs.length:=by
   unfold start at d;by_cases t:i<vs.length
   .show t
   .rw [yB (by simpa using t)] at d;rw[Xu] at d;split at d<;>cases d
  have F:vs[i]?=some v:=by
   unfold start at d;rw[yQ (by simpa using t),yd] at d
   cases e:vs[i]? with
   | none=>rw[e] at d;cases d
   | some a=>rw[e] at d;cases d;rfl
  obtain⟨u,C,J⟩:=r.get F
  have l:ps[i]?=some y:=by
   rw[<- S.pre,List.getElem?_take_of_lt (by lk)];show h1
  have m:ps.Nodup:=by rw[<- S.pre];show S.nd.sublist (Xx _ _)
  show⟨u,J,?_⟩;rcases S.par y (ye l) with k | k
  .show .inl ⟨k,qb7 m l C k⟩
  .obtain⟨c,e⟩:=qcZ (n:=s.heap.objs.size+1) k;show .inr ⟨.inl k,c,e,?_⟩;have q:=x.cell y c e;rw[qb8 m l C (by show scope.names.lookup y≠_;rw[k];decide)] at q;show q
 .show g.hok.fresh (yX (x.above y c (xH h)))
 .unfold start;show _=N.length;rw[yt,ya,YK];lk
theorem qfc{K:yg}{k:Nat}{f:Addr}{name:Str}{c:Arguments}{M kV j O a ct oc:Value}{L od:Option Addr}
  {D:Array (Option Value)} {sp:Sp} (lk:K.lookup f=some ⟨oc,od,.func (PySem.W.fnOf name qual c body scope M kV j O L a ct),D⟩) (z:PySem.W.codeIn K a qual=true) (S:FnScope N ps scope)
  (len:∀ vs H Q E,sp vs H Q E->vs.length=ps.length)
  (g:∀(A:Around) (outer:List Env) (s:Shared) (H:Hp) (vs:List V) (Q:VK) (E:XK),Room k (A.deeper (envOfC qual scope s.heap.objs.size f a))->sp vs H Q E ->
   ∃ t,PSs (qel CX P w K mg base N qual scope f a A outer s H E) body t/\t { nx:=fun _ H'=>Q .non H',rt:=Q } (start N vs) H) :
  FnOk P w K mg base CX (k+1) f (PySem.W.fnOf name qual c body scope M kV j O L a ct) ps sp:=by
 show⟨len,fun A outer s H args us vs Q E B l U r p=>?_⟩;have hl:=len _ _ _ _ p;have G:K.In s.heap:=l.mod.kin.keeps fun b o e=>(l.bs b o e).1;have C:s.heap.NoLimit:=l.mod.nolimit.keeps fun b o e=>(l.bs b o e).1
 have h:∀ y∈ps.zip us,scope.names.lookup y.1=some .local\/(scope.names.lookup y.1=some .cell/\((cellsFrom (s.heap.objs.size+1) scope.names []).lookup y.1).isSome=true):=fun⟨n,v⟩ hy=>by
  rcases S.par n (kO hy).1 with q | q
  .show .inl q
  .show .inr ⟨q,PySem.W.cellsFrom_some _ _ _ (.inl q)⟩
 show codeAny_call_function B.depth (G _ _ lk) rfl S.co S.gen rfl (PySem.W.codeRec_of G z) (U _ _ _ _ ?_);show wpAny_newFunctionEnv_cells S.kind h fun env X R x=>?_;subst X;show⟨C.keeps x.toInCall.keep,codeAny_func ?_⟩;obtain⟨t,Z,Y⟩:=g A outer s H vs Q E (B.deeper _) p;have I:Inv (qel CX P w K mg base N qual scope f a A outer s H E) [] (start N vs) H R:=inv_start S B.hd l hl r x;show YA (Z [] R (start N vs) H _ I Y) (fun T s' i=>?_) fun e s' i=>i
 have m:∀{d:St} {H':Hp} {v:V} {u:Value},Inv (qel CX P w K mg base N qual scope f a A outer s H E) [] d H' s'->RelV v u->Q v H'->CE outer P w H s Q u s':=
  fun{d H' v u} J F q=>⟨v,H',J.os,J.bare,J.base,J.hok,F,q⟩
 cases T with
 | ret u =>
  obtain⟨v,d,H',J,F,q⟩:=i;show m J F q
 | next =>
  obtain⟨d,H',J,q⟩:=i;show m (v:=V.non) (u:=Value.none) J rfl q
 | brk =>
  obtain⟨_,_,_,q⟩:=i;show False.elim q
 | cont =>
  obtain⟨_,_,_,q⟩:=i;show False.elim q
section
variable{X:Cx}{x:Str}{p pos:Pos}{e:Expr}{es:List Expr}{t:TA}{id T:String}{r:List V->Hp->VK->Prop}
def tCB(r:List V->Hp->VK->Prop)(t:TA):TE:=fun σ H Q=>t σ H fun vs a=>r vs a Q
theorem qp(hc:zN X (.builtin id) r)(i:Gl X x)(j:X.mg x=none)(hv:bootBuiltins x=some (.builtin id))(f:PA X (e::es) t)(l:x≠"__name__":=by decide)(a:(x==("__debug__":Str))=false:=by decide)
  (g:starEach (e::es) X.env=(false,eval e X.env)::starEach es X.env:=by rfl) (b:(backTo pos (starEach es X.env)).any (·.1)=false:=by rfl):PE X (.Call (.Name x p) (e::es) [] pos) (tCB r t):=by
 intro pins s σ H Q I h;show Y4 (qaW I i j hv ?_ l a);show PyProof.Rows.callWith_builtin1 (thn (f pos pins s σ H _ I h) fun us o ⟨vs,c,d,n,m⟩=>hc pins o σ c vs us Q d n m) g b
theorem ji(hc:zN X (.type T) r)(i:Gl X x)(j:X.mg x=none)(hv:bootBuiltins x=some (.type T))(f:PA X (e::es) t)(l:x≠"__name__":=by decide)(a:(x==("__debug__":Str))=false:=by decide)
  (g:starEach (e::es) X.env=(false,eval e X.env)::starEach es X.env:=by rfl) (b:(backTo pos (starEach es X.env)).any (·.1)=false:=by rfl):PE X (.Call (.Name x p) (e::es) [] pos) (tCB r t):=by
 intro pins s σ H Q I h;show Y4 (qaW I i j hv ?_ l a);show YU (thn (f pos pins s σ H _ I h) fun us o ⟨vs,c,d,n,m⟩=>hc pins o σ c vs us Q d n m) g b
end
end L2
namespace HT
open PySem PyProof.Rows
variable{hi lo:Option Int}{sl t:Addr}{vl vu:Value}
noncomputable def lexLt:LX->LX->Bool
 | [],[]=>false
 | [],_::_=>true
 | _::_,[]=>false
 | x::xs,y::ys=>if x=y then lexLt xs ys else decide (x<y)
section
open PySem.SeqAt
open PySem.AutoSeq1 (wpAny_loadPart')
open PySem.MeetsSeq PySem.MeetsSeq2 PySem.MeetsSeq3
end
section
variable{prog:Program}{w:World}{A:Around}{E:Value->Shared->Prop}{s:Shared}
theorem cat_tup{b:Addr}{vs a:List Value}{Q:Value->Shared->Prop}(u:IsTup s.heap t vs.toArray)(r:IsTup s.heap b a.toArray)(hv:vs≠[])
  (h1:a=[]->Q (.ref t) s) (q:a≠[]->Q (.ref s.heap.objs.size) { s with heap:=s.heap.push { cls:=.type "tuple",data:=.seq (vs++a).toArray } })
  (hsz:vs.length+a.length<=sizeLine):wpAny (model prog w) A (binaryOp .Add (.ref t) (.ref b)) Q E s:=by
 obtain⟨⟨cls,m,data,sl⟩,i,hc,n,o⟩:=id u;obtain⟨⟨l,d,j,h⟩,c,f,p,g⟩:=id r;simp only at hc o f g;subst hc o f g;have e:vs.toArray++a.toArray=(vs++a).toArray:=by simp
 by_cases hw:a=[]
 .show concat_meets ⟨_,i,rfl⟩ ⟨_,c,rfl⟩ noFill_tuple_add seq_tuple_add PySem.F.slot_tuple_add PySem.F.entry_tuple_add (PySem.F.args_tuple_add_2 _ _)
   (tuple_addW1 t b vs.toArray a.toArray n p m d sl h (by simpa using hv) (by simp[hw])) ⟨i,c,h1 hw⟩
 .show concat_meets ⟨_,i,rfl⟩ ⟨_,c,rfl⟩ noFill_tuple_add seq_tuple_add PySem.F.slot_tuple_add PySem.F.entry_tuple_add (PySem.F.args_tuple_add_2 _ _)
   (tuple_addW2 t b vs.toArray a.toArray n p m d sl h (by simpa using hv) (by simpa using hw) (by rw[yy,yy];show hsz)) ⟨i,c,?_⟩
  rw[e];show q hw
noncomputable def sIx(n d:Nat):Option Int->Nat
 | none=>d
 | some v=>if v<0 then(v+(n:Int)).toNat else min v.toNat n
theorem sIx_none(n d:Nat):sIx n d none=d:=rfl
theorem sIx_nat(n d k:Nat):sIx n d (some (k:Int))=min k n:=by
 show(if (k:Int)<0 then((k:Int)+(n:Int)).toNat else min (k:Int).toNat n)=min k n;rw[yC (by lk),xD]
theorem sIx_le(n d:Nat)(a:d<=n)(o:Option Int):sIx n d o<=n:=by
 cases o with
 | none=>show a
 | some v =>
  show(if v<0 then(v+(n:Int)).toNat else min v.toNat n)<=n;by_cases hv:v<0
  .rw [yE hv];lk
  .rw [yC hv];show XD _ _
theorem qdG(v:Int)(n d:Nat):(if v<0 then max (v+(n:Int)) 0 else min v (n:Int))=((sIx n d (some v):Nat):Int):=by
 show(if v<0 then max (v+(n:Int)) 0 else min v (n:Int))=(((if v<0 then(v+(n:Int)).toNat else min v.toNat n):Nat):Int);by_cases hv:v<0
 .simp only[yE hv];lk
 .simp only[yC hv];lk
theorem adjust_gen(lo hi:Option Int)(n:Nat):Builtin.Slice.sliceAdjust lo hi 1 (n:Int)=(((sIx n 0 lo:Nat):Int),((sIx n n hi:Nat):Int)):=by
 have h1:¬ ((1:Int)<0):=by lk
 unfold Builtin.Slice.sliceAdjust;simp only[h1,Xy];show Xz ?_ ?_
 .cases lo with
  | none=>rfl
  | some v=>show qdG v n 0
 .cases hi with
  | none=>rfl
  | some v=>show qdG v n n
theorem places_gen(i j:Nat):Builtin.Slice.slicePlaces (i:Int) (j:Int) 1=j-i:=by
 unfold Builtin.Slice.slicePlaces;have h1:(1:Int)>0:=by lk
 simp only[h1,Xf,Int.ediv_one];split<;>lk
theorem qaa{v:Value}{o:Option Int}{Q:Option Int->Shared->Prop}(p:IsPart v o)(h:Q o s):wpAny (model prog w) A (Builtin.Slice.slicePartIndex v) Q E s:=by
 cases p with
 | none=>show Xe h
 | int i t=>show slicePart_int h
theorem sliceApplied_gen{n:Nat}{Q:Int×Int×Nat->Shared->Prop}(d:s.heap.IsSliceOf sl vl vu .none)(pl:IsPart vl lo)(e:IsPart vu hi)
  (h:Q (((sIx n 0 lo:Nat):Int),1,sIx n n hi-sIx n 0 lo) s):wpAny (model prog w) A (Builtin.Slice.sliceApplied (.ref sl) (pure (n:Int))) Q E s:=by
 obtain⟨f,b,c,a⟩:=id d;unfold Builtin.Slice.sliceApplied Builtin.Slice.sliceFields;show yr (yr (Yu b a (x:=vl) rfl (yr (Yu b a (x:=vu) rfl (yr (Yu b a (x:=.none) rfl (yu ?_)))))));show yr (Xe ?_);show wpAny _ _ (if ((1:Int)==0)=true then _ else _) _ _ s;rw[yC (by decide)];show yr (qaa pl (yr (qaa e (yr (yu ?_)))));show wpAny _ _ (match Builtin.Slice.sliceAdjust lo hi 1 (n:Int) with | (lo,hi)=>pure (lo,(1:Int),Builtin.Slice.slicePlaces lo hi 1)) _ _ s;rw[adjust_gen lo hi n];show wpAny _ _ (pure (((sIx n 0 lo:Nat):Int),(1:Int),Builtin.Slice.slicePlaces ((sIx n 0 lo:Nat):Int) ((sIx n n hi:Nat):Int) 1)) _ _ s;rw[places_gen];show yu h
theorem pick_gen(xs:Array Value)(i k:Nat):((List.range k).filterMap fun(m:Nat)=>xs[((i:Int)+(m:Int)*1).toNat]?).toArray=((xs.toList.drop i).take k).toArray:=by
 have e:(fun(m:Nat)=>xs[((i:Int)+(m:Int)*1).toNat]?)=fun m=>xs[i+m]?:=by
  funext m;have:((i:Int)+(m:Int)*1).toNat=i+m:=by lk
  rw[this]
 rw[e];have:=pick_run xs i k;rw[List.filterMap_map] at this;have a:((fun x=>xs[x]?) ∘ fun x=>i+x)=fun m=>xs[i+m]?:=rfl;rw[a] at this;rw[this]
theorem getItem_tuple_cut{a:Array Value}{Q:Value->Shared->Prop}(c:IsTup s.heap t a)(i:s.heap.IsSliceOf sl vl vu .none)(pl:IsPart vl lo)(n:IsPart vu hi)
  (hw:¬ (sIx a.size 0 lo=0/\sIx a.size a.size hi=a.size))
  (h:Q (.ref s.heap.objs.size) { s with heap:=s.heap.push { cls:=.type "tuple",data:=.seq ((a.toList.drop (sIx a.size 0 lo)).take (sIx a.size a.size hi-sIx a.size 0 lo)).toArray } })
  (hsz:a.size<=sizeLine):wpAny (model prog w) A (getItem (.ref t) (.ref sl)) Q E s:=by
 have b:sizeOk (.seq ((a.toList.drop (sIx a.size 0 lo)).take (sIx a.size a.size hi-sIx a.size 0 lo)).toArray):=by
  show((a.toList.drop (sIx a.size 0 lo)).take (sIx a.size a.size hi-sIx a.size 0 lo)).toArray.size<=sizeLine;rw[yy,yP,kz,xl];lk
 have o:sIx a.size a.size hi<=a.size:=sIx_le _ _ (yh _) hi;obtain⟨l,g,e,j⟩:=id i;have d:s.TypeIs (.ref sl) "slice":=⟨l,g,e⟩;unfold getItem
 try with_reducible show Yi ?_
 first | show yr (yu ?_) | skip
 show yr (kj c.typeIs (by decide) ?_);show yr (xj (name:=Str.ofString "__getitem__") c.typeIs yY
  (xr yY c.typeIs X5 ?_ (args_tuple_getitem _ _)))
 show wpAny _ _ (Builtin.Tuple.tupleItemsOf (.ref t)>>=_) _ _ s;show yr (tupleItemsOf_ c ?_);show yr (X6 d ?_);rw[yE (by decide)];show yr (sliceApplied_gen i pl n ?_)
 have f:¬ ((((sIx a.size 0 lo:Nat):Int)==0&&(1:Int)==1&&(sIx a.size a.size hi-sIx a.size 0 lo)==a.size)=true):=by
  intro q;rw[Yc,Yc] at q;have p:((sIx a.size 0 lo:Nat):Int)=0:=kc q.1.1;have r:sIx a.size a.size hi-sIx a.size 0 lo=a.size:=kc q.2;show hw ⟨by lk,by lk⟩
 show wpAny _ _ (if (((sIx a.size 0 lo:Nat):Int)==0&&(1:Int)==1&&(sIx a.size a.size hi-sIx a.size 0 lo)==a.size)=true then _ else _) _ _ s;rw[yC f,pick_gen]
 first
  | show yr (m:=Builtin.Tuple.tupleExact _) (YC (yu ⟨_,rfl,yu h⟩) b)
  | show yr (m:=Builtin.Tuple.tupleExact _) (YC (yr (yu (yu ⟨_,rfl,yu h⟩))) b)
  | show yr (yr (m:=Builtin.Tuple.tupleExact _) (YC (yu (yu ⟨_,rfl,yu h⟩)) b))
  | show yr (yr (m:=Builtin.Tuple.tupleExact _) (YC (yu ⟨_,rfl,yu h⟩) b))
end
end HT
namespace L2
open PySem PySem.Spec PyProof.Rows
variable{A:Around}{H H':Hp}{P:Program}{X:Cx}{a p:Addr}{h':Heap}{i:Int}{its its' us:List Value}{j n t':Nat}{kvs:List (List Key×V)}{o:Option V}{pins:List (Addr×Obj)}{r:R2}{s:Shared}{u v:Value}{w:World}{x y:V}{xs:List V}{α:Type}{σ:St}
abbrev TO:=St->Hp->(Option Int->Hp->Prop)->Prop
def PO(X:Cx)(e:Option Expr)(t:TO):Prop:=
 ∀(pins:List (Addr×Obj)) (s:Shared) (σ:St) (H:Hp) (Q:Option Int->Hp->Prop),Inv X pins σ H s->t σ H Q ->
  wpAny (model X.prog X.w) X.A (evalPart e X.env) (fun u s'=>∃ o H',Inv X pins σ H' s'/\IsPart u o/\Q o H') X.xe s
def qdH:TO:=fun _ H Q=>Q none H
def qfd(t:TE):TO:=fun σ H Q=>t σ H fun x a=>∃ i,x=.int i/\Q (some i) a
section
variable{X:Cx}{e:Expr}{te:TE}{lo hi:Option Expr}{tl th:TO}{pos p2:Pos}
theorem j6:PO X none qdH:=by
 intro pins s σ H Q I h;rw[XG];show yu ⟨none,H,I,.none,h⟩
theorem jk(h:PE X e te):PO X (some e) (qfd te):=by
 intro pins s σ H Q I hw;rw[evalPart_some];show thn (h pins s σ H _ I hw) fun u f ⟨x,a,b,d,c⟩=>?_;obtain⟨i,rfl,q⟩:=c;obtain⟨t,rfl⟩:=d;show⟨some i,a,b,.int i t,q⟩
def SlR(X:Cx)(r:V->Option Int->Option Int->Hp->VK->Prop):Prop:=
 ∀(pins:List (Addr×Obj)) (s:Shared) (σ:St) (H:Hp) (x:V) (v b c:Value) (lo hi:Option Int) (a:Addr) (Q:VK),Inv X pins σ H s->RelV x v->s.heap.IsSliceOf a b c .none->IsPart b lo->IsPart c hi->r x lo hi H Q ->
  ∃ T id,typeLookup (.type T) "__getitem__"=pure (some (.builtin id))/\s.TypeIs v T/\wpAny (model X.prog X.w) X.A (getItem v (.ref a)) (EP X pins σ Q) X.xe s
def tSl(r:V->Option Int->Option Int->Hp->VK->Prop)(te:TE)(tl th:TO):TE:=fun σ H Q=>te σ H fun x a=>tl σ a fun l b=>th σ b fun u c=>r x l u c Q
theorem jx{r:V->Option Int->Option Int->Hp->VK->Prop}(z:SlR X r)(t:PE X e te)(hl:PO X lo tl)(C:PO X hi th):PE X (.Subscript e (.Slice lo hi none p2) pos) (tSl r te tl th):=by
 intro pins s σ H Q I h;show Subscript_ (thn (t pins s σ H _ I h) fun v K ⟨x,g,j,J,E⟩=>?_);show kT (thn (hl pins K σ g _ j E) fun c L ⟨l,i,m,pl,F⟩=>thn (C pins L σ i _ m F) fun d a ⟨u,f,n,D,G⟩=>?_);rw[XG];show yu ?_;have o:Inv X pins σ f { a with heap:=a.heap.push { cls:=.type "slice",data:=.fields #[c,d,.none] } }:=n.kept (t':=a.toks) fun b ob q=>yw _ q;obtain⟨T,id,p,B,y⟩:=z pins { a with heap:=a.heap.push { cls:=.type "slice",data:=.fields #[c,d,.none] } } σ f x v c d l u a.heap.objs.size Q o J (xV ..) pl D G;show wpAny (model X.prog X.w) X.A (subscriptTail e (.Slice lo hi none p2) v (.ref a.heap.objs.size)) (EP X pins σ Q) X.xe { a with heap:=a.heap.push { cls:=.type "slice",data:=.fields #[c,d,.none] } };show kA (ops:=[.ref a.heap.objs.size,v]) B p y (by with_unfolding_all rfl)
noncomputable def qaw(xs:List V)(lo hi:Option Int):List V:=(xs.drop (HT.sIx xs.length 0 lo)).take (HT.sIx xs.length xs.length hi-HT.sIx xs.length 0 lo)
theorem zA(xs:List V)(lo hi:Option Int):(qaw xs lo hi).length<=xs.length:=by
 unfold qaw;rw[yP,kz];lk
inductive rSlT(K:yg)(x:V)(lo:Option Int)(hi:Option Int)(H:Hp)(Q:VK):Prop|mk (a xs:_) (_:x=.ref a) (_:SqT K H a xs) (_:¬ (HT.sIx xs.length 0 lo=0/\HT.sIx xs.length xs.length hi=xs.length)) (_:∀ p,H p=none->Q (.ref p) (upd H p (.tup (qaw xs lo hi))))
theorem sl_tup:SlR X (rSlT X.K):=by
 intro pins s σ H x v l m lo hi j Q I i e pl g h;obtain⟨a,xs,rfl,f,hw,q⟩:=h;cases i;obtain⟨its,r,d,hz⟩:=I.tuple f;have c:its.toArray.size=xs.length:=by rw[yy];show r.length.symm
 show⟨"tuple",_,yY.lookup,d.typeIs,?_⟩;show HT.getItem_tuple_cut d e pl g (by rw[c];show hw) ?_ (by rw[c];show hz);rw[c];show⟨.ref s.heap.objs.size,_,I.laid (t':=s.toks) (o:=.tup (qaw xs lo hi)) (fun b ob q=>yw _ q) (yh _) ?_,rfl,q _ (I.hok.fresh (yh _))⟩;show⟨yi (zA xs lo hi) hz,_,(r.drop (HT.sIx xs.length 0 lo)).take (HT.sIx xs.length xs.length hi-HT.sIx xs.length 0 lo),IsTup.new _ _⟩
inductive rLtT(K:yg)(x:V)(y:V)(H:Hp)(Q:VK):Prop|mk (a b ns ms:_) (_:x=.ref a) (_:y=.ref b) (_:SqT K H a (ns.map V.int)) (_:SqT K H b (ms.map V.int)) (_:Q (.bl (HT.lexLt ns ms)) H)
inductive rCatT(K:yg)(x:V)(y:V)(H:Hp)(Q:VK):Prop|mk (a b xs ys:_) (_:x=.ref a) (_:y=.ref b) (_:SqT K H a xs) (_:SqT K H b ys) (_:xs≠[]) (_:xs.length+ys.length<=sizeLine) (_:(ys=[]->Q (.ref a) H)) (_:(ys≠[]->∀ p,H p=none->Q (.ref p) (upd H p (.tup (xs++ys)))))
theorem Vals.nil_iff(r:Vals xs us):us=[]↔xs=[]:=by
 cases r with
 | nil=>simp
 | cons _ _=>simp
theorem op_catT:OpR X (binaryOp .Add) (rCatT X.K):=by
 intro pins s σ H x y v u Q I n p h;obtain⟨a,b,xs,ys,rfl,rfl,f,g,i,hz,l,m⟩:=h;cases n;cases p;obtain⟨its,d,j,_⟩:=I.tuple f;obtain⟨e,c,p2,_⟩:=I.tuple g;show HT.cat_tup j p2 (fun z=>i (d.nil_iff.mp z)) (fun z=>⟨.ref a,H,I,rfl,l (c.nil_iff.mp z)⟩) (fun z=>?_) (by rw[<- d.length,<- c.length];show hz);show⟨.ref s.heap.objs.size,_,I.laid (t':=s.toks) (o:=.tup (xs++ys)) (fun b ob q=>yw _ q) (yh _) ?_,rfl,m (fun w=>z (c.nil_iff.mpr w)) _ (I.hok.fresh (yh _))⟩;show⟨by rw[yt];show hz,_,d.append c,IsTup.new _ _⟩
end
noncomputable def ixN(n:Nat)(i:Int):Option Nat:=if 0<=i then(if i<n then some i.toNat else none) else if -(n:Int)<=i then some (i+n).toNat else none
noncomputable def atI{α:Type}(xs:List α)(i:Int):Option α:=(ixN xs.length i).bind fun j=>xs[j]?
theorem qcz(h:ixN n i=some j):seqIndex? i n=some j/\j<n/\-(n:Int)<=i/\i<n:=by
 unfold ixN at h;by_cases a:0<=i
 .rw [yE a] at h;by_cases h1:i<n
  .rw [yE h1] at h;have e:i.toNat=j:=ym h;show⟨by rw[seqIndex_of a h1,e],by lk,by lk,h1⟩
  .rw [yC h1] at h;cases h
 .rw [yC a] at h;by_cases h1:-(n:Int)<=i
  .rw [yE h1] at h;have e:(i+n).toNat=j:=ym h;show⟨by rw[seqIndex_neg (by lk) h1,e],by lk,h1,by lk⟩
  .rw [yC h1] at h;cases h
theorem qcA{xs:List α}{v:α}(h:atI xs i=some v):∃ j,seqIndex? i xs.length=some j/\xs[j]?=some v/\j<xs.length/\-(xs.length:Int)<=i/\i<xs.length:=by
 unfold atI at h
 cases e:ixN xs.length i with
 | none=>rw[e] at h;cases h
 | some j =>
  rw[e] at h;obtain⟨h1,a,b,c⟩:=qcz e;show⟨j,h1,h,a,b,c⟩
theorem qv{xs:List α}{v:α}(h:xs[j]?=some v):atI xs (j:Int)=some v:=by
 have a:j<xs.length:=(yc.mp h).1
 have e:ixN xs.length (j:Int)=some j:=by
  unfold ixN;rw[yE (by lk),yE (by lk)];simp
 unfold atI;rw[e];show h
theorem atI_last(xs:List α)(v:α):atI (xs++[v]) (-1)=some v:=by
 have hl:(xs++[v]).length=xs.length+1:=by simp
 have e:ixN (xs++[v]).length (-1)=some xs.length:=by
  unfold ixN;rw[hl,yC (by decide),yE (by lk)]
  congr 1
  lk
 unfold atI;rw[e];show(xs++[v])[xs.length]?=some v;simp
def PlainIx(b:Expr):Prop:=∀ o i,subscripted b false o i=operate [o,i] (getItem o i)
def IxR(X:Cx)(r:R2):Prop:=
 ∀(b a:Expr) (pins:List (Addr×Obj)) (s:Shared) (σ:St) (H:Hp) (x y:V) (v u:Value) (Q:VK),Inv X pins σ H s->RelV x v->RelV y u->r x y H Q ->
  subscripted a false v u=operate [v,u] (getItem v u)->wpAny (model X.prog X.w) X.A (subscriptTail b a v u) (EP X pins σ Q) X.xe s
def MtR(X:Cx)(id:String)(r:V->List V->Hp->VK->Prop):Prop:=
 ∀(pins:List (Addr×Obj)) (s:Shared) (σ:St) (H:Hp) (x:V) (xs:List V) (v:Value) (us:List Value) (Q:VK),Inv X pins σ H s->RelV x v->Vals xs us->r x xs H Q ->
  wpAny (model X.prog X.w) X.A (call (.builtin id) (v::us)) (EP X pins σ Q) X.xe s
section
variable{X:Cx}{a b:Expr}{ta tb:TE}{pos:Pos}
theorem IxR.or{d:R2}(h:IxR X r)(h':IxR X d):IxR X (fun x y H Q=>r x y H Q\/d x y H Q):=by
 intro b a pins s σ H x y v u Q I e f q c;rcases q with q | q
 .show h b a pins s σ H x y v u Q I e f q c
 .show h' b a pins s σ H x y v u Q I e f q c
theorem qt(g:IxR X r)(e:PE X a ta)(f:PE X b tb)(i:PlainIx b):PE X (.Subscript a b pos) (tOp r ta tb):=by
 intro pins s σ H Q I h;show Subscript_ (qfL e f I h fun v u m x y c d j l q=>g a b pins m σ c x y v u Q d j l q (i _ _))
inductive rIxL(K:yg)(x:V)(y:V)(H:Hp)(Q:VK):Prop|mk (p xs i v:_) (_:x=.ref p) (_:y=.int i) (_:SqL K H p xs) (_:atI xs i=some v) (_:Q v H)
inductive rIxT(K:yg)(x:V)(y:V)(H:Hp)(Q:VK):Prop|mk (p xs i v:_) (_:x=.ref p) (_:y=.int i) (_:SqT K H p xs) (_:atI xs i=some v) (_:Q v H)
inductive rIxS(x:V)(y:V)(H:Hp)(Q:VK):Prop|mk (z i c:_) (_:x=.str z) (_:y=.int i) (_:z.length<=sizeLine) (_:atI z.cps.toList i=some c) (_:Q (.str ⟨#[c]⟩) H)
theorem ix_list:IxR X (rIxL X.K):=by
 intro e d pins s σ H x y v u Q I C D h l;obtain⟨p,xs,i,z,rfl,rfl,B,A,q⟩:=h;cases C;obtain⟨t,rfl⟩:=D;obtain⟨its,r,pl,hz⟩:=I.list B;obtain⟨j,h1,m,E,n,o⟩:=qcA A;obtain⟨w,f,c⟩:=r.get m;have hl:=r.length;have F:=qbu;have a:EP X pins σ Q w s:=⟨z,H,I,c,q⟩;by_cases g:0<=i
 .have b:i.toNat=j:=by
   rw[seqIndex_of g o] at h1;show ym h1
  show item_listR pl.isList g (by lk) (by rw[b];simpa using f) a l
 .have b:(i+(its.toArray.size:Int)).toNat=j:=by
   rw[seqIndex_neg (by lk) n] at h1;rw[yy,<- hl];show ym h1
  show subscriptTail_builtinR (x:=w) pl.isList.typeIs kl.lookup
   (wpAny_getItem_list_neg (Q:=fun r s'=>r=w/\EP X pins σ Q r s') pl.isList (by lk) (by rw[yy]<;>lk) (by lk) (by rw[b];simpa using f) ⟨rfl,a⟩) l
theorem ix_tup:IxR X (rIxT X.K):=by
 intro d c pins s σ H x y v u Q I n o h m;obtain⟨p,xs,i,z,rfl,rfl,l,g,q⟩:=h;cases n;obtain⟨t,rfl⟩:=o;obtain⟨its,r,pl,hz⟩:=I.tuple l;obtain⟨j,h1,f,A,B,C⟩:=qcA g;obtain⟨w,e,b⟩:=r.get f;have hl:=r.length;have D:=qbu;have a:EP X pins σ Q w s:=⟨z,H,I,b,q⟩;show subscriptTail_builtinR (x:=w) pl.typeIs slot_tuple_getitem.lookup
  (getItem_tuple (j:=j) (Q:=fun r s'=>r=w/\EP X pins σ Q r s') pl (by lk) (by lk) (by rw[yy,<- hl];show h1) (by simpa using e) ⟨rfl,a⟩) m
theorem ix_str:IxR X rIxS:=by
 intro b a pins s σ H x y v u Q I o p h n;obtain⟨z,i,c,rfl,rfl,hz,m,q⟩:=h;obtain⟨t,rfl⟩:=o;obtain⟨t',rfl⟩:=p;obtain⟨j,h1,f,r,g,l⟩:=qcA m;have hl:z.cps.toList.length=z.length:=by simp[Str.length]
 rw[hl] at h1 g l;have w:=qbu
 show kA (kJ s z t) slot_str_getitem.lookup (getItem_str (c:=c) (by
  have d:decide (i < -(2 ^ 63:Int))=false:=yl (by lk);have e:decide (i ≥ 2 ^ 63)=false:=yl (by lk);rw[d,e,ku]) (by rw[h1];simpa using f) ⟨.str ⟨#[c]⟩,H,I.tok _,⟨_,rfl⟩,q⟩) n
def rIx(K:yg):R2:=fun x y H Q=>rIxL K x y H Q\/rIxT K x y H Q\/rIxS x y H Q
theorem ix_seq:IxR X (rIx X.K):=ix_list.or (ix_tup.or ix_str)
theorem mapSeq_set(its:List Value)(n j:Nat)(u:Value):Obj.mapSeq (·.setIfInBounds j u) { cls:=.type "list",data:=.seq its.toArray n }={ cls:=.type "list",data:=.seq (its.set j u).toArray n }:=by
 simp[Obj.mapSeq]
theorem Inv.lst(I:Inv X pins σ H s)(h:H p=some (.lst xs)) :
  ∃(its:List Value) (n:Nat),Vals xs its/\s.heap.get? p=some { cls:=.type "list",data:=.seq its.toArray n }/\xs.length<=sizeLine:=by
 obtain⟨z,its,n,r,e⟩:=I.hok p _ h;show⟨its,n,r,e,z⟩
theorem Inv.lstUpd{ys:List V}{a:Nat}{f:Obj->Obj}(I:Inv X pins σ H s)(h:H p=some (.lst xs))
  (g:s.heap.get? p=some { cls:=.type "list",data:=.seq its.toArray n }) (c:f { cls:=.type "list",data:=.seq its.toArray n }={ cls:=.type "list",data:=.seq its'.toArray a }) (r:Vals ys its') (hz:ys.length<=sizeLine) (t:Nat) :
  Inv X pins σ (upd H p (.lst ys)) { s with heap:=s.heap.update p f,toks:=t }:=by
 have e:(s.heap.update p f).get? p=some { cls:=.type "list",data:=.seq its'.toArray a }:=by
  rw[Yv f g (by rw[c]<;>rfl),c]
 show I.write (x:=p) (e:=p) (by rw[h];trivial) (.inl rfl) (fun b u d q=>(Yr _ _ (Yb d)).trans q) ⟨_,e⟩ ?_;show⟨hz,its',a,r,e⟩
inductive rSetL(o:V)(i:V)(v:V)(H:Hp)(Q:(Hp->Prop)):Prop|mk (p xs k j:_) (_:o=.ref p) (_:i=.int k) (_:H p=some (.lst xs)) (_:ixN xs.length k=some j) (_:Q (upd H p (.lst (xs.set j v))))
theorem set_list:qfK X rSetL:=by
 intro pins s σ H o i v B A u Q I w m x h;obtain⟨p,xs,k,j,rfl,rfl,g,l,q⟩:=h;cases w;obtain⟨t,rfl⟩:=m;obtain⟨its,n,r,b,hz⟩:=I.lst g;obtain⟨h1,y,e,f⟩:=qcz l;have hl:=r.length;have z:=qbu
 have c:Inv X pins σ (upd H p (.lst (xs.set j v))) { s with heap:=s.heap.update p (Obj.mapSeq (·.setIfInBounds j u)) }:=
  I.lstUpd g b (mapSeq_set its n j u) (r.set x j) (by rw[XS];show hz) s.toks
 by_cases d:0<=k
 .have a:k.toNat=j:=by
   rw[seqIndex_of d f] at h1;show ym h1
  show PySem.W.ki_setAt b d (by lk) (by rw[yy,<- hl];show f) (by rw[a];show⟨_,c,q⟩)
 .have a:(k+(its.toArray.size:Int)).toNat=j:=by
   rw[seqIndex_neg (by lk) e] at h1;rw[yy,<- hl];show ym h1
  show PySem.W.ki_setBack b (by lk) (by rw[yy,<- hl];show e) (by lk) (by rw[a];show⟨_,c,q⟩)
theorem slice_bounds(lo a:Option Int)(n:Nat):(sliceBounds lo a none n).1=((HT.sIx n 0 lo:Nat):Int)/\(sliceBounds lo a none n).2.1=((HT.sIx n n a:Nat):Int)/\(sliceBounds lo a none n).2.2=1:=by
 show⟨?_,?_,rfl⟩
 .cases lo with
  | none=>simp[sliceBounds,HT.sIx]
  | some i =>
   simp only[sliceBounds,HT.sIx,Option.getD_none,show(1:Int)>0 by decide,Xf];by_cases h:i<0
   .simp only[h,Xf]<;>lk
   .simp only[h,Xy]<;>lk
 .cases a with
  | none=>simp[sliceBounds,HT.sIx]
  | some i =>
   simp only[sliceBounds,HT.sIx,Option.getD_none,show(1:Int)>0 by decide,Xf];by_cases h:i<0
   .simp only[h,Xf]<;>lk
   .simp only[h,Xy]<;>lk
theorem slicePick_cut(its:List Value)(lo a:Option Int):slicePick its.toArray lo a none=((its.drop (HT.sIx its.length 0 lo)).take (HT.sIx its.length its.length a-HT.sIx its.length 0 lo)).toArray:=by
 obtain⟨h1,b,c⟩:=slice_bounds lo a its.toArray.size;unfold slicePick;rw[h1,b,c];simp only[sliceRange_one,pick_run,yy]<;>rfl
inductive rSlL(K:yg)(x:V)(lo:Option Int)(hi:Option Int)(H:Hp)(Q:VK):Prop|mk (a xs:_) (_:x=.ref a) (_:SqL K H a xs) (_:∀ p,H p=none->Q (.ref p) (upd H p (.lst (qaw xs lo hi))))
theorem sl_list:SlR X (rSlL X.K):=by
 intro pins s σ H x v m n lo d l Q I j f pl i h;obtain⟨a,xs,rfl,g,q⟩:=h;cases j;obtain⟨its,r,e,hz⟩:=I.list g;have c:=r.length;show⟨"list",_,kl.lookup,e.isList.typeIs,?_⟩;show wpAny_getItem_list_slice e.isList f pl i .none (by simp) ?_ (by rw[yy]<;>lk);rw[slicePick_cut,<- c];show⟨.ref s.heap.objs.size,_,I.laid (t':=s.toks) (o:=.lst (qaw xs lo d)) (fun b ob q=>yw _ q) (yh _) ?_,rfl,q _ (I.hok.fresh (yh _))⟩;show⟨yi (zA xs lo d) hz,_,0,(r.drop (HT.sIx xs.length 0 lo)).take (HT.sIx xs.length xs.length d-HT.sIx xs.length 0 lo),yS _ rfl⟩
noncomputable def jR:V->Bool
 | .non=>true
 | .bl _=>true
 | .int _=>true
 | .str _=>true
 | _=>false
noncomputable def eqV:V->V->Bool
 | .non,.non=>true
 | .bl a,.bl b=>a==b
 | .bl a,.int b=>(if a then 1 else 0)==b
 | .int a,.bl b=>a==(if b then 1 else 0)
 | .int a,.int b=>a==b
 | .str a,.str b=>a==b
 | _,_=>false
theorem qc0(e:RelV y u)(c:RelV x v)(f:jR y=true)(d:jR x=true):SeqAt.EqAt A s u v (eqV y x):=by
 cases y with
 | non =>
  cases e
  cases x with
  | non=>cases c;show Xs _
  | bl b=>cases c;show SeqAt.EqAt.none_bool b
  | int b=>obtain⟨t,rfl⟩:=c;show SeqAt.EqAt.none_int b t
  | str b=>obtain⟨t,rfl⟩:=c;show SeqAt.EqAt.none_str b t
  | _=>show absurd (show false=true from d) Ym
 | bl a =>
  cases e
  cases x with
  | non=>cases c;show SeqAt.EqAt.bool_none a
  | bl b=>cases c;show SeqAt.EqAt.bool_bool a b
  | int b=>obtain⟨t,rfl⟩:=c;show SeqAt.EqAt.bool_int a b t
  | str b=>obtain⟨t,rfl⟩:=c;show SeqAt.EqAt.bool_str a b t
  | _=>show absurd (show false=true from d) Ym
 | int a =>
  obtain⟨t',rfl⟩:=e
  cases x with
  | non=>cases c;show SeqAt.EqAt.int_none a t'
  | bl b=>cases c;show SeqAt.EqAt.int_bool a t' b
  | int b=>obtain⟨t,rfl⟩:=c;show SeqAt.EqAt.int_int a t' b t
  | str b=>obtain⟨t,rfl⟩:=c;show SeqAt.EqAt.int_str a t' b t
  | _=>show absurd (show false=true from d) Ym
 | str a =>
  obtain⟨t',rfl⟩:=e
  cases x with
  | non=>cases c;show SeqAt.EqAt.str_none a t'
  | bl b=>cases c;show SeqAt.EqAt.str_bool a t' b
  | int b=>obtain⟨t,rfl⟩:=c;show SeqAt.EqAt.str_int a t' b t
  | str b=>obtain⟨t,rfl⟩:=c;show SeqAt.EqAt.str_str a t' b t
  | _=>show absurd (show false=true from d) Ym
 | _=>show absurd (show false=true from f) Ym
noncomputable def eqU(x:V)(u:Value):Bool:=match u with
 | .none=>eqV .non x
 | .bool b=>eqV (.bl b) x
 | .int i _=>eqV (.int i) x
 | .str z _=>eqV (.str z) x
 | _=>false
theorem qdI(r:RelV y u)(f:jR y=true):eqU x u=eqV y x:=by
 cases y with
 | non=>cases r;rfl
 | bl b=>cases r;rfl
 | int i=>obtain⟨t,rfl⟩:=r;rfl
 | str z=>obtain⟨t,rfl⟩:=r;rfl
 | _=>show absurd (show false=true from f) Ym
theorem qbe:∀{xs:List V} {us:List Value},Vals xs us->xs.all jR=true->us.any (eqU x)=xs.any fun y=>eqV y x
 | _,_,.nil,_=>rfl
 | y::xs,u::us,.cons r t,f=>by
  rw[Xp,Yc] at f;rw[XH,XH,qdI r f.1,qbe t f.2]
theorem qab(b:RelV x v)(a:jR x=true):∀{xs:List V} {us:List Value},Vals xs us->xs.all jR=true->∀ u∈us,SeqAt.EqAt A s u v (eqU x u)
 | _,_,.nil,_=>fun u hu=>by cases hu
 | y::xs,u::us,.cons r t,f=>fun c hu=>by
  rw[Xp,Yc] at f;rcases yv.mp hu with rfl | hu
  .rw [qdI r f.1];show qc0 r b f.1 a
  .show qab b a t f.2 c hu
noncomputable def inV(x:V)(xs:List V):Bool:=xs.any fun y=>eqV y x
inductive rIn(K:yg)(neg:Bool)(x:V)(y:V)(H:Hp)(Q:VK):Prop|mk (p xs:_) (_:y=.ref p) (_:(SqL K H p xs\/SqT K H p xs)) (_:jR x=true) (_:xs.all jR=true) (_:Q (.bl (if neg then !inV x xs else inV x xs)) H)
theorem op_in_seq:OpR X (compareOp .In) (rIn X.K false):=by
 intro pins s σ H x y v u Q I b c h;obtain⟨p,xs,rfl,hq,a,fs,q⟩:=h;cases c;rcases hq with hq | hq
 .obtain⟨its,r,pl,hz⟩:=I.list hq;show SeqAt.in_listAt (eqU x) pl.isList (fun w hw=>qab b a r fs w (by simpa using hw)) ⟨.bl _,H,I,rfl,?_⟩;rw[show its.toArray.any (eqU x)=its.any (eqU x) by simp,qbe r fs];show q
 .obtain⟨its,r,pl,hz⟩:=I.tuple hq;show SeqAt.in_tupleAt (eqU x) pl (fun w hw=>qab b a r fs w (by simpa using hw)) ⟨.bl _,H,I,rfl,?_⟩;rw[show its.toArray.any (eqU x)=its.any (eqU x) by simp,qbe r fs];show q
theorem op_notIn_seq:OpR X (compareOp .NotIn) (rIn X.K true):=by
 intro pins s σ H x y v u Q I b c h;obtain⟨p,xs,rfl,hq,a,fs,q⟩:=h;cases c;rcases hq with hq | hq
 .obtain⟨its,r,pl,hz⟩:=I.list hq;show kf (eqU x) pl.isList (fun w hw=>qab b a r fs w (by simpa using hw)) ⟨.bl _,H,I,rfl,?_⟩;rw[show its.toArray.any (eqU x)=its.any (eqU x) by simp,qbe r fs];show q
 .obtain⟨its,r,pl,hz⟩:=I.tuple hq;show SeqAt.notIn_tupleAt (eqU x) pl (fun w hw=>qab b a r fs w (by simpa using hw)) ⟨.bl _,H,I,rfl,?_⟩;rw[show its.toArray.any (eqU x)=its.any (eqU x) by simp,qbe r fs];show q
theorem call_len_seq:zN X (.builtin "len") (fun xs H Q=>∃ p ys,xs=[.ref p]/\(SqL X.K H p ys\/SqT X.K H p ys)/\Q (.int ys.length) H):=by
 intro pins s σ H xs us Q I r h;obtain⟨p,ys,rfl,hq,q⟩:=h;obtain⟨u,rfl,c⟩:=qbt r;cases c;have d:=qbu;rcases hq with hq | hq
 .obtain⟨its,b,pl,hz⟩:=I.list hq;have a:=b.length;show Calls.call_len_list pl.isList (by simp only[yy]<;>lk) ⟨.int ys.length,H,I.tok _,⟨s.toks+1,by rw[yy,a]⟩,q⟩
 .obtain⟨its,b,pl,hz⟩:=I.tuple hq;have a:=b.length;show len_tuple pl (by simp only[yy]<;>lk) ⟨.int ys.length,H,I.tok _,⟨s.toks+1,by rw[yy,a]⟩,q⟩
theorem call_len_str:zN X (.builtin "len") (fun xs H Q=>∃ z,xs=[.str z]/\z.length<=sizeLine/\Q (.int z.length) H):=by
 intro pins s σ H xs us Q I r h;obtain⟨z,rfl,hz,q⟩:=h;obtain⟨u,rfl,t,rfl⟩:=qbt r;have a:=qbu;show len_str (by lk) ⟨.int z.length,H,I.tok _,⟨_,rfl⟩,q⟩
theorem call_list_of:zN X (.type "list") (fun xs H Q=>∃ p ys,xs=[.ref p]/\(SqL X.K H p ys\/SqT X.K H p ys)/\∀ l,H l=none->Q (.ref l) (upd H l (.lst ys))):=by
 intro pins s σ H xs us Q I r h;obtain⟨p,ys,rfl,hq,q⟩:=h;obtain⟨u,rfl,t⟩:=qbt r;cases t;have d:∀(its:List Value),Vals ys its->ys.length<=sizeLine->∀(h':Heap) (a:Nat),(∀ b m,s.heap.get? b=some m->h'.get? b=some m) ->
   h'.get? s.heap.objs.size=some { cls:=.type "list",dict:=none,data:=.seq its.toArray a,slots:=#[] }->EP X pins σ Q (.ref s.heap.objs.size) { s with heap:=h' }:=fun its c hz h' a g e =>
  ⟨.ref s.heap.objs.size,_,I.laid (t':=s.toks) g (yh _) (show ObjOk X.prog X.w _ h' _ (.lst ys) from⟨hz,its,a,c,e⟩),rfl,q _ (I.hok.fresh (yh _))⟩
 rcases hq with hq | hq
 .obtain⟨its,c,pl,hz⟩:=I.list hq;have f:=c.length;obtain⟨o,j,hc,n,i⟩:=pl.isList;show call_list_seq p (.inl rfl) j hc i (fun h' a g e=>d its c hz h' a g e) (by simp only[yy]<;>lk)
 .obtain⟨its,c,pl,hz⟩:=I.tuple hq;have f:=c.length;obtain⟨o,j,hc,n,i⟩:=pl;show call_list_seq p (.inr rfl) j hc i (fun h' a g e=>d its c hz h' a g e) (by simp only[yy]<;>lk)
theorem call_tuple_of:zN X (.type "tuple") (fun xs H Q=>∃ p ys,xs=[.ref p]/\((SqL X.K H p ys/\∀ l,H l=none->Q (.ref l) (upd H l (.tup ys)))\/(SqT X.K H p ys/\Q (.ref p) H))):=by
 intro pins s σ H xs us Q I r h;obtain⟨p,ys,rfl,h⟩:=h;obtain⟨u,rfl,j⟩:=qbt r;cases j;rcases h with⟨a,q⟩ | ⟨a,q⟩
 .obtain⟨its,c,pl,hz⟩:=I.list a;have f:=c.length;show call_tuple_list pl.isList (fun h' i=>?_) (by simp only[yy]<;>lk);have d:Inv X pins σ H { s with heap:=h' }:=I.kept (t':=s.toks) i
  have g:Inv X pins σ (upd H h'.objs.size (.tup ys)) { s with heap:=h'.push { cls:=.type "tuple",data:=.seq its.toArray } }:=
   d.laid (t':=s.toks) (fun b o e=>yw _ e) (yh _) (show ObjOk X.prog X.w _ _ _ (.tup ys) from⟨hz,its,c,IsTup.new _ _⟩)
  show⟨.ref h'.objs.size,_,g,rfl,q _ (d.hok.fresh (yh _))⟩
 .obtain⟨its,c,pl,hz⟩:=I.tuple a;show call_tuple_same pl ⟨.ref p,H,I,rfl,q⟩
def tyV(K:yg)(T:String)(x:V)(H:Hp):Prop:=match x with
 | .str _=>T="str"
 | .int _=>T="int"
 | .ref p=>(T="list"/\∃ xs,SqL K H p xs)\/(T="tuple"/\∃ o,K.lookup p=some o/\o.cls=.type "tuple"/\o.dict=none) \/
   (T="dict"/\((∃ kvs,H p=some (.dK kvs))\/∃ kvs,H p=some (.dT kvs)))\/(T="set"/\∃ S n,H p=some (.set S n))
 | _=>False
theorem tyV_is{T:String}(I:Inv X pins σ H s)(r:RelV x v)(ty:tyV X.K T x H) :
  s.TypeIs v T/\∀ a,v=.ref a->∃ ob,s.heap.get? a=some ob/\ob.dict=none:=by
 cases x with
 | str z =>
  obtain⟨t,rfl⟩:=r;cases (show T="str" from ty);show⟨kJ s z t,fun _ e=>nomatch e⟩
 | int i =>
  obtain⟨t,rfl⟩:=r;cases (show T="int" from ty);show⟨typeIs_int s i t,fun _ e=>nomatch e⟩
 | ref p =>
  cases r;rcases ty with⟨rfl,xs,g⟩ | ⟨rfl,o,b,hc,f⟩ | ⟨rfl,b⟩ | ⟨rfl,S,n,b⟩
  .obtain⟨its,_,pl,_⟩:=I.list g;show⟨pl.isList.typeIs,fun a e=>?_⟩;cases e;obtain⟨o,n,e,c,f,_⟩:=pl;show⟨o,e,f⟩
  .show⟨⟨o,I.kIn p o b,hc⟩,fun a e=>?_⟩;cases e;show⟨o,I.kIn _ o b,f⟩
  .have z:∃ o,s.heap.get? p=some o/\o.ExactDict:=by
    rcases b with⟨kvs,b⟩ | ⟨kvs,b⟩
    .obtain⟨_,_,_,_,o,_,_,e,ex,_⟩:=I.hok p _ b;show⟨o,e,ex⟩
    .obtain⟨_,_,_,_,o,_,_,e,ex,_⟩:=I.hok p _ b;show⟨o,e,ex⟩
   obtain⟨o,e,ex⟩:=z;show⟨⟨o,e,ex.1⟩,fun a d=>?_⟩;cases d;show⟨o,e,ex.2.1⟩
  .obtain⟨o,_,_,_,e,ex,_⟩:=I.hok p _ b;show⟨⟨o,e,ex.1⟩,fun a d=>?_⟩;cases d;show⟨o,e,ex.2.1⟩
 | _=>show False.elim ty
def tBM0(K:yg)(T:String)(r:V->List V->Hp->VK->Prop)(b:TE):TE:=fun σ H Q=>b σ H fun x a=>tyV K T x a/\r x [] a Q
def tBM(K:yg)(T:String)(r:V->List V->Hp->VK->Prop)(c:TE)(t:TA):TE:=fun σ H Q=>c σ H fun x a=>tyV K T x a/\t σ a fun xs b=>r x xs b Q
variable{o e:Expr}{es:List Expr}{to:TE}{t:TA}{name:Str}{apos cpos:Pos}{T id:String}{r:V->List V->Hp->VK->Prop}
theorem pe_bm(A:PlainAttrs T)(f:Slot T name id)(g:typeOf (.builtin id)=pure (.type "method_descriptor"))(w:MtR X id r)(y:PE X o to)(u:PA X (e::es) t)
  (b:attributeBase o name X.env (eval o X.env)=eval o X.env:=by rfl)
  (d:((backTo cpos (starEach (e::es) X.env)).all (fun x=>!x.1)&&(backToKw cpos (keywordEach [] X.env)).all (fun x=>x.1.isSome)
   && decide ((e::es).length+([]:List Keyword).length+(if ([]:List Keyword).isEmpty then 0 else 1)<30))=true:=by rfl)
  (c:(apos.endLine==cpos.line)=true:=by rfl) (z:starEach (e::es) X.env=(false,eval e X.env)::starEach es X.env:=by rfl) (a:(backTo cpos (starEach es X.env)).any (·.1)=false:=by rfl) :
  PE X (.Call (.Attribute o name apos) (e::es) [] cpos) (tBM X.K T r to t):=by
 intro pins s σ H Q I h;show wpAny_Call_method_late b d c rfl (thn (y pins s σ H _ I h) fun v E ⟨x,m,i,l,ty,B⟩=>?_);obtain⟨h1,q⟩:=tyV_is i l ty;show⟨T,id,A,f,g,h1,q,?_⟩;have j:=u cpos pins E σ m _ i B;rw[z] at j ⊢;show XA (by show(false||(backTo cpos (starEach es X.env)).any (·.1))=false;rw[a]<;>rfl) (XM ?_);show thn j fun us F ⟨vs,n,p,D,C⟩=>w pins F σ n x vs v us Q p l D C
end
def MtM(X:Cx)(id:String)(r:V->List V->Hp->VK->Prop):Prop:=
 ∀(pins:List (Addr×Obj)) (s:Shared) (σ:St) (H:Hp) (x:V) (xs:List V) (v:Value) (us:List Value) (Q:VK),Inv X pins σ H s->RelV x v->Vals xs us->r x xs H Q ->
  wpAny (model X.prog X.w) X.A (call (.builtin id) (v::us)) (EP X pins σ Q) X.xe s
theorem Vals.one:∀{x:V} {us:List Value},Vals [x] us->∃ u,us=[u]/\RelV x u
 | _,_,.cons r .nil=>⟨_,rfl,r⟩
theorem Vals.eraseIdx:∀{xs:List V} {us:List Value} (i:Nat),Vals xs us->Vals (xs.eraseIdx i) (us.eraseIdx i)
 | _,_,_,.nil=>.nil
 | _,_,0,.cons _ t=>t
 | _,_,i+1,.cons r t=>.cons r (Vals.eraseIdx i t)
theorem Vals.rep(h:Vals xs us):∀ k:Nat,Vals (List.replicate k xs).flatten (List.replicate k us).flatten
 | 0=>.nil
 | k+1=>by
  rw[xm,xm,Xc,Xc];show Vals.append h (Vals.rep h k)
theorem qb9:∀(l:List α) (i:Nat),(l.eraseIdx i).length<=l.length
 | [],_=>yh _
 | _::_,0=>xR _
 | _::r,i+1=>Nat.succ_le_succ (qb9 r i)
theorem qca(its:List Value):∀(k:Nat) (acc:List Value),
  List.foldl (fun b c=>b++c) acc.toArray (List.replicate k its.toArray)=(acc++(List.replicate k its).flatten).toArray
 | 0,acc=>by simp
 | k+1,acc=>by
  have e:acc.toArray++its.toArray=(acc++its).toArray:=by simp
  have a:(acc++its)++(List.replicate k its).flatten=acc++(List.replicate (k+1) its).flatten:=by
   rw[xm,Xc,yZ]
  rw[<- a,<- qca its k (acc++its),<- e,xm,List.foldl_cons]
section
variable{X:Cx}{pins:List (Addr×Obj)}{σ:St}{H:Hp}{s:Shared}{l b:Addr}{xs ys zs:List V}
theorem Inv.lset{f:Array Value->Array Value}(I:Inv X pins σ H s)(a:H l=some (.lst xs))
  (e:s.heap.get? l=some { cls:=.type "list",data:=.seq its.toArray n }) (c:f its.toArray=its'.toArray) (hv:Vals ys its') (hz:ys.length<=sizeLine) :
  Inv X pins σ (upd H l (.lst ys)) { s with heap:=s.heap.update l (Obj.mapSeq f),toks:=t' }:=by
 have q:=PySem.IsL.update e f;rw[c] at q;show I.write (x:=l) (e:=l) (by rw[a];show trivial) (.inl rfl) (fun g u b d=>(Yr s.heap (Obj.mapSeq f) (Yb b)).trans d) ⟨_,q⟩ ?_;show⟨hz,its',_,hv,q⟩
theorem Inv.lnew(I:Inv X pins σ H s)(hv:Vals ys its)(hz:ys.length<=sizeLine) :
  Inv X pins σ (upd H s.heap.objs.size (.lst ys)) { s with heap:=s.heap.push { cls:=.type "list",data:=.seq its.toArray },toks:=t' }:=
 I.laid (fun _ _ q=>yw _ q) (yh _) ⟨hz,its,0,hv,yS _ rfl⟩
theorem Inv.fresh(I:Inv X pins σ H s):H s.heap.objs.size=none:=I.hok.fresh (yh _)
theorem Inv.lstM(I:Inv X pins σ H s)(a:H l=some (.lst xs)):xs.length<=sizeLine/\∃(its:List Value) (n:Nat),Vals xs its/\xs.length=its.length/\s.heap.get? l=some { cls:=.type "list",data:=.seq its.toArray n }:=by
 obtain⟨z,its,n,r,e⟩:=I.hok l _ a;show⟨z,its,n,r,r.length,e⟩
theorem qc1(h:n<=sizeLine):Builtin.List.listTooLong n=false:=by
 unfold Builtin.List.listTooLong;show yl (by lk)
end
section
variable{X:Cx}
inductive rAppend(x:V)(vs:List V)(H:Hp)(Q:VK):Prop|mk (l xs y:_) (_:x=.ref l) (_:vs=[y]) (_:H l=some (.lst xs)) (_:xs.length<sizeLine) (_:Q .non (upd H l (.lst (xs++[y]))))
theorem mt_append:MtM X "list.append" rAppend:=by
 intro pins s σ H x vs v us Q I d c h;obtain⟨l,xs,y,rfl,rfl,a,hz,q⟩:=h;cases d;obtain⟨u,rfl,b⟩:=c.one;obtain⟨z,its,n,r,hl,e⟩:=I.lstM a;show XE F.slot_list_append ⟨_,e,rfl⟩ F.entry_list_append (F.args_list_append_2 _ _) (PySem.list_append l its.toArray n u (by rw[yy];lk)) ⟨e,?_⟩;show⟨.non,_,I.lset (its':=its++[u]) a e (by simp) (r.append (.cons b .nil)) ?_,rfl,q⟩;rw[yt,Xa];lk
inductive rExtend(x:V)(vs:List V)(H:Hp)(Q:VK):Prop|mk (l b xs zs:_) (_:x=.ref l) (_:vs=[.ref b]) (_:H l=some (.lst xs)) (_:H b=some (.lst zs)) (_:xs.length+zs.length<=sizeLine) (_:Q .non (upd H l (.lst (xs++zs))))
theorem mt_extend:MtM X "list.extend" rExtend:=by
 intro pins s σ H x vs v us Q I t p h;obtain⟨l,b,xs,y,rfl,rfl,d,g,hz,q⟩:=h;cases t;obtain⟨u,rfl,o⟩:=p.one;cases o;obtain⟨z,its,n,r,hl,e⟩:=I.lstM d;obtain⟨w,a,j,m,i,f⟩:=I.lstM g;have hsz:its.toArray.size+a.toArray.size<=sizeLine:=by rw[yy,yy];lk
 have c:¬ (!its.toArray.isEmpty&&Builtin.List.listTooLong (its.toArray.size+a.toArray.size))=true:=by
  rw[qc1 hsz,Bool.and_false];show Ym
 show XE F.slot_list_extend ⟨_,e,rfl⟩ F.entry_list_extend (F.args_list_extend_2 _ _)
  (AutoSeq1.list_extend_list_list_0 l its.toArray n b a.toArray j c (by rw[yy];lk) (by lk)) ⟨e,f,?_⟩
 show⟨.non,_,I.lset (its':=its++a) d e (by simp) (r.append m) ?_,rfl,q⟩;rw[yt];lk
inductive rPop(x:V)(vs:List V)(H:Hp)(Q:VK):Prop|mk (l xs y:_) (_:x=.ref l) (_:vs=[]) (_:H l=some (.lst xs)) (_:xs[xs.length-1]?=some y) (_:Q y (upd H l (.lst xs.dropLast)))
inductive rPopAt(x:V)(vs:List V)(H:Hp)(Q:VK):Prop|mk (l xs i k y:_) (_:x=.ref l) (_:vs=[.int i]) (_:H l=some (.lst xs)) (_:-(2 ^ 63)<=i) (_:i<2 ^ 63) (_:seqIndex? i xs.length=some k) (_:xs[k]?=some y) (_:Q y (upd H l (.lst (xs.eraseIdx k))))
theorem mt_popAt:MtM X "list.pop" rPopAt:=by
 intro pins s σ H x vs v us Q I m j h;obtain⟨l,xs,i,k,y,rfl,rfl,b,h1,c,d,f,q⟩:=h;cases m;obtain⟨u,rfl,g⟩:=j.one;obtain⟨t,rfl⟩:=g;obtain⟨z,its,n,r,hl,e⟩:=I.lstM b;obtain⟨w,hw,a⟩:=r.get f;show XE F.slot_list_pop ⟨_,e,rfl⟩ F.entry_list_pop (F.args_list_pop_2 _ _)
  (MeetsSeq.list_pop_at l its.toArray n i t k w (fitsIndex_both h1 c) (by rw[yy,<- hl];show d) (by rw[<- Xb];show hw) (by rw[yy];lk)) ⟨e,?_⟩
 show⟨y,_,I.lset (its':=its.eraseIdx k) b e ?_ (r.eraseIdx k) ?_,a,q⟩
 .show its.toArray.eraseIdxIfInBounds k=(its.eraseIdx k).toArray;rw[List.eraseIdxIfInBounds_toArray]
 .have:=qb9 xs k;lk
inductive rReverse(x:V)(vs:List V)(H:Hp)(Q:VK):Prop|mk (l xs:_) (_:x=.ref l) (_:vs=[]) (_:H l=some (.lst xs)) (_:Q .non (upd H l (.lst xs.reverse)))
inductive rClear(x:V)(vs:List V)(H:Hp)(Q:VK):Prop|mk (l xs:_) (_:x=.ref l) (_:vs=[]) (_:H l=some (.lst xs)) (_:Q .non (upd H l (.lst [])))
inductive rCat(x:V)(y:V)(H:Hp)(Q:VK):Prop|mk (l b xs zs:_) (_:x=.ref l) (_:y=.ref b) (_:H l=some (.lst xs)) (_:H b=some (.lst zs)) (_:xs.length+zs.length<=sizeLine) (_:∀ p,H p=none->Q (.ref p) (upd H p (.lst (xs++zs))))
theorem op_cat:OpR X (binaryOp .Add) rCat:=by
 intro pins s σ H x y v u Q I m o h;obtain⟨l,b,xs,w,rfl,rfl,g,f,hz,q⟩:=h;cases m;cases o;obtain⟨z,its,n,r,hl,e⟩:=I.lstM g;obtain⟨t,a,p,j,i,c⟩:=I.lstM f;show PySem.P.add_list e c ?_ (by rw[yy,yy];lk);have d:its.toArray++a.toArray=(its++a).toArray:=by simp
 rw[d];show⟨.ref _,_,I.lnew (t':=s.toks) (r.append j) (by rw[yt];lk),rfl,q _ I.fresh⟩
inductive rRep(x:V)(y:V)(H:Hp)(Q:VK):Prop|mk (l k xs:_) (_:x=.ref l) (_:y=.int k) (_:H l=some (.lst xs)) (_:-(2 ^ 63)<=k) (_:k<2 ^ 63) (_:xs.length*k.toNat<=sizeLine) (_:∀ p,H p=none->Q (.ref p) (upd H p (.lst (List.replicate k.toNat xs).flatten)))
theorem len_rep(xs:List α)(k:Nat):(List.replicate k xs).flatten.length=k*xs.length:=by
 induction k with
 | zero=>simp
 | succ k ih=>rw[xm,Xc,yt,ih,Nat.succ_mul,Nat.add_comm]
theorem qem:OpR X (binaryOp .Mult) rRep:=by
 intro pins s σ H x y v u Q I A B h;obtain⟨l,k,xs,rfl,rfl,w,h1,p,hz,q⟩:=h;cases A;obtain⟨t,rfl⟩:=B;obtain⟨z,its,n,r,hl,e⟩:=I.lstM w;have f:its.toArray.size*k.toNat<=sizeLine:=by rw[yy,<- hl];show hz
 have c:¬ its.toArray.size*k.toNat>(2 ^ 63-1) / 8:=by
  have:(sizeLine:Nat)<=(2 ^ 63-1) / 8:=by decide
  lk
 have d:¬ (!Builtin.List.listFitsIndex k)=true:=by
  rw[fitsIndex_both h1 p];show Ym
 have b:¬ Builtin.List.listTooLong (its.toArray.size*k.toNat)=true:=by
  rw[qc1 f];show Ym
 have g:List.foldl (fun i j=>i++j) #[] (List.replicate (if its.toArray.isEmpty=true then 0 else k.toNat) its.toArray)=(List.replicate k.toNat its).flatten.toArray:=by
  have o:∀ m:Nat,List.foldl (fun i j=>i++j) #[] (List.replicate m its.toArray)=(List.replicate m its).flatten.toArray:=fun m=>by
   have:=qca its m [];rw[List.nil_append] at this;show this
  rw[o]
  cases its with
  | nil=>simp
  | cons a r'=>rw[yC (by simp)]
 show wpAny_binaryOp_repeat_ref (T:="list") (U:="int") (by decide) ⟨_,e,rfl⟩ (fun s'=>typeIs_int s' k t) noFill_list_mul F.fills_int_mul F.slot_int_rmul repeat_list F.slot_int_index.lookup
  (XE F.slot_int_rmul (typeIs_int s k t) F.entry_int_rmul (F.args_int_rmul_2 _ _) (int___rmul___int_list k t l its.toArray n)
   ⟨e,rfl,⟨_,e,rfl⟩,XE F.slot_list_mul ⟨_,e,rfl⟩ F.entry_list_mul (F.args_list_mul_2 _ _) (AutoListH.list___mul___list_int_3 l its.toArray n k t d c b) ⟨e,?_⟩⟩)
 rw[g];show⟨.ref _,_,I.lnew (t':=s.toks) (r.rep k.toNat) (by rw[len_rep,Nat.mul_comm];show hz),rfl,q _ I.fresh⟩
end
section
variable{prog:Program}{w:World}{A:Around}{E:Value->Shared->Prop}{s:Shared}
set_option maxRecDepth 100000 in
end
section
variable{X:Cx}
end
section
variable{κ:Type}[DecidableEq κ]
noncomputable def zh(kvs:List (κ×V))(k:κ):Option V:=(kvs.find? fun a=>decide (a.1=k)).map (·.2)
noncomputable def zB(kvs:List (κ×V))(k:κ)(v:V):List (κ×V):=
 if (kvs.any fun a=>decide (a.1=k))=true then kvs.map (fun a=>if a.1=k then(a.1,v) else a) else kvs++[(k,v)]
noncomputable def dropK(kvs:List (κ×V))(k:κ):List (κ×V):=kvs.filter fun a=>decide (a.1≠k)
theorem jf{p:κ×V}{r:List (κ×V)}{k:κ}(e:p.1=k):zh (p::r) k=some p.2:=by simp[zh,xA,e]
theorem qX{p:κ×V}{r:List (κ×V)}{k:κ}(e:¬ p.1=k):zh (p::r) k=zh r k:=by simp[zh,xA,e]
theorem qac(k:κ):∀ kvs:List (κ×V),(kvs.any fun a=>decide (a.1=k))=(zh kvs k).isSome
 | []=>rfl
 | p::r=>by
  rw[XH];by_cases e:p.1=k
  .simp only[jf e,yH e,Bool.true_or,Option.isSome_some]
  .rw [qX e,yl e,Bool.false_or];show qac k r
theorem qc2(k j:κ)(y:V):∀ kvs:List (κ×V),zh (kvs.map fun a=>if a.1=k then(a.1,y) else a) j=(zh kvs j).map fun x=>if j=k then y else x
 | []=>rfl
 | p::r=>by
  have b:=qc2 k j y r;rw[Yy];by_cases h:p.1=k
  .rw [yE h];by_cases e:p.1=j
   .rw [jf (p:=(p.1,y)) e,jf e,XT,yE (e.symm.trans h)]
   .rw [qX (p:=(p.1,y)) e,qX e,b]
  .rw [yC h];by_cases e:p.1=j
   .rw [jf (p:=p) e,jf e,XT,yC (fun z=>h (e.trans z))]
   .rw [qX (p:=p) e,qX e,b]
theorem qcb(k j:κ)(y:V):∀ kvs:List (κ×V),zh kvs k=none->zh (kvs++[(k,y)]) j=if j=k then some y else zh kvs j
 | [],_=>by
  by_cases e:k=j
  .rw [yE e.symm];show jf (p:=(k,y)) e
  .rw [yC (fun z=>e z.symm)];show qX (p:=(k,y)) e
 | p::r,hn=>by
  rw[kB];have a:¬ p.1=k:=fun z=>by rw[jf z] at hn;cases hn
  rw[qX a] at hn;have b:=qcb k j y r hn;by_cases e:p.1=j
  .rw [jf e,jf e,yC (fun z=>a (e.trans z))]
  .rw [qX e,qX e,b]
theorem qa0(kvs:List (κ×V))(k j:κ)(y:V):zh (zB kvs k y) j=if j=k then some y else zh kvs j:=by
 unfold zB;by_cases a:(kvs.any fun c=>decide (c.1=k))=true
 .rw [yE a,qc2];rw[qac] at a;by_cases e:j=k
  .obtain⟨x,b⟩:=Option.isSome_iff_exists.mp a;rw[yE e,e,b,XT,yE rfl]
  .rw [yC e]
   cases zh kvs j with
   | none=>rfl
   | some x=>rw[XT,yC e]
 .rw [yC a];show qcb k j y kvs ?_;rw[qac] at a
  cases q:zh kvs k with
  | none=>rfl
  | some x=>rw[q] at a;show(a rfl).elim
theorem jS(kvs:List (κ×V))(k:κ)(v:V):(zB kvs k v).length<=kvs.length+1:=by
 unfold zB;split
 .rw [ya];lk
 .rw [yt,yD,YN];lk
theorem qa1{kvs:List (κ×V)}{k:κ}(v:V)(h:zh kvs k=none):zB kvs k v=kvs++[(k,v)]:=by
 unfold zB;rw[qac,h];show yC (by decide)
theorem RelO.isSome_eq{u:Option Value}(r:RelO o u):o.isSome=u.isSome:=by
 cases o with
 | none=>cases u with
  | none=>rfl
  | some _=>show(show False from r).elim
 | some _=>cases u with
  | none=>show(show False from r).elim
  | some _=>rfl
theorem RelO.getD{u:Option Value}{d:V}{d':Value}(r:RelO o u)(rd:RelV d d'):RelV (o.getD d) (u.getD d'):=by
 cases o with
 | none=>cases u with
  | none=>show rd
  | some _=>show(show False from r).elim
 | some _=>cases u with
  | none=>show(show False from r).elim
  | some _=>show r
theorem KV.val{kvs:List (κ×V)}{vs:List (κ×Value)}(r:KV kvs vs)(k:κ):RelO (zh kvs k) (valueAt vs k):=by
 unfold KV at r
 induction r with
 | nil=>show YF
 | @cons p q ps qs h t ih =>
  obtain⟨h1,c⟩:=h;by_cases e:p.1=k
  .have a:q.1=k:=h1.symm.trans e;have b:valueAt (q::qs) k=some q.2:=by simp[valueAt,xA,a]
   rw[jf e,b];show c
  .have a:¬ q.1=k:=fun z=>e (h1.trans z);have b:valueAt (q::qs) k=valueAt qs k:=by simp[valueAt,xA,a]
   rw[qX e,b];show ih
theorem KV.any{kvs:List (κ×V)}{vs:List (κ×Value)}(r:KV kvs vs)(k:κ):(kvs.any fun a=>decide (a.1=k))=vs.any fun a=>decide (a.1=k):=by
 unfold KV at r
 induction r with
 | nil=>rfl
 | cons h t ih=>rw[XH,XH,ih,h.1]
theorem KV.repl{kvs:List (κ×V)}{vs:List (κ×Value)}(r:KV kvs vs)(k:κ)(c:RelV y u) :
  KV (kvs.map fun a=>if a.1=k then(a.1,y) else a) (vs.map fun a=>if a.1=k then(a.1,u) else a):=by
 unfold KV at r ⊢
 induction r with
 | nil=>show .nil
 | @cons p q ps qs h t ih =>
  rw[Yy,Yy];show .cons ?_ ih;obtain⟨h1,b⟩:=h;by_cases e:p.1=k
  .rw [yE e,yE (h1.symm.trans e)];show⟨h1,c⟩
  .rw [yC e,yC (fun z=>e (h1.trans z))];show⟨h1,b⟩
theorem KV.put{kvs:List (κ×V)}{vs:List (κ×Value)}(r:KV kvs vs)(k:κ)(a:RelV y u):KV (zB kvs k y) (stored vs k u):=by
 unfold zB stored;rw[r.any k];by_cases e:(vs.any fun b=>decide (b.1=k))=true
 .rw [yE e,yE e];show r.repl k a
 .rw [yC e,yC e];show Paired.snoc r ⟨rfl,a⟩
theorem KV.length{kvs:List (κ×V)}{vs:List (κ×Value)}(r:KV kvs vs):kvs.length=vs.length:=Paired.length r
end
theorem qds{k:Key}(r:RelV (kV k) u):(js P w).is k u=true:=by
 cases k with
 | inl i=>obtain⟨t,e⟩:=(show ∃ t,u=Value.int i t from r);subst e;show mixKind_int P w i t
 | inr x=>obtain⟨t,e⟩:=(show ∃ t,u=Value.str x t from r);subst e;show mixKind_str P w x t
theorem qcc:∀{ks:List Key} {us:List Value},Vals (ks.map kV) us->ItemsAre (js P w) ks us
 | [],_,r=>by rw[List.map_nil] at r;cases r;show .nil
 | k::ks,_,r=>by
  rw[Yy] at r
  cases r with
  | cons h t=>show .cons (qds h) (qcc t)
abbrev KT(H:Hp):List (List Key×V)->List (List Key×Addr×Value)->Prop:=Paired fun p q=>p.1=q.1/\H q.2.1=some (.tup (p.1.map kV))/\RelV p.2 q.2.2
theorem KT.val{xs:List (List Key×Addr×Value)}(r:KT H kvs xs)(k:List Key):RelO (zh kvs k) ((atKey xs k).map (·.2)):=by
 induction r with
 | nil=>show YF
 | @cons p q ps qs h t ih =>
  obtain⟨h1,_,c⟩:=h;by_cases e:p.1=k
  .have a:q.1=k:=h1.symm.trans e;have b:atKey (q::qs) k=some q.2:=by simp[atKey,xA,a]
   rw[jf e,b];show c
  .have a:¬ q.1=k:=fun z=>e (h1.trans z);have b:atKey (q::qs) k=atKey qs k:=by simp[atKey,xA,a]
   rw[qX e,b];show ih
theorem KT.repl{xs:List (List Key×Addr×Value)}(r:KT H kvs xs)(k:List Key)(d:RelV y u) :
  KT H (kvs.map fun a=>if a.1=k then(a.1,y) else a) (xs.map (putAt k u)):=by
 induction r with
 | nil=>show .nil
 | @cons p q ps qs h t ih =>
  rw[Yy,Yy];show .cons ?_ ih;obtain⟨h1,b,c⟩:=h;unfold putAt;by_cases e:p.1=k
  .rw [yE e,yE (h1.symm.trans e)];show⟨h1,b,d⟩
  .rw [yC e,yC (fun z=>e (h1.trans z))];show⟨h1,b,c⟩
theorem KT.put{xs:List (List Key×Addr×Value)}(r:KT H kvs xs)(k:List Key){b:Addr}(c:H b=some (.tup (k.map kV)))(a:RelV y u) :
  KT H (zB kvs k y) (storedH xs k b u):=by
 have e:(kvs.any fun d=>decide (d.1=k))=(atKey xs k).isSome:=by
  rw[qac,(r.val k).isSome_eq,Xd]
 unfold zB storedH;rw[e];by_cases q:(atKey xs k).isSome=true
 .rw [yE q,yE q];show r.repl k a
 .rw [yC q,yC q];show Paired.snoc r ⟨rfl,c,a⟩
theorem KT.keeps{xs:List (List Key×Addr×Value)}(r:KT H kvs xs)(a:∀ b ys,H b=some (.tup ys)->H' b=some (.tup ys)):KT H' kvs xs:=
 Paired.mapP r fun _ _ z=>⟨z.1,a _ _ z.2.1,z.2.2⟩
section
variable{P:Program}{w:World}{H:Hp}{h:Heap}{a:Addr}
theorem qfe{u:HO}(ok:HOk P w H h)(e:Rd H a u):ObjOk P w H h a u:=e.ok ok
theorem qcd{kvs:List (Key×V)}(ok:HOk P w H h)(e:Rd H a (.dK kvs)):kvs.length<=sizeLine/\(a==sysModules)=false/\∃ vs,KV kvs vs/\h.DictOf (js P w) a vs:=
 show ObjOk P w H h a (.dK kvs) from qfe ok e
theorem qff{kvs:List (Key×V)}(ok:HOk P w H h)(e:H a=some (.dK kvs)):kvs.length<=sizeLine/\(a==sysModules)=false/\∃ vs,KV kvs vs/\h.DictOf (js P w) a vs:=qcd ok (.inl e)
theorem qbw{ks:List Key}(ok:HOk P w H h)(e:H a=some (.tup (ks.map kV))):(tupleKind (js P w)).is h ks a:=by
 obtain⟨_,its,r,o,h1,b,n,c⟩:=(show ObjOk P w H h a (.tup (ks.map kV)) from ok a _ e);show⟨o,its.toArray,n,h1,b,c,by simpa using qcc r⟩
theorem qcB(ok:HOk P w H h)(e:Rd H a (.dT kvs)):kvs.length<=sizeLine/\(a==sysModules)=false /\
  ∃ xs,KT H kvs xs/\h.DictOfH (tupleKind (js P w)) a xs:=by
 obtain⟨z,y,xs,r,o,b,ep,h1,c,d,f,g⟩:=(show ObjOk P w H h a (.dT kvs) from qfe ok e);show⟨z,y,xs,r,o,b,ep,h1,c,d,f,fun x hx=>?_,g⟩
 have all:∀{l:List (List Key×V)} {m:List (List Key×Addr×Value)},KT H l m->∀ x∈m,(tupleKind (js P w)).is h x.1 x.2.1:=by
  intro l m q
  induction q with
  | nil=>intro x hx;show nomatch hx
  | @cons p q ps qs hq t ih =>
   intro x hx;rcases yv.mp hx with e | hx
   .subst e;show qbw ok (by rw[<- hq.1];show hq.2.1)
   .show ih x hx
 show all r x hx
theorem dt_of(ok:HOk P w H h)(e:H a=some (.dT kvs)):kvs.length<=sizeLine/\(a==sysModules)=false /\
  ∃ xs,KT H kvs xs/\h.DictOfH (tupleKind (js P w)) a xs:=qcB ok (.inl e)
end
def DGet(H:Hp)(a:Addr)(y:V)(r:Option V):Prop:=
 (∃ kvs k,Rd H a (.dK kvs)/\y=kV k/\r=zh kvs k)\/∃ kvs k b,Rd H a (.dT kvs)/\y=.ref b/\H b=some (.tup (k.map kV))/\r=zh kvs k
def DPut(H:Hp)(a:Addr)(y v:V)(H':Hp):Prop:=
 (∃ kvs k,H a=some (.dK kvs)/\y=kV k/\kvs.length<sizeLine/\H'=upd H a (.dK (zB kvs k v))) \/
 ∃ kvs k b,H a=some (.dT kvs)/\y=.ref b/\H b=some (.tup (k.map kV))/\kvs.length<sizeLine/\H'=upd H a (.dT (zB kvs k v))
theorem DGet.k{kvs:List (Key×V)}{k:Key}(e:H a=some (.dK kvs)):DGet H a (kV k) (zh kvs k):=.inl ⟨kvs,k,.inl e,rfl,rfl⟩
theorem DPut.k{kvs:List (Key×V)}{k:Key}{v:V}(e:H a=some (.dK kvs))(hl:kvs.length<sizeLine):DPut H a (kV k) v (upd H a (.dK (zB kvs k v))):=.inl ⟨kvs,k,e,rfl,hl,rfl⟩
section
variable{X:Cx}{pins:List (Addr×Obj)}{σ:St}{H:Hp}{s:Shared}{a:Addr}{y v:V}{u r:Value}{o:Option V}{A:Around}{E:Value->Shared->Prop}
theorem Inv.big(I:Inv X pins σ H s):sysModules<s.heap.objs.size:=by
 have h:mainGlobals<s.heap.objs.size:=(I.mod.glob.keeps I.bk).lt;show kK (by decide) h
theorem d_getItem{Q:Value->Shared->Prop}(x:A.units+1<cLine)(I:Inv X pins σ H s)(g:DGet H a y (some v))(n:RelV y u)(h:∀ f s',Inv X pins σ H s'->RelV v f->Q f s') :
  wpAny (model X.prog X.w) A (getItem (.ref a) u) Q E s:=by
 rcases g with⟨kvs,k,e,j,l⟩ | ⟨kvs,k,b,e,j,q,l⟩
 .subst j;obtain⟨z,r,vs,c,i⟩:=qcd I.hok e;obtain⟨f,hw,d⟩:=RelO.some_of (v:=v) (o:=valueAt vs k) (by rw[l];show c.val k);show wpAny_getItem_of (qds n) i.mapOf hw (h f _ (I.tok _) d)
 .subst j;cases (show u=Value.ref b from n);obtain⟨z,r,xs,c,i⟩:=qcB I.hok e;obtain⟨f,hw,d⟩:=RelO.some_of (v:=v) (o:=(atKey xs k).map (·.2)) (by rw[l];show c.val k);obtain⟨p,t,m⟩:=yn.mp hw;show wpAny_getItem_heap (xW x) (qbw I.hok q) i t ?_;rw[m];show h f _ (I.tok _) d
theorem d_in{Q:Value->Shared->Prop}(n:A.units+1<cLine)(I:Inv X pins σ H s)(g:DGet H a y o)(j:RelV y u)(h:∀ s',Inv X pins σ H s'->Q (.bool o.isSome) s') :
  wpAny (model X.prog X.w) A (compareOp .In u (.ref a)) Q E s:=by
 rcases g with⟨kvs,k,e,f,l⟩ | ⟨kvs,k,b,e,f,m,l⟩
 .subst f;obtain⟨z,i,vs,c,d⟩:=qcd I.hok e;show wpAny_in_of (qds j) i d.mapOf ?_;rw[<- (c.val k).isSome_eq,<- l];show h _ (I.tok _)
 .subst f;cases (show u=Value.ref b from j);obtain⟨z,i,xs,c,d⟩:=qcB I.hok e;show wpAny_in_heap (xW n) (qbw I.hok m) i d ?_;have q:=(c.val k).isSome_eq;rw[Xd] at q;rw[<- q,<- l];show h _ (I.tok _)
theorem d_notIn{Q:Value->Shared->Prop}(n:A.units+1<cLine)(I:Inv X pins σ H s)(g:DGet H a y o)(j:RelV y u)(h:∀ s',Inv X pins σ H s'->Q (.bool (!o.isSome)) s') :
  wpAny (model X.prog X.w) A (compareOp .NotIn u (.ref a)) Q E s:=by
 rcases g with⟨kvs,k,e,f,l⟩ | ⟨kvs,k,b,e,f,m,l⟩
 .subst f;obtain⟨z,i,vs,c,d⟩:=qcd I.hok e;show wpAny_notIn_of (qds j) i d.mapOf ?_;rw[<- (c.val k).isSome_eq,<- l];show h _ (I.tok _)
 .subst f;cases (show u=Value.ref b from j);obtain⟨z,i,xs,c,d⟩:=qcB I.hok e;show wpAny_notIn_heap (xW n) (qbw I.hok m) i d ?_;have q:=(c.val k).isSome_eq;rw[Xd] at q;rw[<- q,<- l];show h _ (I.tok _)
theorem qdJ{ob:HO}(I:Inv X pins σ H s)(g:Mut (H a))(f:Heap.SameBut a s.heap h')(d:∃ q,h'.get? a=some q)(new:ObjOk X.prog X.w (upd H a ob) h' a ob) :
  Inv X pins σ (upd H a ob) { s with heap:=h',toks:=t' }:=
 I.write (x:=a) (e:=a) g (.inl rfl) (fun b q c z=>(f.2 b c).trans z) d new
theorem dk_new{kvs:List (Key×V)}{vs:List (Key×Value)}(z:kvs.length<=sizeLine)(d:(a==sysModules)=false)(b:KV kvs vs)(c:h'.DictOf (js P w) a vs) :
  ObjOk P w H' h' a (.dK kvs):=⟨z,d,vs,b,c⟩
theorem d_setItem{Q:Unit->Shared->Prop}(M:A.units+1<cLine)(I:Inv X pins σ H s)(g:DPut H a y v H')(C:RelV y u)(B:RelV v r)(h:∀ s',Inv X pins σ H' s'->Q () s') :
  wpAny (model X.prog X.w) A (setItem (.ref a) u r) Q E s:=by
 rcases g with⟨kvs,k,e,n,l,m⟩ | ⟨kvs,k,b,e,n,t,l,m⟩
 .subst n m;obtain⟨z,o,vs,d,j⟩:=qff I.hok e;have hz:vs.length<=sizeLine:=by rw[<- d.length];show z
  have hl:(zB kvs k v).length<=sizeLine:=by have:=jS kvs k v;lk
  show wpAny_setItem_pairs (hsz:=hz) (qds C) j fun h' f p=>h _ ?_;have L:∃ q,h'.get? a=some q:=let ⟨q,_,_,i,_⟩:=f;⟨q,i⟩;show qdJ I (by rw[e];show YF) p L (dk_new hl o (d.put k B) f)
 .subst n m;cases (show u=Value.ref b from C);obtain⟨z,o,xs,d,j⟩:=dt_of I.hok e;have hz:xs.length<=sizeLine:=by rw[<- Paired.length d];show z
  have hl:(zB kvs k v).length<=sizeLine:=by have:=jS kvs k v;lk
  show wpAny_setItem_heap (hsz:=hz) (xW M) (qbw I.hok t) j fun h' f p=>h _ ?_;obtain⟨q,D,ep,i,F,G,J,_,K⟩:=f;show qdJ I (by rw[e];show YF) p ⟨q,i⟩ ⟨hl,o,_,(d.put k t B).keeps fun c ys x=>?_,q,D,ep,i,F,G,J,K⟩;rw[qf (qat x e (fun z=>nomatch z))];show x
end
section
variable{X:Cx}{pins:List (Addr×Obj)}{σ:St}{H:Hp}{s:Shared}{a:Addr}{kvs:List (Key×V)}{k:Key}{u:Value}{A:Around}{E:Value->Shared->Prop}
theorem d_len{Q:Value->Shared->Prop}(I:Inv X pins σ H s)(e:Rd H a (.dK kvs))(h:∀ t s',Inv X pins σ H s'->Q (.int kvs.length t) s'):wpAny (model X.prog X.w) A (call (.builtin "len") [.ref a]) Q E s:=by
 obtain⟨z,d,vs,b,c⟩:=qcd I.hok e;show call_len_dict d c (by rw[<- b.length];rw[Yn] at z;lk) ?_;rw[<- b.length];show h _ _ (I.tok _)
end
theorem dict_typeIs(I:Inv X pins σ H s)(g:DGet H a y o):s.TypeIs (.ref a) "dict":=by
 rcases g with⟨kvs,k,e,_,_⟩ | ⟨kvs,k,b,e,_,_,_⟩
 .obtain⟨_,_,vs,_,c⟩:=qcd I.hok e;show c.typeIs
 .obtain⟨_,_,xs,_,c⟩:=qcB I.hok e;show c.typeIs
section
variable{X:Cx}{o i e value:Expr}{pos pos' tpos:Pos}{td ty tv:TE}
end
theorem dk_empty(h:Heap)(a:sysModules<h.objs.size):ObjOk P w H (h.push { cls:=.type "dict",data:=.dict #[] }) h.objs.size (.dK []):=
 ⟨xp _,Yo.mpr (Yb (yG a)),[],.nil,Heap.DictOf.new h⟩
def qdK:TE:=fun _ H Q=>∀ p,H p=none->Q (.ref p) (upd H p (.dK []))
section
variable{X:Cx}{pos:Pos}
theorem jg:PE X (.Dict [] [] pos) qdK:=fun pins s σ H Q I h =>
 wpAny_Dict_empty ⟨.ref s.heap.objs.size,_,I.laid (a:=s.heap.objs.size) (o:=.dK []) (t':=s.toks) (fun _ _ q=>yw _ q) (yh _) (dk_empty s.heap I.big),rfl,h _ (I.hok.fresh (yh _))⟩
end
noncomputable def mergeK(kvs more:List (Key×V)):List (Key×V):=more.foldl (fun acc a=>zB acc a.1 a.2) kvs
structure M1(X:Cx)(o:Expr)(m:Str)(apos:Pos)(e:Expr)(cpos:Pos):Prop where
 base:attributeBase o m X.env (eval o X.env)=eval o X.env
 few:((backTo cpos (starEach [e] X.env)).all (fun x=>!x.1)&&(backToKw cpos (keywordEach [] X.env)).all (fun x=>x.1.isSome)
  && decide (([e]:List Expr).length+([]:List Keyword).length+(if ([]:List Keyword).isEmpty then 0 else 1)<30))=true
 line:(apos.endLine==cpos.line)=true
 trees:backTo cpos (starEach [e] X.env)=[(false,eval e X.env)]
structure M2(X:Cx)(o:Expr)(m:Str)(apos:Pos)(e f:Expr)(cpos:Pos):Prop where
 base:attributeBase o m X.env (eval o X.env)=eval o X.env
 few:((backTo cpos (starEach [e,f] X.env)).all (fun x=>!x.1)&&(backToKw cpos (keywordEach [] X.env)).all (fun x=>x.1.isSome)
  && decide (([e,f]:List Expr).length+([]:List Keyword).length+(if ([]:List Keyword).isEmpty then 0 else 1)<30))=true
 line:(apos.endLine==cpos.line)=true
 trees:backTo cpos (starEach [e,f] X.env)=[(false,eval e X.env),(false,eval f X.env)]
def IsD(H:Hp)(a:Addr):Prop:=(∃ kvs,Rd H a (.dK kvs))\/∃ kvs,Rd H a (.dT kvs)
theorem isD_at(I:Inv X pins σ H s)(d:IsD H a) :
  s.TypeIs (.ref a) "dict"/\(∀ b,Value.ref a=.ref b->∃ ob,s.heap.get? b=some ob/\ob.dict=none)/\(a==sysModules)=false:=by
 rcases d with⟨kvs,e⟩ | ⟨kvs,e⟩
 .obtain⟨_,g,vs,_,c⟩:=qcd I.hok e;show⟨c.typeIs,fun b q=>?_,g⟩;cases q;obtain⟨ob,_,_,h1,f,_⟩:=c;show⟨ob,h1,f.2.1⟩
 .obtain⟨_,g,xs,_,c⟩:=qcB I.hok e;show⟨c.typeIs,fun b q=>?_,g⟩;cases q;obtain⟨ob,_,_,h1,f,_⟩:=c;show⟨ob,h1,f.2.1⟩
section
variable{X:Cx}{pins:List (Addr×Obj)}{σ:St}{H:Hp}{s:Shared}{a:Addr}{y d:V}{u r:Value}{o:Option V}{A:Around}{E:Value->Shared->Prop}
theorem d_get1{Q:Value->Shared->Prop}(p:A.units+1<cLine)(I:Inv X pins σ H s)(g:DGet H a y o)(j:RelV y u)(h:∀ m s',Inv X pins σ H s'->RelV (o.getD .non) m->Q m s') :
  wpAny (model X.prog X.w) A (call (.builtin "dict.get") [.ref a,u]) Q E s:=by
 rcases g with⟨kvs,k,e,f,l⟩ | ⟨kvs,k,b,e,f,n,l⟩
 .subst f;obtain⟨z,i,vs,c,d⟩:=qcd I.hok e;show call_meetsIn XC d.typeIs PySem.F.entry_dict_get (PySem.F.args_dict_get_2 _ _) (meets_dict_get (js X.prog X.w) a (qds j) i) ⟨_,d.mapOf,h _ _ (I.tok _) ?_⟩;rw[l];show(c.val k).getD rfl
 .subst f;cases (show u=Value.ref b from j);obtain⟨z,i,xs,c,d⟩:=qcB I.hok e;show call_meetsIn XC d.typeIs PySem.F.entry_dict_get (PySem.F.args_dict_get_2 _ _) (meetsH_dict_get (tupleKind (js X.prog X.w)) a b i) ⟨xW p,k,xs,qbw I.hok n,d,h _ _ (I.tok _) ?_⟩;rw[l];show(c.val k).getD rfl
end
def qen(d ty:TE):TE:=fun σ H Q=>d σ H fun x b=>∃ a,x=.ref a/\IsD b a/\ty σ b fun y c=>∃ o,DGet c a y o/\Q (o.getD .non) c
def tDGet2(e ty f:TE):TE:=fun σ H Q=>e σ H fun x b=>∃ a,x=.ref a/\IsD b a/\ty σ b fun y d=>f σ d fun z c=>∃ o,DGet c a y o/\Q (o.getD z) c
section
variable{X:Cx}{o e f:Expr}{apos cpos:Pos}{td ty tx:TE}
theorem qad(q:X.A.units+1<cLine)(p:PE X o td)(n:PE X e ty)(m:M1 X o "get" apos e cpos):PE X (.Call (.Attribute o "get" apos) [e] [] cpos) (qen td ty):=by
 intro pins s σ H Q I h;show wpAny_Call_method m.base m.few m.line PySem.F.plainAttrs_dict XC PySem.F.type_dict_get (thn (p pins s σ H _ I h) fun u z ⟨x,f,c,v,a,ex,d,r⟩=>?_);subst ex;obtain rfl:u=Value.ref a:=v;obtain⟨B,C,_⟩:=isD_at c d;show⟨B,C,?_⟩;rw[m.trees];show XA rfl (XM (ke (thn (n pins z σ f _ c r) fun D G ⟨y,i,j,w,E,g,t⟩=>ki ?_)));show d_get1 q j g w fun K J l b=>⟨_,i,l,b,t⟩
end
section
variable{X:Cx}{pins:List (Addr×Obj)}{σ:St}{H:Hp}{s:Shared}{a:Addr}{kvs:List (Key×V)}{A:Around}{E:Value->Shared->Prop}
end
section
variable{X:Cx}{pins:List (Addr×Obj)}{σ:St}{H:Hp}{s:Shared}{a:Addr}{y:V}{u:Value}{A:Around}{E:Value->Shared->Prop}
end
end L2
namespace Att
open PySem PySem.W PySem.Calls PyProof.Rows
variable{P:Params}{h:Heap}{l:OpenLaw}{n:Nat}
theorem ints_of_wellAll:∀(ns:LX) (vs:List Value),WellAll P h vs (ns.map WData.int)->IntsAre vs ns:=by
 intro ns
 induction ns with
 | nil =>
  intro vs w;rw[List.map_nil] at w;cases w;show .nil
 | cons n ns ih =>
  intro vs w;rw[Yy] at w
  cases w with
  | cons a b =>
   cases a;show .cons _ _ (ih _ b)
theorem script_of(p:l.most=some n){args:List WData}{c:List Value}
  (b:l.row.toRowW.claim.pre args=true) (j:WellAll P h c args) :
  ∃ a vs ns,c=[Value.ref a]/\args=[WData.list (ns.map WData.int)]/\h.get? a=some { cls:=.type "list",data:=.seq vs.toArray }/\IntsAre vs ns/\ns.length<=n:=by
 have i:WShape.hasAll [] args [.list .int]=true:=(pre_splitW b).1;have hc:l.pre.holds [] { args:=args }=true:=(pre_splitW b).2;obtain⟨d,r,rfl,h1,m⟩:=hasAllW_cons i;obtain rfl:=hasAllW_nil m;obtain⟨xs,rfl,o⟩:=hasW_list h1;obtain⟨ns,rfl⟩:=items_int o
 have e:ns.length<=n:=by
  unfold OpenLaw.pre at hc
  have f:(WTm.not (.lt (.lit (.int (n:Int))) (.len (.arg 0)))).holds [] { args:=[.list (ns.map .int)] }=true:=by
   have f:=(holds_andW hc).1;rw[p] at f;show f
  have g:=condW_of f (w_not (w_lt w_lit (w_len_list (w_arg rfl))));rw[ya] at g;show Nat.le_of_not_lt fun q=>?_;have s:(n:Int)<((ns.length:Nat):Int):=by lk
  first
   | (rw[yH s] at g;show absurd g (by decide))
   | (simp at g;lk)
 cases j with
 | cons w1 w2 =>
  cases w2
  cases w1 with
  | list ho hall=>show⟨_,_,ns,rfl,rfl,ho,ints_of_wellAll ns _ hall,e⟩
theorem post_true(l:OpenLaw)(args:List WData):l.row.toRowW.claim.post args (.bool true) args=true:=
 postW_of (r:=l.row.toRowW) (X:=(true==true))
  (show WShape.has [] (.bool true) .bool=true by first | rfl | decide | simp[WShape.has,WShape.arms,WShape.armsAll])
  (show(WTm.eq .res (.lit (.bool true))).value [] { args:=args,res:=some (.bool true),after:=args }=some (.bool (true==true)) from w_eq_bool (w_res rfl) w_lit) rfl
theorem attach_call{q:Program}{loose:LS}{XP:(Str->Option Value)->Heap->Prop}{YP:World->Heap->Prop}{d:DefRec}
  (M:l.most=some n) (u:d.params.defaults=[])
  (call:∀(w:World) (c b:Shared) (s y:Str->Option Value) (h:Addr) (o:Obj) (z p e:Value) (a:Addr) (vs:List Value) (ns:LX),
   Ground q loose [] XP w c s y b.heap->YP w b.heap ->
   b.heap.get? h=some o->o.data=.func (docDef d.name d.params d.body d.scope z p e)->b.heap.CodeRec p d.name->s d.name=some (.ref h) ->
   b.heap.get? a=some { cls:=.type "list",data:=.seq vs.toArray }->IntsAre vs ns->ns.length<=n->b.gens=#[] ->
   codeAny (model l.prog w) callerA (.call (.ref h) ⟨[.ref a],[]⟩) (fun r s'=>r=.ok (.ret (.bool true))/\OldK b.heap s'.heap/\s'.os=b.os/\AllBare s'.gens) b) :
  WalkO q loose XP YP l.row.toRowW d [] (fun f vs=>PySem.call f vs):=by
 intro w c b s y G Y h o z p e D kV N I t A v J args C as m B P x K;obtain rfl:D=.none:=Dflts.none A u;obtain rfl:kV=.none:=Dflts.noKw A;obtain⟨a,vs,ns,rfl,rfl,j,g,i⟩:=script_of M m x;show enter_call (xU (call w c b s y h o z p e a vs ns G Y N (fd_plain I) t v j g i J) fun r s' O=>?_);obtain⟨rfl,E,F,H⟩:=O;show⟨.inl ⟨.bool true,.bool true,[],rfl,fun _=>rfl,.bool true,post_true l _,fun _=>⟨List.Pairwise.nil,fun _ L=>(nomatch L)⟩⟩,E,F,H⟩
section
variable{prog:Program}{w:World}{A:Around}{E:Value->Shared->Prop}{s:Shared}{K:Frag}
noncomputable def ledger(h:Heap)(L d:Addr):List (Addr×Obj):=(List.range h.objs.size).filterMap fun a=>if a=L\/a=d then none else(h.get? a).map fun o=>(a,o)
end
end Att
namespace L2
open PySem PySem.Spec PyProof.Rows
variable{A B:Prop}{H H':Hp}{a f:Addr}{fd:FuncData}{n:Nat}{ps:LS}{qual x:Str}{sp:Sp}{st:Stmt}
theorem qce:∀{vs:List Value} {ns:LX},IntsAre vs ns->Vals (ns.map V.int) vs
 | _,_,.nil=>.nil
 | _,_,.cons n t h=>.cons ⟨t,rfl⟩ (qce h)
def qfM(H:Hp):Prop:=∀ b,H b=none\/∃ o xs,H b=some (.frz o (.lst xs))
theorem law_call{P:Program}{w:World}{K:yg}{E S:Str->Option Value}{CX:CXT}{k:Nat}{L:Addr}{c:Shared}{vs:List Value}{ns:LX}
  (U:K.In c.heap) (A:c.heap.Ns mainGlobals E) (f:c.heap.Ns builtinsNs S) (N:∀ x:Str,x≠"__name__"->S x=bootBuiltins x) (y:c.heap.NoLimit) (hg:c.gens=#[])
  (I:c.heap.get? a=some { cls:=.type "list",data:=.seq vs.toArray }) (Z:IntsAre vs ns) (hl:ns.length<=sizeLine) (hr:Room k callerA)
  (F:∀ base:Heap,K.In base->base.Ns mainGlobals E->FnOk P w K E base CX k L fd [x] sp) (j:∀(s:Shared) (u:Value),BindsTo s fd ⟨[u],[]⟩ [(x,u)])
  (R:∀ H:Hp,qfM H->SqL K H a (ns.map V.int)->sp [.ref a] H (fun v _=>v=.bl true) fun _ _ _=>False)
  (M:∀ H e s',CX [] H c (fun _ _ _=>False) e s'->False) :
  codeAny (model P w) callerA (.call (.ref L) ⟨[.ref a],[]⟩) (fun r s'=>r=.ok (.ret (.bool true))/\OldK c.heap s'.heap/\s'.os=c.os/\AllBare s'.gens) c:=by
 have rv:=qce Z;have D:=Z.length;have i:∀ H:Hp,qfM H->SqL K H a (ns.map V.int)->HOk P w H c.heap->(∀ b,H b≠none->b=a)->(H a≠none->K.lookup a=none) ->
   codeAny (model P w) callerA (.call (.ref L) ⟨[.ref a],[]⟩) (fun r s'=>r=.ok (.ret (.bool true))/\OldK c.heap s'.heap/\s'.os=c.os/\AllBare s'.gens) c:=by
  intro H Y hS B X hK;have base_of:∀{b:Addr} {o:Obj},c.heap.get? b=some o->H b=none->(qd8 c.heap H).get? b=some o:=fun e n=>hidT_get e n
  have T:∀{b:Addr} {o:Obj} {p:Array DictEntry} {ep:Nat},c.heap.get? b=some o->o.data=.dict p ep->H b=none:=fun{b o p ep} e d=>by
   cases q:H b with
   | none=>rfl
   | some u =>
    have J:b=a:=X b (by rw[q];simp);subst J;rw[I] at e;cases e;have d':Data.seq vs.toArray _=Data.dict p ep:=d;cases d'
  have g:∀{b:Addr} {m:Str->Option Value},c.heap.Ns b m->(qd8 c.heap H).Ns b m:=fun{b m} ⟨o,p,ep,e,d,r⟩=>⟨o,p,ep,base_of e (T e d),d,r⟩
  have t:K.In (qd8 c.heap H):=fun b o e=>base_of (U b o e) (by
   cases q:H b with
   | none=>rfl
   | some u =>
    have J:b=a:=X b (by rw[q];simp);subst J;rw[hK (by rw[q];simp)] at e;cases e)
  have hM:Mod K E (qd8 c.heap H):=⟨t,g A,⟨S,g f,N⟩,let ⟨mc,h1,h2⟩:=y;⟨mc,g h1,h2⟩⟩;have e0:Env0 P w K E (qd8 c.heap H) callerA [] c H:=⟨rfl,hM,fun b o e=>of_hidT e,xT (hidT_size _ _),trivial,fun b f=>absurd (show b∈([]:LQ) from f) (by simp),B,.of_eq hg⟩;show xU ((F _ t (g A)).run callerA [] c H ⟨[.ref a],[]⟩ [.ref a] [.ref a] _ _ hr e0 (j c (.ref a)) (.cons rfl .nil) (R H Y hS)) fun r s' h=>?_
  cases r with
  | error e=>show(M H e s' h).elim
  | ok fl =>
   cases fl with
   | next=>show False.elim h
   | brk=>show False.elim h
   | cont=>show False.elim h
   | ret u =>
    obtain⟨v,H',os,l,un,C,r',q⟩:=h;have q':v=.bl true:=q;subst q';obtain rfl:u=Value.bool true:=r';show⟨rfl,OldK.of_keep fun b o e=>?_,os,l⟩
    cases q:H b with
    | none=>show un.keep b o e q (by intro z;show absurd (show b∈([]:LQ) from z) (by simp)) (by simp)
    | some u =>
     rcases Y b with z | ⟨ob,xs,z⟩
     .rw [q] at z;cases z
     .have z2:=un.frzs b ob _ z;obtain⟨W,_⟩:=B b _ z;obtain⟨e2,_⟩:=C b _ z2;rw[e] at W;cases W;show e2
 cases O:K.lookup a with
 | some o =>
  have e:=U a o O;rw[I] at e;cases e;show i (fun _=>none) (fun _=>.inl rfl) (.inr ⟨_,vs.toArray,_,O,rfl,rfl,rfl,by rw[yy,D];show hl,by simpa using rv⟩) (fun b u z=>by have G:(none:Option HO)=some u:=z;cases G) (fun b z=>absurd rfl z) fun z=>absurd rfl z
 | none =>
  show i (fun b=>if b=a then some (.frz { cls:=.type "list",data:=.seq vs.toArray } (.lst (ns.map V.int))) else none) (fun b=>?_) (.inl (.inr ⟨{ cls:=.type "list",data:=.seq vs.toArray },yE rfl⟩)) (fun b u z=>?_) (fun b z=>?_) fun _=>O
  .by_cases f:b=a
   .show .inr ⟨_,_,yE f⟩
   .show .inl (yC f)
  .by_cases f:b=a
   .have G:=(yE f).symm.trans z;cases G;subst f;show⟨I,by rw[ya];show hl,vs,_,rv,I⟩
   .have G:=(yC f).symm.trans z;cases G
  .by_cases f:b=a
   .show f
   .show absurd (yC f) z
noncomputable abbrev KOf{K:yg}{h:Heap}(_:K.In h):yg:=K
theorem walk_of{l:PySem.W.OpenLaw}{k:Nat}{q:Program}{loose:LS}{XP:(Str->Option Value)->Heap->Prop}{YP:World->Heap->Prop}{d:DefRec}{K:Params->yg}{CX:World->CXT}{sp:World->Sp}
  (R:l.most=some n) (A:n<=sizeLine) (y:d.params.defaults=[]) (S:Room k callerA)
  (M:∀(w:World) (h:Heap),YP w h->(K w.params).In h)
  (F:∀(w:World) (j:Str->Option Value) (r:Addr) (h:Heap),(K w.params).In h->h.Ns mainGlobals j->j d.name=some (.ref r) ->
   ∃ fd:FuncData,(∀(s:Shared) (u:Value),BindsTo s fd ⟨[u],[]⟩ [(x,u)]) /\
    ∀ base:Heap,(K w.params).In base->base.Ns mainGlobals j->FnOk l.prog w (K w.params) j base (CX w) k r fd [x] (sp w))
  (B:∀(w:World) (H:Hp) (a:Addr) (ns:LX),ns.length<=n->qfM H->SqL (K w.params) H a (ns.map V.int)->sp w [.ref a] H (fun v _=>v=.bl true) fun _ _ _=>False)
  (t:∀(w:World) (H:Hp) (s:Shared) (e:Value) (s':Shared),CX w [] H s (fun _ _ _=>False) e s'->False) :
  PySem.W.WalkO q loose XP YP l.row.toRowW d [] (fun f vs=>PySem.call f vs):=by
 show Att.attach_call R y fun w D p j mb r o pm U E a vs ns G Y Z X O z m i c P=>?_;have C:=M w _ Y;obtain⟨fd,N,I⟩:=F w j r _ C G.T.g z;show law_call C G.T.g G.T.b G.T.builtins G.T.nolimit P m i (yi c A) S I N (fun H J L=>B w H a ns c J L) fun H e s'=>t w H p e s'
abbrev CX0:CXT:=fun _ _ _ _ _ _=>False
abbrev E0:XK:=fun _ _ _=>False
theorem qz{X:Cx}:zT CX0 X E0:=fun _ _ _ _ _ _ _ h=>h.elim
structure Fun(K:yg)(x qual:Str)(st:Stmt)(f:Addr)(fd:FuncData):Prop where
 ex:∃(oc:Value) (od:Option Addr) (kV doc pm:Value) (an:Option Addr) (cdv ct:Value) (osl:Array (Option Value)),
  fd=PySem.W.fnOf x qual (qax st) (zt st) (qh st) .none kV doc pm an cdv ct/\K.lookup f=some ⟨oc,od,.func fd,osl⟩/\PySem.W.codeIn K cdv qual=true
 kp:PySem.W.keepIn K (.ref f)=true
section
variable{P:Program}{w:World}{K:yg}{mg:Str->Option Value}{base:Heap}
theorem Fun.ok{N:LS}{k:Nat}(F:Fun K x qual st f fd)(S:FnScope N ps (qh st)) (c:∀(b:Value) (A:Around) (a:List Env) (s:Shared) (H:Hp) (vs:List V) (Q:VK) (E:XK),Room k (A.deeper (envOfC qual (qh st) s.heap.objs.size f b))->sp vs H Q E ->
   ∃ t,PSs (qel CX0 P w K mg base N qual (qh st) f b A a s H E).nox (zt st) t/\t { nx:=fun _ H'=>Q .non H',rt:=Q } (start N vs) H) (len:∀ vs H Q E,sp vs H Q E->vs.length=ps.length:=by intro _ _ _ _ h;cases h;subst_vars;rfl):FnOk P w K mg base CX0 (k+1) f fd ps sp:=by
 obtain⟨n,od,kV,g,o,m,b,ct,l,rfl,j,d⟩:=F.ex;show qfc j d S len fun A a s H vs Q E i e=>?_;obtain⟨t,h,q⟩:=c b A a s H vs Q E i e;show⟨t,h.nox,q⟩
theorem Fun.binds(F:Fun K x qual st f fd)
  (h:∀(kV b d:Value) (c:Option Addr) (a ct:Value) (us:List Value),us.length=ps.length->bindArgs (PySem.W.fnOf x qual (qax st) (zt st) (qh st) .none kV b d c a ct) ⟨us,[]⟩=pure (ps.zip us)):Binds K fd ps []:=by
 obtain⟨j,od,kV,b,d,c,a,ct,g,rfl,i,e⟩:=F.ex;show .all (h kV b d c a ct)
theorem fun_mk{h:Value}{od e:Option Addr}{d:Array (Option Value)}{kV b g a ct:Value}(l:K.lookup f=some ⟨h,od,.func (PySem.W.fnOf x qual (qax st) (zt st) (qh st) .none kV b g e a ct),d⟩)
  (c:PySem.W.codeIn K a qual=true) (k:PySem.W.keepIn K (.ref f)=true):Fun K x qual st f (PySem.W.fnOf x qual (qax st) (zt st) (qh st) .none kV b g e a ct):=⟨⟨h,od,kV,b,g,e,a,ct,d,rfl,l,c⟩,k⟩
end
theorem qi(h:n<=1000):n<sizeLine:=Ys h (by decide)
section
variable{X:Cx}
theorem pv(i:Nat){b:Pos}(c:X.N[i]?=some x:=by rfl)(hv:Vis X.env.scope x:=by first | show yJ rfl | show kg (yJ rfl) | show kg (kg rfl))(d:(x==("__debug__":Str))=false:=by decide)
  (a:(x==("__classdict__":Str))=false:=by decide):PE X (.Name x b) (qfI i):=pe_var c hv d a
theorem call_lenD:zN X (.builtin "len") (fun xs H Q=>∃ a kvs,xs=[V.ref a]/\H a=some (.dK kvs)/\Q (.int kvs.length) H):=by
 intro b s f H xs us Q I r h;obtain⟨a,kvs,rfl,d,q⟩:=h;obtain⟨u,rfl,e⟩:=qbt r;cases e;show d_len I (.inl d) fun t s' c=>⟨.int kvs.length,H,c,⟨t,rfl⟩,q⟩
end
theorem zg(h:A):if true=true then A else B:=by
 rw[yE rfl];show h
theorem qG{c:Prop}[Decidable c](h1:c->A)(a:¬ c->B):if c then A else B:=by
 by_cases h:c
 .rw [yE h];show h1 h
 .rw [yC h];show a h
def Same(H H':Hp):Prop:=∀ b o,H b=some o->H' b=some o
theorem Same.refl(H:Hp):Same H H:=fun _ _ h=>h
theorem Same.trans{d e:Hp}(a:Same H d)(b:Same d e):Same H e:=fun c o h=>b c o (a c o h)
theorem Same.free(e:Same H H'){l:Addr}(h:H' l=Option.none):H l=Option.none:=by
 cases q:H l with
 | none=>rfl
 | some o =>
  rw[e l o q] at h;cases h
theorem Same.seq{K:yg}{xs:List V}(e:Same H H')(h:SqL K H a xs):SqL K H' a xs:=by
 rcases h with(h | ⟨o,h⟩) | h
 .show .inl (.inl (e _ _ h))
 .show .inl (.inr ⟨o,e _ _ h⟩)
 .show .inr h
section
variable{κ:Type}[DecidableEq κ]
end
end L2
set_option maxHeartbeats 4000000
namespace L2
open PySem PySem.Spec PyProof.Rows
variable{A:Around}{C D a a0 c e f it p:Addr}{E:Value->Shared->Prop}{H H':Hp}{M:Model}{N ps:LS}{P prog:Program}{QO:Option Int->Hp->Prop}{R:It->Hp->Prop}{T:String}{X:Cx}{acc:List (Str×Addr)}{b expr:Bool}{dx:Option Addr}{elt iter tg:Expr}{env:Env}{fd:FuncData}{fl t u:Value}{fp zs:LQ}{g:TG}{h h':Heap}{i j:Int}{ifs:List Expr}{its l us:List Value}{ixs:LN}{n nl:Nat}{od:Option Obj}{ox:Obj}{pins:List (Addr×Obj)}{pos:Pos}{qual x z:Str}{s:Shared}{sc scope:Scope}{sp:Sp}{tc:TT}{te:TE}{tk:Tok}{v y:V}{vs xs ys:List V}{w:World}{wi:TI}{α:Type}{σ:St}
section
variable{prog:Program}{w:World}{A:Around}{R:Result->Shared->Prop}{s:Shared}
theorem compLoop_own{a:Expr}{it acc:Value}(I:Nat->Shared->Prop)
  (turn:∀ n s,I n s->wpAny (model prog w) A (pyNext it) (fun r e=>match r with
   | none=>R (.ok .next) e
   | some v=>wpAny (model prog w) A (letOwnedTupleGo a it v) (fun _ b=>wpAny (model prog w) A (assign a env v) (fun _ i =>
     wpAny (model prog w) A (forIn ifs true fun c r=>if r=true then do let ok <- isTrue c env (eval c env);pure (ForInStep.yield ok) else pure (ForInStep.yield r)) (fun ok f =>
      if ok=true then wpAny (model prog w) A (eval elt env) (fun x j =>
       wpAny (model prog w) A (call (.builtin "list.append") [acc,x]) (fun _ l=>∃ m,m<n/\I m l) (fun _ _=>False) j) (fun _ _=>False) f
      else ∃ m,m<n/\I m f) (fun _ _=>False) i) (fun _ _=>False) b) (fun _ _=>False) e) (fun _ _=>False) s)
  (n:Nat) (h:I n s) :
  codeAny (model prog w) A (.compLoop (.ListComp elt [⟨a,iter,ifs,0⟩] scope pos) 0 it acc env) R s:=by
 show codeAny_loop rfl I (fun n s t=>?_) n h;show wpAny _ A ((compTurn (.ListComp elt [⟨a,iter,ifs,0⟩] scope pos) 0 it acc env).onRaise (fun x=>do noteFrame x env;theTreesLotGoes x)) _ _ s;show wpAny_noted ?_;rw[compTurn_list];show yr (Xo (yr (YA (turn n s t) (fun r e h1=>?_) fun _ _ h'=>h'.elim)))
 cases r with
 | none=>show yu h1
 | some v =>
  show yr (YA h1 (fun _ b d=>?_) fun _ _ h'=>h'.elim);show yr (YA d (fun _ i o=>yr (YA o (fun ok f g=>?_) fun _ _ h'=>h'.elim)) fun _ _ h'=>h'.elim)
  cases ok with
  | false=>show yu ⟨rfl,g⟩
  | true =>
   show yr (yr (YA g (fun x j p=>yr (YA p (fun _ l q=>yu (yu ⟨rfl,q⟩)) fun _ _ h'=>h'.elim)) fun _ _ h'=>h'.elim))
end
noncomputable def qM(env:Env):List (Str×NameKind)->List (Str×Addr)->List (Str×Addr)
 | [],acc=>acc
 | (n,k)::r,acc=>qM env r (if (k==.free)=true then(n,(env.cells.lookup n).getD 0)::acc else acc)
theorem zC:∀{names:List (Str×NameKind)} {acc:List (Str×Addr)} {x:Str} {c:Addr},(qM env names acc).lookup x=some c ->
  ((x,NameKind.free)∈names/\c=(env.cells.lookup x).getD 0)\/acc.lookup x=some c
 | [],_,_,_,h=>.inr h
 | (n,k)::r,acc,x,c,h=>by
  unfold qM at h;rcases zC h with⟨h1,f⟩ | h1
  .show .inl ⟨yI _ h1,f⟩
  .by_cases a:(k==NameKind.free)=true
   .rw [yE a,xL] at h1
    cases b:x==n with
    | true =>
     rw[b] at h1;have e:x=n:=Ye.mp b;have d:k=.free:=Ye.mp a;subst e d;show .inl ⟨yO,(ym h1).symm⟩
    | false =>
     rw[b] at h1;show .inr h1
   .rw [yC a] at h1;show .inr h1
theorem qaD:∀{names:List (Str×NameKind)} {acc:List (Str×Addr)} {x:Str},(∃ c,acc.lookup x=some c)->∃ c,(qM env names acc).lookup x=some c
 | [],_,_,h=>h
 | (n,k)::r,acc,x,h=>by
  unfold qM;apply qaD;by_cases a:(k==NameKind.free)=true
  .rw [yE a,xL]
   cases b:x==n with
   | true=>show⟨_,rfl⟩
   | false=>show h
  .rw [yC a];show h
theorem zD:∀{names:List (Str×NameKind)} {acc:List (Str×Addr)} {x:Str},(x,NameKind.free)∈names->∃ c,(qM env names acc).lookup x=some c
 | [],_,_,h=>by cases h
 | (n,k)::r,acc,x,h=>by
  unfold qM;rcases yv.mp h with e | e
  .cases e;apply qaD;rw[show(NameKind.free==NameKind.free)=true from rfl,yE rfl,xL,Y6];show⟨_,rfl⟩
  .show zD e
theorem qaE(h:∀ n,(n,NameKind.free)∈scope.names->∃ c,env.cells.lookup n=some c):closureFor scope env=pure (qM env scope.names []):=by
 have f:∀(names:List (Str×NameKind)) (acc:List (Str×Addr)),(∀ n,(n,NameKind.free)∈names->∃ c,env.cells.lookup n=some c) ->
   (forIn names acc (fun(x:Str×NameKind) (r:List (Str×Addr))=>(if (x.2==NameKind.free)=true then(cellOf env x.1>>=fun c=>pure (ForInStep.yield ((x.1,c)::r))) else pure (ForInStep.yield r):Sem (ForInStep (List (Str×Addr))))))=(pure (qM env names acc):Sem (List (Str×Addr))):=by
  intro names
  induction names with
  | nil=>intro acc _;rfl
  | cons x r ih =>
   intro acc d;obtain⟨n,k⟩:=x;rw[kP];unfold qM;by_cases a:(k==NameKind.free)=true
   .have g:k=.free:=Ye.mp a;subst g;obtain⟨c,hc⟩:=d n yO;have i:cellOf env n=pure c:=by unfold cellOf;rw[hc]
    simp only[a,Xf,i,hc,Option.getD_some];show ih _ fun m b=>d m (yI _ b)
   .simp only[a,Xy];show ih _ fun m b=>d m (yI _ b)
 have e:=f scope.names [] h;unfold closureFor;show Eq.trans (congrArg (fun m=>m>>=pure) e) rfl
@[reducible] noncomputable def Cx.comp(X:Cx)(N:LS)(scope:Scope)(C:Addr)(s0:Shared)(H0:Hp)(ex:LQ):Cx where
 prog:=X.prog
 w:=X.w
 K:=X.K
 mg:=X.mg
 base:=X.base
 A:=X.A
 N:=N
 s₀:=s0
 H₀:=H0
 env:=compEnvC scope (cellsFrom (C+1) scope.names (qM X.env scope.names [])) C X.env
 outer:=X.stack
 stack:=X.stack
 ex:=ex
 fn:=fun x=>scope.names.lookup x==some NameKind.cell
 calm:=X.calm
 pn:=[]
 xe:=fun _ _=>False
theorem jv:∀(names:List (Str×NameKind)) (n:Nat) (acc:List (Str×Addr)),cellsFrom n names acc=cellsFrom n names []++acc
 | [],_,_=>rfl
 | (m,k)::r,n,acc=>by
  unfold cellsFrom;split
  .rw [jv r (n+1) ((m,n)::acc),jv r (n+1) [(m,n)],yZ];rfl
  .show jv r n acc
theorem qaF:∀{names:List (Str×NameKind)} {n:Nat} {x:Str},(x,NameKind.cell)∈names->∃ c,(cellsFrom n names []).lookup x=some c
 | (m,k)::r,n,x,h=>by
  unfold cellsFrom;rcases yv.mp h with e | e
  .cases e;rw[yE (show(NameKind.cell==NameKind.cell)=true from rfl),jv,xu]
   cases q:(cellsFrom (n+1) r []).lookup m with
   | some c=>show⟨c,rfl⟩
   | none=>show⟨n,by show List.lookup m [(m,n)]=some n;rw[xL,Y6]⟩
  .split
   .rw [jv,xu];obtain⟨c,hc⟩:=qaF (n:=n+1) e;show⟨c,by rw[hc];rfl⟩
   .show qaF e
theorem qbf:∀{names:List (Str×NameKind)} {n:Nat} {x:Str} {c:Addr},(x,c)∈cellsFrom n names []->(x,NameKind.cell)∈names
 | (m,k)::r,n,x,c,h=>by
  unfold cellsFrom at h;split at h
  .rename_i hk
   rw[jv] at h;rcases yA.mp h with z | z
   .show yI _ (qbf z)
   .have e:(x,c)=(m,n):=yx.mp z;cases e;rw[Ye.mp hk];show yO
  .show yI _ (qbf h)
theorem qbg{names:List (Str×NameKind)}(h:(cellsFrom n names acc).lookup x=some c):(x,c)∈cellsFrom n names []\/acc.lookup x=some c:=by
 rw[jv,xu] at h
 cases e:(cellsFrom n names []).lookup x with
 | some d=>rw[e] at h;cases h;show .inl (mem_of_lookup e)
 | none=>rw[e] at h;show .inr h
theorem cells_some{names:List (Str×NameKind)}(h:(x,NameKind.cell)∈names\/∃ c,acc.lookup x=some c):∃ c,(cellsFrom n names acc).lookup x=some c:=by
 rw[jv,xu]
 cases e:(cellsFrom n names []).lookup x with
 | some d=>show⟨d,rfl⟩
 | none =>
  rcases h with z | ⟨c,hc⟩
  .obtain⟨d,a⟩:=qaF (n:=n) z;rw[e] at a;cases a
  .show⟨c,hc⟩
section
variable{M:Model}{A:Around}{E:Value->Shared->Prop}{s:Shared}
theorem newEnvK{c:Addr}{b:List (Str×Addr)}{f:Option Addr}{e:Value}{d:Env}{a:Addr}{Q:Env->Shared->Prop}
  (i:Q (newEnv scope s.heap.objs.size c (cellsFrom (s.heap.objs.size+1) scope.names b) qual f e (some d) a) { s with heap:=pushCells (s.heap.push { cls:=.type "dict",data:=.dict #[] }) scope.names }) :
  wpAny M A (newFunctionEnv scope c b [] qual f e (some d) a) Q E s:=by
 simp only[newFunctionEnv,Option.isSome_some,Xf];show yr (wpAny_alloc ?_);show yr (wpAny_layCells _ (fun name kind g=>by cases h:kind==NameKind.cell<;>simp[h]) _ _ _ _ ?_);rw[show({ s with heap:=s.heap.push { cls:=.type "dict",data:=.dict #[] } }:Shared).heap.objs.size=s.heap.objs.size+1 from YL ..];rw[kU];show yr (yu (yu i))
end
structure CompOk(sc scope:Scope):Prop where
 kind:scope.kind=.function
 cel:∀ y∈scope.names,y.2=.cell->scope.names.lookup y.1=some .cell
 loc:∀ y∈scope.names,y.2=.local->scope.names.lookup y.1=some .local
 free:∀ y∈scope.names,y.2=.free->sc.names.lookup y.1=some .cell\/sc.names.lookup y.1=some .free
 once:∀ y∈scope.names,y.2=.free->scope.names.lookup y.1=some .free
noncomputable def qd9(sc scope:Scope):Bool:=decide (scope.kind=.function)&&scope.names.all fun y=>match y.2 with
 | .local=>scope.names.lookup y.1==some .local
 | .free=>(sc.names.lookup y.1==some .cell||sc.names.lookup y.1==some .free)&&scope.names.lookup y.1==some .free
 | .cell=>scope.names.lookup y.1==some .cell
 | _=>true
theorem qc3(h:qd9 sc scope=true):CompOk sc scope:=by
 unfold qd9 at h;rw[Yc] at h;have b:=YR.mp h.2;show⟨yk h.1,fun y a e=>?_,fun y a e=>?_,fun y a e=>?_,fun y a e=>?_⟩
 .have:=b y a;rw[e] at this;show Ye.mp this
 .have:=b y a;rw[e] at this;show Ye.mp this
 .have:=b y a;rw[e,Yc,Bool.or_eq_true] at this;show this.1.imp Ye.mp Ye.mp
 .have:=b y a;rw[e,Yc] at this;show Ye.mp this.2
noncomputable def qfN(nl:Nat)(ixs:LN)(N XN:LS)(names:List (Str×NameKind)):Bool:=(List.range ixs.length).all fun k=>match ixs[k]?,N[nl+k]? with
 | some j,some x=>XN[j]?==some x&&names.any fun y=>y.1==x&&y.2==.free
 | _,_=>true
theorem qdL{XN:LS}{names:List (Str×NameKind)}(h:qfN nl ixs N XN names=true)(k j:Nat)(x:Str)(h1:ixs[k]?=some j)(c:N[nl+k]?=some x):XN[j]?=some x/\(x,NameKind.free)∈names:=by
 have d:k<ixs.length:=(yc.mp h1).1;have:=YR.mp h k (xI.mpr d);rw[h1,c] at this;simp only[Yc] at this;show⟨Ye.mp this.1,?_⟩;obtain⟨⟨n,g⟩,f,e⟩:=YB.mp this.2;rw[Yc] at e;have a:n=x:=Ye.mp e.1;have b:g=.free:=Ye.mp e.2;subst a b;show f
noncomputable def qdx(nl:Nat)(ixs:LN)(σ:St):St:=List.replicate nl none++ixs.map fun j=>(σ[j]?).getD none
theorem capS_len(nl:Nat)(ixs:LN)(σ:St):(qdx nl ixs σ).length=nl+ixs.length:=by
 unfold qdx;rw[yt,YK,ya]
theorem qc4{i:Nat}(h:(qdx nl ixs σ)[i]?=some (some v)):nl<=i/\∃ j,ixs[i-nl]?=some j/\σ[j]?=some (some v):=by
 unfold qdx at h;by_cases a:i<nl
 .rw [yQ (by rw[YK];show a),Xu] at h;split at h<;>cases h
 .rw [yB (by rw[YK];lk),YK,yd] at h;show⟨by lk,?_⟩
  cases e:ixs[i-nl]? with
  | none=>rw[e] at h;cases h
  | some j =>
   rw[e] at h;have h':(σ[j]?).getD none=some v:=ym h
   cases q:σ[j]? with
   | none=>rw[q] at h';cases h'
   | some u =>
    rw[q] at h';show⟨j,rfl,by rw[q];show congrArg some h'⟩
noncomputable def qea(env:Env)(y:Str×NameKind):Str×NameKind:=if (y.2==NameKind.free&&env.scope.kind==.function&&env.kindOf y.1==some .cell)=true then(y.1,NameKind.cell) else(y.1,y.2)
theorem relF_fst(env:Env)(y:Str×NameKind):(qea env y).1=y.1:=by unfold qea;split<;>rfl
theorem relF_snd(env:Env)(y:Str×NameKind):(qea env y).2=y.2\/((qea env y).2=.cell/\y.2=.free):=by
 unfold qea;split
 .rename_i h
  rw[Yc,Yc] at h;show .inr ⟨rfl,Ye.mp h.1.1⟩
 .show .inl rfl
theorem zi:∀{names:List (Str×NameKind)} {x:Str} {k:NameKind},(names.map (qea env)).lookup x=some k->∃ b,names.lookup x=some b/\(x,b)∈names/\(k=b\/(k=.cell/\b=.free))
 | [],_,_,h=>by cases h
 | (n,k1)::r,x,k,h=>by
  rw[Yy,show qea env (n,k1)=((qea env (n,k1)).1,(qea env (n,k1)).2) from rfl,xL,relF_fst] at h;rw[xL]
  cases c:x==n with
  | true =>
   have e:x=n:=Ye.mp c;subst e;have a:(x==(x,k1).1)=true:=c;rw[a] at h;have h':=ym h;show⟨k1,rfl,yO,?_⟩;rcases relF_snd env (x,k1) with z | ⟨z1,z2⟩
   .show .inl (h'.symm.trans z)
   .show .inr ⟨h'.symm.trans z1,z2⟩
  | false =>
   have a:(x==(n,k1).1)=false:=c;rw[a] at h;obtain⟨b,d,f,g⟩:=zi h;show⟨b,d,yI _ f,g⟩
section
variable{X:Cx}{pins:List (Addr×Obj)}{σ:St}{H:Hp}{s:Shared}
theorem comp_free_of{b:List (Str×Addr)}(h:(compEnvC scope b C X.env).kindOf x=some .cell\/(compEnvC scope b C X.env).kindOf x=some .free):(x,NameKind.cell)∈scope.names\/(x,NameKind.free)∈scope.names:=by
 rcases h with h | h
 .obtain⟨c,_,a,e | ⟨_,e⟩⟩:=zi (env:=X.env) (names:=scope.names) h
  .rw [<- e] at a;show .inl a
  .rw [e] at a;show .inr a
 .obtain⟨c,_,a,e | ⟨e,_⟩⟩:=zi (env:=X.env) (names:=scope.names) h
  .rw [<- e] at a;show .inr a
  .cases e
theorem Inv.comp{ob:Obj}{h1:Heap}{tk:Nat}(I:Inv X pins σ H s)(O:CompOk X.env.scope scope)
  (hN:N.length=nl+ixs.length) (J:∀(k j:Nat) (x:Str),ixs[k]?=some j->N[nl+k]?=some x->X.N[j]?=some x/\(x,NameKind.free)∈scope.names)
  (R:∀ b∈fp,qcx X pins H b) (K:∀ b∈fp,b<s.heap.objs.size) (M:s.heap.objs.size<=C) (U:s.heap.objs.size<=D) (W:D≠C) (ab:h1.Ns C fun _=>none) (k:∀ b o,s.heap.get? b=some o->h1.get? b=some o)
  (ac:h1.get? D=some ob) (Z:∀ v,ob.data≠.cell v) (E:CellsOk h1 (C+1) (cellsFrom (C+1) scope.names [])):Inv (X.comp N scope C s H fp) [(D,ob)] (qdx nl ixs σ) H { s with heap:=h1,toks:=tk }:=by
 have a:∀ x c,(qM X.env scope.names []).lookup x=some c->X.env.cells.lookup x=some c/\(x,NameKind.free)∈scope.names:=fun x c h=>by
  rcases zC h with⟨h1,L⟩ | h1
  .obtain⟨G,l⟩:=I.ok.has x (by
    rcases O.free _ h1 rfl with z | z
    .show .inl z
    .show .inr z)
   rw[l] at L;show⟨by rw[l,L];rfl,h1⟩
  .cases h1
 have big:∀ c:Addr,C+1<=c->s.heap.objs.size<=c:=fun c h=>yi M (Nat.le_of_succ_le h);have no:∀{P:Prop} {c:Addr},C+1<=c->c<s.heap.objs.size->P:=fun h g=>absurd (yj g (big _ h)) (Yp _)
 have all:∀ x c,(cellsFrom (C+1) scope.names (qM X.env scope.names [])).lookup x=some c->((x,c)∈cellsFrom (C+1) scope.names []/\C+1<=c/\h1.IsCell c none)\/(X.env.cells.lookup x=some c/\c<s.heap.objs.size):=fun x c h=>by
  rcases qbg h with z | z
  .show .inl ⟨z,(E.empty _ _ z).2,(E.empty _ _ z).1⟩
  .obtain⟨_,q⟩:=I.cell x c (a x c z).1;show .inr ⟨(a x c z).1,q.lt⟩
 show⟨⟨I.ok.mod,O.kind,I.ok.glob,I.ok.blt,M,fun x y c h1 L=>?inj,fun x hx=>cells_some ((comp_free_of hx).imp id zD),fun x c z h=>?cab,I.ok.hd,I.ok.frames,.inl rfl,
   fun b w=>⟨yG (yj (K b w) M),fun x c e=>?exf⟩,I.bs,yi I.ok.bsz I.sz,fun b o e w=>?_,fun b w z=>?_,I.stack,I.stkFree⟩,
  rfl,I.bare,Un.kept k,⟨_,ab,fun i x v e1 e2 e3=>?_⟩,fun x c e=>?_,I.hok.fresh M,fun x c e=>?fre,fun p hp=>?_,I.hok.kept k,?_⟩
 case inj =>
  rcases all x c h1 with⟨r,f,_⟩ | ⟨r,f⟩<;>rcases all y c L with⟨S,T,_⟩ | ⟨S,T⟩
  .show name_of_addr E.apart r S
  .show no f T
  .show no T f
  .show I.ok.inj x y c r S
 case cab =>
  rcases all x c h with⟨_,f,_⟩ | ⟨r,f⟩
  .show big _ f
  .exfalso;obtain⟨d,F⟩:=qaF (n:=C+1) (mem_of_lookup (Ye.mp z));have h:(cellsFrom (C+1) scope.names (qM X.env scope.names [])).lookup x=some c:=h;rw[jv,xu,F] at h;cases h;show no (E.empty _ _ (mem_of_lookup F)).2 f
 case exf =>
  rcases all x c e with⟨_,f,_⟩ | ⟨r,_⟩
  .show fun z=>no f (by rw[z];show K b w)
  .show(R b w).2.2.2.2.1 x c r
 case fre =>
  rcases all x c e with⟨_,f,_⟩ | ⟨r,_⟩
  .show I.hok.fresh (big _ f)
  .show I.freeC x c r
 .rcases(R b w).2.2.2.1 with z | z
  .show I.ok.noex b o e z
  .have:=(I.ok.bs b o e).1;show absurd (yj (yF this) z) (Yp _)
 .rcases yv.mp (I.stkSub b z) with e | e
  .show(R b w).2.1 e
  .show(R b w).2.2.1 e
 .obtain⟨hi,j,hj,hv⟩:=qc4 e2;obtain⟨hx,t⟩:=J (i-nl) j x hj (by rw[Nat.add_sub_cancel' hi];show e1);obtain⟨m,hn,hl⟩:=I.loc;have E:=O.free _ t rfl
  obtain⟨u,ru,lk⟩:=hl j x v hx hv (by
   rcases E with z | z
   .show .inr (.inl z)
   .show .inr (.inr z))
  show⟨u,ru,?_⟩;rcases lk with⟨aa,_⟩ | ⟨_,c,hc,B⟩
  .have A:X.env.scope.names.lookup x=some .local:=aa;rcases E with z | z<;>· rw[z] at A;cases A
  .obtain⟨G,l⟩:=zD (env:=X.env) (acc:=[]) t
   have e:G=c:=by
    have:=(a x G l).1;rw[hc] at this;show(ym this).symm
   subst e
   have Y:(cellsFrom (C+1) scope.names (qM X.env scope.names [])).lookup x=some G:=by
    rw[jv,xu]
    cases q:(cellsFrom (C+1) scope.names []).lookup x with
    | none=>show l
    | some d=>have:=O.cel _ (qbf (mem_of_lookup q)) rfl;rw[O.once _ t rfl] at this;cases this
   show .inr ⟨?_,G,Y,?_⟩
   .rcases e3 with z | z | z
    .obtain⟨k0,z3,_,e | ⟨e,_⟩⟩:=zi (env:=X.env) (names:=scope.names) z
     .rw [O.once _ t rfl] at z3;cases z3;cases e
     .cases e
    .show .inl z
    .show .inr z
   .obtain⟨o,ho,F⟩:=B;show⟨o,k _ _ ho,F⟩
 .rcases all x c e with⟨_,_,a3⟩ | ⟨r,_⟩
  .show⟨none,a3⟩
  .obtain⟨v,o,ho,F⟩:=I.cell x c r;show⟨v,o,k _ _ ho,F⟩
 .have e:p=(D,ob):=by simpa using hp
  subst e;show⟨ac,I.hok.fresh U,W,fun z=>?_,Z⟩;rcases yv.mp (I.stkSub D z) with e | e
  .show absurd (show X.env.locals<D from yj I.lt U) (by rw[e];show Yp _)
  .show I.nofs U e
 .show(qdx nl ixs σ).length=N.length;rw[capS_len,hN]
theorem Inv.compBack{s':Shared}{i:St}(I:Inv X pins σ H s)(g:∀ b∈fp,qcx X pins H b)(r:s.heap.objs.size<=C)(j:s.heap.objs.size<=D)
  (J:Inv (X.comp N scope C s H fp) [(D,{ cls:=.type "list",data:=.seq its.toArray n })] i H' s') (hv:Vals ys its) (hz:ys.length<=sizeLine):Inv X pins σ (upd H' D (.lst ys)) s':=by
 obtain⟨p,f,m,_,_⟩:=J.pin (D,{ cls:=.type "list",data:=.seq its.toArray n }) (yL _ (yx.mpr rfl));have h:∀ b o,s.heap.get? b=some o->b≠D:=fun b o e=>yG (yj (yF e) j);have a:=J.base;show I.call' (ch:=fp) J.os ⟨a.keep,a.slot,fun b o e n l=>?_,a.there,fun b xs e=>?_,fun b o u e=>?_,fun b ps e=>?_⟩ (fun b u e=>?_) J.bare fun b d=>⟨(g b d).2.2.2.1,(g b d).2.1,(g b d).2.2.2.2.1,(g b d).2.2.2.2.2⟩
 .rw [qf (h b o e)];show a.free b o e n l
 .have q:=a.tups b xs e;rw[qf (qB q f)];show q
 .have q:=a.frzs b o u e;rw[qf (qB q f)];show q
 .obtain⟨more,q⟩:=a.tbls b ps e;show⟨more,by rw[qf (qB q f)];show q⟩
 .by_cases d:b=D
  .subst d;rw[qb] at e;cases e;show⟨hz,its,n,hv,p⟩
  .rw [qf d] at e;show(J.hok b u e).stay (fun c v _ q=>q) (fun c q=>by rw[qf (qB q f)];show q) fun c xs q=>by rw[qf (qB q f)];show q
end
def qf1:TT:=fun _ H Q=>Q true H
def qeR(wi:TI)(g:TG)(tc:TT)(te:TE)(nl:Nat)(ixs:LN):TE:=fun σ H Q=>wi σ H fun J e =>
 ∃ W:Nat->Nat->List V->Hp->Prop,(∃ m,W 0 m [] e)/\∀ i m ys H,W i m ys H ->
  (J.stop i H/\ys.length<=sizeLine/\∀ p,H p=none->Q (.ref p) (upd H p (.lst ys))) \/
  (J.go i H/\∃ M:List V->Hp->Prop,(∀ ys' H',M ys' H'->∃ d,d<m/\W (i+1) d ys' H')/\∀ x H',J.yld i H x H'->g x (qdx nl ixs σ) H' fun a f=>tc a f fun b c =>
   if b=true then te a c fun v h=>ys.length<sizeLine/\M (ys++[v]) h else M ys c)
def qdM(nl:Nat)(g:TG):Prop:=∀ x σ H Q,g x σ H Q->g x σ H fun a b=>Q a b/\a.length=σ.length/\∀ i,nl<=i->a[i]?=σ[i]?
theorem jB{i:Nat}(h:i<nl:=by decide):qdM nl (qbI i):=fun x σ H Q q=>⟨q,XS ..,fun j a=>Y9 (by lk)⟩
def qfg(X:Cx)(ifs:List Expr)(tc:TT):Prop:=
 ∀(pins:List (Addr×Obj)) (s:Shared) (σ:St) (H:Hp) (Q:Bool->Hp->Prop),Inv X pins σ H s->tc σ H Q ->
  wpAny (model X.prog X.w) X.A (forIn ifs true fun c r=>if r=true then do let ok <- isTrue c X.env (eval c X.env);pure (ForInStep.yield ok) else pure (ForInStep.yield r)) (TP X pins σ Q) X.xe s
theorem zj:qfg X [] qf1:=fun pins s σ H Q I h=>wpAny_tests_nil ⟨H,I,h⟩
theorem zk{c:Expr}(h:PT X c tc):qfg X [c] tc:=fun pins s σ H Q I q=>wpAny_tests_one (h pins s σ H Q I q)
section
variable{X:Cx}{pins:List (Addr×Obj)}{σ:St}{H:Hp}{s:Shared}
theorem qbx{tn:Nat->Heap->Prop}{J:It}{Q:V->Hp->Prop}
  {RR:Value->Addr->Result->Shared->Prop} (I:Inv X pins σ H s) (hc:X.calm=true) (O:CompOk X.env.scope scope)
  (hN:N.length=nl+ixs.length) (ai:∀(k j:Nat) (x:Str),ixs[k]?=some j->N[nl+k]?=some x->X.N[j]?=some x/\(x,NameKind.free)∈scope.names)
  (T:Turn X.prog X.w X.K tg J fp it tn) (st:tn 0 s.heap) (hf:∀ b∈fp,qcx X pins H b)
  (hg:∀ C s0 H0 ex,PG (X.comp N scope C s0 H0 ex) tg g) (gk:qdM nl g) (hi:∀ C s0 H0 ex,qfg (X.comp N scope C s0 H0 ex) ifs tc) (he:∀ C s0 H0 ex,PE (X.comp N scope C s0 H0 ex) elt te)
  (h:∃ W:Nat->Nat->List V->Hp->Prop,(∃ m,W 0 m [] H)/\∀ i m ys H,W i m ys H ->
   (J.stop i H/\ys.length<=sizeLine/\∀ p,H p=none->Q (.ref p) (upd H p (.lst ys))) \/
   (J.go i H/\∃ M:List V->Hp->Prop,(∀ ys' H',M ys' H'->∃ m',m'<m/\W (i+1) m' ys' H')/\∀ x H',J.yld i H x H'->g x (qdx nl ixs σ) H' fun ao a=>tc ao a fun b H3 =>
    if b=true then te ao H3 fun v H4=>ys.length<sizeLine/\M (ys++[v]) H4 else M ys H3))
  (av:∀(D C:Addr) (s':Shared) (H':Hp) (R:St) (ys:List V) (its:List Value) (n:Nat),s.heap.objs.size<=C->s.heap.objs.size<=D->Inv (X.comp N scope C s H fp) [(D,{ cls:=.type "list",data:=.seq its.toArray n })] R H' s'->Vals ys its->ys.length<=sizeLine ->
   (∀ p,H' p=none->Q (.ref p) (upd H' p (.lst ys)))->RR (.ref D) C (.ok .next) s') :
  wpAny (model X.prog X.w) X.A (newList []) (fun acc s3=>wpAny (model X.prog X.w) X.A (newFunctionEnv scope X.env.globals (qM X.env scope.names []) [] X.env.qual none .none (some X.env)) (fun U s4 =>
   codeAny (model X.prog X.w) X.A (.compStart (.ListComp elt [⟨tg,iter,ifs,0⟩] scope pos) 0 (.ref it) acc { U with scope:=relabel scope X.env }) (RR acc U.locals) s4) E s3) E s:=by
 obtain⟨W,⟨m0,w0⟩,turn⟩:=h;show YC (newEnvK ?_);dsimp only;generalize ab:s.heap.push { cls:=.type "list",dict:=none,data:=.seq ([]:List Value).toArray }=a;have Z:(pushCells (a.push { cls:=.type "dict",data:=.dict #[] }) scope.names).Ns a.objs.size fun _=>none:=(Heap.Ns.new a (.type "dict")).keeps (pushCells_keeps _ _);have F:=cellsFrom_ok scope.names (a.push { cls:=.type "dict",data:=.dict #[] }) (a.objs.size+1) [] ⟨fun _ _ hm=>(nomatch hm),List.Pairwise.nil⟩ (by rw[YL];show yh _);rw[YL] at F;have ac:∀ b o,a.get? b=some o->(pushCells (a.push { cls:=.type "dict",data:=.dict #[] }) scope.names).get? b=some o:=fun b o e=>pushCells_keeps _ _ b o (yw _ e);generalize pushCells (a.push { cls:=.type "dict",data:=.dict #[] }) scope.names=h1 at Z F ac ⊢;have hC:a.objs.size=s.heap.objs.size+1:=by rw[<- ab,YL]
 have au:s.heap.objs.size≠a.objs.size:=by rw[hC];show yG (xK _)
 have Y:s.heap.objs.size<=a.objs.size:=by rw[hC];show xR _
 have l:∀ b,b<s.heap.objs.size->b≠a.objs.size/\b≠s.heap.objs.size:=fun b f=>⟨by rw[hC];show yG (Nat.lt_succ_of_lt f),yG f⟩;have ad:∀ b o,s.heap.get? b=some o->h1.get? b=some o:=fun b o e=>ac b o (ab ▸ yw _ e);have ag:h1.get? s.heap.objs.size=some { cls:=.type "list",data:=.seq ([]:List Value).toArray }:=ac _ _ (ab ▸ yS _ rfl)
 have B:∀ b∈fp,b<s.heap.objs.size:=fun b f=>by
  obtain⟨o,ho,_⟩:=T.obj 0 _ st b f;show yF ho
 have aa:∀ s3:Shared,s3={ s with heap:=h1 } ->
   codeAny (model X.prog X.w) X.A (.compLoop (.ListComp elt [⟨tg,iter,ifs,0⟩] scope pos) 0 (.ref it) (.ref s.heap.objs.size) (compEnvC scope (cellsFrom (a.objs.size+1) scope.names (qM X.env scope.names [])) a.objs.size X.env)) (RR (.ref s.heap.objs.size) a.objs.size) s3:=by
  rintro s3 rfl;have I0:=I.comp (N:=N) (C:=a.objs.size) (D:=s.heap.objs.size) (h1:=h1) (tk:=s.toks) O hN ai hf B Y (yh _) au Z ad ag (fun v z=>by cases z) F
  have t:∀{H':Hp} {R:St} {s':Shared} {pl:List (Addr×Obj)},Inv (X.comp N scope a.objs.size s H fp) pl R H' s'->(∀ p∈pl,p.1=s.heap.objs.size)->(∀ b∈fp,H' b=none)->∀ b∈fp,qcx (X.comp N scope a.objs.size s H fp) pl H' b:=fun{H' R s' pl} J ax hn b f =>
   ⟨hn b f,(l b (B b f)).1,fun z=>(by
     rcases yv.mp (I.stkSub b z) with e | e
     .show(hf b f).2.1 e
     .show(hf b f).2.2.1 e),.inl f,J.ok.exf b f |>.2,fun p L z=>by
    have e:=ax p (by simpa using L);rw[e] at z;show(l b (B b f)).2 z.symm⟩
  show compLoop_own (fun k s'=>∃ i H' ys its n,Inv (X.comp N scope a.objs.size s H fp) [(s.heap.objs.size,{ cls:=.type "list",data:=.seq its.toArray n })] (qdx nl ixs σ) H' s'/\tn i s'.heap/\(∀ b∈fp,H' b=none)/\Vals ys its/\W i k ys H') ?_ m0
   ⟨0,H,[],[],0,I0,T.keep _ _ _ st fun b _ o e=>ad b o e,fun b f=>(hf b f).1,.nil,w0⟩
  rintro k s' ⟨i,H',ys,its,n,J1,am,af,v1,w1⟩
  have one:∀ p∈[((s.heap.objs.size,{ cls:=.type "list",data:=.seq its.toArray n }):Addr×Obj)],p.1=s.heap.objs.size:=fun p L=>by
   have e:p=_:=yx.mp L;rw[e]
  rcases turn i k ys H' w1 with⟨an,hz,q⟩ | ⟨go,M,hM,step⟩
  .show thn (T.done (X.comp N scope a.objs.size s H fp) rfl rfl rfl hc i _ s' _ H' _ J1 (t J1 one af) am an) fun r s4 ⟨hr,J4⟩=>?_;subst hr;show av _ _ s4 H' _ ys its n Y (yh _) J4 v1 hz q
  .show thn (T.item (X.comp N scope a.objs.size s H fp) rfl rfl rfl hc i _ s' _ H' _ J1 (t J1 one af) am go) fun r s4 ⟨u,hr,h4⟩=>?_;subst hr;show thn h4 fun _ s5 ⟨x,H5,J5,r5,y5,ae,aq⟩=>?_;have ap:=J5.pinned (t J5 one aq) (T.obj _ _ ae);show thn (hg _ _ _ _ _ s5 _ H5 x u _ ap r5 (gk _ _ _ _ (step x H5 y5))) fun _ s6 ⟨S,H6,J6,q6,l6,k6⟩=>?_;show thn (hi _ _ _ _ _ s6 S H6 _ J6 q6) fun ok s7 ⟨H7,J7,q7⟩=>?_;have again:∀{P:Shared} {H8:Hp} {ys':List V} {k':Nat},Inv (X.comp N scope a.objs.size s H fp) ([((s.heap.objs.size,{ cls:=.type "list",data:=.seq its.toArray n }):Addr×Obj)]++qb1 fp s5.heap) S H8 P ->
     (∀ b o,b≠s.heap.objs.size->P.heap.get? b=some o->P.heap.get? b=some o)->tn (i+1) P.heap/\∀ b∈fp,H8 b=none:=fun{P H8 ys' k'} J8 _=>by
    show⟨T.keep _ _ _ ae fun b f o e=>(J8.pin (b,o) (yL _ (yL _ (zZ f e)))).1,fun b f=>?_⟩;obtain⟨o,e,d⟩:=T.obj _ _ ae b f;show(J8.pin (b,o) (yL _ (yL _ (zZ f e)))).2.1
   have wk:∀(j:Nat) v,(qdx nl ixs σ)[j]?=some (some v)->S[j]?=some (some v):=fun j v e=>by
    obtain⟨hj,_⟩:=qc4 e;rw[k6 j hj];show e
   cases ok with
   | false =>
    rw[yC Ym] at q7 ⊢;obtain⟨m',hm,w7⟩:=hM _ _ q7;obtain⟨az,ar⟩:=again (ys':=ys) (k':=0) J7 (fun _ _ _ e=>e);show⟨m',hm,i+1,H7,ys,its,n,J7.unpinned.weak l6.symm wk,az,ar,v1,w7⟩
   | true =>
    rw[yE rfl] at q7 ⊢;show thn (he _ _ _ _ _ s7 S H7 _ J7 q7) fun y P ⟨v,H8,J8,r8,bc,mq⟩=>?_;obtain⟨m',hm,w8⟩:=hM _ _ mq;obtain⟨ba,as⟩:=again (ys':=ys) (k':=0) J8 (fun _ _ _ e=>e);have J9:=J8.unpinned;obtain⟨pD,nD,al,ay,_⟩:=J9.pin (s.heap.objs.size,{ cls:=.type "list",data:=.seq its.toArray n }) (yL _ (yx.mpr rfl));show wpAny_list_append_plain (hsz:=by rw[yy,<- v1.length];lk) ⟨n,pD⟩ fun h9 G ak=>?_;obtain⟨n9,G⟩:=G;have e9:(its.toArray.push y)=(its++[y]).toArray:=by simp
    rw[e9] at G
    have Ja:Inv (X.comp N scope a.objs.size s H fp) [] (qdx nl ixs σ) H8 { P with heap:=h9,toks:=P.toks }:=
     ((J9.pins_of (pins':=[]) fun p L=>absurd L (by simp)).turned (it:=s.heap.objs.size) (h':=h9) (t':=P.toks) (fun b o f e=>(ak.2 b f).trans e) nD al (.inr (yh _))
      (fun x c e z=>by
       rcases qbg e with w | e
       .have:=(F.empty _ _ w).2;rw[z,hC] at this;show absurd (yi (xR _) this) (Nat.not_succ_le_self _)
       have:=zC e;rcases this with⟨aw,hcc⟩ | hcc
       .obtain⟨c',ah⟩:=I.ok.has x (by
         rcases O.free _ aw rfl with q | q
         .show .inl q
         .show .inr q)
        rw[ah] at hcc;have aj:c=c':=hcc;obtain⟨_,q⟩:=I.cell x c' ah;rw[<- aj,z] at q;show absurd q.lt (Yp _)
       .cases hcc) (fun p L=>absurd L (by simp))).weak l6.symm wk
    show⟨m',hm,i+1,H8,ys++[v],its++[y],n9,Ja.pins_of fun p L=>?_,?_,as,v1.append (.cons r8 .nil),w8⟩
    .have e:p=_:=yx.mp L;subst e;show⟨G,nD,al,ay,fun v z=>by cases z⟩
    .show T.keep _ _ _ ba fun b f o e=>(ak.2 b (l b (B b f)).2).trans e
 show codeAny_compStart_list (aa _ rfl) (T.self _ 0 _ _ _ (T.keep _ _ _ st fun b _ o e=>ad b o e) (aa _ rfl))
end
section
variable{X:Cx}{tg elt iter:Expr}{ifs:List Expr}{scope:Scope}{pos:Pos}{N:LS}{nl:Nat}{ixs:LN}{wi:TI}{g:TG}{tc:TT}{te:TE}
theorem jT{XN:LS}(N:LS)(nl:Nat)(ixs:LN)(F:X.env.scope=sc)(u:X.N=XN)(hc:X.calm=true)(M:qd9 sc scope=true)(U:N.length=nl+ixs.length)(d:qfN nl ixs N XN scope.names=true)
  (hi:PI X tg iter wi) (hg:∀ C r i ex,PG (X.comp N scope C r i ex) tg g) (P:qdM nl g) (ht:∀ C r i ex,qfg (X.comp N scope C r i ex) ifs tc) (Z:∀ C r i ex,PE (X.comp N scope C r i ex) elt te)
  (hs:∀ x,foldedSetIterable iter X.env x=pure x:=by intro _;rfl):PE X (.ListComp elt [⟨tg,iter,ifs,0⟩] scope pos) (qeR wi g tc te nl ixs):=by
 intro pins s σ H Q I h;subst F u;have O:=qc3 M;have l:=qdL d;rw[eval_ListComp]
 have y:=qaE (scope:=scope) (env:=X.env) fun n E=>I.ok.has n (by
  rcases O.free _ E rfl with z | z
  .show .inl z
  .show .inr z)
 show wpAny_comprehension_free (use:=none) rfl hs y O.kind O.loc (thn (hi pins s σ H _ I h) fun v s1 h1=>thn h1 fun aa s2 R=>?_);obtain⟨it,fp,tn,J,H2,e,f,T,K,L,W⟩:=R;subst e;show qbx (Q:=Q) (RR:=fun acc C=>compPost (model X.prog X.w) X.A X.xe none (EP X pins σ Q) acc C) f hc O U l T K L hg P ht Z W ?_;intro D C s' H' ab ys its n j S t hv hz q;obtain⟨m,E,_⟩:=id t.loc;have B:=f.compBack L j S t hv hz;obtain⟨_,nD,G,_,_⟩:=t.pin (D,{ cls:=.type "list",data:=.seq its.toArray n }) (yL _ (yx.mpr rfl));show⟨m,E,fun h' sb=>⟨.ref D,_,?_,rfl,q D nD⟩⟩;show B.turned (it:=C) (h':=h') (t':=s'.toks) (fun b o Y e=>(sb.2 b Y).trans e) ((qf (H:=H') (a:=D) (b:=C) (o:=.lst ys) (Yb G)).trans t.free) (Yd (yj f.lt j)) (.inr (yi f.sz j)) (fun x c e z=>?_) (fun p hp z=>?_)
 .obtain⟨_,q⟩:=f.cell x c e;show absurd (yj q.lt (by rw[z];show j)) (Yp _)
 .show absurd (yj (yF (f.pin p hp).1) (by rw[z];show j)) (Yp _)
theorem qcC{i:Nat}{y:Str}{r f:Pos}{XN:LS}(N:LS)(nl:Nat)(ixs:LN)(W:X.env.scope=sc)(u:X.N=XN)(hc:X.calm=true)(O':qd9 sc scope=true)(hN:N.length=nl+ixs.length)(l:qfN nl ixs N XN scope.names=true)
  (M:X.N.Nodup) (R:X.N[i]?=some y) (hy:X.env.scope.names.lookup y=some .local)
  (hi:PI X tg iter wi) (hg:∀ C F t ex,PG (X.comp N scope C F t ex) tg g) (gk:qdM nl g) (ht:∀ C F t ex,qfg (X.comp N scope C F t ex) ifs tc) (he:∀ C F t ex,PE (X.comp N scope C F t ex) elt te)
  (Y:swapsWith (.ListComp elt [⟨tg,iter,ifs,0⟩] scope pos) (some (.Name y r)) f.line X.env=pure true:=by rfl)
  (hs:∀ x,foldedSetIterable iter X.env x=pure x:=by intro _;rfl):PS X (.Assign [.Name y r] (.ListComp elt [⟨tg,iter,ifs,0⟩] scope pos) f) (qeZ (qeR wi g tc te nl ixs) (qbI i)):=by
 intro pins s σ H K I h;subst W u;have O:=qc3 O';have E:=qdL l
 have P:=qaE (scope:=scope) (env:=X.env) fun n S=>I.ok.has n (by
  rcases O.free _ S rfl with z | z
  .show .inl z
  .show .inr z)
 rw[exec_Assign_Name_used _ _ _ _ Y];show yr (Xo (yr ?_));show wpAny _ X.A (do let _ <- comprehension (.ListComp elt [⟨tg,iter,ifs,0⟩] scope pos) scope X.env _ (newList []) false (eval iter X.env) (some (assign (.Name y r) X.env))) _ _ s;show yr (YA (wpAny_comprehension_free (use:=some (assign (.Name y r) X.env)) (Q:=fun _ s'=>SP X pins K .next s') rfl hs P O.kind O.loc
  (thn (hi pins s σ H _ I h) fun v s1 h1=>thn h1 fun ac s2 h2=>?_)) (fun _ s' hq=>yu (yu hq)) fun _ _ e=>e)
 obtain⟨it,fp,tn,J,H2,e,d,T,ab,f2,hW⟩:=h2;subst e;show qbx (Q:=fun v H'=>qbI i v σ H' K.nx) (RR:=fun acc C=>compPost (model X.prog X.w) X.A X.xe (some (assign (.Name y r) X.env)) (fun _ s'=>SP X pins K .next s') acc C) d hc O hN E T ab f2 hg gk ht he hW ?_;intro D C s' H' ad ys its n j hD G hv hz q;obtain⟨m,S,_⟩:=id G.loc;have B:=d.compBack f2 j hD G hv hz;obtain⟨_,nD,Z,_,_⟩:=G.pin (D,{ cls:=.type "list",data:=.seq its.toArray n }) (yL _ (yx.mpr rfl));show wpAny _ X.A (assign (.Name y r) X.env (.ref D)) _ _ _;show wpAny_assign_Name (qbZ (i:=i) (x:=y) (v:=.ref D) B M R (.inl hy) rfl (fun aa B' U=>?_) (.inr hy));obtain⟨a,sa,ha⟩:=U
 have L:C≠a:=by
  rintro rfl;rcases ha with z | z
  .show absurd (show X.env.locals<C from yj d.lt j) (by rw[z];show Yp _)
  .obtain⟨_,q⟩:=d.cell y C z;show absurd (yj q.lt j) (Yp _)
 show⟨m,S.sameBut sa L,fun h' sb=>⟨_,_,?_,q D nD⟩⟩;show B'.turned (it:=C) (h':=h') (t':=aa.toks) (fun b o hb e=>(sb.2 b hb).trans e) ((qf (H:=H') (a:=D) (b:=C) (o:=.lst ys) (Yb Z)).trans G.free) (Yd (yj d.lt j)) (.inr (yi d.sz j)) (fun x c e z=>?_) (fun p hp z=>?_)
 .obtain⟨_,q⟩:=d.cell x c e;show absurd (yj q.lt (by rw[z];show j)) (Yp _)
 .show absurd (yj (yF (d.pin p hp).1) (by rw[z];show j)) (Yp _)
end
noncomputable def Its(x:Str):It:=⟨fun i _=>i<x.cps.size,fun i H v H'=>H'=H/\∃ c,x.cps[i]?=some c/\v=.str ⟨#[c]⟩,fun i _=>i=x.cps.size⟩
theorem qc5{K:yg}{t:Tok}(W:∀ A:Around,A.handled=none->Walks P w A it [it] [it] x.cps.size (SignAt x) fun i h=>h.IsStrIter it T x t i)
  (L:∀(A:Around) (i:Nat) (s:Shared) (Q:Value->Shared->Prop) (E:Value->Shared->Prop),s.heap.IsStrIter it T x t i->Q (.ref it) s->wpAny (model P w) A (pyIter (.ref it)) Q E s)
  (C:∀ v,letOwnedTupleGo tg (.ref it) v=pure ()):Turn P w K tg (Its x) [it] it (fun i h=>h.IsStrIter it T x t i) where
 mem:=by simp
 obj:=fun i h st b a=>by
  have e:b=it:=by simpa using a
  subst e;obtain⟨o,e,c,d⟩:=st;show⟨o,e,fun v z=>by rw[d] at z;cases z⟩
 keep:=fun i h h' st k=>by
  obtain⟨o,e,r⟩:=st;show⟨o,k it (by simp) o e,r⟩
 item:=by
  intro X q hw p hc i pins s σ H E I f st B;subst q hw p;obtain⟨g,j,J,l,m,n⟩:=f it (by simp);show(W X.A (I.ok.hd hc)).item i s _ _ B st fun v h' tk hv F D=>?_;obtain⟨c,u,y,rfl⟩:=hv;have G:Inv X pins σ H { s with heap:=h',toks:=tk }:=I.turned (fun b o a e=>D b o (by simpa using a) e) g j l m n;show⟨_,rfl,YS (C _) ⟨.str ⟨#[c]⟩,H,G,⟨u,rfl⟩,⟨rfl,c,y,rfl⟩,F,fun b a=>(f b a).1⟩⟩
 done:=by
  intro X q hw p hc i pins s σ H E I f st B;subst q hw p;obtain⟨g,j,J,l,m,n⟩:=f it (by simp);have e:i=x.cps.size:=B;subst e;show(W X.A (I.ok.hd hc)).done s _ _ st fun h' tk D=>⟨rfl,I.turned (fun b o a e=>D b o (by simpa using a) e) g j l m n⟩
 self:=L
section
variable{X:Cx}{tg:Expr}
end
section
variable{K:yg}{a:Addr}{xs:List V}{g:TG}{tc:TT}{te:TE}{σ':St}{H1:Hp}{Q:V->Hp->Prop}
def qdN(J:It)(g:TG)(tc:TT)(te:TE)(σ':St)(H1:Hp)(Q:V->Hp->Prop):Prop:=
 ∃ W:Nat->Nat->List V->Hp->Prop,(∃ m,W 0 m [] H1)/\∀ i m ys H,W i m ys H ->
   (J.stop i H/\ys.length<=sizeLine/\∀ p,H p=none->Q (.ref p) (upd H p (.lst ys))) \/
   (J.go i H/\∃ M:List V->Hp->Prop,(∀ ys' H',M ys' H'->∃ d,d<m/\W (i+1) d ys' H')/\∀ x H',J.yld i H x H'->g x σ' H' fun a e=>tc a e fun b c =>
    if b=true then te a c fun v f=>ys.length<sizeLine/\M (ys++[v]) f else M ys c)
theorem jF(c:Nat->List V->Hp->Prop)(n:c 0 [] H1)(hl:∀ i ys H,i<=xs.length->c i ys H->SqL K H a xs)
  (s:∀ i x ys H,xs[i]?=some x->c i ys H->g x σ' H fun f j=>tc f j fun b h=>if b=true then te f h fun v l=>ys.length<sizeLine/\c (i+1) (ys++[v]) l else c (i+1) ys h)
  (o:∀ ys H,c xs.length ys H->ys.length<=sizeLine/\∀ p,H p=none->Q (.ref p) (upd H p (.lst ys))):qdN (Itl K a) g tc te σ' H1 Q:=by
 show⟨fun i m ys H=>m=xs.length-i/\i<=xs.length/\c i ys H,⟨xs.length,by simp,xp _,n⟩,?_⟩;rintro i m ys H ⟨rfl,r,p⟩;have q:=hl i ys H r p;by_cases d:i<xs.length
 .show .inr ⟨⟨xs,xs[i],q,by simp[d]⟩,c (i+1),fun ys' H' t=>⟨xs.length-(i+1),by lk,rfl,d,t⟩,fun x H' y=>?_⟩;obtain⟨e,y⟩:=y;subst e;show s i x ys _ (y xs q) p
 .have e:i=xs.length:=by lk
  subst e;show .inl ⟨⟨xs,q,yh _⟩,o ys H p⟩
theorem qby{lo:Int}(a:Nat->List V->Hp->Prop)(l:a 0 [] H1)
  (q:∀ i ys H,i<n->a i ys H->g (.int (lo+i)) σ' H fun d h=>tc d h fun b f=>if b=true then te d f fun v j=>ys.length<sizeLine/\a (i+1) (ys++[v]) j else a (i+1) ys f)
  (o:∀ ys H,a n ys H->ys.length<=sizeLine/\∀ p,H p=none->Q (.ref p) (upd H p (.lst ys))):qdN (Itr lo n) g tc te σ' H1 Q:=by
 show⟨fun i m ys H=>m=n-i/\i<=n/\a i ys H,⟨n,by simp,xp _,l⟩,?_⟩;rintro i m ys H ⟨rfl,s,p⟩;by_cases c:i<n
 .show .inr ⟨c,a (i+1),fun ys' H' r=>⟨n-(i+1),by lk,rfl,c,r⟩,fun x H' y=>?_⟩;obtain⟨e,y⟩:=y;subst e y;show q i ys _ c p
 .have e:i=n:=by lk
  subst e;show .inl ⟨yh _,o ys H p⟩
theorem qbK(a:Nat->List V->Hp->Prop)(n:a 0 [] H1)
  (q:∀ i c ys H,x.cps[i]?=some c->a i ys H->g (.str ⟨#[c]⟩) σ' H fun f j=>tc f j fun b h=>if b=true then te f h fun v l=>ys.length<sizeLine/\a (i+1) (ys++[v]) l else a (i+1) ys h)
  (o:∀ ys H,a x.cps.size ys H->ys.length<=sizeLine/\∀ p,H p=none->Q (.ref p) (upd H p (.lst ys))):qdN (Its x) g tc te σ' H1 Q:=by
 show⟨fun i m ys H=>m=x.cps.size-i/\i<=x.cps.size/\a i ys H,⟨x.cps.size,by simp,xp _,n⟩,?_⟩;rintro i m ys H ⟨rfl,s,p⟩;by_cases d:i<x.cps.size
 .show .inr ⟨d,a (i+1),fun ys' H' r=>⟨x.cps.size-(i+1),by lk,rfl,d,r⟩,fun v H' y=>?_⟩;obtain⟨e,c,hc,y⟩:=y;subst e y;show q i c ys _ hc p
 .have e:i=x.cps.size:=by lk
  subst e;show .inl ⟨rfl,o ys H p⟩
end
noncomputable def qcf:V->Option Value
 | .ty n=>some (.type n)
 | .ref a=>some (.ref a)
 | _=>none
theorem qbz{c:Value}(h:qcf y=some c)(r:RelV y u):u=c:=by
 cases y with
 | ty n=>cases h;show r
 | ref a=>cases h;show r
 | _=>cases h
section
variable{X:Cx}{pins:List (Addr×Obj)}{σ:St}{H:Hp}{s:Shared}
theorem TyOf.kit{x:V}(I:Inv X pins σ H s)(b:RelV x u)(ty:TyOf X.K H x t):∃ P:Heap->Prop,PySem.W.KitX X.K u t P/\P s.heap/\u≠.builtin "__main__.__loader__#opaque":=by
 cases ty with
 | non=>cases (show u=Value.none from b);show⟨_,PySem.W.kitx_none,YF,(fun z=>nomatch z)⟩
 | bl y=>cases (show u=Value.bool y from b);show⟨_,PySem.W.kitx_bool,YF,(fun z=>nomatch z)⟩
 | int i=>obtain⟨t,q⟩:=(show ∃ t,u=Value.int i t from b);cases q;show⟨_,PySem.W.kitx_int,YF,(fun z=>nomatch z)⟩
 | str y=>obtain⟨t,q⟩:=(show ∃ t,u=Value.str y t from b);cases q;show⟨_,PySem.W.kitx_str,YF,(fun z=>nomatch z)⟩
 | flt y=>obtain⟨t,q⟩:=(show ∃ t,u=Value.float y t from b);cases q;show⟨_,PySem.W.kitx_float,YF,(fun z=>nomatch z)⟩
 | @lst a xs ea =>
  cases (show u=Value.ref a from b);obtain⟨_,_,n,_,h1⟩:=(show ObjOk X.prog X.w H s.heap a (.lst xs) from I.hok a _ ea);show⟨_,PySem.W.kitx_list,⟨_,h1,rfl⟩,(fun z=>nomatch z)⟩
 | @frz a ob xs ea =>
  cases (show u=Value.ref a from b);obtain⟨_,_,_,n,_,h1⟩:=(show ObjOk X.prog X.w H s.heap a (.frz ob (.lst xs)) from I.hok a _ ea);show⟨_,PySem.W.kitx_list,⟨_,h1,rfl⟩,(fun z=>nomatch z)⟩
 | @tup a xs ea =>
  cases (show u=Value.ref a from b);obtain⟨_,_,_,p⟩:=(show ObjOk X.prog X.w H s.heap a (.tup xs) from I.hok a _ ea);obtain⟨o,h1,c,_⟩:=p;show⟨_,PySem.W.kitx_tuple,⟨o,h1,c⟩,(fun z=>nomatch z)⟩
 | @dK a kvs ea =>
  cases (show u=Value.ref a from b);obtain⟨_,_,vs,_,p⟩:=(show ObjOk X.prog X.w H s.heap a (.dK kvs) from I.hok a _ ea);obtain⟨o,d,ep,h1,c,_⟩:=p;show⟨_,PySem.W.kitx_dict,⟨o,h1,c.1⟩,(fun z=>nomatch z)⟩
 | @dT a kvs ea =>
  cases (show u=Value.ref a from b);obtain⟨_,_,xs,_,o,d,ep,h1,c,_⟩:=(show ObjOk X.prog X.w H s.heap a (.dT kvs) from I.hok a _ ea);show⟨_,PySem.W.kitx_dict,⟨o,h1,c.1⟩,(fun z=>nomatch z)⟩
 | @ins a C dx fs ea cl ha hn htk hm =>
  cases (show u=Value.ref a from b);obtain⟨e,O,_⟩:=qaU I.hok ea;obtain⟨od,J,_⟩:=O.look;show⟨_,PySem.W.kitx_own (cl.get _) cl.hd ha hn htk hm,J,(fun z=>nomatch z)⟩
end
section
variable{X:Cx}
theorem qbh:∀{ys:List V} {a us:List Value},ys.map qcf=a.map some->Vals ys us->us=a
 | [],[],_,_,.nil=>rfl
 | [],_::_,_,h,_=>by cases h
 | y::ys,[],_,h,_=>by cases h
 | y::ys,c::a,_,h,.cons r t=>by
  rw[Yy,Yy] at h
  injection h with h1 h2
  rw[qbz h1 r,qbh h2 t]
theorem qc6:∀{bs:List Bool} {us:List Value},Vals (bs.map V.bl) us->us=bs.map Value.bool
 | [],_,.nil=>rfl
 | b::bs,_,.cons r t=>by
  have e:=qc6 t;rw[e];cases r;rfl
def qf2(K:yg):List V->Hp->VK->Prop:=fun xs H Q=>∃(p:Addr) (bs:List Bool),xs=[.ref p]/\SqL K H p (bs.map V.bl)/\Q (.bl (bs.all id)) H
theorem call_all(hc:X.calm=true):zN X (.builtin "all") (qf2 X.K):=by
 intro pins s σ H xs us Q I r h;obtain⟨p,bs,rfl,w,q⟩:=h;obtain⟨u,rfl,y⟩:=qbt r;cases y;obtain⟨its,z,pl,hz⟩:=I.list w;have e:=qc6 z;subst e;have m:X.A.in1.handled=none:=I.ok.hd hc;show call_all_walk (km pl.isList ?_)
 have f:p≠s.heap.objs.size:=by
  obtain⟨o,t,_⟩:=pl.isList;show yG (yF t)
 show⟨s.heap.objs.size,_,_,_,_,_,fun i=>(bs[i]?).getD false,rfl,Walks.list m s.heap.objs.size p f (bs.map Value.bool).toArray,⟨⟨_,yS _ rfl,rfl,rfl⟩,pl.isList.at fun o e=>yw _ e⟩,fun i v s Q E hv x=>?_,fun h' tk n=>?_⟩
 .have a:(bs.map Value.bool)[i]?=some v:=by simpa using hv
  rw[yd] at a
  cases e:bs[i]? with
  | none=>rw[e] at a;cases a
  | some b =>
   rw[e] at a;cases a;have c:Q ((bs[i]?).getD false) s:=x;rw[e] at c;show yu c
 .have e:((List.range (bs.map Value.bool).toArray.size).all fun i=>(bs[i]?).getD false)=bs.all id:=by
   rw[yy,ya]
   have g:∀ bs:List Bool,((List.range bs.length).all fun i=>(bs[i]?).getD false)=bs.all id:=by
    intro bs
    induction bs with
    | nil=>rfl
    | cons b r ih =>
     rw[yD,List.range_succ_eq_map,Xp,X7,Xp,<- ih];rfl
   show g bs
  rw[e];show⟨.bl _,H,?_,rfl,q⟩;have j:Inv X pins σ H { s with heap:=s.heap.push { cls:=.type "list_iterator",data:=.fields #[.ref p,.int 0 0] } }:=I.kept (t':=s.toks) fun b o e=>yw _ e;have d:=I.fpOk (b:=s.heap.objs.size) (yh _) (I.hok.fresh (yh _));show j.turned (it:=s.heap.objs.size) (h':=h') (t':=tk) (fun b o l e=>n b o (by simpa using l) e) d.1 d.2.1 d.2.2.2.1 d.2.2.2.2.1 d.2.2.2.2.2
theorem op_le_str:OpR X (compareOp .LtE) (fun x y H Q=>∃ i j,x=.str i/\y=.str j/\Q (.bl (!decide (j.cps.toList<i.cps.toList))) H):=by
 intro pins s σ H x y v u Q I a b h;obtain⟨i,j,rfl,rfl,q⟩:=h;obtain⟨t,rfl⟩:=a;obtain⟨t',rfl⟩:=b;show PySem.P.le_str (qcU I q (by rfl))
def qfO:R2:=fun x y H Q=>match x,y with
 | .int i,.int j=>Q (.bl (decide (i<=j))) H
 | .str i,.str j=>Q (.bl (!decide (j.cps.toList<i.cps.toList))) H
 | _,_=>False
theorem qeo:OpR X (compareOp .LtE) qfO:=by
 intro pins s σ H x y v u Q I a b h
 cases x with
 | int i=>cases y with
  | int j=>show op_le pins s σ H _ _ v u Q I a b ⟨i,j,rfl,rfl,h⟩
  | _=>show False.elim h
 | str i=>cases y with
  | str j=>show op_le_str pins s σ H _ _ v u Q I a b ⟨i,j,rfl,rfl,h⟩
  | _=>show False.elim h
 | _=>show False.elim h
theorem op_is_bl:OpR X (compareOp .Is) (fun x y H Q=>∃ i j,x=.bl i/\y=.bl j/\Q (.bl (i==j)) H):=by
 intro pins s σ H x y v u Q I a b h;obtain⟨i,j,rfl,rfl,q⟩:=h;cases a;cases b;show wpAny_is_plain (by cases i<;>cases j<;>rfl) (qcU I q (by cases i<;>cases j<;>rfl))
def qf3:R2:=fun x y H Q=>match x,y with
 | .bl i,.bl j=>Q (.bl (i==j)) H
 | x,.non=>Q (.bl (decide (x=.non))) H
 | _,_=>False
theorem qfE:OpR X (compareOp .Is) qf3:=by
 intro pins s σ H x y v u Q I a b h
 cases y with
 | non=>show op_isN pins s σ H x _ v u Q I a b ⟨rfl,by cases x<;>show h⟩
 | bl j=>cases x with
  | bl i=>show op_is_bl pins s σ H _ _ v u Q I a b ⟨i,j,rfl,rfl,h⟩
  | _=>show False.elim h
 | _=>cases x<;>show False.elim h
theorem op_rep_str:OpR X (binaryOp .Mult) (fun x y H Q=>∃ z k,x=.str z/\y=.int k/\MulOk z k/\Q (.str (Txt.mul z k)) H):=by
 intro pins s σ H x y v u Q I b c h;obtain⟨z,k,rfl,rfl,a,q⟩:=h;obtain⟨t,rfl⟩:=b;obtain⟨t',rfl⟩:=c;show SB.mul a fun t' k'=>⟨.str _,H,I.tok _,⟨_,rfl⟩,q⟩
def qfh:R2:=fun x y H Q=>match x,y with
 | .int i,.int j=>CMul i j/\Q (.int (i*j)) H
 | .str z,.int k=>MulOk z k/\Q (.str (Txt.mul z k)) H
 | .ref a,.int k=>rRep (.ref a) (.int k) H Q
 | _,_=>False
theorem qbL:OpR X (binaryOp .Mult) qfh:=by
 intro pins s σ H x y v u Q I b c h
 cases y with
 | int j=>cases x with
  | int i=>show op_mul pins s σ H _ _ v u Q I b c ⟨i,j,rfl,rfl,h.1,h.2⟩
  | str i=>show op_rep_str pins s σ H _ _ v u Q I b c ⟨i,j,rfl,rfl,h.1,h.2⟩
  | ref a=>show qem pins s σ H _ _ v u Q I b c h
  | _=>show False.elim h
 | _=>cases x<;>show False.elim h
def qdt(K:yg):R2:=fun x y H Q=>match x,y with
 | .int i,.int j=>Q (.int (i+j)) H
 | .str i,.str j=>i.length+j.length<=sizeLine/\Q (.str (i++j)) H
 | .ref a,.ref b=>rCat (.ref a) (.ref b) H Q\/rCatT K (.ref a) (.ref b) H Q
 | _,_=>False
theorem u_add:OpR X (binaryOp .Add) (qdt X.K):=by
 intro pins s σ H x y v u Q I c d h
 cases x with
 | int i=>cases y with
  | int j=>show op_add pins s σ H _ _ v u Q I c d ⟨i,j,rfl,rfl,h⟩
  | _=>show False.elim h
 | str i=>cases y with
  | str j=>show op_add_str pins s σ H _ _ v u Q I c d ⟨i,j,rfl,rfl,h.1,h.2⟩
  | _=>show False.elim h
 | ref a=>cases y with
  | ref b=>show h.elim (fun h=>op_cat pins s σ H _ _ v u Q I c d h) fun h=>op_catT pins s σ H _ _ v u Q I c d h
  | _=>show False.elim h
 | _=>show False.elim h
def qdu(K:yg):List V->Hp->VK->Prop:=fun xs H Q=>match xs with
 | [.str z]=>z.length<=sizeLine/\Q (.int z.length) H
 | [.ref p]=>(∃ ys,(SqL K H p ys\/SqT K H p ys)/\Q (.int ys.length) H)\/∃ kvs,H p=some (.dK kvs)/\Q (.int kvs.length) H
 | _=>False
theorem call_lenU:zN X (.builtin "len") (qdu X.K):=by
 intro pins s σ H xs us Q I r h
 match xs,h with
 | [.str z],h=>show call_len_str pins s σ H _ us Q I r ⟨z,rfl,h.1,h.2⟩
 | [.ref p],.inl ⟨ys,h,q⟩=>show call_len_seq pins s σ H _ us Q I r ⟨p,ys,rfl,h,q⟩
 | [.ref p],.inr ⟨kvs,h,q⟩=>show call_lenD pins s σ H _ us Q I r ⟨p,kvs,rfl,h,q⟩
theorem sl_str:SlR X (fun x lo b H Q=>∃ z,x=.str z/\z.length<=sizeLine/\Q (.str (Txt.slice z lo b)) H):=by
 intro pins s σ H x v f g lo b e Q I d a pl c h;obtain⟨z,rfl,hz,q⟩:=h;obtain⟨t,rfl⟩:=d;show⟨"str",_,F.slot_str_getitem.lookup,kJ _ _ _,?_⟩
 cases pl with
 | none =>
  cases c with
  | none=>show xM (l:=none) (u:=none) (st:=none) a rfl (XU ⟨yi (kL z _ _) hz,fun t' k=>⟨.str _,H,I.tok _,⟨_,rfl⟩,q⟩⟩)
  | int j uj=>show xM (l:=none) (u:=some (j,uj)) (st:=none) a rfl (XU ⟨yi (kL z _ _) hz,fun t' k=>⟨.str _,H,I.tok _,⟨_,rfl⟩,q⟩⟩)
 | int i ui =>
  cases c with
  | none=>show xM (l:=some (i,ui)) (u:=none) (st:=none) a rfl (XU ⟨yi (kL z _ _) hz,fun t' k=>⟨.str _,H,I.tok _,⟨_,rfl⟩,q⟩⟩)
  | int j uj=>show xM (l:=some (i,ui)) (u:=some (j,uj)) (st:=none) a rfl (XU ⟨yi (kL z _ _) hz,fun t' k=>⟨.str _,H,I.tok _,⟨_,rfl⟩,q⟩⟩)
def qfP(K:yg):V->Option Int->Option Int->Hp->VK->Prop:=fun x lo b H Q=>match x with
 | .str z=>z.length<=sizeLine/\Q (.str (Txt.slice z lo b)) H
 | .ref a=>rSlL K (.ref a) lo b H Q\/rSlT K (.ref a) lo b H Q
 | _=>False
theorem u_sl:SlR X (qfP X.K):=by
 intro pins s σ H x v g i lo b f Q I e c pl d h
 cases x with
 | str z=>show sl_str pins s σ H _ v g i lo b f Q I e c pl d ⟨z,rfl,h.1,h.2⟩
 | ref a=>show h.elim (fun h=>sl_list pins s σ H _ v g i lo b f Q I e c pl d h) fun h=>sl_tup pins s σ H _ v g i lo b f Q I e c pl d h
 | _=>show False.elim h
theorem qdO:∀{ys:LS} {us:List Value},Vals (ys.map V.str) us->StrsAre us ys
 | [],_,.nil=>.nil
 | y::ys,_,.cons r t=>by
  obtain⟨tk,rfl⟩:=r;show .cons y tk (qdO t)
def qfi(K:yg):V->List V->Hp->VK->Prop:=fun x vs H Q=>∃(z:Str) (p:Addr) (ys:LS),x=.str z/\vs=[.ref p]/\SqL K H p (ys.map V.str)/\(ys.map (·.length)).sum+ys.length*z.length<=16777216/\Q (.str (Txt.join z ys)) H
theorem mt_join:MtR X "str.join" (qfi X.K):=by
 intro pins s σ H x vs v us Q I d c h;obtain⟨z,p,ys,rfl,rfl,a,hz,q⟩:=h;obtain⟨t,rfl⟩:=d;obtain⟨u,rfl,b⟩:=c.one;cases b;obtain⟨its,r,pl,_⟩:=I.list a;show join_list pl.isList (by simpa using qdO r) hz fun t' k=>⟨.str _,H,I.tok _,⟨_,rfl⟩,q⟩
def qfQ(K:yg)(te:TE):TI:=fun σ H R=>te σ H fun v b=>match v with
 | .str x=>R (Its x) b
 | .ref a=>((∃ xs,SqL K b a xs)/\R (Itl K a) b)\/((∃ xs,SqT K b a xs)/\R (Itt K a) b)
 | _=>False
theorem pi_any{e:Expr}(w:PE X e te)(g:∀ it v,letOwnedTupleGo tg it v=pure ():=by intro _ _;rfl):PI X tg e (qfQ X.K te):=by
 intro pins s σ H R I h;show thn (w pins s σ H _ I h) fun v c ⟨y,f,d,u,j⟩=>?_
 cases y with
 | str x =>
  obtain⟨t,rfl⟩:=u
  have fp:∀ b∈[c.heap.objs.size],qcx X pins f b:=fun b m=>by
   have e:b=c.heap.objs.size:=by simpa using m
   subst e;show d.fpOk (yh _) (d.hok.fresh (yh _))
  cases r:x.cps.all (· < 128)
  .show wpAny_pyIter_wide r ⟨c.heap.objs.size,[c.heap.objs.size],_,_,f,rfl,d.kept (t':=c.toks) fun b o e=>yw _ e,
    qc5 (T:="str_iterator") (fun A l=>Walks.strWide l _ x t) (fun A i s Q E st h=>wpAny_pyIter_striter_wide st h) (g _),⟨_,yS _ rfl,rfl,rfl⟩,fp,j⟩
  .show wpAny_pyIter_ascii r ⟨c.heap.objs.size,[c.heap.objs.size],_,_,f,rfl,d.kept (t':=c.toks) fun b o e=>yw _ e,
    qc5 (T:="str_ascii_iterator") (fun A l=>Walks.strAscii l _ x t) (fun A i s Q E st h=>wpAny_pyIter_striter_ascii st h) (g _),⟨_,yS _ rfl,rfl,rfl⟩,fp,j⟩
 | ref a =>
  cases u
  have fp:∀ b∈[c.heap.objs.size],qcx X pins f b:=fun b m=>by
   have e:b=c.heap.objs.size:=by simpa using m
   subst e;show d.fpOk (yh _) (d.hok.fresh (yh _))
  rcases j with⟨⟨xs,n⟩,q⟩ | ⟨⟨xs,n⟩,q⟩
  .obtain⟨its,z,p,hz⟩:=d.list n;show km p.isList ⟨c.heap.objs.size,[c.heap.objs.size],_,_,f,rfl,d.kept (t':=c.toks) fun b o e=>yw _ e,qb0 a _,⟨_,yS _ rfl,rfl,rfl⟩,fp,q⟩
  .obtain⟨its,z,p,hz⟩:=d.tuple n;show wpAny_pyIter_tuple (show c.heap.IsTuple a its.toArray from p) ⟨c.heap.objs.size,[c.heap.objs.size],_,_,f,rfl,d.kept (t':=c.toks) fun b o e=>yw _ e,turn_tuple a _,⟨_,yS _ rfl,rfl,rfl⟩,fp,q⟩
 | _=>show False.elim j
end
section
variable{D:Ends}{σ:St}{H:Hp}{Q:VK}{QT:Bool->Hp->Prop}{QA:List V->Hp->Prop}{t u:TS}{te ta tb tc:TE}{c c':TT}{tr tas:TA}{r r':R2}{K:yg}
theorem vSeq(h:t { D with nx:=u D } σ H):qfJ t u D σ H:=h
theorem vAsg{i:Nat}(h:te σ H fun x a=>D.nx (σ.set i (some x)) a):qeZ te (qbI i) D σ H:=h
theorem vAsgS{b a:TE}{s:qe9}(h:te σ H fun x c=>b σ c fun o d=>a σ d fun i e=>s o i x e fun f=>D.nx σ f):qeZ te (qfY b a s) D σ H:=h
theorem vIfS(h:c σ H fun b a=>if b=true then t D σ a else u D σ a):qfW c t u D σ H:=h
theorem vRet(h:te σ H D.rt):qfV te D σ H:=h
theorem vRetN(h:D.rt .non H):qe8 D σ H:=h
theorem vDrop(h:te σ H fun _ a=>D.nx σ a):qe7 te D σ H:=h
theorem vNext(h:D.nx σ H):qe6 D σ H:=h
theorem vC(h:Q v H):tC v σ H Q:=h
theorem vVar{i:Nat}(e:σ[i]?=some (some v))(h:Q v H):qfI i σ H Q:=⟨v,e,h⟩
theorem vOp(h:ta σ H fun x a=>tb σ a fun y b=>r x y b Q):tOp r ta tb σ H Q:=h
theorem vUn{f:V->Hp->VK->Prop}(h:ta σ H fun x a=>f x a Q):tUn f ta σ H Q:=h
theorem vChain(h:ta σ H fun x b=>tb σ b fun y c=>r x y c fun z a=>∃ k,z=.bl k/\if k=true then tc σ a fun e d=>r' y e d Q else Q (.bl false) a):qdD r r' ta tb tc σ H Q:=h
theorem vNil(h:QA [] H):qek σ H QA:=h
theorem vCons(h:ta σ H fun x a=>tr σ a fun xs b=>QA (x::xs) b):qam ta tr σ H QA:=h
theorem vCB{f:List V->Hp->VK->Prop}(h:tas σ H fun vs a=>f vs a Q):tCB f tas σ H Q:=h
theorem vCall{E:XK}(h:tas σ H fun vs a=>sp (vs++[]) a Q E):qdE sp [] E tas σ H Q:=h
theorem vLst(h:tas σ H fun xs a=>NewL xs a Q):qfD tas σ H Q:=h
theorem vTup(h:tas σ H fun xs a=>NewT xs a Q):qfC tas σ H Q:=h
theorem vTest(h:te σ H fun x H'=>∃ k,x=.bl k/\QT k H'):qeP te σ H QT:=h
theorem vB(h:te σ H fun x H'=>∃ k,x=.bl k/\QT k H'):tB te σ H QT:=h
theorem vNot(h:c σ H fun b a=>QT (!b) a):qfU c σ H QT:=h
theorem vAnd(h:c σ H fun b a=>if b=true then c' σ a QT else QT false a):qfT c c' σ H QT:=h
theorem vOr(h:c σ H fun b a=>if b=true then QT true a else c' σ a QT):tOr c c' σ H QT:=h
theorem vAndV(h:ta σ H fun x a=>∃ k,x=.bl k/\if k=true then tb σ a Q else Q (.bl false) a):qe5 ta tb σ H Q:=h
theorem vOrV(h:ta σ H fun x a=>∃ k,x=.bl k/\if k=true then Q (.bl true) a else tb σ a Q):tOrV ta tb σ H Q:=h
theorem vNotV(h:ta σ H fun x a=>∃ k,x=.bl k/\Q (.bl (!k)) a):tNotV ta σ H Q:=h
theorem vIf(h:c σ H fun b a=>if b=true then ta σ a Q else tb σ a Q):tIf c ta tb σ H Q:=h
theorem vYes(h:QT true H):qf1 σ H QT:=h
theorem vI0{g:Int->Int->V}(h:Q (g i j) H):rI0 g (.int i) (.int j) H Q:=⟨i,j,rfl,rfl,h⟩
theorem vI{C:Int->Int->Prop}{g:Int->Int->V}(hc:C i j)(h:Q (g i j) H):rI C g (.int i) (.int j) H Q:=⟨i,j,rfl,rfl,hc,h⟩
theorem vU{g:Int->V}(h:Q (g i) H):rU g (.int i) H Q:=⟨i,rfl,h⟩
theorem vEqI(h:Q (.bl (decide (i=j))) H):rEq (.int i) (.int j) H Q:=⟨rfl,by
 have e:decide (V.int i=V.int j)=decide (i=j):=by
  by_cases h:i=j
  .subst h;simp
  .rw [yl h,yl (fun e=>h (V.int.inj e))]
 rw[e];show h⟩
theorem vEqB{i j:Bool}(h:Q (.bl (i==j)) H):rEq (.bl i) (.bl j) H Q:=⟨rfl,by rw[dec_bl];show h⟩
theorem zv(b:H p=some (.lst xs))(a:atI xs i=some v)(h:Q v H):rIx K (.ref p) (.int i) H Q:=.inl ⟨p,xs,i,v,rfl,rfl,SqL.of b,a,h⟩
theorem vIxLs(b:SqL K H p xs)(a:atI xs i=some v)(h:Q v H):rIx K (.ref p) (.int i) H Q:=.inl ⟨p,xs,i,v,rfl,rfl,b,a,h⟩
theorem zP(b:H p=some (.tup xs))(a:atI xs i=some v)(h:Q v H):rIx K (.ref p) (.int i) H Q:=.inr (.inl ⟨p,xs,i,v,rfl,rfl,SqT.of b,a,h⟩)
theorem qf4{ch:Nat}(hz:z.length<=sizeLine)(a:atI z.cps.toList i=some ch)(h:Q (.str ⟨#[ch]⟩) H):rIx K (.str z) (.int i) H Q:=.inr (.inr ⟨z,i,ch,rfl,rfl,hz,a,h⟩)
theorem qeb{k:Int}{j:Nat}{a:Hp->Prop}(c:H p=some (.lst xs))(b:ixN xs.length k=some j)(h:a (upd H p (.lst (xs.set j v)))):rSetL (.ref p) (.int k) v H a:=⟨p,xs,k,j,rfl,rfl,c,b,h⟩
theorem vEx{k:Bool}{P:Bool->Prop}(h:P k):∃ k',V.bl k=.bl k'/\P k':=⟨k,rfl,h⟩
theorem vLeI(h:Q (.bl (decide (i<=j))) H):qfO (.int i) (.int j) H Q:=h
theorem vLeS{i j:Str}(h:Q (.bl (!decide (j.cps.toList<i.cps.toList))) H):qfO (.str i) (.str j) H Q:=h
theorem vIsB{i j:Bool}(h:Q (.bl (i==j)) H):qf3 (.bl i) (.bl j) H Q:=h
theorem vAddI(h:Q (.int (i+j)) H):qdt K (.int i) (.int j) H Q:=h
theorem qeS{i j:Str}(hz:i.length+j.length<=sizeLine)(h:Q (.str (i++j)) H):qdt K (.str i) (.str j) H Q:=⟨hz,h⟩
theorem qbM(hc:CMul i j)(h:Q (.int (i*j)) H):qfh (.int i) (.int j) H Q:=⟨hc,h⟩
theorem qfj(hz:z.length<=sizeLine)(h:Q (.int z.length) H):qdu K [.str z] H Q:=⟨hz,h⟩
theorem qaY(a:H p=some (.lst ys))(h:Q (.int ys.length) H):qdu K [.ref p] H Q:=.inl ⟨ys,.inl (SqL.of a),h⟩
theorem qep(a:SqL K H p ys)(h:Q (.int ys.length) H):qdu K [.ref p] H Q:=.inl ⟨ys,.inl a,h⟩
theorem qeT(a:H p=some (.tup ys))(h:Q (.int ys.length) H):qdu K [.ref p] H Q:=.inl ⟨ys,.inr (SqT.of a),h⟩
theorem qfR{lo a:Option Int}(hz:z.length<=sizeLine)(h:Q (.str (Txt.slice z lo a)) H):qfP K (.str z) lo a H Q:=⟨hz,h⟩
theorem vSl{f:V->Option Int->Option Int->Hp->VK->Prop}{tl th:TO}(h:te σ H fun x a=>tl σ a fun l b=>th σ b fun u c=>f x l u c Q):tSl f te tl th σ H Q:=h
theorem vNoPart(h:QO none H):qdH σ H QO:=h
theorem vPart(h:te σ H fun x a=>∃ i,x=.int i/\QO (some i) a):qfd te σ H QO:=h
theorem vExI{P:Int->Prop}(h:P i):∃ j,V.int i=.int j/\P j:=⟨i,rfl,h⟩
theorem vBM{f:V->List V->Hp->VK->Prop}(h:te σ H fun x a=>tyV K T x a/\tas σ a fun xs b=>f x xs b Q):tBM K T f te tas σ H Q:=h
theorem vBM0{f:V->List V->Hp->VK->Prop}(h:te σ H fun x a=>tyV K T x a/\f x [] a Q):tBM0 K T f te σ H Q:=h
theorem vComp(h:wi σ H fun J a=>qdN J g c te (qdx nl ixs σ) a Q):qeR wi g c te nl ixs σ H Q:=h
theorem vFor (h:wi σ H fun J d=>∃ W:Nat->Nat->St->Hp->Prop,(∃ m,W 0 m σ d)/\∀ i m σ H,W i m σ H ->
 (J.stop i H/\D.nx σ H)\/(J.go i H/\∃ N:St->Hp->Prop,(∀ a H',N a H'->∃ c,c<m/\W (i+1) c a H')/\∀ x H',J.yld i H x H'->g x σ H' fun b e=>t { D with nx:=N,ct:=N,bk:=D.nx } b e)):qfZ wi g t D σ H:=h
theorem vRng1(h:tas σ H fun vs a=>∃ j:Int,vs=[.int j]/\-(2 ^ 62)<=j/\j<2 ^ 62/\R (Itr 0 j.toNat) a):qfa tas σ H R:=h
theorem vAny (h:te σ H fun v b=>match v with
 | .str x=>R (Its x) b
 | .ref a=>((∃ xs,SqL K b a xs)/\R (Itl K a) b)\/((∃ xs,SqT K b a xs)/\R (Itt K a) b)
 | _=>False):qfQ K te σ H R:=h
theorem vGN{i:Nat}{a:St->Hp->Prop}(h:a (σ.set i (some v)) H):qbI i v σ H a:=h
theorem qar{xs:List α}(b:0<=i)(h1:i<xs.length):∃ v,atI xs i=some v/\xs[i.toNat]?=some v:=by
 obtain⟨n,rfl⟩:=xN b;have a:n<xs.length:=by lk
 show⟨xs[n],qv (by simp[a]),by simp[a]⟩
end
section
variable{X:Cx}{K:yg}{o e:Expr}{es:List Expr}{to ta:TE}{t:TA}{name f:Str}{apos cpos pos:Pos}{T id:String}{r:V->List V->Hp->VK->Prop}{tg:Expr}
theorem zu(a:X.K=K):zN X (.builtin "len") (qdu K):=by subst a;show call_lenU
theorem qec(a:X.K=K)(hc:X.calm=true):zN X (.builtin "all") (qf2 K):=by subst a;show call_all hc
theorem qdy(a:X.K=K):SlR X (qfP K):=by subst a;show u_sl
theorem jN(a:X.K=K):OpR X (binaryOp .Add) (qdt K):=by subst a;show u_add
theorem k_join(a:X.K=K):MtR X "str.join" (qfi K):=by subst a;show mt_join
theorem qW(b:X.K=K)(c:PE X e ta)(a:∀ it v,letOwnedTupleGo tg it v=pure ():=by intro _ _;rfl):PI X tg e (qfQ K ta):=by subst b;show pi_any c a
theorem qbA(h:X.K=K)(n:PlainAttrs T)(f:Slot T name id)(g:typeOf (.builtin id)=pure (.type "method_descriptor"))(j:MtR X id r)(l:PE X o to)(i:PA X (e::es) t)
  (b:attributeBase o name X.env (eval o X.env)=eval o X.env:=by rfl)
  (d:((backTo cpos (starEach (e::es) X.env)).all (fun x=>!x.1)&&(backToKw cpos (keywordEach [] X.env)).all (fun x=>x.1.isSome)
   && decide ((e::es).length+([]:List Keyword).length+(if ([]:List Keyword).isEmpty then 0 else 1)<30))=true:=by rfl)
  (c:(apos.endLine==cpos.line)=true:=by rfl) (m:starEach (e::es) X.env=(false,eval e X.env)::starEach es X.env:=by rfl) (a:(backTo cpos (starEach es X.env)).any (·.1)=false:=by rfl) :
  PE X (.Call (.Attribute o name apos) (e::es) [] cpos) (tBM K T r to t):=by
 subst h;show pe_bm n f g j l i b d c m a
end
structure DefOk(P:Program)(w:World)(K:yg)(mg:Str->Option Value)(base:Heap)(CX:CXT)(k:Nat)(x:Str)(ps:LS)(sp:Sp):Prop where
 ex:∃ f fd,FnOk P w K mg base CX k f fd ps sp/\mg x=some (.ref f)/\PySem.W.keepIn K (.ref f)=true/\Binds K fd ps []
section
variable{X:Cx}{CX:CXT}{k:Nat}{ps:LS}{sp:Sp}{E:XK}{x:Str}{p pos:Pos}{e:Expr}{es:List Expr}{t:TA}
theorem qq(D:DefOk X.prog X.w X.K X.mg X.base CX k x ps sp)(l:Room k X.A)(m:zT CX X E)(c:PA X (e::es) t)(h:Gl X x:=by rfl)(a:(x==("__debug__":Str))=false:=by decide)
  (g:starEach (e::es) X.env=(false,eval e X.env)::starEach es X.env:=by rfl) (b:(backTo pos (starEach es X.env)).any (·.1)=false:=by rfl):PE X (.Call (.Name x p) (e::es) [] pos) (qdE sp [] E t):=by
 obtain⟨f,fd,F,j,i,d⟩:=D.ex;show pe_call F l h j i d .nil m c a g b
theorem qa2(c:Gl X x)(a:∃ tk,X.mg x=some (.int i tk))(b:(x==("__debug__":Str))=false:=by decide):PE X (.Name x pos) (tC (.int i)):=by
 obtain⟨tk,a⟩:=a;show qbH c a ⟨tk,rfl⟩ b
end
noncomputable def qbs(t c:String):Bool:=t==c||(t=="bool"&&c=="int")
theorem jl(K:yg):∀ t∈["NoneType","bool","int","str","list","tuple","dict"],∀ c∈["bool","int","str","list","tuple","dict"],PySem.W.kitOne K (.type t) (.type c)=some (qbs t c):=by
 intro t a c hc;simp only[yv,yz,yU] at a hc;rcases a with rfl | rfl | rfl | rfl | rfl | rfl | rfl<;>rcases hc with rfl | rfl | rfl | rfl | rfl | rfl<;>rfl
noncomputable def qbY:List Value->Bool
 | [.type a,.type b,.type c,.type d]=>a=="ValueError"&&b=="Exception"&&c=="BaseException"&&d=="object"
 | .ref _::r=>qbY r
 | _=>false
noncomputable def qfF(K:yg)(C:Addr):Bool:=match K.lookup C with
 | some ⟨.type "type",_,.cls cd,sl⟩=>(match cd.mro,sl.toList with
  | .ref D::bm,[_,_,_,_,some (.builtin n),_]=>D==C&&!cd.hasDel&&qbY bm&&n=="ValueError.__new__"
  | _,_=>false)
 | _=>false
theorem qc7{K:yg}(X:K.In h)(q:qfF K C=true):∃ m o N bs c b sn sub ab a d e f g i j,
  h.get? C=some (excClassObj m o C N bs c b sn sub ab a d e f g i j "ValueError.__new__")/\qbY c=true:=by
 unfold qfF at q;split at q
 .rename_i d cd sl ho
  split at q
  .rename_i D c e f g i n j hm hs
   simp only[Yc,Ye,xE] at q;obtain⟨⟨⟨s,p⟩,t⟩,u⟩:=q;subst s u;obtain⟨m,bs,mro,ns,o,v,sn,sub,ab,a,r⟩:=cd;dsimp only at hm p;subst hm p;obtain⟨l⟩:=sl;dsimp only at hs;subst hs;show⟨m,o,ns,bs,c,v,sn,sub,ab,a,d,e,f,g,i,j,X _ _ ho,t⟩
  .cases q
 .cases q
structure XAt(K:yg)(C:Addr):Prop where
 ga:PySem.W.findIn K (.ref C) "__getattribute__"=some (some (.builtin "BaseException.__getattribute__"))
 gn:PySem.W.findIn K (.ref C) "__getattr__"=some none
 bx:PySem.W.mroIn K C (.type "BaseException")=some true
 ob:PySem.W.mroIn K C (.type "object")=some true
 hd:PySem.W.hasDictIn K C=true
 cl:PySem.W.findIn K (.ref C) "__class__"=some (some (.builtin "object.__class__"))
 cg:PySem.W.specialIn K (.builtin "object.__class__") "__get__"=some (some (.builtin "getset_descriptor.__get__"))
 ct:PySem.W.takesIn K (.builtin "object.__class__")=some true
 sa:PySem.W.findIn K (.ref C) "__setattr__"=some (some (.builtin "object.__setattr__"))
 mr:(PySem.W.clsIn K C).any (fun cd=>qbY cd.mro)=true
 xc:qfF K C=true
theorem bexc_ga_slot:Slot "ValueError" "__getattribute__" "BaseException.__getattribute__":=PySem.F.attr_ValueError.ga
section
variable{prog:Program}{w:World}{A:Around}{E:Value->Shared->Prop}{s:Shared}{K:yg}{x C:Addr}{ox:Obj}{od:Option Obj}{name:Str}{v:Value}
theorem xga_value{Q:Fin->Shared->Prop}(X:K.In s.heap)(I:PySem.W.InstAt s.heap x ox C od)(a:PySem.W.findObj K C od name=some (.value v))(h:Q (.done (.ret v)) s) :
  wpAny (model prog w) A (Builtin.«object.__getattribute__» ⟨[.ref x,.str name tk],[]⟩) Q E s:=by
 have F:=PySem.W.looks_find (M:=model prog w) X I a;show yr (yu (yr (yu (yr (I.type.here (yr (F.here ?_)))))));show yu h
theorem xga_call{R:Result->Shared->Prop}(X:K.In s.heap)(I:PySem.W.InstAt s.heap x ox C od)(b:PySem.W.mroIn K C (.type "BaseException")=some true)
  (h:wpAny (model prog w) A.in1 (Builtin.«object.__getattribute__» ⟨[.ref x,.str name tk],[]⟩) (fun a s'=>match a with | .done f=>R (.ok f) s' | .again c'=>c'.quiet=true/\codeAny (model prog w) A c' R s') (fun e s'=>R (.error e) s') s) :
  codeAny (model prog w) A (.call (.builtin "BaseException.__getattribute__") ⟨[.ref x,.str name tk],[]⟩) R s:=by
 show xF bexc_ga_slot.plain PySem.F.entry_bexc_ga ?_;show @PySem.W.check_slot (model prog w) _ _ s "BaseException.__getattribute__" "BaseException" "__getattribute__" (.ref x) [.str name tk] [] _ (by room) (by room) (I.type.andThen (xn X b)) (PySem.F.args_bexc_ga _ _) h
theorem qdP{b:Bool}{Q:Value->Shared->Prop}(X:K.In s.heap)(I:PySem.W.InstAt s.heap x ox C od)(c:XAt K C)
  (h:wpAny (model prog w) A.in1 (Builtin.«object.__getattribute__» ⟨[.ref x,.str name tk],[]⟩) (fun a s'=>match a with | .done (.ret v)=>wpAny (model prog w) A (handedOut v) Q E s' | _=>False) (fun _ _=>False) s) :
  wpAny (model prog w) A (getAttrBy (.ref x) (.str name tk) b expr) Q E s:=by
 unfold getAttrBy;show Yi (yr (I.type.here (yr ((YE X c.ga).here ?_))))
 have d:(onTheHeap (Value.ref C)&&Value.builtin "BaseException.__getattribute__"==Value.builtin "object.__getattribute__")=false:=by
  rw[show(Value.builtin "BaseException.__getattribute__"==Value.builtin "object.__getattribute__")=false by room];rfl
 dsimp only;rw[d,yC (by decide)];unfold getAttrByItsOwn hookBefore;rw[yE (show onTheHeap (Value.ref C)=true from rfl)];show yr ((YE X c.gn).here (yr (XI (Yi ?_))));have e:(expr&&onTheHeap (Value.builtin "BaseException.__getattribute__"))=false:=by cases expr<;>rfl
 unfold callGetattribute;rw[e,yC (by decide)];unfold boundAndCalled;rw[bexc_ga_slot.bind];show yr (yu ?_);show wpAny _ _ (call (.builtin "BaseException.__getattribute__") [.ref x,.str name tk]) _ _ _;show xG (xga_call X I c.bx (YA h (fun a s' z=>?_) fun _ _ z=>z.elim));rcases a with(_ | _ | _ | _) | _<;>first | show z | show z.elim
theorem xget{Q:Value->Shared->Prop}(X:K.In s.heap)(I:PySem.W.InstAt s.heap x ox C od)(c:XAt K C)(a:PySem.W.findObj K C od name=some (.value v))(b:PySem.W.handedIn v=true)
  (h:Q v { s with toks:=s.toks+1 }):wpAny (model prog w) A (getAttr (.ref x) name expr) Q E s:=by
 unfold getAttr;show yr (wpAny_mkText (qdP (s:={ s with toks:=s.toks+1 }) X I c (xga_value (s:={ s with toks:=s.toks+1 }) X I a ?_)));show wpAny _ _ (handedOut v) _ _ _;rw[PySem.W.handedOut_of b];show yu h
theorem xclass{Q:Option Value->Shared->Prop}(X:K.In s.heap)(I:PySem.W.InstAt s.heap x ox C od)(c:XAt K C)(a:PySem.W.findObj K C od "__class__"=some (.bind (.builtin "getset_descriptor.__get__") (.builtin "object.__class__")))
  (h:Q (some (.ref C)) { s with toks:=s.toks+1 }):wpAny (model prog w) A (getAttr? (.ref x) "__class__") Q E s:=by
 unfold getAttr? getAttrBy?;show yr (wpAny_mkText (yr (XI (qdP (s:={ s with toks:=s.toks+1 }) X I c ?_))));have F:=PySem.W.looks_find (M:=model prog w) X I a;show yr (yu (yr (yu (yr (I.type.here (s:={ s with toks:=s.toks+1 }) (yr (F.here (s:={ s with toks:=s.toks+1 }) ?_)))))));show wpAny _ _ (holding [Value.builtin "object.__class__"] (call (.builtin "getset_descriptor.__get__") [.builtin "object.__class__",.ref x,.ref C])>>=ret) _ _ _;show yr (Yi (xG (PySem.W.class_get (s:={ s with toks:=s.toks+1 }) X I c.ob ?_)));show yu ?_;show wpAny _ _ (handedOut (.ref C)) _ _ _;show yu (yu h)
theorem findObj_class(c:XAt K C):PySem.W.findObj K C od "__class__"=some (.bind (.builtin "getset_descriptor.__get__") (.builtin "object.__class__")):=by
 obtain⟨a,hc,_⟩:=xJ c.hd;unfold PySem.W.findObj;rw[hc,Option.bind_some,c.cl,Option.bind_some];simp[c.cg,c.ct]
theorem qc8(c:XAt K C):PySem.W.KitX K (.ref x) (.ref C) (fun h=>PySem.W.InstAt h x ox C od) where
 ty:=fun _ _ _ I=>I.type
 it:=fun _ _ X _=>by
  obtain⟨b,hc,_⟩:=xJ c.hd;unfold PySem.W.clsIn at hc;split at hc
  .rename_i c1 d1 cd1 sl1 ho
   intro f i g s' k q;unfold isType loadHead;show yr (wpAny_loadPart (k _ _ (X _ _ ho)) (yu q))
  .cases hc
 ne:=fun h d j its n l X a=>by
  obtain⟨b,hc,_⟩:=xJ c.hd;show Bool.eq_false_iff.mpr fun q=>?_;have e:C=d:=XJ (Ye.mp q);subst e;unfold PySem.W.clsIn at hc;split at hc
  .rename_i c1 d1 cd1 sl1 ho
   have z:=(X _ _ ho).symm.trans a;cases z
  .cases hc
 ca:=fun X I k=>xclass X I c (findObj_class c) k
end
theorem qcg{r:List Value}(e:qbY (.ref c::r)=true):qbY r=true:=by
 cases r with
 | nil=>cases e
 | cons a r=>show e
theorem qaG:∀{l:List Value},qbY l=true->∃ f:LQ,l=f.map Value.ref++[.type "ValueError",.type "Exception",.type "BaseException",.type "object"]
 | [],e=>by cases e
 | .ref c::r,e=>by
  obtain⟨f,q⟩:=qaG (qcg e);show⟨c::f,by rw[q];rfl⟩
 | .type a::r,e=>by
  match r,e with
  | [.type b,.type c,.type d],e =>
   simp only[qbY,Yc,Ye] at e;obtain⟨⟨⟨rfl,rfl⟩,rfl⟩,rfl⟩:=e;show⟨[],rfl⟩
theorem refuse_exc(self:Value)(e:qbY l=true):refuseLoop self "__setattr__" l=pure ():=by
 obtain⟨a,rfl⟩:=qaG e
 induction a with
 | nil=>show PySem.F.store_ValueError.passes self
 | cons c a ih=>rw[Yy,kB,refuseLoop_ref];show ih (qcg e)
theorem qaH(e:qbY l=true)(h:T∈["ValueError","Exception","BaseException","object"]):l.contains (.type T)=true:=by
 obtain⟨a,rfl⟩:=qaG e;rw[List.contains_iff_mem];show yL _ ?_;simp only[yv,yz,yU] at h ⊢;rcases h with rfl | rfl | rfl | rfl<;>simp
section
variable{prog:Program}{w:World}{A:Around}{E:Value->Shared->Prop}{s:Shared}{K:yg}{x C:Addr}{name:Str}{v:Value}{R:Result->Shared->Prop}
theorem xosa(X:K.In s.heap)(I:PySem.W.InstAt s.heap x ox C od)(c:XAt K C)(n:NoAttr K C name)
  (h:wpAny (model prog w) A.in1 (Builtin.ObjectAttr.storeInOwnDict (.ref x) (.ref C) (.str name tk) name v false)
   (fun b s'=>match b with | .done f=>R (.ok f) s' | .again c'=>c'.quiet=true/\codeAny (model prog w) A c' R s') (fun e s'=>R (.error e) s') s) :
  codeAny (model prog w) A (.call (.builtin "object.__setattr__") ⟨[.ref x,.str name tk,v],[]⟩) R s:=by
 have a:=PySem.F.store_object;obtain⟨d,hc,i⟩:=xJ c.mr;have g:PySem.W.Looks (model prog w) s.heap (mroOf (.ref C)) d.mro:=(X4 X hc).andThen .now;show xF a.slot.plain a.entry (@PySem.W.check_slot (model prog w) _ _ s "object.__setattr__" "object" "__setattr__" (.ref x) [.str name tk,v] [] _ a.kind a.split (I.type.andThen (xn X c.ob)) (a.args (.ref x) (.str name tk) v) ?_);rw[PySem.W.osa_eq,refuse_eq];show yr (yr (I.type.here (yr (g.here ?_))));rw[refuse_exc _ i];show yu (yr (I.type.here (yr ((YE X n).here (yr (yu ?_))))));show h
theorem xset{vs:Array Value}(X:K.In s.heap)(m:s.heap.get? x=some ⟨.ref C,none,.fields vs,#[]⟩)(c:XAt K C)(n:NoAttr K C name){Q:Unit->Shared->Prop}
  (h:∀ h',h'.get? x=some ⟨.ref C,some s.heap.objs.size,.fields vs,#[]⟩->h'.Ns1 s.heap.objs.size (fun y=>if y=name then some v else none)->(∀ b o,b≠x->s.heap.get? b=some o->h'.get? b=some o) ->
   Q () { s with heap:=h',toks:=s.toks+2 }):wpAny (model prog w) A (setAttr (.ref x) name v) Q E s:=by
 have I:PySem.W.InstAt s.heap x ⟨.ref C,none,.fields vs,#[]⟩ C none:=⟨m,rfl,rfl,YF⟩;obtain⟨J,hc,F⟩:=xJ c.hd;show PySem.W.set_plain X I c.sa (xosa (s:={ s with toks:=s.toks+1 }) X I c n ?_);show yr (yu (yr (yr (wpAny_loadPart m (yr ((X4 X hc).here (s:={ s with toks:=s.toks+1 }) ?_))))));rw[F];obtain⟨a,g,L,tk,N⟩:=s;show wpAny _ _ (alloc { cls:=.type "dict",data:=.dict #[] }>>=fun d=>update x (fun o=>{ cls:=o.cls,dict:=some d,data:=o.data,slots:=o.slots })>>=fun _=>pure (some d)) _ _ _;have l:x≠a.objs.size:=yG (yF m);have i:=yw { cls:=.type "dict",data:=.dict #[] } m;show yr (wpAny_alloc' (yr (wpAny_update' i (yu ?_))));have j:=Yv (fun o:Obj=>{ cls:=o.cls,dict:=some a.objs.size,data:=o.data,slots:=o.slots }) i rfl;have f:=(Heap.get?_update_ne (a.push { cls:=.type "dict",data:=.dict #[] }) a.objs.size x (fun o:Obj=>{ cls:=o.cls,dict:=some a.objs.size,data:=o.data,slots:=o.slots }) l.symm).trans (kn rfl rfl);generalize H:(a.push { cls:=.type "dict",data:=.dict #[] }).update x (fun o:Obj=>{ cls:=o.cls,dict:=some a.objs.size,data:=o.data,slots:=o.slots })=h2 at j f ⊢;have nd:h2.Ns a.objs.size (fun _=>none):=⟨_,#[],_,f,rfl,fun e G=>absurd G (by simp),fun _=>rfl⟩;show wpAny _ _ (Builtin.ObjectAttr.storeInDict a.objs.size (.str name tk) name v) _ _ _;unfold Builtin.ObjectAttr.storeInDict Builtin.ObjectAttr.newKeyGuard;show yr (yu (yr (wpAny_nsSet1 (Heap.Ns1.of_empty nd) fun h' u z=>?_)));obtain⟨M,p,B,t,r,q⟩:=u.count (PySem.Within.cons name v PySem.Within.nil);have hz:p.size<=sizeLine:=yi q (by rw[yD,YN,Yn];lk);show yr (wpAny_lookBehind t (by rw[r];show pastItsLine_dict (ko hz)) ?_);show yu (h h' ((z.2 x l).trans j) u fun b o D e=>(z.2 b (yG (yF e))).trans ?_);rw[<- H];show(Heap.get?_update_ne _ _ _ _ D).trans (yw _ e)
theorem ve_check{Q:Unit->Shared->Prop}(X:K.In s.heap)(c:XAt K C)(l:s.heap.get? x=some ox)(a:ox.cls=.ref C)(q:Q () s) :
  wpAny M A (checkBuiltinCall "ValueError.__init__" ⟨[.ref x,u],[]⟩) Q E s:=by
 have F:=YV;have b:=F.noStar;obtain⟨y,B,N,bs,h,f,sn,sub,ab,i,m,p,r,t,v,w,e,j⟩:=qc7 X c.xc;have d:(Value.ref C::h).contains (.type "ValueError")=true:=by rw[Yl,qaH j (by simp),X8]
 obtain⟨o,g,n,tk,z⟩:=s;simp only[checkBuiltinCall,F.initKind,F.initSplit,F.initRow]
 repeat (first | (with_reducible show Yz l ?_;rw[a]) | with_reducible show Yz e ?_ | (with_reducible show xo e ?_;rw[d]) | wp_step)
 show q
noncomputable abbrev xfs(a0:Addr):Array Value:=#[.ref a0,.none,.none,.none,.bool false,.none]
theorem xbase_init(X:K.In s.heap)(a:s.heap.get? x=some ⟨.ref C,none,.fields (xfs a0),#[]⟩)(c:XAt K C){Q:Value->Shared->Prop}
  (h:∀ h' d,h'.get? x=some ⟨.ref C,none,.fields (xfs d),#[]⟩->(∀ b o,b≠x->s.heap.get? b=some o->h'.get? b=some o)->Q .none { s with heap:=h' }) :
  wpAny (model prog w) A (call (.builtin "ValueError.__init__") [.ref x,u]) Q E s:=by
 have F:=YV;show xG (xF F.init.plain F.initEntry (ve_check X c a rfl ?_));obtain⟨i,g,j,tk,l⟩:=s
 wp_walk
 show h _ i.objs.size ?_ fun b o f e=>?_
 .rw [Yv _ (yw _ a) rfl];rfl
 .rw [Yr _ _ (Yb f)];show yw _ e
end
theorem qc9(e:qbY l=true)(h:T∉["ValueError","Exception","BaseException","object"]):l.contains (.type T)=false:=by
 obtain⟨b,rfl⟩:=qaG e;show Bool.eq_false_iff.mpr fun q=>?_;rcases yA.mp (List.contains_iff_mem.mp q) with z | z
 .obtain⟨a,_,q⟩:=YI.mp z;cases q
 .simp only[yv,yz,yU,Value.type.injEq] at z h;show h z
section
variable{prog:Program}{w:World}{A:Around}{R:Result->Shared->Prop}{E:Value->Shared->Prop}{h:Heap}{g:Array GenState}{d:Drawn}{t:Nat}{os:OsState}
variable{nm q:Str}{C N:Addr}{bs bm:List Value}{hdct:Bool}{sn:LS}{sub:List Value}{ab:Bool}{col:Option Bool}{dd:Option Addr}{k0 k1 k2 k3 k5:Option Value}
theorem xnew_check{rest:List Value}{Q:Unit->Shared->Prop}(b:h.get? C=some (excClassObj nm q C N bs bm hdct sn sub ab col dd k0 k1 k2 k3 k5 "ValueError.__new__"))(e:qbY bm=true)(f:Q () ⟨h,g,d,t,os⟩) :
  wpAny M A (checkBuiltinCall "ValueError.__new__" ⟨.ref C::rest,[]⟩) Q E ⟨h,g,d,t,os⟩:=by
 have F:=YV;have a:(Value.ref C::bm).contains (.type "ValueError")=true:=by rw[Yl,qaH e (by simp),X8]
 have c:=F.noStar;simp only[checkBuiltinCall,F.newKind,F.newSplit,F.newRow]
 repeat (first | show Yz b ?_ | (show xo b ?_;rw[a]) | show wpAny_staticBase_exc b ?_ | show wpAny_madeBy_exc b ?_ | simp only[bne_self_eq_false,xv,Xy] | wp_step)
 show f
theorem xnew{rest:List Value}(b:h.get? C=some (excClassObj nm q C N bs bm hdct sn sub ab col dd k0 k1 k2 k3 k5 "ValueError.__new__"))(j:qbY bm=true)(l:rest.length<=sizeLine)
  (m:R (.ok (.ret (.ref (h.objs.size+1)))) ⟨(h.push { cls:=.type "tuple",data:=.seq rest.toArray }).push { cls:=.ref C,data:=.fields (xfs h.objs.size) },g,d,t,os⟩) :
  codeAny (model prog w) A (.builtin "ValueError.__new__" ⟨.ref C::rest,[]⟩) R ⟨h,g,d,t,os⟩:=by
 have F:=YV;have i:=F.ends;have e:(Value.ref C::bm).contains (.type "ValueError")=true:=by rw[Yl,qaH j (by simp),X8]
 have c:(Value.ref C::bm).contains (.type "AttributeError")=false:=by rw[Yl,qc9 j (by simp)];rfl
 have f:(Value.ref C::bm).contains (.type "NameError")=false:=by rw[Yl,qc9 j (by simp)];rfl
 show codeAny_builtinAt F.entry ?_;unfold Builtin.«BaseException.__new__»;show PySem.wpAt_bind ?_;show PySem.wpAt _ _ _ (stack>>=_) _ _ _;show PySem.wpAt_bind (PySem.wpAt_stack fun n a=>PySem.wpAt_of_wpAny ?_)
 wp_walk
 show PySem.wpAt_of_wpAny ?_;rw[F.owner]
 repeat (first | with_reducible show wpAny_madeHere_exc F.canon b ?_ | with_reducible show Yz b ?_ | (with_reducible show xo b ?_;first | rw[e] | rw[c] | rw[f]) | wp_step)
 show R _ _;rw[YL];show m
theorem xtype_call{K:yg}{rest:List Value}{Q:Fin->Shared->Prop}(X:K.In h)(c:h.get? C=some (excClassObj nm q C N bs bm hdct sn sub ab col dd k0 k1 k2 k3 k5 "ValueError.__new__"))(m:qbY bm=true)
  (s:PySem.W.findIn K (.ref C) "__init__"=some (some (.ref f))) (p:PySem.W.isFn K (.ref f)=true) (a:rest.length<=sizeLine)
  (u:wpAny (model prog w) A (call (.ref f) (.ref (h.objs.size+1)::rest)) (fun r s'=>r=.none/\Q (.done (.ret (.ref (h.objs.size+1)))) s') E
   ⟨(h.push { cls:=.type "tuple",data:=.seq rest.toArray }).push { cls:=.ref C,data:=.fields (xfs h.objs.size) },g,d,t,os⟩) :
  wpAny (model prog w) A (Builtin.«type.__call__» ⟨.ref C::rest,[]⟩) Q E ⟨h,g,d,t,os⟩:=by
 have F:=YV
 repeat (first | with_reducible show Yz c ?_ | with_reducible show wpAny_madeBy_exc c ?_ | wp_step)
 show codeAny_call_builtin_code (Code.quiet_builtin _ F.quiet) (xnew_check c m (xnew c m a ?_));show wpAny _ _ _ _ _ _;have up:∀ b o,h.get? b=some o->((h.push { cls:=.type "tuple",data:=.seq rest.toArray }).push { cls:=.ref C,data:=.fields (xfs h.objs.size) }).get? b=some o:=fun b o e=>yw _ (yw _ e);have hC1:=up _ _ c;have i:((h.push { cls:=.type "tuple",data:=.seq rest.toArray }).push { cls:=.ref C,data:=.fields (xfs h.objs.size) }).get? (h.objs.size+1)=some { cls:=.ref C,data:=.fields (xfs h.objs.size) }:=kn (by rw[YL]) rfl;have l:K.In ((h.push { cls:=.type "tuple",data:=.seq rest.toArray }).push { cls:=.ref C,data:=.fields (xfs h.objs.size) }):=X.keeps up;have j:(Value.ref C::bm).contains (.ref C)=true:=by simp
 unfold isInstance
 repeat (first | with_reducible show Yz i ?_ | (with_reducible show xo hC1 ?_;rw[j]) | wp_step)
 show wpAny _ _ (typeLookup (.ref C) _) _ _ _;show(YE l s).at (Yi (yr ((PySem.W.bind_fn l _ (Ye.mp p)).at (yr (YA u (fun r s' v=>?_) fun _ _ z=>z)))));obtain⟨rfl,n⟩:=v
 wp_walk
 show n
theorem xcall{K:yg}{rest:List Value}{Q:Value->Shared->Prop}(X:K.In s.heap)(c:XAt K C)(i:PySem.W.findIn K (.ref C) "__init__"=some (some (.ref f)))(e:PySem.W.isFn K (.ref f)=true)(a:rest.length<=sizeLine)
  (l:wpAny (model prog w) (A.under (.builtin "type.__call__" ⟨.ref C::rest,[]⟩)) (call (.ref f) (.ref (s.heap.objs.size+1)::rest)) (fun r s'=>r=.none/\Q (.ref (s.heap.objs.size+1)) s') E
   { s with heap:=(s.heap.push { cls:=.type "tuple",data:=.seq rest.toArray }).push { cls:=.ref C,data:=.fields (xfs s.heap.objs.size) } }) :
  wpAny (model prog w) A (call (.ref C) rest) Q E s:=by
 obtain⟨nm,p,N,bs,bm,hdct,sn,sub,ab,col,dd,k0,k1,k2,k3,k5,b,j⟩:=qc7 X c.xc;obtain⟨h,g,d,t,os⟩:=s;have m:=tc_lookup;have n:=tc_bind (.ref C);have o:(⟨h,g,d,t,os⟩:Shared).TypeIs (.ref C) "type":=⟨_,b,rfl⟩;show xG (codeAny_of_tree ?_);show wpAny _ _ (callAny (.ref C) _) _ _ _
 repeat (any_goals (first | assumption | with_reducible show Yz b ?_ | wp_step))
 show⟨rfl,?_⟩;show codeAny_call_builtin_at (Code.quiet_builtin _ (by room)) entry_typeCall (wpAny_check_type_call_sub b (xtype_call X b j i e a l))
end
noncomputable def XN(e C:Addr)(dx:Option Addr):HO:=.ext fun h=>∃ a0,h.get? e=some ⟨.ref C,dx,.fields (xfs a0),#[]⟩
noncomputable def XO(e C:Addr)(dx:Option Addr):HO:=.ext fun h=>∃ vs,h.get? e=some ⟨.ref C,dx,.fields vs,#[]⟩
theorem XN.ok(q:h.get? e=some ⟨.ref C,dx,.fields (xfs a0),#[]⟩):ObjOk P w H h e (XN e C dx):=
 ⟨⟨a0,q⟩,⟨_,q⟩,fun _ _ ⟨a,x⟩ k=>⟨a,k _ x⟩⟩
theorem XO.ok{vs:Array Value}(q:h.get? e=some ⟨.ref C,dx,.fields vs,#[]⟩):ObjOk P w H h e (XO e C dx):=
 ⟨⟨vs,q⟩,⟨_,q⟩,fun _ _ ⟨a,x⟩ k=>⟨a,k _ x⟩⟩
def IsX(H:Hp)(e C:Addr)(dx:Option Addr):Prop:=H e=some (XN e C dx)\/H e=some (XO e C dx)
theorem IsX.get(q:IsX H e C dx)(b:HOk P w H h):∃ vs,h.get? e=some ⟨.ref C,dx,.fields vs,#[]⟩:=by
 rcases q with q | q
 .obtain⟨⟨a,x⟩,_⟩:=(show ObjOk P w H h e (XN e C dx) from b e _ q);show⟨_,x⟩
 .obtain⟨⟨a,x⟩,_⟩:=(show ObjOk P w H h e (XO e C dx) from b e _ q);show⟨_,x⟩
theorem upd_id{o:HO}(h:H a=some o):upd H a o=H:=by
 funext b;unfold upd;split
 .rename_i e;subst e;show h.symm
 .rfl
section
variable{X:Cx}{pins:List (Addr×Obj)}{σ:St}{H:Hp}{s:Shared}{e C:Addr}{dx:Option Addr}
theorem qeq(I:Inv X pins σ H s){d:Addr}{fs:List (Str×V)}(h:H d=some (.xd fs)):∃(od:Obj) (a:Str->Option Value),s.heap.get? d=some od/\(∀ name,PySem.W.lookIn name od=some (a name))/\∀ f,RelO (fs.lookup f) (a f):=by
 obtain⟨a,n,r⟩:=(show ObjOk X.prog X.w H s.heap d (.xd fs) from I.hok d _ h);obtain⟨od,h1,b⟩:=qb3 n;show⟨od,a,h1,b,r⟩
end
section
variable{X:Cx}{pins:List (Addr×Obj)}{σ:St}{H:Hp}{s:Shared}{a d:Addr}{h':Heap}{o u:HO}{t':Nat}
theorem Inv.both(I:Inv X pins σ H s)(i:Mut (H a))(l:s.heap.objs.size<=d)(k:∀ b v,b≠a->s.heap.get? b=some v->h'.get? b=some v)(m:∃ v,h'.get? a=some v)
  (p:ObjOk X.prog X.w (upd (upd H d u) a o) h' a o) (t:ObjOk X.prog X.w (upd (upd H d u) a o) h' d u) (ne:d≠a):Inv X pins σ (upd (upd H d u) a o) { s with heap:=h',toks:=t' }:=by
 have nd:H d=none:=I.hok.fresh l;have g:∀ b q,H b=some q->¬ Mut (some q)->b≠a:=fun b q e x z=>by subst z;rw[e] at i;show x i
 have j:∀ b,H b=none->b≠a:=fun b e z=>by subst z;rw[e] at i;show i
 have big:∀ b v,s.heap.get? b=some v->b≠d:=fun b v e=>yG (yj (yF e) l);have up:∀ b q,H b=some q->b≠a->upd (upd H d u) a o b=some q:=fun b q e n=>by rw[qf n,qf (qB e nd)];show e
 show I.un ⟨fun b v e n _ _=>k b v (j b n) e,fun b v e n _ _=>⟨v.slots,k b v (j b n) e⟩,fun b v e n _=>by rw[qf (j b n),qf (big b v e)];show n,fun b v e _=>?_,fun b xs e=>up b _ e (g b _ e fun z=>z),fun b q xs e=>up b _ e (g b _ e fun z=>z),
  fun b ps e=>⟨#[],by rw[up b _ e (g b _ e fun z=>z)];simp⟩⟩ fun b q e=>?_
 .by_cases f:b=a
  .subst f;show m
  .show⟨v,k b v f e⟩
 .by_cases f:b=a
  .subst f;rw[qb] at e;cases e;show p
  .rw [qf f] at e;by_cases h:b=d
   .subst h;rw[qb] at e;cases e;show t
   .rw [qf h] at e;show(I.hok b q e).stay (fun c v hc r=>k c v ?_ r) (fun c r=>up c _ r (g c _ r fun z=>z)) fun c xs r=>up c _ r (g c _ r fun z=>z);rcases hc with rfl | hc
    .show f
    .show g c _ hc fun z=>z
end
inductive FldR(K:yg)(f:Str)(x:V)(H:Hp)(Q:VK):Prop|mk (a C dx:Addr) (fs:List (Str×V)) (v:V) (_:x=.ref a) (_:H a=some (.ins C dx fs)) (_:Cls K C) (_:NoAttr K C f) (_:fs.lookup f=some v) (_:Q v H)
inductive XFlR(K:yg)(f:Str)(x:V)(H:Hp)(Q:VK):Prop|mk (a C dx:Addr) (fs:List (Str×V)) (v:V) (_:x=.ref a) (_:IsX H a C (some dx)) (_:XAt K C) (_:NoAttr K C f) (_:H dx=some (.xd fs)) (_:fs.lookup f=some v) (_:Q v H)
inductive FlUR(K:yg)(f:Str)(x:V)(H:Hp)(Q:VK):Prop | inl (_:FldR K f x H Q) | inr (_:XFlR K f x H Q)
inductive SFdR(K:yg)(f:Str)(x y:V)(H:Hp)(k:Hp->Prop):Prop|mk (a C dx:Addr) (fs:List (Str×V)) (_:x=.ref a) (_:H a=some (.ins C dx fs)) (_:Cls K C) (_:NoAttr K C f) (_:fs.length<1000) (_:k (upd H a (.ins C dx (qE f y fs))))
inductive SXdR(K:yg)(f:Str)(x y:V)(H:Hp)(k:Hp->Prop):Prop|mk (a C:Addr) (_:x=.ref a) (_:H a=some (XN a C none)) (_:XAt K C) (_:NoAttr K C f) (_:∀ dx,H dx=none->k (upd (upd H dx (.xd [(f,y)])) a (XN a C (some dx))))
inductive SFUR(K:yg)(f:Str)(x y:V)(H:Hp)(k:Hp->Prop):Prop | inl (_:SFdR K f x y H k) | inr (_:SXdR K f x y H k)
def qfk(K:yg)(b:TE)(f:Str):TE:=fun σ H Q=>b σ H fun x a=>FlUR K f x a Q
def qfl(K:yg)(c d:TE)(f:Str):TS:=fun D σ H=>d σ H fun y a=>c σ a fun x b=>SFUR K f x y b (D.nx σ)
section
variable{X:Cx}{o e value:Expr}{f:Str}{pos pos':Pos}{ta tv:TE}{K:yg}
theorem qD(w:X.K=K)(A:PE X e ta)(y:attributeBase e f X.env (eval e X.env)=eval e X.env):PE X (.Attribute e f pos) (qfk K ta f):=by
 subst w;intro pins s σ H Q I h;show attr_of y (thn (A pins s σ H _ I h) fun u F ⟨x,j,b,m,i⟩=>?_);rcases i with⟨a,C,dx,fs,v,rfl,g,c,n,l,q⟩ | ⟨a,C,dx,fs,v,rfl,g,c,n,z,l,q⟩
 .obtain rfl:u=Value.ref a:=m;show getattr_ok b g c n l fun E G p d=>⟨v,j,p,d,q⟩
 .obtain rfl:u=Value.ref a:=m;obtain⟨vs,i⟩:=g.get b.hok;obtain⟨od,D,h1,t,r⟩:=qeq b z;obtain⟨E,B,d⟩:=RelO.some_of (v:=v) (o:=D f) (by rw[<- l];show r f);show xget b.kIn (od:=some od) ⟨i,rfl,rfl,h1⟩ c (PySem.W.findObj_own c.hd n rfl (by rw[t,B])) (qb4 d) ⟨v,j,b.tok _,d,q⟩
theorem qV(J:X.K=K)(L:PE X o ta)(hv:PE X value tv)(N:swapsWith value (some (.Attribute o f pos')) pos.line X.env=pure false):PS X (.Assign [.Attribute o f pos'] value pos) (qfl K ta tv f):=by
 subst J;intro pins s σ H D I h;show plainObj_wpAny_Assign_Attribute (thn (hv pins s σ H _ I h) fun u O ⟨y,A,B,z,q⟩=>thn (L pins O σ A _ B q) fun t i ⟨x,p,b,v,e⟩=>?_) N;rcases e with⟨a,C,dx,fs,rfl,d,c,n,l,m⟩ | ⟨a,C,rfl,d,c,n,m⟩
 .obtain rfl:t=Value.ref a:=v;show setattr_ok b d c n l z fun P E=>⟨σ,_,E,m⟩
 .obtain rfl:t=Value.ref a:=v;obtain⟨⟨a0,e⟩,_⟩:=(show ObjOk X.prog X.w p i.heap a (XN a C none) from b.hok a _ d);show xset b.kIn e c n fun h' r F G=>?_;have nd:p i.heap.objs.size=none:=b.hok.fresh (yh _);have ne:i.heap.objs.size≠a:=Yd (yF e);show⟨σ,_,b.both (o:=XN a C (some i.heap.objs.size)) (u:=.xd [(f,y)]) (by rw[d];show YF) (yh _) G ⟨_,r⟩ (XN.ok r) ⟨_,F,fun g=>?_⟩ ne,m _ nd⟩;by_cases j:g=f
  .subst j;simp only[List.lookup,Y6,Xf];show z
  .have M:(g==f)=false:=Yo.mpr j;simp only[List.lookup,M,yC j];show YF
end
def qdQ(C:Addr)(sp:Sp)(E:XK)(t:TA):TE:=fun σ H Q=>t σ H fun vs a=>vs.length<=1000/\∀ x,a x=none->sp (.ref x::vs) (upd a x (XN x C none)) (fun v b=>v=.non/\Q (.ref x) b) E
structure XMk(K:yg)(C f:Addr):Prop where
 at_:XAt K C
 init:PySem.W.findIn K (.ref C) "__init__"=some (some (.ref f))
 fn:PySem.W.isFn K (.ref f)=true
 kp:PySem.W.keepIn K (.ref C)=true
section
variable{X:Cx}{CX:CXT}{k:Nat}{f C:Addr}{fd:FuncData}{ps:LS}{sp:Sp}{E:XK}{x m:Str}{p pos apos:Pos}{e o:Expr}{es:List Expr}{ta:TE}{t:TA}
theorem run_xmake{Q:VK}(M:XMk X.K C f)(F:FnOk X.prog X.w X.K X.mg X.base CX k f fd ps sp)(B:Room (k+1) X.A)(y:Binds X.K fd ps [])
  (D:zT CX X E) (I:Inv X pins σ H s) (r:Vals vs us) (i:vs.length<=1000) (h:∀ x,H x=none->sp (.ref x::vs) (upd H x (XN x C none)) (fun v n=>v=.non/\Q (.ref x) n) E) :
  wpAny (model X.prog X.w) X.A (call (.ref C) us) (EP X pins σ Q) X.xe s:=by
 have l:=h (s.heap.objs.size+1) (I.hok.fresh (xR _));have up:∀ b o,s.heap.get? b=some o->((s.heap.push { cls:=.type "tuple",data:=.seq us.toArray }).push { cls:=.ref C,data:=.fields (xfs s.heap.objs.size) }).get? b=some o:=fun b o q=>yw _ (yw _ q);have d:((s.heap.push { cls:=.type "tuple",data:=.seq us.toArray }).push { cls:=.ref C,data:=.fields (xfs s.heap.objs.size) }).get? (s.heap.objs.size+1)=some ⟨.ref C,none,.fields (xfs s.heap.objs.size),#[]⟩:=kn (by rw[YL]) rfl;have g:=I.laid (a:=s.heap.objs.size+1) (o:=XN (s.heap.objs.size+1) C none) (t':=s.toks) up (xR _) (XN.ok d);have m:Vals (V.ref (s.heap.objs.size+1)::vs) (Value.ref (s.heap.objs.size+1)::us):=.cons rfl r
 have hl:(Value.ref (s.heap.objs.size+1)::us++[]).length=ps.length:=by
  have q:=m.length;rw[F.len _ _ _ _ l] at q;rw[Yg];show q.symm
 have j:us.length<=sizeLine:=by rw[<- r.length];show yX (qi i)
 show xcall I.kIn M.at_ M.init M.fn j (xG (xU (F.run _ X.stack _ _ ⟨Value.ref (s.heap.objs.size+1)::us,[]⟩ (Value.ref (s.heap.objs.size+1)::us) _ _ E (B.make C us [])
  (g.env0.make C us []) (by have z:=y _ (Value.ref (s.heap.objs.size+1)::us) g.kIn hl;rw[Yg] at z;show z) m l) fun r s' c=>?_))
 cases r with
 | error e=>show D pins σ _ _ e s' g c
 | ok fl =>
  cases fl with
  | ret u =>
   obtain⟨v,H',p,J,t,G⟩:=g.after c;subst t;show⟨J,⟨V.ref (s.heap.objs.size+1),H',p,rfl,G⟩⟩
  | next=>show False.elim c
  | brk=>show False.elim c
  | cont=>show False.elim c
theorem pe_xmake(M:XMk X.K C f)(F:FnOk X.prog X.w X.K X.mg X.base CX k f fd ps sp)(m:Room (k+1) X.A)(j:Gl X x)(l:X.mg x=some (.ref C))(g:Binds X.K fd ps [])(n:zT CX X E)
  (d:PA X (e::es) t) (a:(x==("__debug__":Str))=false:=by decide) (i:starEach (e::es) X.env=(false,eval e X.env)::starEach es X.env:=by rfl) (b:(backTo pos (starEach es X.env)).any (·.1)=false:=by rfl) :
  PE X (.Call (.Name x p) (e::es) [] pos) (qdQ C sp E t):=by
 intro pins s σ H Q I h;show Y4 (zQ I j l ?_ a);show Y5 (h₀:=X.base) I.ok.mod.kin M.kp (thn (d pos pins s σ H _ I h) fun us u ⟨vs,o,c,r,z,q⟩=>⟨c.kIn,?_⟩) i b;show run_xmake M F m g n c r z q
structure CMeth(K:yg)(C:Addr)(m:Str)(f:Addr):Prop where
 rd:PySem.W.readsIn K C (.type "type")=true
 at_:PySem.W.findCls K (.ref C) (.type "type") m=some (.val (.ref f))
 ga:PySem.W.specialIn K (.ref C) "__getattribute__"=some (some (.builtin "type.__getattribute__"))
 kp:PySem.W.keepIn K (.ref f)=true
theorem pe_clsm{pl:Sem Bool}(M:CMeth X.K C m f)(F:FnOk X.prog X.w X.K X.mg X.base CX k f fd ps sp)(n:Room k X.A)(j:Gl X x)(l:X.mg x=some (.ref C))(i:Binds X.K fd ps [])(q:zT CX X E)(g:PA X (e::es) t)
  (a:(x==("__debug__":Str))=false:=by decide) (c:starEach (e::es) X.env=(false,eval e X.env)::starEach es X.env:=by rfl) (b:(backTo pos (starEach es X.env)).any (·.1)=false:=by rfl)
  (o:eval (.Call (.Attribute (.Name x p) m apos) (e::es) [] pos) X.env=(do
   let ov <- eval (.Name x p) X.env
   standAt apos.atName
   let (f,first) <- holding [ov] (getMethod ov m pl)
   callWith pos f first (backTo pos (starEach (e::es) X.env)) (backToKw pos (keywordEach [] X.env))):=by rfl) :
  PE X (.Call (.Attribute (.Name x p) m apos) (e::es) [] pos) (qdE sp [] E t):=by
 intro pins s σ H Q I h;show x0 (pl:=pl) (zQ I j l ?_ a) o;show PySem.W.method_cls I.kIn M.ga (PySem.W.cls_value I.kIn M.rd M.at_ rfl ?_);show Y5 (first:=[]) (h₀:=X.base) I.ok.mod.kin M.kp (thn (g pos pins _ σ H _ (I.tok (s.toks+1)) h) fun us y ⟨vs,v,d,r,u⟩=>⟨d.kIn,?_⟩) c b;show qcY F n i .nil q d r u
end
def qer(K:yg)(t:TA):TE:=fun σ H Q=>t σ H fun vs b=>∃ a C y,vs=[.ref a,y]/\b a=some (XN a C none)/\XAt K C/\Q .non b
theorem ve_type:PySem.W.Looks M h (typeOf (.type "ValueError")) (.type "type"):=PySem.W.Looks.of_pure (by kernel_rfl)
theorem ve_opaque:PySem.W.Looks M h (opaqueClassAbove (.type "ValueError")) none:=PySem.W.Looks.of_pure (by kernel_rfl)
structure VInit(K:yg):Prop where
 ga:PySem.W.findIn K (.type "type") "__getattribute__"=some (some (.builtin "type.__getattribute__"))
 su:PySem.W.subIn K (.type "type") (.type "type")=some true
 at_:PySem.W.findCls K (.type "ValueError") (.type "type") "__init__"=some (.val (.builtin "ValueError.__init__"))
section
variable{X:Cx}{p pos apos:Pos}{e:Expr}{es:List Expr}{t:TA}{K:yg}
theorem k_vinit{pl:Sem Bool}(E:X.K=K)(V:VInit K)(G:Gl X "ValueError")(L:X.mg "ValueError"=none)(hv:bootBuiltins "ValueError"=some (.type "ValueError"))(F:PA X (e::es) t)
  (l:starEach (e::es) X.env=(false,eval e X.env)::starEach es X.env:=by rfl) (j:(backTo pos (starEach es X.env)).any (·.1)=false:=by rfl)
  (M:eval (.Call (.Attribute (.Name "ValueError" p) "__init__" apos) (e::es) [] pos) X.env=(do
   let ov <- eval (.Name "ValueError" p) X.env
   standAt apos.atName
   let (f,first) <- holding [ov] (getMethod ov "__init__" pl)
   callWith pos f first (backTo pos (starEach (e::es) X.env)) (backToKw pos (keywordEach [] X.env))):=by rfl) :
  PE X (.Call (.Attribute (.Name "ValueError" p) "__init__" apos) (e::es) [] pos) (qer K t):=by
 subst E;intro pins s σ H Q I h;show x0 (pl:=pl) (qaW I G L hv ?_) M
 have i:∀{d:Value×List Value->Shared->Prop},d (.builtin "ValueError.__init__",[]) { s with toks:=s.toks+1 }->wpAny (model X.prog X.w) X.A (getMethod (.type "ValueError") "__init__" pl) d X.xe s:=fun{d} q=>by
  unfold getMethod;show yr ((ve_type.andThen (YE I.kIn V.ga)).here ?_);dsimp only;rw[yE PySem.W.canon_tga];show yr (PySem.W.cls_open (hook:=none) I.kIn ve_opaque ve_type V.ga (PySem.W.Looks.now) V.su V.at_ (yu ?_));show wpAny _ _ (handedOut _) _ _ _;show PySem.W.handed_on rfl (yu q)
 show i ?_;have r:=F pos pins _ σ H _ (I.tok (s.toks+1)) h;rw[l] at r ⊢;show XA (by show(false||(backTo pos (starEach es X.env)).any (·.1))=false;rw[j]<;>rfl) (XM ?_);show thn r fun us z ⟨vs,m,b,O,a,C,y,B,g,c,q⟩=>?_;subst B;obtain⟨u,v,rfl,P,S⟩:=qbJ O;cases P;obtain⟨⟨a0,N⟩,_⟩:=(show ObjOk X.prog X.w m z.heap a (XN a C none) from b.hok a _ g);show xbase_init b.kIn N c fun h' R n D=>?_;have J:=b.write (x:=a) (e:=a) (o:=XN a C none) (t':=z.toks) (by rw[g];show YF) (.inl rfl) D ⟨_,n⟩ (XN.ok n);rw[upd_id g] at J;show⟨.non,m,J,rfl,q⟩
end
structure Keep(fs zs:LQ)(h h':Heap):Prop where
 keep:∀ b o,h.get? b=some o->b∉zs->b∉fs->h'.get? b=some o
 slot:∀ b o,h.get? b=some o->b∉zs->b∈fs->∃ sl,h'.get? b=some { o with slots:=sl }
structure Trc(h:Heap)(e:Addr)(C:Value)(dx:Option Addr)(T:Addr)(fl:Value):Prop where
 ex:∃ vs,h.get? e=some ⟨C,dx,.fields vs,#[]⟩/\vs[1]?=some (.ref T)/\vs[2]?=some .none
 tb:∃ ts,h.get? T=some ⟨.type "traceback",none,.fields ts,#[]⟩/\ts[3]?=some fl
 ne:T≠e
section
variable{M:Model}{A:Around}{E:Value->Shared->Prop}{s:Shared}{base:Heap}{env:Env}{outer:List Env}{L e:Addr}{C:Value}{dx:Option Addr}{vs:Array Value}
theorem qes{d:Value}{p:Bool}{Q:Unit->Shared->Prop}(t:A.frames=some (env::outer))(hl:s.heap.FunFrames base (env::outer))(G:env.frame=some L)(x:s.heap.get? e=some ⟨C,dx,.fields vs,#[]⟩)(hsz:1<vs.size)(D:vs[2]?=some .none)
  (h:∀ h' T,s.heap.objs.size<=T->Trc h' e C dx T (rawInt L)->Keep (frs (env::outer)) [e] s.heap h'->Q () { s with heap:=h' }) :
  wpAny M A (do let a <- frameOf env;let pl <- entryPlaceOf L p;let b <- EntryCells.newEntry d a .none (rawInt L) .none pl;setField (.ref e) 1 b) Q E s:=by
 have l:e∉frs (env::outer):=fun H=>by
  obtain⟨_,o,B,u⟩:=hl.mem H;rw[x] at B;cases B;show u vs rfl
 show yr (wpAny_frameOf_fun t hl G fun c n=>yr (wpAny_entryPlaceOf fun pl m=>?_));unfold EntryCells.newEntry newFields;show yr (YC ?_ (m.sizeOk5 _ _ _ _ _));have i:c.get? e=some ⟨C,dx,.fields vs,#[]⟩:=(n.2.1 e l).trans x;generalize v:([d,.ref L,.none,rawInt L,.none]++(if pl.isEmpty then List.replicate 6 Value.none else pl)).toArray=w;have F:w[3]?=some (rawInt L):=by rw[<- v];first | (simp;done) | (rcases m with rfl | ⟨_,_,_,_,_,_,_,rfl⟩<;>simp)
 have j:=yw (h:=c) { cls:=.type "traceback",dict:=none,data:=.fields w } i;have g:c.objs.size≠e:=Yd (yF i);show wpAny_setField j rfl hsz (h _ c.objs.size (xT n.1.symm) ⟨⟨vs.setIfInBounds 1 (.ref c.objs.size),?_,by simp[hsz],by rw[Array.getElem?_setIfInBounds_ne (by decide)];show D⟩,⟨w,?_,F⟩,g⟩ ⟨fun b o q r y=>?_,fun b o q r y=>?_⟩)
 .rw [Yv _ j rfl];rfl
 .rw [Yr _ _ (Yb g)];show yS c rfl
 .have f:b≠e:=fun z=>r (by simp[z]);rw[Yr _ _ (Yb f)];show yw _ ((n.2.1 b y).trans q)
 .have f:b≠e:=fun z=>r (by simp[z]);obtain⟨I,z⟩:=n.2.2 b o q;show⟨I,by rw[Yr _ _ (Yb f)];show yw _ z⟩
theorem qch{Q:Unit->Shared->Prop}(a:A.frames=some (env::outer))(hl:s.heap.FunFrames base (env::outer))(c:env.frame=some L)(b:s.heap.get? e=some ⟨C,dx,.fields vs,#[]⟩)(h1:vs[1]?=some .none)(d:vs[2]?=some .none)
  (h:∀ h' T,s.heap.objs.size<=T->Trc h' e C dx T (rawInt L)->Keep (frs (env::outer)) [e] s.heap h'->Q () { s with heap:=h' }):wpAny M A (noteFrame (.ref e) env) Q E s:=by
 unfold noteFrame;simp only[c];show yr (Yu b rfl h1 ?_);rw[yC (by decide)];show qes a hl c b (YW.mp h1).1 d h
theorem qda{T:Addr}{Q:Unit->Shared->Prop}(g:A.frames=some (env::outer))(hl:s.heap.FunFrames base (env::outer))(r:env.frame=some L)(t:Trc s.heap e C dx T .none)
  (h:∀ h' d,s.heap.objs.size<=d->Trc h' e C dx d (rawInt L)->Keep (frs (env::outer)) [e,T] s.heap h'->Q () { s with heap:=h' }):wpAny M A (noteFrame (.ref e) env) Q E s:=by
 obtain⟨⟨vs,p,h1,u⟩,⟨w,f,n⟩,j⟩:=t;unfold noteFrame;simp only[r];show yr (Yu p rfl h1 ?_);rw[yE (show(Value.ref T != Value.none)=true from by simp)];show yr (Yu f rfl n ?_);rw[yC (show ¬ ((Value.none==rawInt L)=true) from by simp[rawInt])];show yr (wpAny_setField f rfl (YW.mp n).1 ?_);have other:∀ b,b≠T->(s.heap.update T (Obj.mapFields (·.setIfInBounds 3 Value.none))).get? b=s.heap.get? b:=fun b a=>Yr _ _ (Yb a);have m:(s.heap.update T (Obj.mapFields (·.setIfInBounds 3 Value.none))).objs.size=s.heap.objs.size:=Heap.size_after_update ..;show qes (s:={ s with heap:=s.heap.update T (Obj.mapFields (·.setIfInBounds 3 Value.none)) }) g (hl.of_keeps fun b o a l=>?_) r ((other e (Yb j)).trans p) (YW.mp h1).1 u fun h' d v t' k=>?_
 .have c:b≠T:=fun q=>by rw[q,f] at a;cases a;show l w rfl
  show⟨o,(other b c).trans a,rfl⟩
 .show h h' d (by rw[<- m];show v) t' ⟨fun b o q a i=>?_,fun b o q a i=>?_⟩
  .have c:b≠T:=fun z=>a (by simp[z]);show k.keep b o ((other b c).trans q) (fun z=>a (by simp only[yx] at z;simp[z])) i
  .have c:b≠T:=fun z=>a (by simp[z]);show k.slot b o ((other b c).trans q) (fun z=>a (by simp only[yx] at z;simp[z])) i
theorem qbN{T:Addr}{Q:Unit->Shared->Prop}(t:Trc s.heap e C dx T fl)(h:∀ h',Trc h' e C dx T .none->(∀ b o,b≠T->s.heap.get? b=some o->h'.get? b=some o)->h'.objs.size=s.heap.objs.size->Q () { s with heap:=h' }) :
  wpAny M A (setFlight (.ref e) none) Q E s:=by
 obtain⟨⟨vs,f,h1,i⟩,⟨g,d,j⟩,c⟩:=t;have a:3<g.size:=(YW.mp j).1;unfold setFlight;show yr (Yu f rfl h1 ?_);rw[yE (show(Value.ref T != Value.none)=true from by simp)];show wpAny_setField d rfl a (h _ ⟨⟨vs,?_,h1,i⟩,⟨g.setIfInBounds 3 .none,?_,by simp[a]⟩,c⟩ (fun b o l q=>?_) (Heap.size_after_update ..))
 .rw [Yr _ _ c];show f
 .rw [Yv _ d rfl];rfl
 .rw [Yr _ _ (Yb l)];show q
end
def CX1(P:Program)(w:World):CXT:=fun b H s E c s'=>∃(a C:Addr) (dx:Option Addr) (T:Addr) (H':Hp),c=.ref a/\s'.os=s.os/\AllBare s'.gens/\Un (frs b) [] H H' s.heap s'.heap/\HOk P w H' s'.heap /\
 H' a=some (XO a C dx)/\Trc s'.heap a (.ref C) dx T .none/\s.heap.objs.size<=T/\H' T=none/\E (.ref C) dx H'
section
variable{X:Cx}{pins:List (Addr×Obj)}{σ:St}{H:Hp}{s:Shared}
theorem qbO{T:Addr}(I:Inv X pins σ H s)(g:H a=some (XO a C dx))(k:Keep (frs X.stack) zs s.heap h')(hz:∀ b∈zs,b=a\/H b=none)(t:Trc h' a (.ref C) dx T fl):HOk X.prog X.w H h':=fun b u e=>by
 by_cases f:b=a
 .subst f;rw[g] at e;cases e;obtain⟨vs,q,_⟩:=t.ex;show XO.ok q
 .have d:∀ c o,H c=some o->c≠a->c∉zs/\c∉frs X.stack:=fun c o q n=>⟨fun z=>(hz c z).elim n fun y=>(by rw[y] at q;cases q),fun z=>(by have y:=I.stkFree c z;rw[y] at q;cases q)⟩;show(I.hok b u e).stay (fun c v hc r=>?_) (fun _ q=>q) fun _ _ q=>q;rcases hc with rfl | hc
  .show k.keep c v r (d c _ e f).1 (d c _ e f).2
  .have n:c≠a:=fun z=>by rw[z,g] at hc;cases hc
   show k.keep c v r (d c _ hc n).1 (d c _ hc n).2
theorem qet{T:Addr}(I:Inv X pins σ H s)(i:X.ex=[])(u:H a=some (XO a C dx))(k:Keep (frs X.stack) zs s.heap h')(hz:∀ b∈zs,b=a\/X.s₀.heap.objs.size<=b)(t:Trc h' a (.ref C) dx T fl) :
  Un X.fs [] X.H₀ H X.s₀.heap h':=by
 have B:=I.base;rw[i] at B;have j:∀ b o,X.s₀.heap.get? b=some o->b≠X.env.locals:=fun b o e=>yG (yj (yF e) I.ok.above);have m:∀ b o,X.s₀.heap.get? b=some o->b≠a->b∉zs:=fun b o e n z=>(hz b z).elim n fun y=>absurd (yj (yF e) y) (Yp _);have r:∀ b,H b=none->b≠a:=fun b n z=>by rw[z,u] at n;cases n
 have l:∀ b o,X.s₀.heap.get? b=some o->b∉X.fs->b∉frs X.stack:=fun b o e n z=>(yv.mp (I.stkSub b z)).elim (j b o e) n;show⟨fun b o e n c d=>?_,fun b o e n c d=>?_,B.free,fun b o e d=>?_,B.tups,B.frzs,B.tbls⟩
 .show k.keep b o (B.keep b o e n c d) (m b o e (r b (B.free b o e n d))) (l b o e c)
 .obtain⟨w,q⟩:=B.slot b o e n c d;have h:=m b o e (r b (B.free b o e n d));by_cases f:b∈frs X.stack
  .obtain⟨g,p⟩:=k.slot b _ q h f;show⟨g,p⟩
  .show⟨w,k.keep b _ q h f⟩
 .obtain⟨v,q⟩:=B.there b o e d;by_cases c:b=a
  .subst c;obtain⟨vs,z,_⟩:=t.ex;show⟨_,z⟩
  .have h:=m b o e c;by_cases f:b∈frs X.stack
   .obtain⟨g,p⟩:=k.slot b _ q h f;show⟨_,p⟩
   .show⟨v,k.keep b _ q h f⟩
end
structure XOk(X:Cx)(EK:St->XK):Prop where
 pass:∀(pins:List (Addr×Obj)) (σ:St) (H:Hp) (s:Shared) (e:Value) (s':Shared),Inv X pins σ H s->CX1 X.prog X.w X.stack H s (EK σ) e s'->X.xe e s'
 rais:∀(pins:List (Addr×Obj)) (σ:St) (H:Hp) (s:Shared) (a C:Addr) (dx:Option Addr),Inv X pins σ H s->H a=some (XN a C dx)->EK σ (.ref C) dx (upd H a (XO a C dx))->X.xe (.ref a) s
 calm:X.calm=true
section
variable{P:Program}{w:World}{K:yg}{mg:Str->Option Value}{base:Heap}{N:LS}{qual:Str}{scope:Scope}{f:Addr}{cd:Value}{A:Around}{outer:List Env}{s0:Shared}{H0:Hp}{E:XK}
theorem qaI:XOk (qel (CX1 P w) P w K mg base N qual scope f cd A outer s0 H0 E) fun _=>E where
 calm:=rfl
 pass:=by
  intro pins σ H s R s' I p;obtain⟨a,C,dx,T,H',rfl,F,m,un,D,h,t,O,B,q⟩:=p;have J:=I.call' (s':=s') (H':=H') (ch:=[]) F un D m (fun b z=>absurd z (by simp));show wpAny _ _ (leaving _ _) _ _ _;unfold leaving;show yr (qda (base:=base) J.ok.frames J.stack rfl t fun h' g i t' k=>?_);show qbN (s:={ s' with heap:=h' }) t' fun v j r M=>?_;have G:s0.heap.objs.size<=s.heap.objs.size:=I.sz;have l:=J.sz
  have u:Keep (frs (envOfC qual scope s0.heap.objs.size f cd::outer)) [a,T,g] s'.heap v:=by
   show⟨fun b o e z n=>?_,fun b o e z n=>?_⟩
   .simp only[yv,yz,yU,k9] at z;show r b o z.2.2 (k.keep b o e (by simp[z.1,z.2.1]) n)
   .simp only[yv,yz,yU,k9] at z;obtain⟨L,y⟩:=k.slot b o e (by simp[z.1,z.2.1]) n;show⟨L,r b _ z.2.2 y⟩
  have d:H' g=none:=J.hok.fresh i;show⟨a,C,dx,g,H',rfl,J.os,m,qet J rfl h u (fun b c=>?_) j,qbO J h u (fun b c=>?_) j,h,j,yi l i,d,q⟩
  .simp only[yv,yz,yU] at c;rcases c with rfl | rfl | rfl
   .show .inl rfl
   .show .inr (yi G O)
   .show .inr (yi l i)
  .simp only[yv,yz,yU] at c;rcases c with rfl | rfl | rfl
   .show .inl rfl
   .show .inr B
   .show .inr d
 rais:=by
  intro pins σ H s a C dx I e q;obtain⟨⟨a0,p⟩,_⟩:=(show ObjOk _ _ H s.heap a (XN a C dx) from I.hok a _ e);have J:Inv _ pins σ (upd H a (XO a C dx)) s:=I.write (x:=a) (e:=a) (o:=XO a C dx) (h':=s.heap) (t':=s.toks) (by rw[e];show YF) (.inl rfl) (fun _ _ _ q=>q) ⟨_,p⟩ (XO.ok p);show wpAny _ _ (leaving _ _) _ _ _;unfold leaving;show yr (qch (base:=base) J.ok.frames J.stack rfl p rfl rfl fun h' g i t' k=>?_);show qbN (s:={ s with heap:=h' }) t' fun v j r M=>?_;have l:=J.sz;have h:upd H a (XO a C dx) a=some (XO a C dx):=qb
  have u:Keep (frs (envOfC qual scope s0.heap.objs.size f cd::outer)) [a,g] s.heap v:=by
   show⟨fun b o e z n=>?_,fun b o e z n=>?_⟩
   .simp only[yv,yz,yU,k9] at z;show r b o z.2 (k.keep b o e (by simp[z.1]) n)
   .simp only[yv,yz,yU,k9] at z;obtain⟨L,y⟩:=k.slot b o e (by simp[z.1]) n;show⟨L,r b _ z.2 y⟩
  have d:upd H a (XO a C dx) g=none:=J.hok.fresh i;show⟨a,C,dx,g,_,rfl,J.os,J.bare,qet J rfl h u (fun b c=>?_) j,qbO J h u (fun b c=>?_) j,h,j,yi l i,d,q⟩
  .simp only[yv,yz,yU] at c;rcases c with rfl | rfl
   .show .inl rfl
   .show .inr (yi l i)
  .simp only[yv,yz,yU] at c;rcases c with rfl | rfl
   .show .inl rfl
   .show .inr d
end
def qeu(K:yg)(c:St->XK)(te:TE):TS:=fun _ σ H=>te σ H fun x b=>∃ a C dx,x=.ref a/\b a=some (XN a C dx)/\XAt K C/\c σ (.ref C) dx (upd b a (XO a C dx))
section
variable{X:Cx}{EK:St->XK}{e:Expr}{te:TE}{pos:Pos}{K:yg}
theorem xraise{x:Sem Value}{Q:Flow->Shared->Prop}(p:A.handled=none)
  (h:wpAny M A x (fun v b=>∃ a C dx a0,v=.ref a/\K.In b.heap/\XAt K C/\b.heap.get? a=some ⟨.ref C,dx,.fields (xfs a0),#[]⟩/\E (.ref a) b) E s):wpAny M A (raiseStmt env (some x) none) Q E s:=by
 unfold raiseStmt;show yr (YA h (fun v b h1=>?_) fun _ _ z=>z);obtain⟨a,C,dx,a0,rfl,f,c,o,n⟩:=h1;obtain⟨F,H,N,bs,l,j,sn,sub,ab,m,r,u,w,y,B,D,i,q⟩:=qc7 f c.xc;have e:(Value.ref C::l).contains (.type "BaseException")=true:=by rw[Yl,qaH q (by simp),X8]
 obtain⟨t,g,d,tk,G⟩:=b
 repeat (first | with_reducible show Yz o ?_ | with_reducible show Yz i ?_ | (with_reducible show xo i ?_;rw[e]) | wp_step)
 show wpAny_raiseNew_none p n
theorem k_raise(j:X.K=K)(f:XOk X EK)(l:PE X e te):PS X (.Raise (some e) none pos) (qeu K EK te):=by
 subst j;intro pins s σ H D I h;rw[arm_exec_Raise];show yr (Xo (xraise (K:=X.K) (I.ok.hd f.calm) ?_));show yr (thn (l pins s σ H _ I h) fun v i ⟨x,d,b,n,a,C,dx,ex,g,c,q⟩=>yr (Xo (yu ?_)));subst ex;cases n;obtain⟨⟨a0,m⟩,_⟩:=(show ObjOk _ _ d i.heap a (XN a C dx) from b.hok a _ g);show⟨a,C,dx,a0,rfl,b.kIn,c,m,f.rais pins σ d i a C dx b g q⟩
end
def qev(sp:Sp)(a:St->XK)(t:TA):TE:=fun σ H Q=>t σ H fun vs b=>sp vs b Q (a σ)
def tMethS(C:Addr)(m:Str)(sp:Sp)(b:St->XK)(d:TE)(t:TA):TE:=fun σ H Q=>d σ H fun x a=>MeR C m x a (t σ a fun vs c=>sp (x::vs) c Q (b σ))
def qew(C:Addr)(sp:Sp)(b:St->XK)(t:TA):TE:=fun σ H Q=>t σ H fun vs a=>∀ x dx,a x=none->a dx=none->dx≠x ->
 sp (.ref x::vs) (upd (upd a dx (.own x)) x (.ins C dx [])) (fun v c=>v=.non/\Q (.ref x) c) (b σ)
theorem FnOk.any{K:yg}{b:Str->Option Value}{base:Heap}{k:Nat}{CX:CXT}(F:FnOk P w K b base CX0 k f fd ps sp):FnOk P w K b base CX k f fd ps sp:=by
 show⟨F.len,fun A a s H args us vs Q E g d c hv h=>xU (F.run A a s H args us vs Q E g d c hv h) fun r s' q=>?_⟩
 cases r with
 | ok fl=>cases fl<;>show q
 | error e=>show q.elim
structure MethOk(P:Program)(w:World)(K:yg)(mg:Str->Option Value)(base:Heap)(CX:CXT)(k:Nat)(C:Addr)(m:Str)(ps:LS)(sp:Sp):Prop where
 ex:∃ f fd,FnOk P w K mg base CX k f fd ps sp/\Meth K C m f/\Binds K fd ps []
 cl:Cls K C
structure MakeOk(P:Program)(w:World)(K:yg)(mg:Str->Option Value)(base:Heap)(CX:CXT)(k:Nat)(C:Addr)(x:Str)(ps:LS)(sp:Sp):Prop where
 ex:∃ f fd,FnOk P w K mg base CX k f fd ps sp/\Mk K C f/\Binds K fd ps []
 mg_:mg x=some (.ref C)
structure XMakeOk(P:Program)(w:World)(K:yg)(mg:Str->Option Value)(base:Heap)(k:Nat)(C:Addr)(x:Str)(ps:LS)(sp:Sp):Prop where
 ex:∃ f fd,FnOk P w K mg base CX0 k f fd ps sp/\XMk K C f/\Binds K fd ps []
 mg_:mg x=some (.ref C)
section
variable{X:Cx}{EK:St->XK}{k:Nat}{f C:Addr}{fd:FuncData}{ps:LS}{sp:Sp}{x m:Str}{p pos apos:Pos}{e o:Expr}{es:List Expr}{ta:TE}{t:TA}
theorem run_fnS{Q:VK}(F:FnOk X.prog X.w X.K X.mg X.base (CX1 X.prog X.w) k f fd ps sp)(g:Room k X.A)(d:Binds X.K fd ps [])(c:XOk X EK)
  (I:Inv X pins σ H s) (r:Vals vs us) (h:sp vs H Q (EK σ)):wpAny (model X.prog X.w) X.A (call (.ref f) us) (EP X pins σ Q) X.xe s:=by
 have hl:(us++[]).length=ps.length:=by rw[Yg,<- r.length];show F.len _ _ _ _ h
 have b:=d s us I.kIn hl;rw[Yg] at b;show xG (xU (F.run X.A X.stack s H ⟨us,[]⟩ us vs Q (EK σ) g I.env0 b r h) fun r s' a=>?_)
 cases r with
 | error e=>show c.pass pins σ H s e s' I a
 | ok fl =>
  cases fl with
  | ret u=>show I.after a
  | _=>show False.elim a
theorem qbP(D:DefOk X.prog X.w X.K X.mg X.base (CX1 X.prog X.w) k x ps sp)(o:Room k X.A)(d:XOk X EK)(g:PA X (e::es) t)(l:Gl X x:=by rfl)(a:(x==("__debug__":Str))=false:=by decide)
  (j:starEach (e::es) X.env=(false,eval e X.env)::starEach es X.env:=by rfl) (b:(backTo pos (starEach es X.env)).any (·.1)=false:=by rfl):PE X (.Call (.Name x p) (e::es) [] pos) (qev sp EK t):=by
 obtain⟨f,fd,F,n,m,i⟩:=D.ex;intro pins s σ H Q I h;show Y4 (zQ I l n ?_ a);show Y5 (h₀:=X.base) I.ok.mod.kin m (thn (g pos pins s σ H _ I h) fun us v ⟨vs,u,c,r,q⟩=>⟨c.kIn,?_⟩) j b;show run_fnS F o i d c r q
theorem run_makeS{Q:VK}(M:Mk X.K C f)(F:FnOk X.prog X.w X.K X.mg X.base (CX1 X.prog X.w) k f fd ps sp)(o:Room (k+1) X.A)(n:Binds X.K fd ps [])(l:XOk X EK)
  (I:Inv X pins σ H s) (r:Vals vs us) (h:∀ x dx,H x=none->H dx=none->dx≠x->sp (.ref x::vs) (upd (upd H dx (.own x)) x (.ins C dx [])) (fun v i=>v=.non/\Q (.ref x) i) (EK σ)) :
  wpAny (model X.prog X.w) X.A (call (.ref C) us) (EP X pins σ Q) X.xe s:=by
 have d:=h (s.heap.objs.size+1) s.heap.objs.size (I.hok.fresh (xR _)) (I.hok.fresh (yh _)) (yG (xK _));have c:=Inv.made (C:=C) I;have g:Vals (V.ref (s.heap.objs.size+1)::vs) (Value.ref (s.heap.objs.size+1)::us):=.cons rfl r
 have hl:(Value.ref (s.heap.objs.size+1)::us++[]).length=ps.length:=by
  have q:=g.length;rw[F.len _ _ _ _ d] at q;rw[Yg];show q.symm
 have b:=n _ (Value.ref (s.heap.objs.size+1)::us) c.kIn hl;rw[Yg] at b;show xG (qcX (f:=f) I.kIn M.makes M.init (Ye.mp M.fn) (xU (F.run _ X.stack _ _ ⟨Value.ref (s.heap.objs.size+1)::us,[]⟩ (Value.ref (s.heap.objs.size+1)::us) _ _ (EK σ) (o.make C us [])
  (c.env0.make C us []) b g d) fun r s' a=>?_))
 cases r with
 | error e=>show l.pass pins σ _ _ e s' c a
 | ok fl =>
  cases fl with
  | ret u =>
   obtain⟨v,H',j,t,m,p⟩:=c.after a;subst m;show⟨t,⟨V.ref (s.heap.objs.size+1),H',j,rfl,p⟩⟩
  | _=>show False.elim a
theorem qbQ(D:MakeOk X.prog X.w X.K X.mg X.base (CX1 X.prog X.w) k C x ps sp)(m:Room (k+1) X.A)(d:XOk X EK)(g:PA X (e::es) t)(l:Gl X x:=by rfl)(a:(x==("__debug__":Str))=false:=by decide)
  (j:starEach (e::es) X.env=(false,eval e X.env)::starEach es X.env:=by rfl) (b:(backTo pos (starEach es X.env)).any (·.1)=false:=by rfl):PE X (.Call (.Name x p) (e::es) [] pos) (qew C sp EK t):=by
 obtain⟨f,fd,F,M,i⟩:=D.ex;intro pins s σ H Q I h;show Y4 (zQ I l D.mg_ ?_ a);show Y5 (h₀:=X.base) I.ok.mod.kin M.kp (thn (g pos pins s σ H _ I h) fun us o ⟨vs,n,c,r,q⟩=>⟨c.kIn,?_⟩) j b;show run_makeS M F m i d c r q
theorem pe_xm(D:XMakeOk X.prog X.w X.K X.mg X.base k C x ps sp)(i:Room (k+1) X.A)(c:PA X (e::es) t)(h:Gl X x:=by rfl)(a:(x==("__debug__":Str))=false:=by decide)
  (g:starEach (e::es) X.env=(false,eval e X.env)::starEach es X.env:=by rfl) (b:(backTo pos (starEach es X.env)).any (·.1)=false:=by rfl):PE X (.Call (.Name x p) (e::es) [] pos) (qdQ C sp E0 t):=by
 obtain⟨f,fd,F,M,d⟩:=D.ex;show pe_xmake M F i h D.mg_ d qz c a g b
theorem qF{pl:Sem Bool}(D:MethOk X.prog X.w X.K X.mg X.base CX0 k C m ps sp)(i:Room k X.A)(g:PE X o ta)(c:PA X (e::es) t)
  (b:starEach (e::es) X.env=(false,eval e X.env)::starEach es X.env:=by rfl) (a:(backTo pos (starEach es X.env)).any (·.1)=false:=by rfl)
  (j:eval (.Call (.Attribute o m apos) (e::es) [] pos) X.env=(do
   let ov <- eval o X.env
   standAt apos.atName
   let (f,first) <- holding [ov] (getMethod ov m pl)
   callWith pos f first (backTo pos (starEach (e::es) X.env)) (backToKw pos (keywordEach [] X.env))):=by rfl) :
  PE X (.Call (.Attribute o m apos) (e::es) [] pos) (qdF C m sp [] E0 ta t):=by
 obtain⟨f,fd,F,h,d⟩:=D.ex;show pe_meth (pl:=pl) g D.cl h F i d .nil qz c b a j
theorem jm{pl:Sem Bool}(D:MethOk X.prog X.w X.K X.mg X.base CX0 k C m ps sp)(d:Room k X.A)(b:PE X o ta)
  (e:eval (.Call (.Attribute o m apos) [] [] pos) X.env=(do
   let ov <- eval o X.env
   standAt apos.atName
   let (f,first) <- holding [ov] (getMethod ov m pl)
   callWith pos f first (backTo pos (starEach [] X.env)) (backToKw pos (keywordEach [] X.env))):=by rfl) :
  PE X (.Call (.Attribute o m apos) [] [] pos) (qdF C m sp [] E0 ta qek):=by
 obtain⟨f,fd,F,c,a⟩:=D.ex;show pe_meth0 (pl:=pl) b D.cl c F d a .nil qz e
end
section
variable{P:Program}{w:World}{K:yg}{mg:Str->Option Value}{base:Heap}
theorem Fun.ok1{st:Stmt}{k:Nat}(F:Fun K x qual st f fd)(S:FnScope N ps (qh st))(len:∀ vs H Q E,sp vs H Q E->vs.length=ps.length)
  (c:∀(b:Value) (A:Around) (a:List Env) (s:Shared) (H:Hp) (vs:List V) (Q:VK) (E:XK),Room k (A.deeper (envOfC qual (qh st) s.heap.objs.size f b))->sp vs H Q E ->
   ∃ t,PSs (qel (CX1 P w) P w K mg base N qual (qh st) f b A a s H E) (zt st) t/\t { nx:=fun _ H'=>Q .non H',rt:=Q } (start N vs) H):FnOk P w K mg base (CX1 P w) (k+1) f fd ps sp:=by
 obtain⟨m,od,kV,g,n,l,b,ct,j,rfl,i,d⟩:=F.ex;show qfc i d S len fun A a s H vs Q E h e=>c b A a s H vs Q E h e
end
noncomputable abbrev Cx.tried(X:Cx)(pn:List (Addr×Obj))(E:Value->Shared->Prop):Cx:={ X with pn:=pn,xe:=E }
noncomputable abbrev Cx.hand(X:Cx)(a:Addr):Cx:={ X with A:=X.A.mark (some (.ref a)),calm:=false,xe:=fun _ _=>False }
section
variable{X:Cx}{pins pins':List (Addr×Obj)}{σ:St}{H:Hp}{s:Shared}{E:Value->Shared->Prop}{a:Addr}
theorem Inv.tried(I:Inv X pins σ H s)(E:Value->Shared->Prop):Inv (X.tried (X.pn++pins) E) [] σ H s:=
 ⟨⟨I.ok.mod,I.ok.kind,I.ok.glob,I.ok.blt,I.ok.above,I.ok.inj,I.ok.has,I.ok.cab,I.ok.hd,I.ok.frames,I.ok.stk,I.ok.exf,I.ok.bs,I.ok.bsz,I.ok.noex,I.ok.exfs,I.ok.funs,I.ok.frf⟩,I.os,I.bare,I.base,I.loc,I.cell,I.free,I.freeC,
  fun p a=>I.pin p (by have a:p∈(X.pn++pins)++[]:=a;rw[Yg] at a;show a),I.hok,I.len⟩
theorem Inv.untried(I:Inv (X.tried (X.pn++pins) E) pins' σ H s):Inv X pins σ H s:=
 ⟨⟨I.ok.mod,I.ok.kind,I.ok.glob,I.ok.blt,I.ok.above,I.ok.inj,I.ok.has,I.ok.cab,I.ok.hd,I.ok.frames,I.ok.stk,I.ok.exf,I.ok.bs,I.ok.bsz,I.ok.noex,I.ok.exfs,I.ok.funs,I.ok.frf⟩,I.os,I.bare,I.base,I.loc,I.cell,I.free,I.freeC,
  fun p a=>I.pin p (yM _ a),I.hok,I.len⟩
theorem Inv.hand(I:Inv X pins σ H s)(a:Addr):Inv (X.hand a) pins σ H s:=
 ⟨⟨I.ok.mod,I.ok.kind,I.ok.glob,I.ok.blt,I.ok.above,I.ok.inj,I.ok.has,I.ok.cab,(fun h=>nomatch h),I.ok.frames,I.ok.stk,I.ok.exf,I.ok.bs,I.ok.bsz,I.ok.noex,I.ok.exfs,I.ok.funs,I.ok.frf⟩,I.os,I.bare,I.base,I.loc,I.cell,I.free,I.freeC,I.pin,I.hok,I.len⟩
theorem Inv.unhand(hc:X.calm=true->X.A.handled=none)(I:Inv (X.hand a) pins σ H s):Inv X pins σ H s:=
 ⟨⟨I.ok.mod,I.ok.kind,I.ok.glob,I.ok.blt,I.ok.above,I.ok.inj,I.ok.has,I.ok.cab,hc,I.ok.frames,I.ok.stk,I.ok.exf,I.ok.bs,I.ok.bsz,I.ok.noex,I.ok.exfs,I.ok.funs,I.ok.frf⟩,I.os,I.bare,I.base,I.loc,I.cell,I.free,I.freeC,I.pin,I.hok,I.len⟩
structure Loose(X:Cx)(pins:List (Addr×Obj))(H:Hp)(T:Addr):Prop where
 hn:H T=none
 lo:X.s₀.heap.objs.size<=T
 nl:T≠X.env.locals
 nf:T∉X.fs
 nc:∀ x c,X.env.cells.lookup x=some c->c≠T
 np:∀ p∈X.pn++pins,p.1≠T
theorem Inv.loose(I:Inv X pins σ H s){T:Addr}(a:s.heap.objs.size<=T)(hn:H' T=none):Loose X pins H' T where
 hn:=hn
 lo:=yi I.sz a
 nl:=Yd (yj I.lt a)
 nf:=I.nofs a
 nc:=fun x c e=>by
  obtain⟨v,o,b,_⟩:=I.cell x c e;show yG (yj (yF b) a)
 np:=fun p d=>yG (yj (yF (I.pin p d).1) a)
theorem Inv.noted{T:Addr}(I:Inv X pins σ H s)(g:H a=some (XO a C dx))(k:Keep (frs X.stack) zs s.heap h')(hz:∀ b∈zs,b=a\/Loose X pins H b)(t:Trc h' a (.ref C) dx T fl) :
  Inv X pins σ H { s with heap:=h' }:=by
 have j:=qbO I g k (fun b c=>(hz b c).imp (fun e=>e) fun l=>l.hn) t;have i:∀ b,H b=none->b∉zs.filter (fun b=>decide (b≠a))->b∉zs:=fun b n z y=>z (yp.mpr ⟨y,yH fun e=>by rw[e,g] at n;cases n⟩);show I.call (g':=s.gens) (t':=s.toks) (d':=s.drawn) (ch:=zs.filter fun b=>decide (b≠a)) ⟨fun b o e n c f=>k.keep b o e (i b n f) c,fun b o e n c f=>k.slot b o e (i b n f) c,fun _ _ _ n _=>n,fun b o e f=>?_,fun _ _ e=>e,fun _ _ _ e=>e,
  fun b ps e=>⟨#[],by rw[e];simp⟩⟩ j I.bare fun b c=>?_
 .by_cases d:b=a
  .subst d;obtain⟨vs,q,_⟩:=t.ex;show⟨_,q⟩
  .have z:b∉zs:=fun y=>f (yp.mpr ⟨y,yH d⟩);by_cases h:b∈frs X.stack
   .obtain⟨m,q⟩:=k.slot b o e z h;show⟨_,q⟩
   .show⟨o,k.keep b o e z h⟩
 .obtain⟨y,q⟩:=yp.mp c;rcases hz b y with e | l
  .show absurd e (yk q)
  .show⟨.inr l.lo,l.nl,l.nc,l.np⟩
theorem unbind_ok{i:Nat}{Q:Unit->Shared->Prop}(I:Inv X pins σ H s)(K:X.N.Nodup)(C:X.N[i]?=some x)(f:X.env.scope.names.lookup x=some .local)(hv:σ[i]?=some (some v))
  (h:∀ s',Inv X pins (σ.set i none) H s'->Q () s'):wpAny M A (unbindName X.env x) Q E s:=by
 obtain⟨m,O,hl⟩:=id I.loc;obtain⟨u,ru,R⟩:=hl i x v C hv (.inl f)
 have L:m x=some u:=by
  rcases R with⟨_,e⟩ | ⟨k,_⟩
  .show e
  .have k':X.env.scope.names.lookup x=some .cell\/X.env.scope.names.lookup x=some .free:=k;rw[f] at k';rcases k' with z | z<;>cases z
 have r:(X.env.scope.kind==.class||(X.env.scope.kind==.module&&X.env.locals != X.env.globals))=false:=by rw[I.ok.kind];rfl
 show wpAny_unbindName_local f O L r fun h' u' G g=>?_;have a:∀ b o,X.s₀.heap.get? b=some o->b≠X.env.locals:=fun b o e=>yG (yj (yF e) I.ok.above);show h _ ⟨I.ok,I.os,I.bare,⟨fun b o e n B f=>?_,fun b o e n B f=>?_,I.base.free,fun b o e f=>?_,I.base.tups,I.base.frzs,I.base.tbls⟩,⟨_,G,fun j y Z l t J=>?_⟩,fun y c e=>?_,I.free,I.freeC,fun p P=>?_,fun b ob e=>?_,by simpa using I.len⟩
 .show(g.2 b (a b o e)).trans (I.base.keep b o e n B f)
 .obtain⟨Y,l⟩:=I.base.slot b o e n B f;show⟨Y,(g.2 b (a b o e)).trans l⟩
 .obtain⟨U,l⟩:=I.base.there b o e f;show⟨U,(g.2 b (a b o e)).trans l⟩
 .by_cases D:j=i
  .subst D;have F:j<σ.length:=by rw[I.len];show(yc.mp C).1
   rw[xS F] at t;cases t
  .rw [Y9 (Yb D)] at t;obtain⟨w,W,q⟩:=hl j y Z l t J;show⟨w,W,?_⟩;rcases q with⟨k,e⟩ | ⟨k,c,e,z⟩
   .have T:y≠x:=fun e=>D (qbG K l (e ▸ C));show .inl ⟨k,by simp[T,e]⟩
   .show .inr ⟨k,c,e,z.sameBut g (I.cne y c e)⟩
 .obtain⟨w,z⟩:=I.cell y c e;show⟨w,z.sameBut g (I.cne y c e)⟩
 .obtain⟨e,n,ne,S,d⟩:=I.pin p P;show⟨(g.2 p.1 ne).trans e,n,ne,S,d⟩
 .show(I.hok b ob e).stay (fun c w hc q=>(g.2 c ?_).trans q) (fun _ q=>q) fun _ _ q=>q;rintro rfl;rcases hc with rfl | hc
  .rw [I.free] at e;cases e
  .rw [I.free] at hc;cases hc
end
structure Held(X:Cx)(pins:List (Addr×Obj))(H:Hp)(h:Heap)(a C:Addr)(dx:Option Addr):Prop where
 at_:H a=some (XO a C dx)
 tr:∃ T,Trc h a (.ref C) dx T .none/\Loose X pins H T
def PH(X:Cx)(a C:Addr)(dx:Option Addr)(b:List ExceptHandler)(th:TS):Prop:=
 ∀(pins:List (Addr×Obj)) (s:Shared) (σ:St) (H:Hp) (D:Ends),Inv X pins σ H s->Held X pins H s.heap a C dx->th D σ H->wpAny (model X.prog X.w) X.A (handleBy (.ref a) X.env b) (SP X pins D) X.xe s
def thNil:TS:=fun _ _ _=>False
def thAs(K:yg)(a C D:Addr)(i:Nat)(d rest:TS):TS:=fun Z σ H=>∃ b,PySem.W.mroIn K C (.ref D)=some b/\XAt K D/\XAt K C /\
 if b=true then d { nx:=fun c H'=>Z.nx (c.set i none) H',rt:=Z.rt,bk:=fun c H'=>Z.bk (c.set i none) H',ct:=fun c H'=>Z.ct (c.set i none) H' } (σ.set i (some (.ref a))) H else rest Z σ H
theorem xmatch{K:yg}{o:Obj}{Q:Bool->Shared->Prop}(X:K.In s.heap)(n:s.heap.get? a=some o)(hc:o.cls=.ref C)(d:XAt K D)(l:PySem.W.mroIn K C (.ref D)=some b)(q:Q b s) :
  wpAny M A (excMatches (.ref a) (.ref D)) Q E s:=by
 obtain⟨z,F,N,bs,i,h,sn,sub,ab,j,p,u,v,w,x,y,e,m⟩:=qc7 X d.xc;have c:(Value.ref D::i).contains (.type "BaseException")=true:=by rw[Yl,qaH m (by simp),X8]
 have f:=tc_notTuple;have L:=xn (M:=M) X l;obtain⟨t,g,r,tk,B⟩:=s;unfold excMatches
 repeat (first | with_reducible show Yz e ?_ | (with_reducible show Yz n ?_;rw[hc]) | (with_reducible show xo e ?_;rw[c]) | with_reducible show L.at ?_ | wp_step)
 cases b<;>(wp_walk;show q)
section
variable{X:Cx}{a C D:Addr}{dx:Option Addr}{c n:Str}{cp pos:Pos}{b0:Stmt}{body:List Stmt}{rest:List ExceptHandler}{tb tr:TS}{i:Nat}{K:yg}
theorem ph_nil:PH X a C dx [] thNil:=fun _ _ _ _ _ _ _ h=>h.elim
theorem suite_as{R:Result->Shared->Prop}{e:Value}
  (h:wpAny (model prog w) A (setFlight e none) (fun _ a=>wpAny (model prog w) A (bindName env n e) (fun _ b=>wpAny (model prog w) A (execs (b0::body) env) (fun f c=>R (.ok f) c) (fun _ _=>False) b) (fun _ _=>False) a) (fun _ _=>False) s) :
  codeAny (model prog w) A (.handlers e [.ExceptHandler none (some n) (b0::body) pos] env) R s:=by
 show codeAny_of_tree ?_;show wpAny _ A (do return Fin.done (<- (handleWith e env [.ExceptHandler none (some n) (b0::body) pos]).onRaise (fun x=>do noteFrame x env;theTreesLotGoes x))) _ _ s;show yr (wpAny_noted ?_);unfold handleWith;show yr (Xo (yr (YA h (fun _ a h1=>yr (YA h1 (fun _ b d=>yr (XI (YA d (fun f c g=>yu (yu g)) fun _ _ z=>z.elim))) fun _ _ z=>z.elim)) fun _ _ z=>z.elim)))
theorem ph_as(Y:X.K=K)(y:X.N.Nodup)(x:X.N[i]?=some n)(m:X.env.scope.names.lookup n=some .local)(hg:Gl X c)(hm:X.mg c=some (.ref D))(B:PSs (X.hand a) (b0::body) tb)(hr:PH X a C dx rest tr)
  (F:(c==("__debug__":Str))=false:=by decide):PH X a C dx (.ExceptHandler (some (.Name c cp)) (some n) (b0::body) pos::rest) (thAs K a C D i tb tr):=by
 subst Y;intro pins s σ H Z I hl h;obtain⟨b,E,xd,xc,q⟩:=h;obtain⟨vs,he⟩:=(show IsX H a C dx from .inr hl.at_).get I.hok;show wpAny_handleBy_cons (codeAny_handlers_test ?_) (by intro q;cases q);have W:=I.hand a;show zQ (X:=X.hand a) W hg hm (xmatch I.kIn he rfl xd E ?_) F
 cases b with
 | false=>show hr pins s σ H Z I hl q
 | true =>
  obtain⟨T,t,lo⟩:=hl.tr;show suite_as (qbN t fun h1 t1 O aa=>?_);have kk:Keep (frs X.stack) [T] s.heap h1:=⟨fun b o e z _=>O b o (by simpa using z) e,fun b o e z _=>⟨o.slots,O b o (by simpa using z) e⟩⟩;have R:=I.noted hl.at_ kk (fun b B=>.inr (by rw[yx.mp B];show lo)) t1;have S:=R.hand a;show wpAny_bindName (qaZ (X:=X.hand a) S y x (.inl m) (v:=.ref a) rfl (fun s2 U=>?_) (.inr m));have q':tb { nx:=fun d H'=>Z.nx (d.set i none) H',rt:=Z.rt,bk:=fun d H'=>Z.bk (d.set i none) H',ct:=fun d H'=>Z.ct (d.set i none) H' } (σ.set i (some (.ref a))) H:=q;show thn (B pins s2 _ H _ U q') fun f P p=>?_
  have j:∀{d:St} {H':Hp} {Q:Unit->Shared->Prop},Inv (X.hand a) pins d H' P->(∀ l,Inv X pins (d.set i none) H' l->Q () l)->wpAny (model X.prog X.w) X.A (do bindName X.env n .none;unbindBehindTheSuite X.env n pos) Q X.xe P:=fun{d H' Q} J k=>by
   have L:=Inv.unhand I.ok.hd J;have G:i<d.length:=by rw[L.len];show(yc.mp x).1
   show yr (wpAny_bindName (qaZ L y x (.inl m) (v:=.non) rfl (fun l g=>?_) (.inr m)));show wpAny_onRaise (unbind_ok g y x m (v:=.non) (by rw[xS G]) fun s5 M=>k s5 ?_);rw[List.set_set] at M;show M
  cases f with
  | next=>obtain⟨d,H',J,z⟩:=p;show j J fun l g=>⟨_,H',g,z⟩
  | brk=>obtain⟨d,H',J,z⟩:=p;show j J fun l g=>⟨_,H',g,z⟩
  | cont=>obtain⟨d,H',J,z⟩:=p;show j J fun l g=>⟨_,H',g,z⟩
  | ret u=>obtain⟨v,d,H',J,r,z⟩:=p;show j J fun l g=>⟨v,_,H',g,r,z⟩
end
def tTry(X:Cx)(b:List Stmt)(f:List ExceptHandler)(te:TS):TS:=fun D σ H=>∃(d:St->XK) (e:TS),(∀ pn xe,XOk (X.tried pn xe) d->PSs (X.tried pn xe) b e) /\
 e { nx:=te D,rt:=D.rt,bk:=D.bk,ct:=D.ct } σ H/\∀(a C:Addr) (dx:Option Addr) (c:St) (H':Hp),d c (.ref C) dx H'->H' a=some (XO a C dx)->∃ th,PH X a C dx f th/\th D c H'
section
variable{X:Cx}{body orelse:List Stmt}{h0:ExceptHandler}{hs:List ExceptHandler}{pos:Pos}{te:TS}
theorem ps_try(hc:X.calm=true)(l:X.stack=X.env::X.outer)(E:X.env.frame=some X.env.locals)(ho:PSs X orelse te):PS X (.Try body (h0::hs) orelse [] pos) (tTry X body (h0::hs) te):=by
 intro pins s σ H D I h;obtain⟨S,tb,j,q,hh⟩:=h;have F:X.A.frames=some (X.env::X.outer):=by rw[<- l];show I.ok.frames
 let n:Value->Shared->Prop:=fun e d=>∃(a C:Addr) (dx:Option Addr) (c:St) (H':Hp),e=.ref a/\Inv X pins c H' d/\H' a=some (XO a C dx)/\S c (.ref C) dx H' /\
  ((∃ T,Trc d.heap a (.ref C) dx T .none/\Loose X pins H' T)\/∃ a0,d.heap.get? a=some ⟨.ref C,dx,.fields (xfs a0),#[]⟩)
 have XX:XOk (X.tried (X.pn++pins) n) S:=by
  show⟨fun pins' c M d e s2 J m=>?_,fun pins' c M d a C dx J e z=>?_,hc⟩
  .obtain⟨a,C,dx,T,H',rfl,R,O,un,P,p,t,hT,N,z⟩:=m;have y:=J.call' (s':=s2) (H':=H') (ch:=[]) R un P O (fun b z=>absurd z (by simp));have K:=Inv.untried J;show⟨a,C,dx,c,H',rfl,Inv.untried y,p,z,.inl ⟨T,t,K.loose hT N⟩⟩
  .have K:=Inv.untried J;obtain⟨⟨a0,m⟩,_⟩:=(show ObjOk _ _ M d.heap a (XN a C dx) from K.hok a _ e);have y:Inv X pins c (upd M a (XO a C dx)) d:=K.write (x:=a) (e:=a) (o:=XO a C dx) (h':=d.heap) (t':=d.toks) (by rw[e];show YF) (.inl rfl) (fun _ _ _ q=>q) ⟨_,m⟩ (XO.ok m);show⟨a,C,dx,c,_,rfl,y,qb,z,.inr ⟨a0,m⟩⟩
 have B:=j (X.pn++pins) n XX [] s σ H _ (I.tried n) q;show wpAny_Try_except (YA B (fun f d L=>?_) fun e d he=>?_)
 .cases f with
  | next=>obtain⟨c,H',J,z⟩:=L;show ho pins d c H' D (Inv.untried J) z
  | brk=>obtain⟨c,H',J,z⟩:=L;show⟨c,H',Inv.untried J,z⟩
  | cont=>obtain⟨c,H',J,z⟩:=L;show⟨c,H',Inv.untried J,z⟩
  | ret u=>obtain⟨v,c,H',J,r,z⟩:=L;show⟨v,c,H',Inv.untried J,r,z⟩
 .obtain⟨a,C,dx,c,H',rfl,J,p,z,tt⟩:=he;obtain⟨th,hp,hq⟩:=hh a C dx c H' z p;have G:d.heap.FunFrames X.base (X.env::X.outer):=by rw[<- l];show J.stack
  have U:∀(h':Heap) (i:Addr) (zs:LQ),d.heap.objs.size<=i->Trc h' a (.ref C) dx i (rawInt X.env.locals)->Keep (frs (X.env::X.outer)) zs d.heap h'->(∀ b∈zs,b=a\/Loose X pins H' b) ->
    wpAny (model X.prog X.w) X.A (setFlight (.ref a) none) (fun _ s3=>wpAny (model X.prog X.w) X.A (handleBy (.ref a) X.env (h0::hs)) (SP X pins D) X.xe s3) X.xe { d with heap:=h' }:=fun h' i zs g t' k hz=>by
   have lo:=J.loose g (J.hok.fresh g);have y:=J.noted p (by rw[l];show k) hz t';show qbN (s:={ d with heap:=h' }) t' fun h2 Y W aa=>?_;have kk:Keep (frs X.stack) [i] h' h2:=⟨fun b o e z _=>W b o (by simpa using z) e,fun b o e z _=>⟨o.slots,W b o (by simpa using z) e⟩⟩;have Z:=y.noted p kk (fun b j=>.inr (by rw[yx.mp j];show lo)) Y;show hp pins _ c H' D Z ⟨p,i,Y,lo⟩ hq
  rcases tt with⟨T,t,lo⟩ | ⟨a0,m⟩
  .show qda (base:=X.base) F G E t fun h' i g t' k=>U h' i _ g t' k fun b j=>?_;simp only[yv,yz,yU] at j;rcases j with rfl | rfl
   .show .inl rfl
   .show .inr lo
  .show qch (base:=X.base) F G E m rfl rfl fun h' i g t' k=>U h' i _ g t' k fun b j=>?_;show .inl (yx.mp j)
end
def TyX(K:yg)(H:Hp)(x:V)(t:Value):Prop:=TyOf K H x t\/∃ a C dx,x=.ref a/\t=.ref C/\IsX H a C dx/\XAt K C/\∀ d,dx=some d->∃ fs,H d=some (.xd fs)
theorem TyX.kit{x:V}(I:Inv X pins σ H s)(e:RelV x u)(ty:TyX X.K H x t):∃ P:Heap->Prop,PySem.W.KitX X.K u t P/\P s.heap/\u≠.builtin "__main__.__loader__#opaque":=by
 rcases ty with ty | ⟨a,C,dx,rfl,rfl,hx,c,hd⟩
 .show ty.kit I e
 .cases e;obtain⟨vs,b⟩:=hx.get I.hok
  cases dx with
  | none=>show⟨_,qc8 (od:=none) c,⟨b,rfl,rfl,YF⟩,fun z=>nomatch z⟩
  | some d =>
   obtain⟨fs,f⟩:=hd d rfl;obtain⟨od,g,h1,_⟩:=qeq I f;show⟨_,qc8 (od:=some od) c,⟨b,rfl,rfl,h1⟩,fun z=>nomatch z⟩
def qfm(K:yg):List V->Hp->VK->Prop:=fun xs H Q=>∃ x y t c b,xs=[x,y]/\TyX K H x t/\qcf y=some c/\PySem.W.kitOne K t c=some b/\Q (.bl b) H
def qex(K:yg):List V->Hp->VK->Prop:=fun xs H Q=>∃ x p ys t a b,xs=[x,.ref p]/\TyX K H x t/\H p=some (.tup ys)/\ys.map qcf=a.map some/\PySem.W.kitAny K t a=some b/\Q (.bl b) H
section
variable{X:Cx}{K:yg}
theorem zl(a:X.K=K):zN X (.builtin "isinstance") (qfm K):=by
 subst a;intro pins s σ H xs us Q I r h;obtain⟨x,y,t,c,b,rfl,ty,f,d,q⟩:=h;obtain⟨u,v,rfl,g,i⟩:=qbJ r;have e:=qbz f i;subst e;obtain⟨P,Z,p,ne⟩:=ty.kit I g;show PySem.W.kia_one Z I.kIn p d ne fun tk=>⟨.bl b,H,I.tok tk,rfl,q⟩
theorem qcD(i:X.K=K):zN X (.builtin "isinstance") (qex K):=by
 subst i;intro pins s σ H xs us Q I r h;obtain⟨x,p,ys,t,C,b,rfl,ty,y,z,j,q⟩:=h;obtain⟨u,v,rfl,B,f⟩:=qbJ r;cases f;obtain⟨P,Z,A,ne⟩:=ty.kit I B;obtain⟨_,its,f,o,m,hc,n,l⟩:=(show ObjOk X.prog X.w H s.heap p (.tup ys) from I.hok p _ y);have e:=qbh z f;subst e;obtain⟨c,D,g,E⟩:=o;have a:c=.type "tuple":=hc;have d:g=.seq its.toArray n:=l;subst a d;show PySem.W.kia_tup Z I.kIn A m j ne fun tk=>⟨.bl b,H,I.tok tk,rfl,q⟩
end
mutual
inductive EqD(K:yg)(H:Hp):Nat->V->V->Bool->Prop
 | flat {n:Nat} {x y:V} (fx:jR x=true) (fy:jR y=true):EqD K H n x y (eqV x y)
 | self {n:Nat} {a:Addr}:EqD K H n (.ref a) (.ref a) true
 | deep {n:Nat} {a b:Addr} {k:Bool} (h:EqT K H n a b k) (ne:a≠b):EqD K H n (.ref a) (.ref b) k
inductive EqT(K:yg)(H:Hp):Nat->Addr->Addr->Bool->Prop
 | lst {n:Nat} {a b:Addr} {xs ys:List V} {e:Nat->Bool} (ha:SqL K H a xs) (hb:SqL K H b ys) (hl:xs.length=ys.length) (he:∀ j x y,xs[j]?=some x->ys[j]?=some y->EqD K H n x y (e j)):EqT K H (n+1) a b ((List.range xs.length).all e)
 | lstL {n:Nat} {a b:Addr} {xs ys:List V} (ha:SqL K H a xs) (hb:SqL K H b ys) (hl:xs.length≠ys.length):EqT K H (n+1) a b false
 | tup {n:Nat} {a b:Addr} {xs ys:List V} {e:Nat->Bool} (ha:SqT K H a xs) (hb:SqT K H b ys) (he:∀ j x y,xs[j]?=some x->ys[j]?=some y->EqD K H n x y (e j)):EqT K H (n+1) a b ((List.range (min xs.length ys.length)).all e&&xs.length==ys.length)
 | lt {n:Nat} {a b:Addr} {xs ys:List V} (ha:SqL K H a xs) (hb:SqT K H b ys):EqT K H (n+1) a b false
 | tl {n:Nat} {a b:Addr} {xs ys:List V} (ha:SqT K H a xs) (hb:SqL K H b ys):EqT K H (n+1) a b false
end
theorem jo:∀{xs:List V} {us:List Value} {j:Nat} {u:Value},Vals xs us->us[j]?=some u->∃ x,xs[j]?=some x/\RelV x u
 | _,_,_,_,.nil,e=>by simp at e
 | _,_,0,_,.cons r _,e=>by simp at e;subst e;show⟨_,rfl,r⟩
 | _,_,j+1,u,.cons _ t,e=>by
  obtain⟨x,h1,a⟩:=jo (j:=j) (u:=u) t (by simpa using e);show⟨x,by simpa using h1,a⟩
section
variable{X:Cx}{pins:List (Addr×Obj)}{σ:St}{H:Hp}{s:Shared}
theorem qcE(I:Inv X pins σ H s):∀ n,(∀(A:Around) (x y:V) (k:Bool) (u v:Value),EqD X.K H n x y k->RelV x u->RelV y v->A.units+n<cLine->SeqAt.EqAt A s u v k)/\(∀(A:Around) (a b:Addr) (k:Bool),EqT X.K H n a b k->A.units+n<cLine->SeqAt.RcAt A s (.ref a) (.ref b) k):=by
 intro n
 induction n with
 | zero =>
  have F:∀(A:Around) (a b:Addr) (k:Bool),EqT X.K H 0 a b k->A.units+0<cLine->SeqAt.RcAt A s (.ref a) (.ref b) k:=fun A a b k h=>by cases h
  show⟨fun A x y k u v h g i z=>?_,F⟩
  cases h with
  | flat fx fy=>show qc0 g i fx fy
  | self=>cases g;cases i;show Xs _
  | deep h ne=>cases h
 | succ n ih =>
  have D:∀(A:Around) (a b:Addr) (k:Bool),EqT X.K H (n+1) a b k->A.units+(n+1)<cLine->SeqAt.RcAt A s (.ref a) (.ref b) k:=fun A a b k h z=>by
   have f:A.units<cLine:=by lk
   have o:A.in1.units+n<cLine:=by show A.units+1+n<cLine;lk
   cases h with
   | @lst _ _ _ xs ys e ha hb hl he =>
    obtain⟨its,r,pl,hz⟩:=I.list ha;obtain⟨c,m,d,l⟩:=I.list hb;have p:xs.length=its.toArray.size:=by rw[yy];show r.length
    have q:ys.length=c.toArray.size:=by rw[yy];show m.length
    rw[p];show SeqAt.RcAt.lists pl.isList d.isList (by rw[<- p,<- q,hl]) f fun j h1 E=>?_;have t:its[j]?=some its.toArray[j]:=by simp
    have w:c[j]?=some c.toArray[j]:=by simp
    obtain⟨x,B,g⟩:=jo r t;obtain⟨y,C,i⟩:=jo m w;show ih.1 A.in1 x y (e j) _ _ (he j x y B C) g i o
   | @lstL _ _ _ xs ys ha hb hl =>
    obtain⟨its,r,pl,hz⟩:=I.list ha;obtain⟨c,m,d,l⟩:=I.list hb;show SeqAt.RcAt.lists_lengths pl.isList d.isList ?_ f;rw[yy,yy,<- r.length,<- m.length];simp[hl]
   | @tup _ _ _ xs ys e ha hb he =>
    obtain⟨its,r,pl,hz⟩:=I.tuple ha;obtain⟨c,m,d,l⟩:=I.tuple hb;have p:xs.length=its.toArray.size:=by rw[yy];show r.length
    have q:ys.length=c.toArray.size:=by rw[yy];show m.length
    rw[p,q];show SeqAt.RcAt.tuples pl d f fun j h1 E=>?_;have t:its[j]?=some its.toArray[j]:=by simp
    have w:c[j]?=some c.toArray[j]:=by simp
    obtain⟨x,B,g⟩:=jo r t;obtain⟨y,C,i⟩:=jo m w;show ih.1 A.in1 x y (e j) _ _ (he j x y B C) g i o
   | lt ha hb =>
    obtain⟨its,r,pl,hz⟩:=I.list ha;obtain⟨c,m,d,l⟩:=I.tuple hb;show SeqAt.RcAt.list_tuple pl.isList d f
   | tl ha hb =>
    obtain⟨its,r,pl,hz⟩:=I.tuple ha;obtain⟨c,m,d,l⟩:=I.list hb;show SeqAt.RcAt.tuple_list pl d.isList f
  show⟨fun A x y k u v h g i z=>?_,D⟩
  cases h with
  | flat fx fy=>show qc0 g i fx fy
  | self=>cases g;cases i;show Xs _
  | deep h ne=>cases g;cases i;show SeqAt.EqAt.of_refs ne (D A _ _ k h z)
theorem ne_refs(I:Inv X pins σ H s){n:Nat}{A:Around}{a b:Addr}{k:Bool}(h:EqT X.K H n a b k)(z:A.units+n<cLine):SeqAt.RcNeAt A s (.ref a) (.ref b) (!k):=by
 cases n with
 | zero=>cases h
 | succ n =>
  have v:=qcE I n;have f:A.units<cLine:=by lk
  have l:A.in1.units+n<cLine:=by show A.units+1+n<cLine;lk
  cases h with
  | @lst _ _ _ xs ys e ha hb hl he =>
   obtain⟨its,r,pl,hz⟩:=I.list ha;obtain⟨c,i,d,g⟩:=I.list hb;have m:xs.length=its.toArray.size:=by rw[yy];show r.length
   have o:ys.length=c.toArray.size:=by rw[yy];show i.length
   rw[m];show SeqAt.RcNeAt.lists pl.isList d.isList (by rw[<- m,<- o,hl]) f fun j h1 w=>?_;obtain⟨x,p,t⟩:=jo r (show its[j]?=some its.toArray[j] by simp);obtain⟨y,q,u⟩:=jo i (show c[j]?=some c.toArray[j] by simp);show v.1 A.in1 x y (e j) _ _ (he j x y p q) t u l
  | @lstL _ _ _ xs ys ha hb hl =>
   obtain⟨its,r,pl,hz⟩:=I.list ha;obtain⟨c,i,d,g⟩:=I.list hb;show SeqAt.RcNeAt.lists_lengths pl.isList d.isList ?_ f;rw[yy,yy,<- r.length,<- i.length];simp[hl]
  | @tup _ _ _ xs ys e ha hb he =>
   obtain⟨its,r,pl,hz⟩:=I.tuple ha;obtain⟨c,i,d,g⟩:=I.tuple hb;have m:xs.length=its.toArray.size:=by rw[yy];show r.length
   have o:ys.length=c.toArray.size:=by rw[yy];show i.length
   rw[m,o];show SeqAt.RcNeAt.tuples pl d f fun j h1 w=>?_;obtain⟨x,p,t⟩:=jo r (show its[j]?=some its.toArray[j] by simp);obtain⟨y,q,u⟩:=jo i (show c[j]?=some c.toArray[j] by simp);show v.1 A.in1 x y (e j) _ _ (he j x y p q) t u l
  | lt ha hb =>
   obtain⟨its,r,pl,hz⟩:=I.list ha;obtain⟨c,i,d,g⟩:=I.tuple hb;show SeqAt.RcNeAt.list_tuple pl.isList d f
  | tl ha hb =>
   obtain⟨its,r,pl,hz⟩:=I.tuple ha;obtain⟨c,i,d,g⟩:=I.list hb;show SeqAt.RcNeAt.tuple_list pl d.isList f
theorem qey{A:Around}{x y:V}{u v:Value}(e:RelV x u)(c:RelV y v)(f:jR x=true)(d:jR y=true):SeqAt.RcAt A s u v (eqV x y)/\SeqAt.RcNeAt A s u v (!eqV x y):=by
 cases x with
 | non =>
  cases e
  cases y with
  | non=>cases c;show⟨SeqAt.RcAt.none_none,SeqAt.RcNeAt.none_none⟩
  | bl b=>cases c;show⟨SeqAt.RcAt.none_bool b,SeqAt.RcNeAt.none_bool b⟩
  | int b=>obtain⟨t,rfl⟩:=c;show⟨SeqAt.RcAt.none_int b t,SeqAt.RcNeAt.none_int b t⟩
  | str b=>obtain⟨t,rfl⟩:=c;show⟨SeqAt.RcAt.none_str b t,SeqAt.RcNeAt.none_str b t⟩
  | _=>cases d
 | bl a =>
  cases e
  cases y with
  | non=>cases c;show⟨SeqAt.RcAt.bool_none a,SeqAt.RcNeAt.bool_none a⟩
  | bl b=>cases c;show⟨SeqAt.RcAt.bool_bool a b,SeqAt.RcNeAt.bool_bool a b⟩
  | int b=>obtain⟨t,rfl⟩:=c;show⟨SeqAt.RcAt.bool_int a b t,SeqAt.RcNeAt.bool_int a b t⟩
  | str b=>obtain⟨t,rfl⟩:=c;show⟨SeqAt.RcAt.bool_str a b t,SeqAt.RcNeAt.bool_str a b t⟩
  | _=>cases d
 | int a =>
  obtain⟨t',rfl⟩:=e
  cases y with
  | non=>cases c;show⟨SeqAt.RcAt.int_none a t',SeqAt.RcNeAt.int_none a t'⟩
  | bl b=>cases c;show⟨SeqAt.RcAt.int_bool a t' b,SeqAt.RcNeAt.int_bool a t' b⟩
  | int b=>obtain⟨t,rfl⟩:=c;show⟨SeqAt.RcAt.int_int a t' b t,SeqAt.RcNeAt.int_int a t' b t⟩
  | str b=>obtain⟨t,rfl⟩:=c;show⟨SeqAt.RcAt.int_str a t' b t,SeqAt.RcNeAt.int_str a t' b t⟩
  | _=>cases d
 | str a =>
  obtain⟨t',rfl⟩:=e
  cases y with
  | non=>cases c;show⟨SeqAt.RcAt.str_none a t',SeqAt.RcNeAt.str_none a t'⟩
  | bl b=>cases c;show⟨SeqAt.RcAt.str_bool a t' b,SeqAt.RcNeAt.str_bool a t' b⟩
  | int b=>obtain⟨t,rfl⟩:=c;show⟨SeqAt.RcAt.str_int a t' b t,SeqAt.RcNeAt.str_int a t' b t⟩
  | str b=>obtain⟨t,rfl⟩:=c;show⟨SeqAt.RcAt.str_str a t' b t,SeqAt.RcNeAt.str_str a t' b t⟩
  | _=>cases d
 | _=>cases f
end
def qed(K:yg)(c:Bool):R2:=fun x y H Q=>(jR x=true/\jR y=true/\Q (.bl (if c then !eqV x y else eqV x y)) H) \/
 (∃ a b k n,x=.ref a/\y=.ref b/\n<=60/\EqT K H n a b k/\Q (.bl (if c then !k else k)) H) \/
 (∃ a kvs,x=.ref a/\y=.ref a/\H a=some (.dK kvs)/\Q (.bl (!c)) H)
theorem qbi{a:Type}[DecidableEq a]:∀{kb:List (a×Value)} {k:a} {v:Value},(kb.map (·.1)).Nodup->(k,v)∈kb->valueAt kb k=some v
 | [],_,_,_,h=>by cases h
 | (k',v')::r,k,v,hn,h=>by
  obtain⟨h1,b⟩:=yo.mp (show(k'::r.map (·.1)).Nodup from hn);unfold valueAt;rw[xA];by_cases e:k'=k
  .subst e;simp only[decide_true];rcases yv.mp h with z | z
   .cases z;rfl
   .show absurd (YI.mpr ⟨(k',v),z,rfl⟩) h1
  .simp only[e,kY];rcases yv.mp h with z | z
   .cases z;show absurd rfl e
   .show qbi b z
theorem qcF{A:Around}{s:Shared}{a:Type}[DecidableEq a](kb:List (a×Value))(c:(kb.map (·.1)).Nodup):∀ d:List (a×Value),(∀ p∈d,p∈kb)->PySem.W.KeqHits A s kb d true
 | [],_=>.nil
 | (k,v)::r,h=>by
  have hv:valueAt kb k=some v:=qbi c (h (k,v) yO);show .hit (e:=true) (b:=true) hv (Xs v) (qcF kb c r fun p f=>h p (yI _ f))
section
variable{X:Cx}{K:yg}
theorem k_eqU(m:X.K=K)(p:X.A.units+100<cLine):OpR X (compareOp .Eq) (qed K false):=by
 subst m;intro pins s σ H x y u v Q I c f h;rcases h with⟨j,l,q⟩ | ⟨a,b,k,n,rfl,rfl,o,e,q⟩ | ⟨a,kvs,rfl,rfl,i,q⟩
 .show(qey c f j l).1 _ _ _ _ ⟨.bl _,H,I,rfl,q⟩
 .cases c;cases f;show(qcE I n).2 X.A a b k e (by lk) _ _ _ _ ⟨.bl _,H,I,rfl,q⟩
 .cases c;cases f;obtain⟨_,g,vs,r,d⟩:=(show ObjOk X.prog X.w H s.heap a (.dK kvs) from I.hok a _ i);obtain⟨_,_,_,_,_,_,_,_,nd⟩:=id d;show PySem.W.keq_eq g g d d (by lk) (fun _=>qcF vs nd vs fun _ h=>h) ?_;rw[Y6];show⟨.bl true,H,I,rfl,q⟩
theorem qan(m:X.K=K)(p:X.A.units+100<cLine):OpR X (compareOp .NotEq) (qed K true):=by
 subst m;intro pins s σ H x y u v Q I c f h;rcases h with⟨j,l,q⟩ | ⟨a,b,k,n,rfl,rfl,o,e,q⟩ | ⟨a,kvs,rfl,rfl,i,q⟩
 .show(qey c f j l).2 _ _ _ _ ⟨.bl _,H,I,rfl,q⟩
 .cases c;cases f;show ne_refs I e (by lk) _ _ _ _ ⟨.bl _,H,I,rfl,q⟩
 .cases c;cases f;obtain⟨_,g,vs,r,d⟩:=(show ObjOk X.prog X.w H s.heap a (.dK kvs) from I.hok a _ i);obtain⟨_,_,_,_,_,_,_,_,nd⟩:=id d;show PySem.W.keq_ne g g d d (by lk) (fun _=>qcF vs nd vs fun _ h=>h) ?_;rw[Y6];show⟨.bl false,H,I,rfl,q⟩
end
section
variable{X:Cx}{K:yg}
def qfG(K:yg):R2:=fun x y H Q=>rIx K x y H Q\/∃ a v,x=.ref a/\DGet H a y (some v)/\Q v H
theorem qu(f:X.K=K)(m:X.A.units+100<cLine):IxR X (qfG K):=by
 subst f;show IxR.or ix_seq ?_;intro d c pins s σ H x y v u Q I j l h i;obtain⟨a,z,rfl,g,q⟩:=h;cases j;show kA (dict_typeIs I g) PySem.F.slot_dict_getitem.lookup (d_getItem (by lk) I g l fun o n e b=>⟨z,H,e,b,q⟩) i
def rSetU:qe9:=fun o i v H Q=>rSetL o i v H Q\/∃ a H',o=.ref a/\DPut H a i v H'/\Q H'
theorem jQ(l:X.A.units+100<cLine):qfK X rSetU:=by
 intro pins s σ H o i v j f u Q I c b d h;rcases h with h | ⟨a,H',rfl,g,q⟩
 .show set_list pins s σ H o i v j f u Q I c b d h
 .cases c;show d_setItem (by lk) I g b d fun s' e=>⟨H',e,q⟩
def qez(K:yg)(b:Bool):R2:=fun x y H Q=>rIn K b x y H Q\/(∃ a o,y=.ref a/\DGet H a x o/\Q (.bl (if b then !o.isSome else o.isSome)) H) \/
 (∃ p xs e n,y=.ref p/\SqL K H p xs/\n<=60/\(∀ z∈xs,EqD K H n z x (e z))/\Q (.bl (if b then !xs.any e else xs.any e)) H)
theorem qeA{pins:List (Addr×Obj)}{σ:St}{H:Hp}{s:Shared}{xs:List V}{its:List Value}{x:V}{u:Value}{e:V->Bool}{n:Nat}{A:Around}(I:Inv X pins σ H s)(r:Vals xs its)(p:RelV x u)(o:A.units+n<cLine)(m:∀ z∈xs,EqD X.K H n z x (e z)) :
  ∃ g:Value->Bool,(∀ w,w∈its.toArray->SeqAt.EqAt A s w u (g w))/\its.toArray.any g=xs.any e:=by
 classical
 show⟨fun w=>decide (∃ z∈xs,RelV z w/\e z=true),fun w hw=>?_,?_⟩
 .have d:w∈its:=by simpa using hw
  obtain⟨j,c⟩:=YZ.mp d;obtain⟨z,hz,a⟩:=jo r c;have i:=ye hz
  have eq:decide (∃ z∈xs,RelV z w/\e z=true)=e z:=by
   cases q:e z with
   | true=>show yH ⟨z,i,a,q⟩
   | false =>
    show yl fun⟨t,_,f,l⟩=>?_;rw[RelV.inj f a,q] at l;cases l
  show SeqAt.EqAt A s w u (decide (∃ z∈xs,RelV z w/\e z=true));rw[eq];show(qcE I n).1 A z x (e z) w u (m z i) a p o
 .rw [YH,YB];constructor
  .intro h;have h':its.any (fun w=>decide (∃ z∈xs,RelV z w/\e z=true))=true:=by simpa using h
   obtain⟨w,_,q⟩:=YB.mp h';obtain⟨z,hz,_,b⟩:=yk q;show⟨z,hz,b⟩
  .rintro ⟨z,hz,b⟩;obtain⟨j,c⟩:=YZ.mp hz;obtain⟨w,hw,a⟩:=r.get c;have:its.any (fun w=>decide (∃ z∈xs,RelV z w/\e z=true))=true:=YB.mpr ⟨w,ye hw,yH ⟨z,hz,a,b⟩⟩;simpa using this
theorem zU(j:X.K=K)(l:X.A.units+100<cLine):OpR X (compareOp .In) (qez K false):=by
 subst j;intro pins s σ H x y u v Q I b c h;rcases h with h | ⟨a,o,rfl,g,q⟩ | ⟨p,xs,e,n,rfl,hl,hn,he,q⟩
 .show op_in_seq pins s σ H x y u v Q I b c h
 .cases c;show d_in (by lk) I g b fun s' d=>⟨.bl _,H,d,rfl,q⟩
 .cases c;obtain⟨its,r,pl,hz⟩:=I.list hl;obtain⟨f,h1,i⟩:=qeA (A:=X.A.in1) I r b (by show X.A.units+1+n<cLine;lk) he;show SeqAt.in_listAt f pl.isList h1 (by rw[i];show⟨.bl _,H,I,rfl,q⟩)
theorem qa3(j:X.K=K)(l:X.A.units+100<cLine):OpR X (compareOp .NotIn) (qez K true):=by
 subst j;intro pins s σ H x y u v Q I b c h;rcases h with h | ⟨a,o,rfl,g,q⟩ | ⟨p,xs,e,n,rfl,hl,hn,he,q⟩
 .show op_notIn_seq pins s σ H x y u v Q I b c h
 .cases c;show d_notIn (by lk) I g b fun s' d=>⟨.bl _,H,d,rfl,q⟩
 .cases c;obtain⟨its,r,pl,hz⟩:=I.list hl;obtain⟨f,h1,i⟩:=qeA (A:=X.A.in1) I r b (by show X.A.units+1+n<cLine;lk) he;show kf f pl.isList h1 (by rw[i];show⟨.bl _,H,I,rfl,q⟩)
def rListU(K:yg):List V->Hp->VK->Prop:=fun xs H Q=>(∃ p ys,xs=[.ref p]/\(SqL K H p ys\/SqT K H p ys)/\∀ l,H l=none->Q (.ref l) (upd H l (.lst ys))) \/
 (∃ p kvs,xs=[.ref p]/\H p=some (.dK kvs)/\∀ l,H l=none->Q (.ref l) (upd H l (.lst (kvs.map fun a=>kV a.1)))) \/
 (∃ x,xs=[.str x]/\x.length<=1000/\∀ l,H l=none->Q (.ref l) (upd H l (.lst (x.cps.toList.map fun c=>.str ⟨#[c]⟩))))
theorem qbB{α c:Type}{F:α->c->Prop}:∀{l:List α} {m:List c} {j:Nat} {a:α},Paired F l m->l[j]?=some a->∃ b,m[j]?=some b/\F a b
 | _,_,_,_,.nil,e=>by simp at e
 | _,_,0,_,.cons r _,e=>by simp at e;subst e;show⟨_,rfl,r⟩
 | _,_,j+1,a,.cons _ t,e=>by
  obtain⟨b,h1,d⟩:=qbB (j:=j) (a:=a) t (by simpa using e);show⟨b,by simpa using h1,d⟩
theorem qae:∀{ys:List V} {us:List Value},ys.length=us.length->(∀(j:Nat) y u,ys[j]?=some y->us[j]?=some u->RelV y u)->Vals ys us
 | [],[],_,_=>.nil
 | [],_::_,h,_=>by cases h
 | _::_,[],h,_=>by cases h
 | y::ys,u::us,h,q=>.cons (q 0 y u rfl rfl) (qae (kZ h) fun j c b h1 a=>q (j+1) c b (by simpa using h1) (by simpa using a))
theorem zV(J:X.K=K)(hc:X.calm=true):zN X (.type "list") (rListU K):=by
 subst J;intro pins s σ H xs us Q I r h;rcases h with h | ⟨p,kvs,rfl,ea,q⟩ | ⟨x,rfl,hx,q⟩
 .show call_list_of pins s σ H xs us Q I r h
 .obtain⟨u,rfl,M⟩:=qbt r;cases M;obtain⟨hz,L,vs,D,d⟩:=(show ObjOk X.prog X.w H s.heap p (.dK kvs) from I.hok p _ ea);obtain⟨ep,n⟩:=d.dictAt;have hl:kvs.length=vs.length:=D.length;show PySem.W.kdl_call (PySem.W.kdl_dict (knd:=js X.prog X.w) (kvs:=vs) (ep:=ep) L) (I.ok.hd hc) n (by rw[<- hl];show hz) fun h' tk a f A e it=>?_;obtain⟨o,v⟩:=it
  have hv:Vals (kvs.map fun b=>kV b.1) a.toList:=by
   show qae (by rw[ya,hl,<- o];simp) fun j y u h1 g=>?_;obtain⟨k,x,l,F⟩:=v j u (by simpa using g);rw[yd] at h1
   cases B:kvs[j]? with
   | none=>rw[B] at h1;cases h1
   | some b =>
    rw[B] at h1;cases h1;obtain⟨O,C,G,N⟩:=qbB D B;rw[l] at C;cases C;have E:b.1=k:=G;show RelV (kV b.1) u;rw[E];rcases qT (show qcv k u=true from F) with⟨i,t,rfl,rfl⟩ | ⟨z,t,rfl,rfl⟩
    .show⟨t,rfl⟩
    .show⟨t,rfl⟩
  show⟨.ref s.heap.objs.size,_,I.laid (t':=tk) A (yh _) (show ObjOk X.prog X.w _ h' _ (.lst (kvs.map fun b=>kV b.1)) from⟨by rw[ya];show hz,a.toList,f,hv,by simpa using e⟩),rfl,q _ (I.hok.fresh (yh _))⟩
 .obtain⟨u,rfl,t,rfl⟩:=qbt r;have hsz:x.cps.size<=sizeLine:=yX (qi hx);show call_list_str (I.ok.hd hc) x t (fun h' tk a f A e it=>?_) hsz;obtain⟨o,v⟩:=it
  have hv:Vals (x.cps.toList.map fun c=>V.str ⟨#[c]⟩) a.toList:=by
   show qae (by rw[ya];simp[o]) fun j y u h1 g=>?_;obtain⟨c,t',l,rfl⟩:=v j u (by simpa using g);rw[yd] at h1;have m:x.cps.toList[j]?=some c:=by simpa using l
   rw[m] at h1;cases h1;show⟨t',rfl⟩
  show⟨.ref s.heap.objs.size,_,I.laid (t':=tk) A (yh _) (show ObjOk X.prog X.w _ h' _ (.lst (x.cps.toList.map fun c=>V.str ⟨#[c]⟩)) from⟨by rw[ya];simpa using hsz,a.toList,f,hv,by simpa using e⟩),rfl,q _ (I.hok.fresh (yh _))⟩
end
structure CMethOk(P:Program)(w:World)(K:yg)(mg:Str->Option Value)(base:Heap)(CX:CXT)(k:Nat)(C:Addr)(x m:Str)(ps:LS)(sp:Sp):Prop where
 ex:∃ f fd,FnOk P w K mg base CX k f fd ps sp/\CMeth K C m f/\Binds K fd ps []
 mg_:mg x=some (.ref C)
section
variable{X:Cx}{k:Nat}{C:Addr}{ps:LS}{sp:Sp}{x m:Str}{p pos apos:Pos}{e:Expr}{es:List Expr}{t:TA}
theorem qbR(D:MakeOk X.prog X.w X.K X.mg X.base CX0 k C x ps sp)(i:Room (k+1) X.A)(c:PA X (e::es) t)(h:Gl X x:=by rfl)(a:(x==("__debug__":Str))=false:=by decide)
  (g:starEach (e::es) X.env=(false,eval e X.env)::starEach es X.env:=by rfl) (b:(backTo pos (starEach es X.env)).any (·.1)=false:=by rfl):PE X (.Call (.Name x p) (e::es) [] pos) (qeQ C sp [] E0 t):=by
 obtain⟨f,fd,F,M,d⟩:=D.ex;show pe_make M F i h D.mg_ d .nil qz c a g b
theorem pe_clsmQ{pl:Sem Bool}(D:CMethOk X.prog X.w X.K X.mg X.base CX0 k C x m ps sp)(i:Room k X.A)(d:PA X (e::es) t)(h:Gl X x:=by rfl)(a:(x==("__debug__":Str))=false:=by decide)
  (c:starEach (e::es) X.env=(false,eval e X.env)::starEach es X.env:=by rfl) (b:(backTo pos (starEach es X.env)).any (·.1)=false:=by rfl)
  (j:eval (.Call (.Attribute (.Name x p) m apos) (e::es) [] pos) X.env=(do
   let ov <- eval (.Name x p) X.env
   standAt apos.atName
   let (f,first) <- holding [ov] (getMethod ov m pl)
   callWith pos f first (backTo pos (starEach (e::es) X.env)) (backToKw pos (keywordEach [] X.env))):=by rfl) :
  PE X (.Call (.Attribute (.Name x p) m apos) (e::es) [] pos) (qdE sp [] E0 t):=by
 obtain⟨f,fd,F,M,g⟩:=D.ex;show pe_clsm (pl:=pl) M F i h D.mg_ g qz d a c b j
end
theorem own_eq_same{prog:Program}{w:World}{A:Around}{E:Value->Shared->Prop}{s:Shared}{K:yg}{x C:Addr}{ox:Obj}{od:Option Obj}{Q:Value->Shared->Prop}(l:A.units<cLine)(X:K.In s.heap)(I:PySem.W.InstAt s.heap x ox C od)
  (j:PySem.W.findIn K (.ref C) "__eq__"=some (some (.builtin "object.__eq__"))) (g:PySem.W.mroIn K C (.type "object")=some true) (h:Q (.bool true) s):wpAny (model prog w) A (richCompare .Eq (.ref x) (.ref x)) Q E s:=by
 have a:∀{f:Around} {d:Value->Shared->Prop},d (.bool true) s->wpAny (model prog w) f (call (.builtin "object.__eq__") [.ref x,.ref x]) d E s:=fun{f d} q=>by
  show xG (xF PySem.F.slot_object_eq.plain PySem.F.entry_object_eq (@PySem.W.check_slot (model prog w) _ _ s "object.__eq__" "object" "__eq__" (.ref x) [.ref x] [] _ (by room) (by room) (I.type.andThen (xn X g)) (PySem.F.args_object_eq_2 _ _) ?_));show yr (yu (yr (wpAny_isSame_ref_self ?_)));show yu q
 have one:wpAny (model prog w) A (tryCompare (.ref x) "__eq__" (.ref x)) (fun r s'=>∃ v,r=some v/\Q v s') E s:=by
  unfold tryCompare;show yr ?_;simp only[callSpecialIfBound?,bindSpecialIfBound?];show Yi (yr (yr (yr (I.type.here ((YE X j).here ?_)))));show yr (kC (wpAny_ite ?_));have b:=PySem.F.slot_object_eq.bind (.ref x)
  have c:wpAny (model prog w) A (call (.builtin "object.__eq__") ([.ref x]++[.ref x])>>=fun v=>pure (some v)) (fun r s'=>wpAny (model prog w) A (match r with | some .notImplemented | none=>pure none | some v=>pure (some v)) (fun r s'=>∃ v,r=some v/\Q v s') E s') E s:=
   yr (a (yu (yu ⟨_,rfl,h⟩)))
  split
  .show yr (YS b (yu c))
  .show wpAny_tryCatch (yr (YS b (yu c)))
 unfold richCompare;simp only[oneThing_ref];show Yi (yr (wpAny_cRoomFor l ?_));show yr (I.type.here (yr (I.type.here ?_)));rw[yC (by simp)];show yr (yu ?_);simp only[xv,Xy];show yr (YA one (fun r s' z=>?_) fun _ _ e=>e);obtain⟨v,rfl,i⟩:=z;show yu i
structure OEq(K:yg)(C:Addr):Prop where
 eq:PySem.W.findIn K (.ref C) "__eq__"=some (some (.builtin "object.__eq__"))
 ob:PySem.W.mroIn K C (.type "object")=some true
def qf5(K:yg):R2:=fun x y H Q=>qed K false x y H Q\/∃ a C dx fs,x=.ref a/\y=.ref a/\H a=some (.ins C dx fs)/\OEq K C/\Q (.bl true) H
theorem k_eqW{X:Cx}{K:yg}(d:X.K=K)(e:X.A.units+100<cLine):OpR X (compareOp .Eq) (qf5 K):=by
 subst d;intro pins s σ H x y u v Q I b c h;rcases h with h | ⟨a,C,dx,fs,rfl,rfl,ea,oe,q⟩
 .show k_eqU rfl e pins s σ H x y u v Q I b c h
 .cases b;cases c;obtain⟨f,O,_⟩:=qaU I.hok ea;obtain⟨od,J,_⟩:=O.look;show own_eq_same (by lk) I.kIn J oe.eq oe.ob ⟨.bl true,H,I,rfl,q⟩
theorem qS{X:Cx}:MtR X "list.append" rAppend:=mt_append
theorem qbC{X:Cx}:MtR X "list.extend" rExtend:=mt_extend
theorem qci{X:Cx}:MtR X "list.pop" rPopAt:=mt_popAt
theorem boot_ValueError:bootBuiltins "ValueError"=some (.type "ValueError"):=by room
section
variable{D:Ends}{σ:St}{H:Hp}{Q:VK}{t u:TS}{te ta tb tc:TE}{tas:TA}{K:yg}{sp:Sp}{E:XK}{EK:St->XK}{C:Addr}{f m:Str}
theorem vFldU(h:ta σ H fun x a=>FlUR K f x a Q):qfk K ta f σ H Q:=h
theorem vSFldU(h:te σ H fun y a=>ta σ a fun x b=>SFUR K f x y b (D.nx σ)):qfl K ta te f D σ H:=h
theorem vXMake(h:tas σ H fun vs a=>vs.length<=1000/\∀ x,a x=none->sp (.ref x::vs) (upd a x (XN x C none)) (fun v b=>v=.non/\Q (.ref x) b) E):qdQ C sp E tas σ H Q:=h
theorem vMake(h:tas σ H fun vs a=>∀ x dx,a x=none->a dx=none->dx≠x->sp (.ref x::(vs++[])) (upd (upd a dx (.own x)) x (.ins C dx [])) (fun v b=>v=.non/\Q (.ref x) b) E):qeQ C sp [] E tas σ H Q:=h
theorem vMeth(h:ta σ H fun x a=>MeR C m x a (tas σ a fun vs b=>sp (x::(vs++[])) b Q E)):qdF C m sp [] E ta tas σ H Q:=h
theorem vVinit(h:tas σ H fun vs b=>∃ a C y,vs=[.ref a,y]/\b a=some (XN a C none)/\XAt K C/\Q .non b):qer K tas σ H Q:=h
theorem vCallS(h:tas σ H fun vs a=>sp vs a Q (EK σ)):qev sp EK tas σ H Q:=h
theorem vMethS(h:ta σ H fun x a=>MeR C m x a (tas σ a fun vs b=>sp (x::vs) b Q (EK σ))):tMethS C m sp EK ta tas σ H Q:=h
theorem vMakeS(h:tas σ H fun vs a=>∀ x dx,a x=none->a dx=none->dx≠x->sp (.ref x::vs) (upd (upd a dx (.own x)) x (.ins C dx [])) (fun v b=>v=.non/\Q (.ref x) b) (EK σ)):qew C sp EK tas σ H Q:=h
theorem vRaise(h:te σ H fun x b=>∃ a C dx,x=.ref a/\b a=some (XN a C dx)/\XAt K C/\EK σ (.ref C) dx (upd b a (XO a C dx))):qeu K EK te D σ H:=h
theorem zw{x y:V}{t a:Value}{b:Bool}(ty:TyX K H x t)(d:qcf y=some a)(c:PySem.W.kitOne K t a=some b)(h:Q (.bl b) H):qfm K [x,y] H Q:=⟨x,y,t,a,b,rfl,ty,d,c,h⟩
end
section
variable{prog:Program}{w:World}{A:Around}{E:Value->Shared->Prop}{s:Shared}
theorem none_dict{a:Addr}{Q:Value->Shared->Prop}(d:s.TypeIs (.ref a) "dict")(e:A.units<cLine)(h:Q (.bool false) s):wpAny (model prog w) A (richCompare .Eq .none (.ref a)) Q E s:=by
 show SeqAt.rc_eq_decline_or (k:=false) rfl d (by decide) PySem.F.sub_dict_NoneType YM xw
  (fun _ c=>call_gives YM rfl PySem.F.entry_NoneType_eq (PySem.F.args_NoneType_eq_2 _ _) (SeqAt.NoneType___eq___none_ref_0 a) c) (fun f c=>?_) (fun _ c=>YS (rfl:isSame .none (.ref a)=pure false) c) (.inr e) h
 show xr xw d PySem.F.entry_dict_eq ?_ (PySem.F.args_dict_eq_2 _ _);show wpAny _ _ (Builtin.Dict.dictSlotArgs "__eq__" ⟨[.ref a,.none],[]⟩>>=_) _ _ s;show yr ?_;unfold Builtin.Dict.dictSlotArgs;show yr (wpAny_notOrdered_dict d ?_);show wpAny _ _ (pure (Value.ref a,Value.none)) _ _ s;show yu ?_;show yr (kD (T:="NoneType") (b:=false) rfl PySem.F.sub_NoneType_dict ?_);simp only[kW,Xf];show yr (kM (yu ⟨_,rfl,c⟩))
theorem none_own{K:yg}{x C:Addr}{ox:Obj}{od:Option Obj}{Q:Value->Shared->Prop}(i:A.units<cLine)(X:K.In s.heap)(I:PySem.W.InstAt s.heap x ox C od)(f:OEq K C)(g:PySem.W.mroIn K C (.type "NoneType")=some false)
  (h:Q (.bool false) s):wpAny (model prog w) A (richCompare .Eq .none (.ref x)) Q E s:=by
 have j:wpAny (model prog w) A (tryCompare .none "__eq__" (.ref x)) (fun r s'=>r=none/\s'=s) E s:=by
  unfold tryCompare;show yr ?_;simp only[callSpecialIfBound?,bindSpecialIfBound?];show Yi (yr (yr ?_));show yr (YS (rfl:typeOf .none=pure (.type "NoneType")) ?_);show YS YM.lookup ?_;show yr (kC (wpAny_ite ?_))
  have a:wpAny (model prog w) A (call (.builtin "NoneType.__eq__") ([.none]++[.ref x])>>=fun v=>pure (some v)) (fun r s'=>wpAny (model prog w) A (match r with | some .notImplemented | none=>pure none | some v=>pure (some v)) (fun r s'=>r=none/\s'=s) E s') E s:=
   yr (call_gives YM rfl PySem.F.entry_NoneType_eq (PySem.F.args_NoneType_eq_2 _ _) (SeqAt.NoneType___eq___none_ref_0 x) (yu (yu ⟨rfl,rfl⟩)))
  split
  .show yr (YS (YM.bind .none) (yu a))
  .show wpAny_tryCatch (yr (YS (YM.bind .none) (yu a)))
 have l:wpAny (model prog w) A (tryCompare (.ref x) "__eq__" .none) (fun r s'=>r=none/\s'=s) E s:=by
  unfold tryCompare;show yr ?_;simp only[callSpecialIfBound?,bindSpecialIfBound?];show Yi (yr (yr (yr (I.type.here ((YE X f.eq).here ?_)))));show yr (kC (wpAny_ite ?_));have b:=PySem.F.slot_object_eq.bind (.ref x)
  have c:∀{d:Value->Shared->Prop},d .notImplemented s->wpAny (model prog w) A (call (.builtin "object.__eq__") [.ref x,.none]) d E s:=fun{d} q=>by
   show xG (xF PySem.F.slot_object_eq.plain PySem.F.entry_object_eq (@PySem.W.check_slot (model prog w) _ _ s "object.__eq__" "object" "__eq__" (.ref x) [.none] [] _ (by room) (by room) (I.type.andThen (xn X f.ob)) (PySem.F.args_object_eq_2 _ _) ?_));show yr (yu (yr (YS (rfl:isSame (.ref x) .none=pure false) ?_)));show yu q
  have a:wpAny (model prog w) A (call (.builtin "object.__eq__") ([.ref x]++[.none])>>=fun v=>pure (some v)) (fun r s'=>wpAny (model prog w) A (match r with | some .notImplemented | none=>pure none | some v=>pure (some v)) (fun r s'=>r=none/\s'=s) E s') E s:=
   yr (c (yu (yu ⟨rfl,rfl⟩)))
  split
  .show yr (YS b (yu a))
  .show wpAny_tryCatch (yr (YS b (yu a)))
 unfold richCompare;show Yi (yr (wpAny_cRoomFor i ?_));show wpAny _ _ (typeOf .none>>=_) _ _ _;show yr (YS (rfl:typeOf .none=pure (.type "NoneType")) (yr (I.type.here ?_)));rw[yE (by rfl)];show yr ((xn X g).here ?_);simp only[xv,Xy];show yr (YA j (fun r s' z=>?_) fun _ _ e=>e);obtain⟨rfl,rfl⟩:=z;simp only[kW,Xf];show yr (YA l (fun r s' z=>?_) fun _ _ e=>e);obtain⟨rfl,rfl⟩:=z;show yr (kM (yr (YS (rfl:isSame .none (.ref x)=pure false) (yu h))))
end
def rNoneRef(K:yg):R2:=fun x y H Q=>∃ a,x=.non/\y=.ref a/\((∃ xs,SqL K H a xs\/SqT K H a xs)\/(∃ kvs,H a=some (.dK kvs))\/∃ C dx fs,H a=some (.ins C dx fs)/\OEq K C/\PySem.W.mroIn K C (.type "NoneType")=some false)/\Q (.bl false) H
def qfH(K:yg):R2:=fun x y H Q=>qf5 K x y H Q\/rNoneRef K x y H Q
theorem zE{X:Cx}{K:yg}(e:X.K=K)(j:X.A.units+100<cLine):OpR X (compareOp .Eq) (qfH K):=by
 intro pins s σ H x y u v Q I f g h;rcases h with h | ⟨a,rfl,rfl,h,q⟩
 .show k_eqW e j pins s σ H x y u v Q I f g h
 .subst e;cases f;cases g;have b:EP X pins σ Q (.bool false) s:=⟨.bl false,H,I,rfl,q⟩;rcases h with⟨xs,hl | hl⟩ | ⟨kvs,c⟩ | ⟨C,dx,fs,c,l,i⟩
  .obtain⟨its,r,pl,_⟩:=I.list hl;show SeqAt.RcAt.none_list pl.isList (by lk) _ _ _ _ b
  .obtain⟨its,r,pl,_⟩:=I.tuple hl;show SeqAt.RcAt.none_tuple pl (by lk) _ _ _ _ b
  .obtain⟨_,_,vs,_,d⟩:=(show ObjOk X.prog X.w H s.heap a (.dK kvs) from I.hok a _ c);show none_dict d.typeIs (by lk) b
  .obtain⟨m,O,_⟩:=qaU I.hok c;obtain⟨od,J,_⟩:=O.look;show none_own (by lk) I.kIn J l i b
def XL(K:yg)(C:Addr)(c:List Value):Prop:=∃ j l N bs a sn sub ab b d e f g h i,K.lookup C=some (excClassObj j l C N bs c a sn sub ab b d e f g h i "ValueError.__new__")
section
variable{K:yg}{C D:Addr}{bm bn:List Value}
theorem XL.xat(x:XL K C bm)(a:qbY bm=true)
  (h:PySem.W.findIn K (.ref C) "__getattribute__"=some (some (.builtin "BaseException.__getattribute__"))) (i:PySem.W.findIn K (.ref C) "__getattr__"=some none)
  (c:PySem.W.mroIn K C (.type "BaseException")=some true) (ob:PySem.W.mroIn K C (.type "object")=some true) (j:PySem.W.hasDictIn K C=true) (f:PySem.W.findIn K (.ref C) "__class__"=some (some (.builtin "object.__class__")))
  (d:PySem.W.specialIn K (.builtin "object.__class__") "__get__"=some (some (.builtin "getset_descriptor.__get__"))) (ct:PySem.W.takesIn K (.builtin "object.__class__")=some true)
  (l:PySem.W.findIn K (.ref C) "__setattr__"=some (some (.builtin "object.__setattr__"))):XAt K C:=by
 obtain⟨s,t,N,bs,b,sn,sub,ab,g,m,n,o,p,q,r,e⟩:=x;show⟨h,i,c,ob,j,f,d,ct,l,?_,?_⟩
 .unfold PySem.W.clsIn;rw[e];show a
 .unfold qfF;rw[e];simp[a]
theorem XL.kit(x:XL K C bm)(y:XL K D bn):PySem.W.kitOne K (.ref C) (.ref D)=some ((Value.ref C::bm).contains (.ref D)):=by
 obtain⟨H,I,N,bs,d,sn,sub,ab,i,w,A,B,E,F,G,e⟩:=x;obtain⟨q,t,v,h,a,u,f,g,b,j,l,m,n,o,p,c⟩:=y;unfold PySem.W.kitOne PySem.W.kitCls;split
 .rename_i z
  have z:C=D:=XJ (Ye.mp z);subst z;simp
 .dsimp only;have r:(PySem.W.clsIn K D).isSome=true:=by unfold PySem.W.clsIn;rw[c];rfl
  have s:(PySem.W.typeIn K (.ref D)==some (.type "type"))=true:=by show((K.lookup D).map (·.cls)==_)=true;rw[c];rfl
  rw[yE (by rw[r,s];rfl)];unfold PySem.W.subIn PySem.W.mroIn PySem.W.clsIn;dsimp only;rw[e];rfl
theorem XL.kitT(x:XL K C bm){T:String}(h:PySem.W.kitMeta T=true):PySem.W.kitOne K (.ref C) (.type T)=some (bm.contains (.type T)):=by
 obtain⟨l,m,N,bs,a,sn,sub,ab,b,c,d,f,g,i,j,e⟩:=x;unfold PySem.W.kitOne PySem.W.kitCls;split
 .rename_i z
  show absurd (Ye.mp z) nofun
 .dsimp only;rw[yE h];unfold PySem.W.subIn PySem.W.mroIn PySem.W.clsIn;dsimp only;rw[e];show some ((Value.ref C::bm).contains _)=_;rw[Yl];rfl
noncomputable abbrev qbS:List Value:=[.type "ValueError",.type "Exception",.type "BaseException",.type "object"]
theorem qdR:qbY qbS=true:=by decide
theorem qcG{c:Addr}:qbY (.ref c::qbS)=true:=qdR
theorem kits{K:yg}{a:LQ}{c:Addr}(n:(a++[c]).Nodup)(h:∀ i,i<a.length->XL K (a.getD i c) (.ref c::qbS))(hc:XL K c qbS) :
  (∀ i j,i<a.length->j<a.length->PySem.W.kitOne K (.ref (a.getD i c)) (.ref (a.getD j c))=some (decide (i=j)))/\(∀ i,i<a.length+1->PySem.W.kitOne K (.ref (a.getD i c)) (.ref c)=some true) /\
  (∀ i,i<a.length+1->PySem.W.kitOne K (.ref (a.getD i c)) (.type "ValueError")=some true)/\∀ j,j<a.length->PySem.W.kitOne K (.ref c) (.ref (a.getD j c))=some false:=by
 have m:∀(j:Nat) (b:j<a.length),a.getD j c=a[j]:=fun j b=>by simp[List.getD,b]
 have hl:a.getD a.length c=c:=by simp
 have g:∀ j,j<a.length->c≠a.getD j c:=fun j b e=>by
  have s:=(yV.mp n).2.2 (a.getD j c) (by rw[m j b];show Xg b) c (by simp);show s e.symm
 show⟨fun i j f b=>?_,fun i f=>?_,fun i f=>?_,fun j b=>?_⟩
 .rw [(h i f).kit (h j b)]
  congr 1
  rw[Yl,Yl];have l:((Value.ref (a.getD j c))==Value.ref c)=false:=Yo.mpr fun e=>g j b (XJ e).symm;have p:List.contains qbS (Value.ref (a.getD j c))=false:=rfl;rw[l,p];by_cases d:i=j
  .subst d;simp
  .have r:((Value.ref (a.getD j c))==Value.ref (a.getD i c))=false:=Yo.mpr fun e=>by
    have e:=XJ e;rw[m i f,m j b] at e;have o:=xx.mp (yV.mp n).1;rcases Nat.lt_or_gt_of_ne d with q | q
    .show o i j f b q e.symm
    .show o j i b f q e
   rw[r];simp[d]
 .rcases Nat.lt_or_ge i a.length with hi' | hi'
  .rw [(h i hi').kit hc,Yl,Yl];simp
  .have:i=a.length:=by lk
   subst this;rw[hl,hc.kit hc];simp
 .rcases Nat.lt_or_ge i a.length with hi' | hi'
  .rw [(h i hi').kitT (by room)];rfl
  .have:i=a.length:=by lk
   subst this;rw[hl,hc.kitT (by room)];rfl
 .rw [hc.kit (h j b),Yl];have l:((Value.ref (a.getD j c))==Value.ref c)=false:=Yo.mpr fun e=>g j b (XJ e).symm;rw[l];rfl
end
end L2
namespace HT
open PySem PySem.Spec PyProof.Rows
variable{sl:Addr}{vs:Value}
section
variable{prog:Program}{w:World}{A:Around}{E:Value->Shared->Prop}{s:Shared}
theorem sliceApplied_rev{Q:Int×Int×Nat->Shared->Prop}(d:s.heap.IsSliceOf sl .none .none vs)(e:IsPart vs (some (-1)))
  (h:Q (1,-1,2) s):wpAny (model prog w) A (Builtin.Slice.sliceApplied (.ref sl) (pure ((2:Nat):Int))) Q E s:=by
 obtain⟨f,b,c,a⟩:=id d;unfold Builtin.Slice.sliceApplied Builtin.Slice.sliceFields;show yr (yr (Yu b a (x:=.none) rfl (yr (Yu b a (x:=.none) rfl (yr (Yu b a (x:=vs) rfl (yu ?_)))))));show yr (qaa e ?_);show wpAny _ _ (if ((-1:Int)==0)=true then _ else _) _ _ s;rw[yC (by decide)];show yr (Xe (yr (Xe (yr (yu ?_)))));show yu h
theorem getItem_pair_rev{t:Addr}{x y:Value}{Q:Value->Shared->Prop}(b:IsTup s.heap t #[x,y])(f:s.heap.IsSliceOf sl .none .none vs)(j:IsPart vs (some (-1)))
  (h:Q (.ref s.heap.objs.size) { s with heap:=s.heap.push { cls:=.type "tuple",data:=.seq #[y,x] } }):wpAny (model prog w) A (getItem (.ref t) (.ref sl)) Q E s:=by
 have a:sizeOk (.seq #[y,x]):=by
  show 2<=sizeLine
  decide
 obtain⟨i,e,d,g⟩:=id f;have c:s.TypeIs (.ref sl) "slice":=⟨i,e,d⟩;unfold getItem
 try with_reducible show Yi ?_
 first | show yr (yu ?_) | skip
 show yr (kj b.typeIs (by decide) ?_);show yr (xj (name:=Str.ofString "__getitem__") b.typeIs yY
  (xr yY b.typeIs X5 ?_ (args_tuple_getitem _ _)))
 show wpAny _ _ (Builtin.Tuple.tupleItemsOf (.ref t)>>=_) _ _ s;show yr (tupleItemsOf_ b ?_);show yr (X6 c ?_);rw[yE (by decide)];show yr (sliceApplied_rev f j ?_);show wpAny _ _ (if ((1:Int)==0&&(-1:Int)==1&&2==2)=true then _ else _) _ _ s;rw[yC (by decide)]
 first
  | show yr (m:=Builtin.Tuple.tupleExact _) (YC (yu ⟨_,rfl,yu h⟩) a)
  | show yr (m:=Builtin.Tuple.tupleExact _) (YC (yr (yu (yu ⟨_,rfl,yu h⟩))) a)
  | show yr (yr (m:=Builtin.Tuple.tupleExact _) (YC (yu (yu ⟨_,rfl,yu h⟩)) a))
  | show yr (yr (m:=Builtin.Tuple.tupleExact _) (YC (yu ⟨_,rfl,yu h⟩) a))
end
end HT
namespace L2
open PySem PySem.Spec PyProof.Rows
variable{H:Hp}{σ:St}
def qf6(K:yg)(d:TE)(e:TO):TE:=fun σ H Q=>d σ H fun x c=>e σ c fun o b=>o=some (-1)/\∃ a y z,x=.ref a/\SqT K b a [y,z]/\∀ p,b p=none->Q (.ref p) (upd b p (.tup [z,y]))
theorem vRev{K:yg}{c:TE}{d:TO}{Q:VK}(h:c σ H fun x e=>d σ e fun o b=>o=some (-1)/\∃ a y z,x=.ref a/\SqT K b a [y,z]/\∀ p,b p=none->Q (.ref p) (upd b p (.tup [z,y]))):qf6 K c d σ H Q:=h
section
variable{X:Cx}{K:yg}{e st:Expr}{te:TE}{ts:TO}{p2 pos:Pos}
theorem qeB(B:X.K=K)(C:PE X e te)(D:PO X (some st) ts):PE X (.Subscript e (.Slice none none (some st) p2) pos) (qf6 K te ts):=by
 subst B;intro c s σ H Q I h;show Subscript_ (thn (C c s σ H _ I h) fun v L ⟨x,m,p,J,G⟩=>?_);show kT ?_;rw[XG];show yu ?_;show yu ?_;show thn (D c L σ m _ p G) fun l d ⟨o,n,t,pt,u,a,y,z,ex,E,q⟩=>?_;subst u ex;cases J;have f:Inv X c σ n { d with heap:=d.heap.push { cls:=.type "slice",data:=.fields #[.none,.none,l] } }:=t.kept (t':=d.toks) fun b ob q=>yw _ q;obtain⟨F,r,j,hz⟩:=f.tuple E;obtain⟨M,N,rfl,g,i⟩:=qbJ r;show wpAny (model X.prog X.w) X.A (subscriptTail e (.Slice none none (some st) p2) (.ref a) (.ref d.heap.objs.size)) (EP X c σ Q) X.xe { d with heap:=d.heap.push { cls:=.type "slice",data:=.fields #[.none,.none,l] } };show kA (ops:=[.ref a,.ref d.heap.objs.size]) j.typeIs yY.lookup (HT.getItem_pair_rev j (xV ..) pt ?_) (by with_unfolding_all rfl);show⟨.ref _,_,f.laid (t':=d.toks) (o:=.tup [z,y]) (fun b ob q=>yw _ q) (yh _) ?_,rfl,q _ (f.hok.fresh (yh _))⟩;show⟨by show 2<=sizeLine;decide,_,.cons i (.cons g .nil),IsTup.new _ _⟩
def rTupleU(K:yg):List V->Hp->VK->Prop:=fun xs H Q=>∃ p ys,xs=[.ref p]/\((SqL K H p ys/\∀ l,H l=none->Q (.ref l) (upd H l (.tup ys)))\/(SqT K H p ys/\Q (.ref p) H))
theorem k_tupleU(a:X.K=K):zN X (.type "tuple") (rTupleU K):=by subst a;show call_tuple_of
end
theorem Inv.turnedL{X:Cx}{a:List (Addr×Obj)}{s:Shared}{h':Heap}{t':Nat}{fp:LQ}(I:Inv X a σ H s)(k:∀ b o,b∉fp->s.heap.get? b=some o->h'.get? b=some o)(f:∀ b∈fp,qcx X a H b):Inv X a σ H { s with heap:=h',toks:=t' }:=by
 have d:∀ b u,H b=some u->b∉fp:=fun b u e z=>by rw[(f b z).1] at e;cases e
 have p:X.env.locals∉fp:=fun z=>(f _ z).2.1 rfl;show I.step (g':=s.gens) (d':=s.drawn) (ch:=fp) (fun b t=>?_) (fun b o _ _ hc e _=>k b o hc e) (fun b o _ _ hc e _=>⟨o.slots,k b o hc e⟩) (fun _ _ _ _ n=>n)
  (fun b o hc e=>⟨o,k b o hc e⟩) (fun _ _ e=>e) (fun _ _ _ e=>e) (fun b B e=>⟨#[],by rw[e];simp⟩) (fun m w=>?_) (fun b u e=>?_) I.bare
 .obtain⟨y,h,A,i,j,l⟩:=f b t;show⟨i,h,j,l⟩
 .obtain⟨o,g,ep,x,r⟩:=w;show⟨o,g,ep,k _ o p x,r⟩
 .show(I.hok b u e).stay (fun c v hc q=>k c v ?_ q) (fun _ q=>q) fun _ _ q=>q;rcases hc with z | z
  .rw [z];show d b u e
  .show d c _ z
noncomputable def Ite(K:yg)(a:Addr):It:=
 ⟨fun i H=>∃ xs x,SqL K H a xs/\xs[i]?=some x,fun i H x H'=>∃ t y,x=.ref t/\H t=none/\H'=upd H t (.tup [.int i,y])/\∀ xs,SqL K H a xs->xs[i]?=some y,fun i H=>∃ xs,SqL K H a xs/\xs.length<=i⟩
theorem push_some{h:Heap}{o v:Obj}{b:Addr}(e:(h.push o).get? b=some v)(ne:b≠h.objs.size):h.get? b=some v:=(Heap.get?_push_cases e).elim (fun z=>absurd z.1 ne) fun z=>z
def iEnum(K:yg)(c:TA):TI:=fun σ H R=>c σ H fun vs b=>∃ a xs,vs=[.ref a]/\SqL K b a xs/\R (Ite K a) b
theorem vEnum{K:yg}{b:TA}{R:It->Hp->Prop}(h:b σ H fun vs c=>∃ a xs,vs=[.ref a]/\SqL K c a xs/\R (Ite K a) c):iEnum K b σ H R:=h
section
variable{X:Cx}
end
end L2
namespace L2
open PySem PySem.Spec PyProof.Rows PySem.Builtin PySem.Builtin.Str
theorem qe0{a c:Nat}(h:a+100<c):a+1<c:=by lk
theorem vDGet2{e ty f:TE}{b:St}{H:Hp}{Q:VK}(h:e b H fun x c=>∃ a,x=.ref a/\IsD c a/\ty b c fun y g=>f b g fun z d=>∃ o,DGet d a y o/\Q (o.getD z) d):tDGet2 e ty f b H Q:=h
end L2
namespace L2
open PySem PySem.Spec PyProof.Rows
theorem eqV_strD(a b:Str):eqV (.str a) (.str b)=decide (a=b):=by
 have e:eqV (.str a) (.str b)=(a==b):=by simp[eqV]
 rw[e,YH,Ye,YG]
theorem qcj:∀(ys:LS) (y:Str) (m:Nat) (b:m<ys.length),m<ys.idxOf y->ys[m]≠y
 | [],_,_,b,_=>by simp at b
 | a::r,y,m,b,h=>by
  rw[List.idxOf_cons] at h;by_cases e:a=y
  .subst e;simp at h
  .have c:(a==y)=false:=Yo.mpr e;rw[c] at h
   cases m with
   | zero=>show e
   | succ k =>
    have d:k<r.idxOf y:=by
     have h:k+1<r.idxOf y+1:=h;lk
    show qcj r y k (by simpa using b) d
section
variable{X:Cx}{K:yg}
def rIndex(K:yg):V->List V->Hp->VK->Prop:=fun x vs H Q=>∃(p:Addr) (ys:LS) (y:Str),x=.ref p/\vs=[.str y]/\SqL K H p (ys.map V.str)/\y∈ys/\Q (.int (ys.idxOf y:Nat)) H
theorem qcH(A:X.K=K):MtR X "list.index" (rIndex K):=by
 subst A;intro t s N H x vs v us Q I J G h;obtain⟨p,ys,y,rfl,rfl,B,D,q⟩:=h;cases J;obtain⟨u,rfl,E⟩:=G.one;obtain⟨a,r,pl,hz⟩:=I.list B;obtain⟨⟨cls,z,data,L⟩,o,hc,n,l⟩:=id pl.isList;simp only at hc l;subst hc l;have fs:(ys.map V.str).all jR=true:=by rw[X7];show YR.mpr fun _ _=>rfl
 have b:(ys.map V.str).length=a.length:=r.length;rw[ya] at b;have d:ys.idxOf y<ys.length:=List.idxOf_lt_length_iff.mpr D
 have at_:∀(m:Nat) (i:m<ys.length) (c:m<a.toArray.size),eqU (.str y) a.toArray[m]=decide (ys[m]=y):=fun m i c=>by
  have g:(ys.map V.str)[m]?=some (.str ys[m]):=by rw[yd,yb i];rfl
  obtain⟨w,hw,j⟩:=r.get g
  have e:a.toArray[m]=w:=by
   have:a.toArray[m]?=some w:=by simpa using hw
   rw[xy c] at this;show ym this
  rw[e,qdI j rfl,eqV_strD]
 have M:ys.length<=sizeLine:=by rw[ya] at hz;show hz
 have C:sizeLine<2 ^ 63-1:=by decide
 show XE xO ⟨_,o,rfl⟩ PySem.F.entry_list_index (PySem.F.args_list_index_2 _ _)
  (SeqAt.list_indexAt p a.toArray n z L u (eqU (.str y)) (ys.idxOf y) (by simpa [<- b] using d) (by lk) ?_ ?_) ⟨o,fun w hw=>qab E rfl r fs w (by simpa using hw),.int _,H,I.tok _,⟨_,rfl⟩,q⟩
 .rw [at_ _ d];show yH (Y7 d)
 .intro m i f;rw[at_ m (by lk)];show yl fun e=>qcj ys y m (by lk) f e
end
theorem qck(xs:List V)(k:Nat):qaw xs none (some (k:Int))=xs.take k:=by
 unfold qaw;rw[HT.sIx_none,HT.sIx_nat,List.drop_zero,k7];by_cases h:k<=xs.length
 .rw [kQ h]
 .rw [kE (by lk),YX (yh _),YX (by lk)]
theorem qcl(xs:List V)(k:Nat):qaw xs (some (k:Int)) none=xs.drop k:=by
 unfold qaw;rw[HT.sIx_none,HT.sIx_nat];by_cases h:k<=xs.length
 .rw [kQ h,YX (by rw[kz];lk)]
 .rw [kE (by lk),XF,List.drop_of_length_le (by lk)];simp
section
variable{X:Cx}{K:yg}
end
end L2
namespace HT
open PySem PySem.Spec PyProof.Rows
variable{sl:Addr}{vs:Value}
section
variable{prog:Program}{w:World}{A:Around}{E:Value->Shared->Prop}{s:Shared}
theorem sliceApplied_one{Q:Int×Int×Nat->Shared->Prop}(d:s.heap.IsSliceOf sl .none .none vs)(e:IsPart vs (some 1))
  (h:Q (0,1,2) s):wpAny (model prog w) A (Builtin.Slice.sliceApplied (.ref sl) (pure ((2:Nat):Int))) Q E s:=by
 obtain⟨f,b,c,a⟩:=id d;unfold Builtin.Slice.sliceApplied Builtin.Slice.sliceFields;show yr (yr (Yu b a (x:=.none) rfl (yr (Yu b a (x:=.none) rfl (yr (Yu b a (x:=vs) rfl (yu ?_)))))));show yr (qaa e ?_);show wpAny _ _ (if ((1:Int)==0)=true then _ else _) _ _ s;rw[yC (by decide)];show yr (Xe (yr (Xe (yr (yu ?_)))));show yu h
theorem getItem_pair_one{t:Addr}{x y:Value}{Q:Value->Shared->Prop}(a:IsTup s.heap t #[x,y])(e:s.heap.IsSliceOf sl .none .none vs)(i:IsPart vs (some 1))
  (h:Q (.ref t) s):wpAny (model prog w) A (getItem (.ref t) (.ref sl)) Q E s:=by
 obtain⟨g,d,c,f⟩:=id e;have b:s.TypeIs (.ref sl) "slice":=⟨g,d,c⟩;unfold getItem
 try with_reducible show Yi ?_
 first | show yr (yu ?_) | skip
 show yr (kj a.typeIs (by decide) ?_);show yr (xj (name:=Str.ofString "__getitem__") a.typeIs yY
  (xr yY a.typeIs X5 ?_ (args_tuple_getitem _ _)))
 show wpAny _ _ (Builtin.Tuple.tupleItemsOf (.ref t)>>=_) _ _ s;show yr (tupleItemsOf_ a ?_);show yr (X6 b ?_);rw[yE (by decide)];show yr (sliceApplied_one e i ?_);show wpAny _ _ (if ((0:Int)==0&&(1:Int)==1&&2==2)=true then _ else _) _ _ s;rw[yE (by decide)];unfold Builtin.Tuple.tupleIsExact;show yr (yr (X6 a.typeIs (yu ?_)));rw[yE (by decide)];show yr (kM ?_);show yu ⟨_,rfl,yu h⟩
end
end HT
namespace L2
open PySem PySem.Spec PyProof.Rows
def qfn(K:yg)(e:TE)(f:TO):TE:=fun c H Q=>e c H fun x d=>f c d fun o b=>∃ a y z,x=.ref a/\SqT K b a [y,z]/\((o=some (-1)/\∀ p,b p=none->Q (.ref p) (upd b p (.tup [z,y])))\/(o=some 1/\Q (.ref a) b))
theorem vStep{K:yg}{d:TE}{e:TO}{c:St}{H:Hp}{Q:VK}(h:d c H fun x f=>e c f fun o b=>∃ a y z,x=.ref a/\SqT K b a [y,z]/\((o=some (-1)/\∀ p,b p=none->Q (.ref p) (upd b p (.tup [z,y])))\/(o=some 1/\Q (.ref a) b))):qfn K d e c H Q:=h
section
variable{X:Cx}{K:yg}{e st:Expr}{te:TE}{ts:TO}{p2 pos:Pos}
theorem pe_step(C:X.K=K)(D:PE X e te)(E:PO X (some st) ts):PE X (.Subscript e (.Slice none none (some st) p2) pos) (qfn K te ts):=by
 subst C;intro c s i H Q I h;show Subscript_ (thn (D c s i H _ I h) fun v M ⟨x,t,u,L,J⟩=>?_);show kT ?_;rw[XG];show yu ?_;show yu ?_;show thn (E c M i t _ u J) fun p d ⟨o,n,B,pt,a,y,z,ex,F,q⟩=>?_;subst ex;cases L;have f:Inv X c i n { d with heap:=d.heap.push { cls:=.type "slice",data:=.fields #[.none,.none,p] } }:=B.kept (t':=d.toks) fun b ob q=>yw _ q;obtain⟨G,r,g,hz⟩:=f.tuple F;obtain⟨N,O,rfl,l,m⟩:=qbJ r;show wpAny (model X.prog X.w) X.A (subscriptTail e (.Slice none none (some st) p2) (.ref a) (.ref d.heap.objs.size)) (EP X c i Q) X.xe { d with heap:=d.heap.push { cls:=.type "slice",data:=.fields #[.none,.none,p] } };rcases q with⟨j,q⟩ | ⟨j,q⟩
 .subst j;show kA (ops:=[.ref a,.ref d.heap.objs.size]) g.typeIs yY.lookup (HT.getItem_pair_rev g (xV ..) pt ?_) (by with_unfolding_all rfl);show⟨.ref _,_,f.laid (t':=d.toks) (o:=.tup [z,y]) (fun b ob q=>yw _ q) (yh _) ?_,rfl,q _ (f.hok.fresh (yh _))⟩;show⟨by show 2<=sizeLine;decide,_,.cons m (.cons l .nil),IsTup.new _ _⟩
 .subst j;show kA (ops:=[.ref a,.ref d.heap.objs.size]) g.typeIs yY.lookup (HT.getItem_pair_one g (xV ..) pt ?_) (by with_unfolding_all rfl);show⟨.ref _,n,f,rfl,q⟩
end
def FG(K:yg)(a:Str)(st:Stmt):Prop:=∃ f b,PySem.W.nsIn K mainGlobals a=some (some (.ref f))/\Fun K a a st f b
def FM(K:yg)(C:Addr)(m b:Str)(st:Stmt):Prop:=∃ f a,PySem.W.findIn K (.ref C) m=some (some (.ref f))/\PySem.W.isFn K (.ref f)=true/\Fun K m b st f a
def FC(K:yg)(C:Addr)(m b:Str)(st:Stmt):Prop:=∃ f a,PySem.W.findCls K (.ref C) (.type "type") m=some (.val (.ref f))/\Fun K m b st f a
structure XQ(K:yg)(C:Addr):Prop where
 xa:PySem.W.findIn K (.ref C) "__getattribute__"=some (some (.builtin "BaseException.__getattribute__"))
 xb:PySem.W.findIn K (.ref C) "__getattr__"=some none
 xd:PySem.W.mroIn K C (.type "BaseException")=some true
 xe:PySem.W.mroIn K C (.type "object")=some true
 xf:PySem.W.hasDictIn K C=true
 xg:PySem.W.findIn K (.ref C) "__class__"=some (some (.builtin "object.__class__"))
 xh:PySem.W.findIn K (.ref C) "__setattr__"=some (some (.builtin "object.__setattr__"))
 p:PySem.W.keepIn K (.ref C)=true
section
variable{P:Program}{w:World}{K:yg}{mg:Str->Option Value}{base h:Heap}{CX:CXT}{k:Nat}{sp:Sp}{st:Stmt}{f:Addr}{fd:FuncData}{ps:LS}{nm m ql x:Str}{C:Addr}
theorem lN0{P:List Value->Prop}(h:P []):∀ us:List Value,us.length=0->P us:=fun us e=>by rw[List.eq_nil_of_length_eq_zero e];show h
theorem lNs{P:List Value->Prop}{n:Nat}(h:∀ a r,r.length=n->P (a::r)):∀ us:List Value,us.length=n+1->P us:=fun us e=>by
 cases us with
 |nil=>cases e
 |cons a r=>show h a r (Nat.succ.inj e)
theorem lN1{P:List Value->Prop}(h:∀ a,P [a]):∀ us:List Value,us.length=1->P us:=lNs fun a=>lN0 (h a)
theorem lN2{P:List Value->Prop}(h:∀ a b,P [a,b]):∀ us:List Value,us.length=2->P us:=lNs fun a=>lN1 (h a)
theorem lN3{P:List Value->Prop}(h:∀ a b c,P [a,b,c]):∀ us:List Value,us.length=3->P us:=lNs fun a=>lN2 (h a)
theorem lN4{P:List Value->Prop}(h:∀ a b c d,P [a,b,c,d]):∀ us:List Value,us.length=4->P us:=lNs fun a=>lN3 (h a)
abbrev BA(x ql:Str)(st:Stmt)(ps:LS):Prop:=∀(kV b d:Value) (c:Option Addr) (a ct:Value) (us:List Value),us.length=ps.length->bindArgs (PySem.W.fnOf x ql (qax st) (zt st) (qh st) .none kV b d c a ct) ⟨us,[]⟩=pure (ps.zip us)
theorem fg_mk(X:K.In h)(G:h.Ns mainGlobals mg)(a:PySem.W.nsIn K mainGlobals nm=some (some (.ref f)))(F:Fun K nm nm st f fd)(o:FnOk P w K mg base CX k f fd ps sp)
  (b:BA nm nm st ps:=by first | (show fun _ _ _ _ _ _=>lN1 fun _=>rfl) | (show fun _ _ _ _ _ _=>lN2 fun _ _=>rfl) | (show fun _ _ _ _ _ _=>lN3 fun _ _ _=>rfl) | (show fun _ _ _ _ _ _=>lN4 fun _ _ _ _=>rfl)) :
  DefOk P w K mg base CX k nm ps sp:=⟨_,_,o,kx X G a,F.kp,F.binds b⟩
theorem fm_mk(b:Cls K C)(a:PySem.W.findIn K (.ref C) m=some (some (.ref f)))(n:PySem.W.isFn K (.ref f)=true)(F:Fun K m ql st f fd)(o:FnOk P w K mg base CX k f fd ps sp)
  (c:BA m ql st ps:=by first | (show fun _ _ _ _ _ _=>lN1 fun _=>rfl) | (show fun _ _ _ _ _ _=>lN2 fun _ _=>rfl) | (show fun _ _ _ _ _ _=>lN3 fun _ _ _=>rfl) | (show fun _ _ _ _ _ _=>lN4 fun _ _ _ _=>rfl)) :
  MethOk P w K mg base CX k C m ps sp:=⟨⟨_,_,o,⟨a,n,F.kp⟩,F.binds c⟩,b⟩
theorem fw_mk(X:K.In h)(G:h.Ns mainGlobals mg)(c:PySem.W.nsIn K mainGlobals x=some (some (.ref C)))(d:PySem.W.makesIn K C=true)(e:PySem.W.keepIn K (.ref C)=true)(a:PySem.W.findIn K (.ref C) "__init__"=some (some (.ref f)))(n:PySem.W.isFn K (.ref f)=true)(F:Fun K "__init__" ql st f fd)(o:FnOk P w K mg base CX k f fd ps sp)
  (b:BA "__init__" ql st ps:=by first | (show fun _ _ _ _ _ _=>lN1 fun _=>rfl) | (show fun _ _ _ _ _ _=>lN2 fun _ _=>rfl) | (show fun _ _ _ _ _ _=>lN3 fun _ _ _=>rfl)) :
  MakeOk P w K mg base CX k C x ps sp:=⟨⟨_,_,o,⟨d,a,n,e⟩,F.binds b⟩,kx X G c⟩
theorem fx_mk(X:K.In h)(G:h.Ns mainGlobals mg)(c:PySem.W.nsIn K mainGlobals x=some (some (.ref C)))(Y:XAt K C)(q:XQ K C)(a:PySem.W.findIn K (.ref C) "__init__"=some (some (.ref f)))(n:PySem.W.isFn K (.ref f)=true)(F:Fun K "__init__" ql st f fd)(o:FnOk P w K mg base CX0 k f fd ps sp)
  (b:BA "__init__" ql st ps:=by first | (show fun _ _ _ _ _ _=>lN1 fun _=>rfl) | (show fun _ _ _ _ _ _=>lN2 fun _ _=>rfl)) :
  XMakeOk P w K mg base k C x ps sp:=⟨⟨_,_,o,⟨Y,a,n,q.p⟩,F.binds b⟩,kx X G c⟩
theorem fc_mk(X:K.In h)(G:h.Ns mainGlobals mg)(c:PySem.W.nsIn K mainGlobals x=some (some (.ref C)))(b:PySem.W.readsIn K C (.type "type")=true)(d:PySem.W.findCls K (.ref C) (.type "type") m=some (.val (.ref f)))(e:PySem.W.specialIn K (.ref C) "__getattribute__"=some (some (.builtin "type.__getattribute__")))(F:Fun K m ql st f fd)(o:FnOk P w K mg base CX k f fd ps sp)
  (a:BA m ql st ps:=by(show fun _ _ _ _ _ _=>lN2 fun _ _=>rfl)) :
  CMethOk P w K mg base CX k C x m ps sp:=⟨⟨_,_,o,⟨b,d,e,F.kp⟩,F.binds a⟩,kx X G c⟩
theorem qee{c:List Value}(x:XL K C c)(d:qbY c=true)(q:XQ K C)(a:PySem.W.specialIn K (.builtin "object.__class__") "__get__"=some (some (.builtin "getset_descriptor.__get__")))(b:PySem.W.takesIn K (.builtin "object.__class__")=some true):XAt K C:=x.xat d q.xa q.xb q.xd q.xe q.xf q.xg a b q.xh
end
end L2
namespace HT
open PySem PySem.Spec PyProof.Rows
section
variable{prog:Program}{w:World}{A:Around}{E:Value->Shared->Prop}{s:Shared}
end
end HT
namespace L2
open PySem PySem.Spec PyProof.Rows
variable{A:Around}{H:Hp}{R:It->Hp->Prop}{a:Addr}{b:Str}{es:List Expr}{pos:Pos}{s:Shared}{te:TE}{u:Tok}{σ:St}
section
variable{X:Cx}{K:yg}{pos p:Pos}{x:Str}
end
section
variable{X:Cx}{K:yg}{e lo st:Expr}{te:TE}{tl ts:TO}{p2 pos:Pos}
def qf7(K:yg)(te:TE):TI:=fun σ H R=>te σ H fun v b=>∃ a xs,v=.ref a/\SqL K b a xs/\R (Itl K a) b
theorem viLst{K:yg}(h:te σ H fun v b=>∃ a xs,v=.ref a/\SqL K b a xs/\R (Itl K a) b):qf7 K te σ H R:=h
theorem ki_lst{u:Expr}(j:X.K=K)(m:PE X e te):PI X u e (qf7 K te):=by
 subst j;intro c s σ H R I h;show thn (m c s σ H _ I h) fun v d ⟨y,g,f,t,a,xs,i,n,q⟩=>?_;subst i;cases t
 have fp:∀ b∈[d.heap.objs.size],qcx X c g b:=fun b l=>by
  have e:b=d.heap.objs.size:=by simpa using l
  subst e;show f.fpOk (yh _) (f.hok.fresh (yh _))
 obtain⟨r,w,p,hz⟩:=f.list n;show km p.isList ⟨d.heap.objs.size,[d.heap.objs.size],_,_,g,rfl,f.kept (t':=d.toks) fun b o e=>yw _ e,qb0 a _,⟨_,yS _ rfl,rfl,rfl⟩,fp,q⟩
end
noncomputable def Itz(K:yg)(a b:Addr):It:=
 ⟨fun i H=>∃ xs ys x y,SqL K H a xs/\SqL K H b ys/\xs[i]?=some x/\ys[i]?=some y,fun i H v H'=>∃ t x y,v=.ref t/\H t=none/\H'=upd H t (.tup [x,y])/\(∀ xs,SqL K H a xs->xs[i]?=some x)/\∀ ys,SqL K H b ys->ys[i]?=some y,fun i H=>∃ xs ys,SqL K H a xs/\SqL K H b ys/\(xs.length<=i\/ys.length<=i)⟩
def tnZ(z TI TO c d a b:Addr)(i:Nat)(h:Heap):Prop:=IsZip h z TI TO .none/\IsPair h TI (.ref c) (.ref d)/\(∃ u v,IsPair h TO u v)/\h.IsListIter c a i/\h.IsListIter d b i
theorem turn_zip{P:Program}{w:World}{K:yg}{x1}(a b z TI TO n q:Addr)(D:ZipApart z TI TO n q a b):Turn P w K (.Tuple es x1 pos) (Itz K a b) [z,TI,TO,n,q] z (tnZ z TI TO n q a b) where
 mem:=by simp
 obj:=fun i h st c hc=>by
  obtain⟨hz,d,⟨u,v,g⟩,⟨o1,e1,c1,d1⟩,⟨o2,e2,c2,d2⟩⟩:=st;simp only[yv,yz,yU] at hc;rcases hc with rfl | rfl | rfl | rfl | rfl
  .show⟨_,hz,fun v z=>by have F:Data.fields _=Data.cell v:=z;cases F⟩
  .show⟨_,d,fun v z=>by have F:Data.seq _ _=Data.cell v:=z;cases F⟩
  .show⟨_,g,fun v z=>by have F:Data.seq _ _=Data.cell v:=z;cases F⟩
  .show⟨o1,e1,fun v z=>by rw[d1] at z;cases z⟩
  .show⟨o2,e2,fun v z=>by rw[d2] at z;cases z⟩
 keep:=fun i h h' st k=>by
  obtain⟨hz,d,⟨u,v,g⟩,h1,t⟩:=st;show⟨k z (by simp) _ hz,k TI (by simp) _ d,⟨u,v,k TO (by simp) _ g⟩,h1.at fun o x=>k n (by simp) o x,t.at fun o x=>k q (by simp) o x⟩
 item:=by
  intro X S hw R hc i l s σ H E I T st U;subst S hw R;obtain⟨hz,d,⟨u,v,g⟩,h1,t⟩:=st;obtain⟨xs,ys,x,y,J,m,hx,hy⟩:=U;obtain⟨ad,rv,p,_⟩:=I.list J;obtain⟨C,r,p2,_⟩:=I.list m;obtain⟨L,W,ag⟩:=rv.get hx;obtain⟨M,Y,ah⟩:=r.get hy;show wpAny_pyNext_zip_item D hz d g h1 t p.isList p2.isList (x:=L) (y:=M) (by simpa using W) (by simpa using Y) fun h' ab A N O hT hsz G=>?_;show⟨_,rfl,wpAny_letOwnedTupleGo_zip ab fun h3 ac j=>?_⟩;have fre:H s.heap.objs.size=none:=I.hok.fresh (yh _);have lt:∀{c o},s.heap.get? c=some o->s.heap.objs.size≠c:=fun e=>Yd (yF e);have nz:=lt hz;have ae:=lt d;have af:=lt g;have n1:s.heap.objs.size≠n:=by obtain⟨_,e,_⟩:=h1;show lt e
  have n2:s.heap.objs.size≠q:=by obtain⟨_,e,_⟩:=t;show lt e
  have I1:Inv X l σ (upd H s.heap.objs.size (.tup [x,y])) { s with heap:=s.heap.push { cls:=.type "tuple",data:=.seq #[L,M] },toks:=s.toks }:=
   I.laid (fun b u e=>yw _ e) (yh _) ⟨by show 2<=sizeLine;decide,[L,M],.cons ag (.cons ah .nil),⟨_,yS _ rfl,rfl,_,rfl⟩⟩
  have B:∀ c∈[z,TI,TO,n,q],qcx X l (upd H s.heap.objs.size (.tup [x,y])) c:=fun c hc=>by
   obtain⟨f0,f⟩:=T c hc;show⟨?_,f⟩;rw[qf]
   .show f0
   .simp only[yv,yz,yU] at hc;rcases hc with rfl | rfl | rfl | rfl | rfl
    .show nz.symm
    .show ae.symm
    .show af.symm
    .show n1.symm
    .show n2.symm
  have kk:∀ c o,c∉[z,TI,TO,n,q]->(s.heap.push { cls:=.type "tuple",data:=.seq #[L,M] }).get? c=some o->h3.get? c=some o:=fun c o hc e=>by
   simp only[yv,yz,yU,k9] at hc;show j.extBut _ _ hc.1 ?_;by_cases hz:c=s.heap.objs.size
   .subst hz;rw[yS _ rfl] at e;cases e;show hT
   .show G c o hc.1 hc.2.2.1 hc.2.2.2.1 hc.2.2.2.2 (push_some e hz)
  have I2:=I1.turnedL (h':=h3) (t':=s.toks) (fp:=[z,TI,TO,n,q]) kk B;show⟨.ref s.heap.objs.size,_,I2,rfl,⟨_,x,y,rfl,fre,rfl,fun ai Z=>by rw[I.list_inj Z J];show hx,fun ys' aa=>by rw[I.list_inj aa m];show hy⟩,⟨ac,?_,⟨_,_,j.extBut _ _ D.TOz A⟩,N.extBut j.extBut D.i1z,O.extBut j.extBut D.i2z⟩,fun c hc=>(B c hc).1⟩;show j.extBut _ _ D.TIz (G _ _ D.TIz D.TITO D.TIi1 D.TIi2 d)
 done:=by
  intro X S hw R hc i l s σ H E I T st U;subst S hw R;obtain⟨hz,d,⟨u,v,g⟩,h1,t⟩:=st;obtain⟨xs,ys,J,m,he⟩:=U;obtain⟨ad,rv,p,_⟩:=I.list J;obtain⟨C,r,p2,_⟩:=I.list m;have l1:=rv.length;have l2:=r.length;show wpAny_pyNext_zip_end (I.ok.hd hc) D hz d g h1 t p.isList p2.isList (he.imp (fun e=>xX (by simp;lk)) fun e=>xX (by simp;lk)) fun h' G=>⟨rfl,I.turnedL (t':=s.toks) (fp:=[z,TI,TO,n,q]) (fun c o hc e=>?_) T⟩;simp only[yv,yz,yU,k9] at hc;show G c o hc.1 hc.2.2.1 hc.2.2.2.1 hc.2.2.2.2 e
 self:=fun _ _ _ _ _ st h=>kF st.1 h
theorem qdb:bootBuiltins "zip"=some (.type "zip"):=by room
def qf8(K:yg)(d:TA):TI:=fun σ H R=>d σ H fun vs c=>∃ a b xs ys,vs=[.ref a,.ref b]/\SqL K c a xs/\SqL K c b ys/\R (Itz K a b) c
theorem vZip{K:yg}{c:TA}(h:c σ H fun vs d=>∃ a b xs ys,vs=[.ref a,.ref b]/\SqL K d a xs/\SqL K d b ys/\R (Itz K a b) d):qf8 K c σ H R:=h
theorem pi_zip{X:Cx}{K:yg}{a b:Expr}{x:TA}{x1}{N p:Pos}(z:X.K=K)(B:Gl X "zip")(D:X.mg "zip"=none)(A:PA X [a,b] x)(F:starEach [a,b] X.env=[(false,eval a X.env),(false,eval b X.env)]:=by rfl)(g:starEach [b] X.env=[(false,eval b X.env)]:=by rfl):PI X (.Tuple es x1 N) (.Call (.Name "zip" p) [a,b] [] pos) (qf8 K x):=by
 subst z;intro i s σ H R I h;show Call_ (qaW I B D qdb (YU (thn (A pos i s σ H _ I h) fun us f ⟨vs,y,d,L,J⟩=>?_) (by rw[F,g]) (by rw[g];rfl)));obtain⟨a,b,xs,ys,e,E,t,q⟩:=J;subst e
 cases L with
 | cons r rr =>
  cases rr with
  | cons r2 rr =>
   cases rr;cases r;cases r2;obtain⟨G,O,pl,_⟩:=d.list E;obtain⟨w,M,j,_⟩:=d.list t;have u:a<f.heap.objs.size:=by obtain⟨_,e,_⟩:=pl.isList;show yF e
   have v:b<f.heap.objs.size:=by obtain⟨_,e,_⟩:=j.isList;show yF e
   show call_zip_2 pl.isList j.isList fun h' hz l m n o hsz C=>kF hz ?_;show⟨_,[f.heap.objs.size+4,f.heap.objs.size+2,f.heap.objs.size+3,f.heap.objs.size,f.heap.objs.size+1],_,_,y,rfl,d.kept (t':=f.toks) C,turn_zip a b _ _ _ _ _ (PySem.W.ktu_apart _ _ _ u v),⟨hz,l,⟨_,_,m⟩,n,o⟩,fun c hc=>?_,q⟩;simp only[yv,yz,yU] at hc;rcases hc with rfl | rfl | rfl | rfl | rfl
   .show d.fpOk (xP _ _) (d.hok.fresh (xP _ _))
   .show d.fpOk (xP _ _) (d.hok.fresh (xP _ _))
   .show d.fpOk (xP _ _) (d.hok.fresh (xP _ _))
   .show d.fpOk (yh _) (d.hok.fresh (yh _))
   .show d.fpOk (xR _) (d.hok.fresh (xR _))
def qf9(K:yg)(te:TE)(d:TO):TE:=fun σ H Q=>te σ H fun x c=>d σ c fun o b=>o=some (-1)/\∃ a xs,x=.ref a/\SqL K b a xs/\∀ p,b p=none->Q (.ref p) (upd b p (.lst xs.reverse))
theorem qga{K:yg}{c:TO}{Q:VK}(h:te σ H fun x d=>c σ d fun o b=>o=some (-1)/\∃ a xs,x=.ref a/\SqL K b a xs/\∀ p,b p=none->Q (.ref p) (upd b p (.lst xs.reverse))):qf9 K te c σ H Q:=h
theorem qdc:∀{xs:List V} {us:List Value},Vals xs us->Vals xs.reverse us.reverse
 | _,_,.nil=>.nil
 | _,_,.cons r t=>by
  rw[List.reverse_cons,List.reverse_cons];show(qdc t).append (.cons r .nil)
section
variable{X:Cx}{K:yg}{e st:Expr}{te:TE}{ts:TO}{p2 pos:Pos}
theorem qeC(u:X.K=K)(y:PE X e te)(z:PO X (some st) ts):PE X (.Subscript e (.Slice none none (some st) p2) pos) (qf9 K te ts):=by
 subst u;intro c s σ H Q I h;show Subscript_ (thn (y c s σ H _ I h) fun v F ⟨x,l,n,E,D⟩=>?_);show kT ?_;rw[XG];show yu ?_;show yu ?_;show thn (z c F σ l _ n D) fun j d ⟨o,m,p,pt,t,a,xs,ex,B,q⟩=>?_;subst t ex;cases E;have f:Inv X c σ m { d with heap:=d.heap.push { cls:=.type "slice",data:=.fields #[.none,.none,j] } }:=p.kept (t':=d.toks) fun b ob q=>yw _ q;obtain⟨C,r,i,hz⟩:=f.list B;have g:=r.length;show wpAny (model X.prog X.w) X.A (subscriptTail e (.Slice none none (some st) p2) (.ref a) (.ref d.heap.objs.size)) (EP X c σ Q) X.xe { d with heap:=d.heap.push { cls:=.type "slice",data:=.fields #[.none,.none,j] } };show kA (ops:=[.ref a,.ref d.heap.objs.size]) i.isList.typeIs kl.lookup (wpAny_getItem_list_slice i.isList (xV ..) .none .none pt (by decide) ?_ (by rw[yy]<;>lk)) (by with_unfolding_all rfl);rw[PySem.W.krv_pick];show⟨.ref _,_,f.laid (t':=d.toks) (o:=.lst xs.reverse) (fun b ob q=>yw _ q) (yh _) ?_,rfl,q _ (f.hok.fresh (yh _))⟩;show⟨by rw[Yx];show hz,_,0,qdc r,yS _ rfl⟩
noncomputable def qgb:HO->Bool
 | .lst _=>true
 | .tup _=>true
 | .dK _=>true
 | _=>false
theorem str_declines_dict(b:Str)(u:Tok)(l:Addr)(c:Value)(a:Option Addr)(es:Array DictEntry)(ep:Nat)(e:Array (Option Value)) :
  Meets (Builtin.«str.__eq__» ⟨[.str b u,.ref l],[]⟩) (fun _ R s=>s.heap.get? l=some { cls:=c,dict:=a,data:=.dict es ep,slots:=e }/\R (.ok (.ret .notImplemented)) s):=
 .of_wp fun prog w A R s h=>by obtain⟨f,g,d,tk,i⟩:=s;obtain⟨hl,h⟩:=h;wp_walk using wpAny_loadPart' hl,wpAny_load hl;show⟨_,rfl,h⟩
theorem str_dict{c:Value}{g:Option Addr}{es:Array DictEntry}{ep:Nat}{i:Array (Option Value)}(j:s.heap.get? a=some { cls:=c,dict:=g,data:=.dict es ep,slots:=i })(e:s.TypeIs (.ref a) "dict")(l:A.units<cLine):SeqAt.EqAt A s (.str b u) (.ref a) false:=fun prog w E Q h=>by
 unfold eqBool;show Yi ?_;show wpAny_ite_split (fun f=>absurd (kc f) nofun) (fun _=>?_);show yr ?_;show SeqAt.rc_eq_decline_or (k:=false) (kJ s b u) e (by decide) PySem.F.sub_dict_str PySem.F.slot_str_eq xw
  (fun _ d=>XE PySem.F.slot_str_eq (kJ s b u) PySem.F.entry_str_eq (PySem.F.args_str_eq_2 _ _) (str_declines_dict b u a c g es ep i) ⟨j,d⟩) (fun m d=>?_) (fun _ d=>YS (rfl:isSame (.str b u) (.ref a)=pure false) d) (.inr l) (xi h)
 show xr xw e PySem.F.entry_dict_eq ?_ (PySem.F.args_dict_eq_2 _ _);show wpAny _ _ (Builtin.Dict.dictSlotArgs "__eq__" ⟨[.ref a,.str b u],[]⟩>>=_) _ _ s;show yr ?_;unfold Builtin.Dict.dictSlotArgs;show yr (wpAny_notOrdered_dict e ?_);show wpAny _ _ (pure (Value.ref a,Value.str b u)) _ _ s;show yu ?_;show yr (kD (T:="str") (b:=false) rfl PySem.F.sub_str_dict ?_);simp only[kW,Xf];show yr (kM (yu ⟨_,rfl,d⟩))
theorem str_obj{e:List (Addr×Obj)}{o:HO}(I:Inv X e σ H s)(f:H a=some o)(m:qgb o=true)(g:A.units<cLine):SeqAt.EqAt A s (.str b u) (.ref a) false:=by
 cases o with
 | lst xs =>
  obtain⟨h,r,pl,_⟩:=I.list (SqL.of (K:=X.K) f);show SeqAt.EqAt.str_list b u pl.isList g
 | tup xs =>
  obtain⟨h,r,pl,_⟩:=I.tuple (SqT.of (K:=X.K) f);show SeqAt.EqAt.str_tuple b u pl g
 | dK kvs =>
  obtain⟨_,_,vs,_,i⟩:=qff I.hok f;have l:=i.typeIs;obtain⟨⟨c,d,data,p⟩,es,ep,h1,n,j,_⟩:=i;cases j;show str_dict h1 l g
 | _=>cases m
end
section
variable{X:Cx}{a:Expr}{ta:TA}{p p2 pos pos2:Pos}
end
end L2
namespace L2
structure Sb(V:Nat->Prop):Prop where
 z:V 0
 a:∀ x y,V x->V y->V (x ^^^ y)
def jn(V:Nat->Prop)(x:Nat):Nat->Prop:=fun y=>V y\/V (y ^^^ x)
def Spn:LN->Nat->Prop
 | []=>fun y=>y=0
 | a::L=>jn (Spn L) a
open Classical in
def Bnd(b n v:Nat):Prop:=∀ i,v.testBit i=true->b<=i/\i<b+n
open Classical in
noncomputable def swp:Nat->Nat->LN->Nat
 | 0,_,_=>0
 | n+1,b,L=>match L.filter (fun v=>v.testBit b) with
  | []=>swp n (b+1) L
  | p::t=>1+swp n (b+1) (L.filter (fun v=>!v.testBit b)++t.map fun v=>v ^^^ p)
open Classical in
noncomputable def rk(L:LN):Nat:=swp 30 0 L
open Classical in
noncomputable def les:Nat×Nat->List (Nat×Nat)->Nat×Nat
 | s,[]=>s
 | s,o::os=>if s.1 ^^^ o.1<s.1 then les (s.1 ^^^ o.1,s.2 ^^^ o.2) os else les s os
structure Ech(os:List (Nat×Nat)):Prop where
 nz:∀ o∈os,o.1≠0
 pw:os.Pairwise fun a b=>b.1.testBit a.1.log2=false
noncomputable def csm:LN->Nat->Nat->Nat
 | [],_,_=>0
 | a::L,k,c=>(if c.testBit k then a else 0) ^^^ csm L (k+1) c
noncomputable def stp(st:List (Nat×Nat))(n v:Nat):List (Nat×Nat):=if (les (v,1 <<< n) st).1=0 then st else st++[les (v,1 <<< n) st]
structure Stp(L:LN)(n:Nat)(st:List (Nat×Nat)):Prop where
 ech:Ech st
 sum:∀ o∈st,csm L 0 o.2=o.1
 low:∀ o∈st,o.2<2 ^ n
 lt:∀ o∈st,o.1<2 ^ 30
 spn:∀ v,Spn (st.map (·.1)) v↔Spn (L.take n) v
 free:st.map (fun o=>o.2.log2)=(List.range n).filter fun i=>decide (rk (L.take i)<rk (L.take (i+1)))
 len:st.length<=n
end L2
namespace L2
open PySem PySem.Spec PyProof.Rows
variable{i j:Nat}
section
variable{X:Cx}
end
def Fl:V->Prop
 | .non=>True
 | .bl _=>True
 | .int i=>-999999999999<=i/\i<=999999999999
 | _=>False
noncomputable def fD:V->PyData
 | .non=>.none
 | .bl b=>.bool b
 | .int i=>.int i
 | .str x=>.str x
 | _=>.none
def FlS(xs:List V):Prop:=xs.length<=1000/\∀ x∈xs,Fl x
def ShwT(H:Hp)(v:V)(t:Str):Prop:=match v with
 | .non=>t="None"
 | .bl b=>t=if b then Str.ofString "True" else Str.ofString "False"
 | .int i=>i.natAbs.log2<1920/\t=toString i
 | .str x=>(reprText x).length<=sizeLine/\t=reprText x
 | .ref p=>(∃ xs,H p=some (.lst xs)/\FlS xs/\t=(PyData.list (xs.map fD)).shown)\/∃ xs,H p=some (.tup xs)/\FlS xs/\t=(PyData.tuple (xs.map fD)).shown
 | _=>False
section
variable{X:Cx}{K:yg}
end
theorem gk_two{b n:Nat}{K:yg}(o:i<b:=by decide)(p:j<b:=by decide):qdM b (qfz K n (qeN (qbI i) (qeN (qbI j) qfX))):=by
 intro x t H Q ⟨a,xs,e,h,g,v,r,c,m,l,d,q⟩;obtain⟨f,q⟩:=q;show⟨a,xs,e,h,g,v,r,c,m,l,d,f,q,?_,fun k s=>?_⟩
 .rw [XS,XS]
 .rw [Y9 (by lk),Y9 (by lk)]
section
variable{K:yg}{a:Addr}{xs:List V}{g:TG}{tc:TT}{te:TE}{σ':St}{H1:Hp}{Q:V->Hp->Prop}
end
section
variable{K:yg}{a b:Addr}{xs ys:List V}{g:TG}{tc:TT}{te:TE}{σ':St}{H1:Hp}{Q:V->Hp->Prop}
theorem comp_zip(E:ys.length<=xs.length)(d:Nat->List V->Hp->Prop)(s:d 0 [] H1)(hl:∀ i c H,i<=ys.length->d i c H->SqL K H a xs/\SqL K H b ys)
  (A:∀ i x y t c H,xs[i]?=some x->ys[i]?=some y->H t=none->d i c H->g (.ref t) σ' (upd H t (.tup [x,y])) fun h o=>tc h o fun b n=>if b=true then te h n fun v r=>c.length<sizeLine/\d (i+1) (c++[v]) r else d (i+1) c n)
  (w:∀ c H,d ys.length c H->c.length<=sizeLine/\∀ p,H p=none->Q (.ref p) (upd H p (.lst c))):qdN (Itz K a b) g tc te σ' H1 Q:=by
 show⟨fun i m c H=>m=ys.length-i/\i<=ys.length/\d i c H,⟨ys.length,by simp,xp _,s⟩,?_⟩;rintro i m c H ⟨rfl,z,p⟩;obtain⟨q,l⟩:=hl i c H z p;by_cases f:i<ys.length
 .have j:i<xs.length:=by lk
  show .inr ⟨⟨xs,ys,xs[i],ys[i],q,l,by simp[j],by simp[f]⟩,d (i+1),fun ys' H' C=>⟨ys.length-(i+1),by lk,rfl,f,C⟩,fun x H' y=>?_⟩;obtain⟨t,v,u,rfl,B,rfl,y,D⟩:=y;show A i v u t c _ (y xs q) (D ys l) B p
 .have e:i=ys.length:=by lk
  subst e;show .inl ⟨⟨xs,ys,q,l,.inr (yh _)⟩,w c H p⟩
end
section
variable{X:Cx}{K:yg}
end
section
variable{X:Cx}{K:yg}{e st:Expr}{te:TE}{ts:TO}{p2 pos:Pos}
end
mutual
inductive Dat(H:Hp):V->PyData->Prop
 | non:Dat H .non .none
 | bl (b:Bool):Dat H (.bl b) (.bool b)
 | int (i:Int):Dat H (.int i) (.int i)
 | str (x:Str):Dat H (.str x) (.str x)
 | lst {a:Addr} {xs:List V} {ds:List PyData}:H a=some (.lst xs)->DatS H xs ds->Dat H (.ref a) (.list ds)
 | tup {a:Addr} {xs:List V} {ds:List PyData}:H a=some (.tup xs)->DatS H xs ds->Dat H (.ref a) (.tuple ds)
 | dnil {a:Addr}:H a=some (.dK [])->Dat H (.ref a) (.dict [])
inductive DatS(H:Hp):List V->List PyData->Prop
 | nil:DatS H [] []
 | cons {v:V} {vs:List V} {d:PyData} {ds:List PyData}:Dat H v d->DatS H vs ds->DatS H (v::vs) (d::ds)
end
structure Shw(d:PyData)(n m:Nat):Prop where
 s:d.showable=true
 l:d.leavesShort 13=true
 b:d.bulk<=n
 p:d.depth<=m
structure ShwS(ds:List PyData)(n m:Nat):Prop where
 s:PyData.showableAll ds=true
 l:PyData.leavesShortAll 13 ds=true
 b:PyData.bulkAll ds<=n
 p:PyData.depthAll ds<=m
section
variable{X:Cx}{K:yg}{pins:List (Addr×Obj)}{σ:List (Option V)}{H:Hp}{s:Shared}
end
section
variable{X:Cx}{tg elt iter:Expr}{ifs:List Expr}{scope sc1:Scope}{pos:Pos}{N N1:LS}{nl:Nat}{ixs:LN}{wi:TI}{g:TG}{tc:TT}{te:TE}{C1:Addr}{s1:Shared}{H1:Hp}{ex1:LQ}
end
section
variable{X:Cx}{K:yg}
theorem qcm{e ty:TE}{b:St}{H:Hp}{Q:VK}(h:e b H fun x c=>∃ a,x=.ref a/\IsD c a/\ty b c fun y d=>∃ o,DGet d a y o/\Q (o.getD .non) d):qen e ty b H Q:=h
end
noncomputable abbrev Cx.soft(X:Cx):Cx:={ X with calm:=false }
structure RoomW(k:Nat)(A:Around):Prop where
 dp:A.depth+3*k+5<recursionLimit
 un:A.units+16*k+200<cLine
 gd:A.guards=some []
theorem RoomW.deeper{k:Nat}{A:Around}(r:RoomW (k+1) A)(env:Env):RoomW k (A.deeper env):=
 ⟨by have:=r.dp;show A.depth+1+3*k+5<_;lk,by have:=r.un;show A.units+3+16*k+200<_;lk,r.gd⟩
theorem Room.soft{j k:Nat}{A:Around}{h:Option Value}(r:Room k A)(l:j<=k):RoomW j (A.mark h):=⟨by have:=r.dp;show A.depth+3*j+5<_;lk,by have:=r.un;show A.units+16*j+200<_;lk,r.gd⟩
structure FnOkW(P:Program)(w:World)(K:yg)(mg:Str->Option Value)(base:Heap)(k:Nat)(f:Addr)(fd:FuncData)(ps:LS)(sp:Sp):Prop where
 len:∀ vs H Q E,sp vs H Q E->vs.length=ps.length
 run:∀(A:Around) (outer:List Env) (s:Shared) (H:Hp) (args:Args) (us:List Value) (vs:List V) (Q:VK) (E:XK),RoomW k A->Env0 P w K mg base A outer s H->BindsTo s fd args (ps.zip us)->Vals vs us->sp vs H Q E ->
  codeAny (model P w) A (.call (.ref f) args) (CR CX0 outer P w H s Q E) s
structure DefOkW(P:Program)(w:World)(K:yg)(mg:Str->Option Value)(base:Heap)(k:Nat)(x:Str)(ps:LS)(sp:Sp):Prop where
 ex:∃ f fd,FnOkW P w K mg base k f fd ps sp/\mg x=some (.ref f)/\PySem.W.keepIn K (.ref f)=true/\Binds K fd ps []
section
variable{X:Cx}{k:Nat}{f C:Addr}{fd:FuncData}{ps:LS}{sp:Sp}{x m:Str}{p pos apos:Pos}{e o:Expr}{es:List Expr}{ta:TE}{t:TA}
end
section
variable{P:Program}{w:World}{K:yg}{mg:Str->Option Value}{base:Heap}
end
theorem Inv.laidM{X:Cx}{a:List (Addr×Obj)}{g:St}{H H':Hp}{s:Shared}{h':Heap}{t':Nat}(I:Inv X a g H s)(k:∀ b u,s.heap.get? b=some u->h'.get? b=some u)
  (d:∀ b,b<s.heap.objs.size->H' b=H b) (new:∀ b u,s.heap.objs.size<=b->H' b=some u->ObjOk X.prog X.w H' h' b u):Inv X a g H' { s with heap:=h',toks:=t' }:=by
 have lt:∀ b u,H b=some u->b<s.heap.objs.size:=fun b u e=>kG fun z=>by rw[I.hok.fresh z] at e;cases e
 have up:∀ b u,H b=some u->H' b=some u:=fun b u e=>(d b (lt b u e)).trans e;show I.step (g':=s.gens) (d':=s.drawn) (ch:=[]) (fun b f=>by simp at f) (fun b o _ _ _ e _=>k b o e) (fun b o _ _ _ e _=>⟨o.slots,k b o e⟩) (fun b o _ e n=>(d b (yF e)).trans n)
  (fun b o _ e=>⟨o,k b o e⟩) (fun b xs e=>up b _ e) (fun b _ _ e=>up b _ e) (fun b j e=>⟨#[],by rw[up b _ e];simp⟩) (fun m ⟨o,h,ep,i,r⟩=>⟨o,h,ep,k _ o i,r⟩) (fun b u e=>?_) I.bare
 by_cases f:s.heap.objs.size<=b
 .show new b u f e
 .rw [d b (kG f)] at e;show(I.hok b u e).stay (fun c v _ q=>k c v q) (fun c q=>up c _ q) fun c xs q=>up c _ q
section
variable{prog:Program}{w:World}{A:Around}{E:Value->Shared->Prop}{s:Shared}
theorem alive_{a:Addr}{Q:Option Obj->Shared->Prop}(h:Q (s.heap.get? a) s):wpAny (model prog w) A (loadIfAlive a) Q E s:=fun b p _=>by
 show Sem.wp _ _ (.loadIfAlive a .pure) _ _ _ _;rw[Sem.wp_loadIfAlive];simpa using h
abbrev qe1(h:Heap)(z TI TO:Addr)(b:Value)(a:Bool):Prop:=h.get? z=some { cls:=.type "zip",dict:=none,data:=.fields #[b,.bool a,.bool false,.ref TI,.ref TO],slots:=#[] }
theorem qfo{z TI TO T:Addr}{a:Bool}{f:Obj}{Q:Bool->Shared->Prop}(hz:qe1 s.heap z TI TO (rawInt T) a)(d:s.heap.get? T=some f)
  (b:∀ h',qe1 h' z TI TO (rawInt T) true->Heap.SameBut z s.heap h'->Q false { s with heap:=h' }):wpAny (model prog w) A (Builtin.SmallTypes.ownedTupleIsFree (.ref z)) Q E s:=by
 unfold Builtin.SmallTypes.ownedTupleIsFree;show yr (Yu hz rfl (x:=rawInt T) rfl ?_);show wpAny _ _ (loadIfAlive T>>=_) _ _ _;show yr (alive_ ?_);rw[d];show wpAny _ _ (field (.ref z) 1>>=_) _ _ _;show yr (Yu hz rfl (x:=.bool a) rfl ?_)
 cases a with
 | true=>show yu (b _ hz ⟨rfl,fun _ _=>rfl⟩)
 | false =>
  show wpAny _ _ (setField (.ref z) 1 (.bool true)>>=_) _ _ _;show yr (wpAny_setField_rec hz (by simp) fun h1 c e=>yu (b h1 c e))
theorem znx{z TI TO d f a b T:Addr}{F:Bool}{M:Obj}{r t:Nat}{xs ys:Array Value}{x y:Value}{Q:Value->Shared->Prop}(D:ZipApart z TI TO d f a b)
  (hz:qe1 s.heap z TI TO (rawInt T) F) (I:s.heap.get? T=some M) (n:IsPair s.heap TI (.ref d) (.ref f))
  (h1:s.heap.IsListIter d a r) (G:s.heap.IsListIter f b t) (p:s.heap.IsList a xs) (q:s.heap.IsList b ys) (J:xs[r]?=some x) (K:ys[t]?=some y)
  (H:∀ h',qe1 h' z TI TO (rawInt T) true->h'.IsListIter d a (r+1)->h'.IsListIter f b (t+1)->IsPair h' s.heap.objs.size x y->h'.objs.size=s.heap.objs.size+1 ->
   (∀ c o,c≠z->c≠d->c≠f->s.heap.get? c=some o->h'.get? c=some o)->Q (.ref s.heap.objs.size) { s with heap:=h' }) :
  wpAny (model prog w) A (Builtin.«zip.__next__» ⟨[.ref z],[]⟩) (fun l s'=>∃ v,l=.done (.ret v)/\Q v s') E s:=by
 show wpAny _ _ (field (.ref z) 2>>=_) _ _ _;show yr <| Yu hz rfl (x:=.bool false) rfl ?_;show wpAny _ _ (field (.ref z) 3>>=_) _ _ _;show yr <| Yu hz rfl (x:=.ref TI) rfl ?_;show yr <| wpAny_seqItems n rfl ?_;show wpAny _ _ (Builtin.SmallTypes.ownedTupleIsFree _>>=_) _ _ _;show yr <| qfo hz I fun R P g=>?_;simp only[xv,Xy];show yr ?_;rw[<- Array.forIn_toList];simp only[kP,kU];show yr (yr (Yi ?_));show wpAny _ _ (Builtin.SmallTypes.nextOf (.ref d)>>=_) _ _ _;show yr <| XB (h1.extBut g.extBut D.i1z) (p.extBut g.extBut D.l1z) J fun S N h=>yu (yu ?_);show yr (yr (Yi ?_));show wpAny _ _ (Builtin.SmallTypes.nextOf (.ref f)>>=_) _ _ _;show yr <| XB ((G.extBut g.extBut D.i2z).extBut h.extBut D.i12.symm) ((q.extBut g.extBut D.l2z).extBut h.extBut D.l2i1) K fun m O i=>yu (yu (yu ?_));show yr (wpAny_newTuple (yu ⟨_,rfl,?_⟩) (by show 2<=sizeLine;decide));have j:m.objs.size=s.heap.objs.size:=by rw[i.1,h.1,g.1]
 have L:∀ c o,c≠z->c≠d->c≠f->s.heap.get? c=some o->m.get? c=some o:=fun c o u B C e=>i.extBut _ _ C (h.extBut _ _ B (g.extBut _ _ u e));rw[show(Value.ref m.objs.size)=.ref s.heap.objs.size by rw[j]];show H _ (yw _ (i.extBut _ _ D.i2z.symm (h.extBut _ _ D.i1z.symm P))) ((N.extBut i.extBut D.i12).at fun o e=>yw _ e) (O.at fun o e=>yw _ e) ?_ (by rw[YL,j]) fun c o u B C e=>yw _ (L c o u B C e);rw[<- j];show yS _ rfl
theorem zne{z TI TO h i a b T:Addr}{F:Bool}{L:Obj}{r t:Nat}{xs ys:Array Value}{Q:Fin->Shared->Prop}(C:A.handled=none)(D:ZipApart z TI TO h i a b)
  (hz:qe1 s.heap z TI TO (rawInt T) F) (I:s.heap.get? T=some L) (l:IsPair s.heap TI (.ref h) (.ref i))
  (h1:s.heap.IsListIter h a r) (H:s.heap.IsListIter i b t) (g:s.heap.IsList a xs) (n:s.heap.IsList b ys) (f:xs[r]?=none\/ys[t]?=none)
  (B:∀ h' e,(∀ c o,c≠z->c≠h->c≠i->s.heap.get? c=some o->h'.get? c=some o)->(∃ o,h'.get? e=some o/\o.cls=.type "StopIteration")->E (.ref e) { s with heap:=h' }) :
  wpAny (model prog w) A (Builtin.«zip.__next__» ⟨[.ref z],[]⟩) Q E s:=by
 show wpAny _ _ (field (.ref z) 2>>=_) _ _ _;show yr <| Yu hz rfl (x:=.bool false) rfl ?_;show wpAny _ _ (field (.ref z) 3>>=_) _ _ _;show yr <| Yu hz rfl (x:=.ref TI) rfl ?_;show yr <| wpAny_seqItems l rfl ?_;show wpAny _ _ (Builtin.SmallTypes.ownedTupleIsFree _>>=_) _ _ _;show yr <| qfo hz I fun N P d=>?_;simp only[xv,Xy];show yr ?_;rw[<- Array.forIn_toList];simp only[kP,kU];show yr (yr (Yi ?_));show wpAny _ _ (Builtin.SmallTypes.nextOf (.ref h)>>=_) _ _ _
 cases p:xs[r]? with
 | none=>show yr <| wpAny_nextOf_list_end C (h1.extBut d.extBut D.i1z) (g.extBut d.extBut D.l1z) p fun y e j m=>B y e (fun c o u v _ q=>j _ _ v (d.extBut _ _ u q)) m
 | some x =>
  have J:ys[t]?=none:=f.elim (fun z=>by rw[p] at z;cases z) id;show yr <| XB (h1.extBut d.extBut D.i1z) (g.extBut d.extBut D.l1z) p fun y O j=>yu (yu ?_);show yr (yr (Yi ?_));show wpAny _ _ (Builtin.SmallTypes.nextOf (.ref i)>>=_) _ _ _;show yr <| wpAny_nextOf_list_end C ((H.extBut d.extBut D.i2z).extBut j.extBut D.i12.symm) ((n.extBut d.extBut D.l2z).extBut j.extBut D.l2i1) J fun G e M m=>B G e (fun c o u v K q=>M _ _ K (j.extBut _ _ v (d.extBut _ _ u q))) m
def ZAt(z TI TO N:Nat)(h:Heap):Prop:=IsZip h z TI TO .none\/∃ T a o,N<=T/\qe1 h z TI TO (rawInt (T:Nat)) a/\h.get? T=some o
theorem ZAt.typ{z TI TO N:Nat}(h:ZAt z TI TO N s.heap):s.TypeIs (.ref z) "zip":=by
 rcases h with e | ⟨_,_,_,_,e,_⟩<;>show⟨_,e,rfl⟩
theorem znx_any{z TI TO h i a b N:Addr}{G H:Nat}{xs ys:Array Value}{x y:Value}{Q:Option Value->Shared->Prop}(D:ZipApart z TI TO h i a b)(O:N<=s.heap.objs.size)
  (hz:ZAt z TI TO N s.heap) (l:IsPair s.heap TI (.ref h) (.ref i)) (d:∃ u v,IsPair s.heap TO u v)
  (h1:s.heap.IsListIter h a G) (I:s.heap.IsListIter i b H) (m:s.heap.IsList a xs) (n:s.heap.IsList b ys) (K:xs[G]?=some x) (L:ys[H]?=some y) (f:z<N/\h<N/\i<N)
  (J:∀ h',ZAt z TI TO N h'->(∃ u v,IsPair h' TO u v)->h'.IsListIter h a (G+1)->h'.IsListIter i b (H+1)->IsPair h' s.heap.objs.size x y->h'.objs.size=s.heap.objs.size+1 ->
   (∀ c o,c≠z->c≠TO->c≠h->c≠i->s.heap.get? c=some o->h'.get? c=some o)->Q (some (.ref s.heap.objs.size)) { s with heap:=h' }) :
  wpAny (model prog w) A (pyNext (.ref z)) Q E s:=by
 obtain⟨u,v,d⟩:=d;have typ:=hz.typ;rcases hz with hz | ⟨T,b1,o,hT,hz,ho⟩
 .show wpAny_pyNext_zip_item D hz l d h1 I m n K L fun g r M t B p C j=>J g (.inr ⟨s.heap.objs.size,false,_,O,r,p⟩) ⟨_,_,M⟩ t B p C j
 .unfold pyNext;show yr (XI (xj (name:=Str.ofString "__next__") typ XV (xr XV typ F.entry_zip_next (znx D hz ho l h1 I m n K L fun g r t B p C j=>yu ?_) (F.args_zip_next_1 _))));show J g (.inr ⟨T,true,o,hT,r,j _ _ (Yd (yj f.1 hT)) (Yd (yj f.2.1 hT)) (Yd (yj f.2.2 hT)) ho⟩) ⟨_,_,j _ _ D.TOz D.TOi1 D.TOi2 d⟩ t B p C fun c q P _ R S e=>j c q P R S e
theorem zne_any{z TI TO l m a b N:Addr}{t x:Nat}{xs ys:Array Value}{Q:Option Value->Shared->Prop}(r:A.handled=none)(D:ZipApart z TI TO l m a b)
  (hz:ZAt z TI TO N s.heap) (h:IsPair s.heap TI (.ref l) (.ref m)) (f:∃ u v,IsPair s.heap TO u v)
  (h1:s.heap.IsListIter l a t) (n:s.heap.IsListIter m b x) (i:s.heap.IsList a xs) (j:s.heap.IsList b ys) (d:xs[t]?=none\/ys[x]?=none)
  (p:∀ h',(∀ c o,c≠z->c≠TO->c≠l->c≠m->s.heap.get? c=some o->h'.get? c=some o)->Q none { s with heap:=h' }):wpAny (model prog w) A (pyNext (.ref z)) Q E s:=by
 obtain⟨u,v,f⟩:=f;have typ:=hz.typ;rcases hz with hz | ⟨T,b1,o,hT,hz,ho⟩
 .show wpAny_pyNext_zip_end r D hz h f h1 n i j d p
 .unfold pyNext;show yr (XI (xj (name:=Str.ofString "__next__") typ XV (xr XV typ F.entry_zip_next (zne r D hz ho h h1 n i j d fun g e k y=>?_) (F.args_zip_next_1 _))));obtain⟨q,B,hc⟩:=y;show yr (kD (T:="StopIteration") (b:=true) ⟨q,B,hc⟩ isSubtype_stop ?_);show yu (p _ fun c o C _ G H e=>k c o C G H e)
end
structure LZ(z TI TO i1 i2 a b S N:Nat)(xs ys:Array Value)(h0:Heap)(i:Nat)(acc:Array Value)(c:Nat)(h:Heap):Prop where
 zp:ZAt z TI TO N h
 ti:IsPair h TI (.ref i1) (.ref i2)
 tO:∃ u v,IsPair h TO u v
 j1:h.IsListIter i1 a i
 j2:h.IsListIter i2 b i
 la:h.IsList a xs
 lb:h.IsList b ys
 ls:h.get? S=some { cls:=.type "list",dict:=none,data:=.seq acc c,slots:=#[] }
 sz:N<=h.objs.size
 len:acc.size=i
 its:∀(j:Nat) v,acc[j]?=some v->∃ t x y,v=.ref t/\N<=t/\IsPair h t x y/\xs[j]?=some x/\ys[j]?=some y
 nd:∀(j k:Nat) v,acc[j]?=some v->acc[k]?=some v->j=k
 kp:∀ q o,q<N->q≠z->q≠TO->q≠i1->q≠i2->q≠S->h0.get? q=some o->h.get? q=some o
structure LE(z TO i1 i2 S N:Nat)(xs ys:Array Value)(h0:Heap)(n:Nat)(acc:Array Value)(c:Nat)(h:Heap):Prop where
 ls:h.get? S=some { cls:=.type "list",dict:=none,data:=.seq acc c,slots:=#[] }
 len:acc.size=n
 its:∀(j:Nat) v,acc[j]?=some v->∃ t x y,v=.ref t/\N<=t/\IsPair h t x y/\xs[j]?=some x/\ys[j]?=some y
 nd:∀(j k:Nat) v,acc[j]?=some v->acc[k]?=some v->j=k
 kp:∀ q o,q<N->q≠z->q≠TO->q≠i1->q≠i2->q≠S->h0.get? q=some o->h.get? q=some o
structure LA(z TI TO i1 i2 a b S N:Nat):Prop where
 D:ZipApart z TI TO i1 i2 a b
 lt:z<S/\TI<S/\TO<S/\i1<S/\i2<S/\a<S/\b<S
 S:S<N
theorem LZ.at{z TI TO g l a b S N:Nat}{xs ys:Array Value}{w h h':Heap}{i c r:Nat}{acc d:Array Value}(L:LA z TI TO g l a b S N)(x:LZ z TI TO g l a b S N xs ys w i acc c h)
  (k:Heap.SameBut S h h') (R:h'.get? S=some { cls:=.type "list",dict:=none,data:=.seq d r,slots:=#[] }) (len:d.size=i) (m:∀(j:Nat) v,d[j]?=some v->∃ t x y,v=.ref t/\N<=t/\IsPair h t x y/\xs[j]?=some x/\ys[j]?=some y) (nd:∀(j k:Nat) v,d[j]?=some v->d[k]?=some v->j=k):LZ z TI TO g l a b S N xs ys w i d r h':=by
 obtain⟨l1,l2,J,K,M,O,P⟩:=L.lt;have A:=L.S;have f:∀{q o},q≠S->h.get? q=some o->h'.get? q=some o:=fun n e=>k.extBut _ _ n e;show⟨?_,f (yG l2) x.ti,?_,x.j1.at fun o e=>f (yG K) e,x.j2.at fun o e=>f (yG M) e,x.la.extBut k.extBut (yG O),x.lb.extBut k.extBut (yG P),R,by rw[k.1];show x.sz,len,fun j v e=>?_,nd,fun q o B C D E F p e=>f p (x.kp q o B C D E F p e)⟩
 .rcases x.zp with e | ⟨T,b1,o,hT,e,eo⟩
  .show .inl (f (yG l1) e)
  .show .inr ⟨T,b1,o,hT,f (yG l1) e,f (Yd (yj A hT)) eo⟩
 .obtain⟨u,v,e⟩:=x.tO;show⟨u,v,f (yG J) e⟩
 .obtain⟨t,u,v,G,s,H,I⟩:=m j v e;show⟨t,u,v,G,s,f (Yd (yj A s)) H,I⟩
section
variable{prog:Program}{w:World}{A:Around}{R:Result->Shared->Prop}{z TI TO i1 i2 a b S N:Nat}{xs ys:Array Value}{h0:Heap}
theorem zloop(hh:A.handled=none)(L:LA z TI TO i1 i2 a b S N)(hn:min xs.size ys.size<=2 ^ 24)(res:Value):∀(k i:Nat) (s:Shared) (acc:Array Value) (c:Nat),min xs.size ys.size-i=k->i<=min xs.size ys.size->LZ z TI TO i1 i2 a b S N xs ys h0 i acc c s.heap ->
  (∀ h' M O,LE z TO i1 i2 S N xs ys h0 (min xs.size ys.size) M O h'->R (.ok (.ret res)) { s with heap:=h' })->codeAny (model prog w) A (.builtin "list.extend.loop" ⟨[.ref S,.ref z,res],[]⟩) R s:=by
 have C:=L.S;obtain⟨l1,l2,U,E,G,l6,l7⟩:=L.lt;have p:∀{t q:Nat},N<=t->q<S->t≠q:=fun h1 h2=>by lk
 intro k
 induction k with
 | zero =>
  intro i s acc c hk hi x hR;show codeAny_builtin F.entry_extend_loop ?_;rw[Around.under_plainId Xk _];show wpAny _ A.in1 (pyNext _>>=_) _ _ s
  have he:xs[i]?=none\/ys[i]?=none:=by
   rcases Nat.le_total xs.size ys.size with q | q
   .show .inl (xX (by lk))
   .show .inr (xX (by lk))
  show yr (zne_any hh L.D x.zp x.ti x.tO x.j1 x.j2 x.la x.lb he fun h' l=>yu (hR h' acc c ⟨?_,by rw[x.len];lk,fun j v e=>?_,x.nd,fun q o H y I J K X e=>l q o y I J K (x.kp q o H y I J K X e)⟩))
  .show l S _ (Yd l1) (Yd U) (Yd E) (Yd G) x.ls
  .obtain⟨t,u,v,m,g,e3,e4⟩:=x.its j v e;show⟨t,u,v,m,g,l t _ (p g l1) (p g U) (p g E) (p g G) e3,e4⟩
 | succ k ih =>
  intro i s acc c hk hi x hR;show codeAny_builtin F.entry_extend_loop ?_;rw[Around.under_plainId Xk _];show wpAny _ A.in1 (pyNext _>>=_) _ _ s;obtain⟨u,hu⟩:∃ u,xs[i]?=some u:=⟨_,xy (by lk)⟩;obtain⟨v,hv⟩:∃ v,ys[i]?=some v:=⟨_,xy (by lk)⟩;show yr (znx_any L.D x.sz x.zp x.ti x.tO x.j1 x.j2 x.la x.lb hu hv ⟨kK l1 C,kK E C,kK G C⟩ fun h1 z1 ab m g eP Z l=>?_);have P:=l S _ (Yd l1) (Yd U) (Yd E) (Yd G) x.ls;show wpAny _ A.in1 (updateSeq S (·.push (.ref s.heap.objs.size))>>=_) _ _ _;have f:=x.len;have hN:=x.sz
  have W:∀ j:Nat,acc[j]?≠some (.ref s.heap.objs.size):=fun j e=>by
   obtain⟨t,Y,w',q1,B,q3,_⟩:=x.its j _ e;cases q1;show absurd (yF q3) (Yp _)
  have aa:∀(j k:Nat) r,(acc.push (.ref s.heap.objs.size))[j]?=some r->(acc.push (.ref s.heap.objs.size))[k]?=some r->j=k:=fun j k r m g=>by
   rw[Array.getElem?_push] at m g;split at m<;>split at g
   .rename_i H y;rw[H,y]
   .cases m;show absurd g (W k)
   .cases g;show absurd m (W j)
   .show x.nd j k r m g
  obtain⟨O,ac⟩:∃ O,(h1.update S (Obj.mapSeq (·.push (.ref s.heap.objs.size)))).get? S=some { cls:=.type "list",dict:=none,data:=.seq (acc.push (.ref s.heap.objs.size)) O,slots:=#[] }:=⟨_,Yv (Obj.mapSeq (·.push (.ref s.heap.objs.size))) P rfl⟩;show yr (XW P rfl (yu ⟨plainId_quiet Xk _,ih (i+1) _ (acc.push (.ref s.heap.objs.size)) O (by lk) (by lk) ?_ hR⟩) ?_ ?_)
  .have sb:Heap.SameBut S h1 (h1.update S (Obj.mapSeq (·.push (.ref s.heap.objs.size)))):=Xl ..;have h:∀{q o},q≠S->h1.get? q=some o->(h1.update S (Obj.mapSeq (·.push (.ref s.heap.objs.size)))).get? q=some o:=fun n e=>sb.extBut _ _ n e;show⟨?_,h (yG l2) (l _ _ L.D.TIz L.D.TITO L.D.TIi1 L.D.TIi2 x.ti),?_,m.at fun o e=>h (yG E) e,g.at fun o e=>h (yG G) e,?_,?_,ac,by rw[sb.1,Z];lk,by rw[Array.size_push,f],fun j r e=>?_,aa,fun q o H y I J K X e=>h X (l q o y I J K (x.kp q o H y I J K X e))⟩
   .rcases z1 with e | ⟨T,b1,o,hT,e,eo⟩
    .show .inl (h (yG l1) e)
    .show .inr ⟨T,b1,o,hT,h (yG l1) e,h (Yd (yj C hT)) eo⟩
   .obtain⟨Y,r,e⟩:=ab;show⟨Y,r,h (yG U) e⟩
   .obtain⟨o,e,d⟩:=x.la;show⟨o,h (yG l6) (l _ _ L.D.l1z L.D.l1TO L.D.l1i1 L.D.l1i2 e),d⟩
   .obtain⟨o,e,d⟩:=x.lb;show⟨o,h (yG l7) (l _ _ L.D.l2z L.D.l2TO L.D.l2i1 L.D.l2i2 e),d⟩
   .rw [Array.getElem?_push] at e;split at e
    .rename_i ej
     cases e;rw[ej,f];show⟨_,u,v,rfl,hN,h (Yd (yj C hN)) eP,hu,hv⟩
    .obtain⟨t,Y,w',q1,B,q3,q4⟩:=x.its j r e;show⟨t,Y,w',q1,B,h (Yd (yj C B)) (l t _ (p B l1) (p B U) (p B E) (p B G) q3),q4⟩
  .rw [f,Yn];lk
  .show(acc.push _).size<=sizeLine+1;rw[Array.size_push,f,Yn];lk
theorem zip_len0:typeLookup (.type "zip") "__len__"=pure none:=by rw[typeLookup_type,builtinLookup_eq_fast];kernel_rfl
theorem zip_hint0:typeLookup (.type "zip") "__length_hint__"=pure none:=by rw[typeLookup_type,builtinLookup_eq_fast];kernel_rfl
theorem zext{s:Shared}{o:Nat}(t:A.handled=none)(L:LA z TI TO i1 i2 a b S N)(u:min xs.size ys.size<=2 ^ 24)(res:Value)(hz:IsZip s.heap z TI TO .none)(x:LZ z TI TO i1 i2 a b S N xs ys h0 0 #[] o s.heap)
  (r:∀ h' c d,LE z TO i1 i2 S N xs ys h0 (min xs.size ys.size) c d h'->R (.ok (.ret res)) { s with heap:=h' }) :
  wpAny (model prog w) A.in1 (Builtin.List.listExtendWith (.ref S) (.ref z) res) (fun g s'=>match g with | .done f=>R (.ok f) s' | .again d=>d.quiet=true/\codeAny (model prog w) A d R s') (fun e s'=>R (.error e) s') s:=by
 obtain⟨l1,_⟩:=L.lt;have typ:s.TypeIs (.ref z) "zip":=⟨_,hz,rfl⟩;unfold Builtin.List.listExtendWith;show yr <| X6 typ ?_;have y:Builtin.List.listSameRef (.ref S) (.ref z)=false:=by simp[Builtin.List.listSameRef,Yd l1]
 have m:(Value.type "zip"==.type "list")=false/\(Value.type "zip"==.type "tuple")=false:=by decide
 simp only[y,m.1,m.2,ku,xv,Xy];show yr <| kF hz <| yr <| Yi ?_;unfold Builtin.List.listLengthHint;show yr <| wpAny_specialOf typ zip_len0 ?_;show wpAny _ _ (specialOf (Value.ref z) (Str.ofString "__length_hint__")>>=_) _ _ _;show yr <| wpAny_specialOf typ zip_hint0 <| yu ?_;show wpAny _ _ (rule "list.extend.makes-room">>=fun _=>Builtin.List.listTouch (.ref S)>>=fun _=>again (.builtin "list.extend.loop" ⟨[.ref S,.ref z,res],[]⟩)) _ _ _;show yr <| kM <| yr ?_;show wpAny _ _ (updateSeq S (·.push .none)>>=fun _=>updateSeq S (·.pop)) _ _ _;show yr <| XW x.ls rfl ?_;have h:=Yv (Obj.mapSeq (·.push Value.none)) x.ls rfl;show XW (hz:=by seq_fits) h rfl ?_;have p:=Yv (Obj.mapSeq (·.pop)) h rfl
 have B:Heap.SameBut S s.heap ((s.heap.update S (Obj.mapSeq (·.push Value.none))).update S (Obj.mapSeq (·.pop))):=by
  have i:Heap.SameBut S s.heap (s.heap.update S (Obj.mapSeq (·.push Value.none))):=Xl ..;have l:Heap.SameBut S (s.heap.update S (Obj.mapSeq (·.push Value.none))) ((s.heap.update S (Obj.mapSeq (·.push Value.none))).update S (Obj.mapSeq (·.pop))):=Xl ..;show⟨l.1.trans i.1,fun q n=>(l.2 q n).trans (i.2 q n)⟩
 show yu ⟨plainId_quiet Xk _,zloop t L u res _ 0 _ #[] _ rfl (xp _) (x.at L B p rfl (fun j v e=>by simp at e) fun j k v e=>by simp at e) r⟩
theorem zinit{s:Shared}{i:Nat}(n:A.handled=none)(L:LA z TI TO i1 i2 a b S N)(o:min xs.size ys.size<=2 ^ 24)(hz:IsZip s.heap z TI TO .none)(x:LZ z TI TO i1 i2 a b S N xs ys h0 0 #[] i s.heap)
  (m:∀ h' c d,LE z TO i1 i2 S N xs ys h0 (min xs.size ys.size) c d h'->R (.ok (.ret .none)) { s with heap:=h' }) :
  wpAny (model prog w) A.in1 (Builtin.«list.__init__» ⟨[.ref S,.ref z],[]⟩) (fun g s'=>match g with | .done f=>R (.ok f) s' | .again d=>d.quiet=true/\codeAny (model prog w) A d R s') (fun e s'=>R (.error e) s') s:=by
 obtain⟨l1,_⟩:=L.lt;show wpAny _ _ (do let old <- Builtin.List.listItems (.ref S);Builtin.List.listUpdate (.ref S) (fun _=>#[]);letGo old.toList.reverse;Builtin.List.listExtendWith (.ref S) (.ref z) .none) _ _ s;show yr ?_;unfold Builtin.List.listItems;show yr <| wpAny_seqItems x.ls rfl <| yu ?_;show wpAny _ _ (updateSeq S (fun _=>#[])>>=fun _=>letGo _>>=fun _=>Builtin.List.listExtendWith (.ref S) (.ref z) .none) _ _ s;show yr <| XW x.ls rfl ?_;have l:=Yv (Obj.mapSeq (fun _=>(#[]:Array Value))) x.ls rfl;have h:Heap.SameBut S s.heap (s.heap.update S (Obj.mapSeq (fun _=>(#[]:Array Value)))):=Xl ..;show yr <| wpAny_letGo ?_;show zext n L o .none (h.extBut _ _ (yG l1) hz) (x.at L h l rfl (fun j v e=>by simp at e) fun j k v e=>by simp at e) m
end
section
variable{prog:Program}{w:World}{A:Around}{E:Value->Shared->Prop}{s:Shared}
theorem call_list_zip{z TI TO h i a b:Nat}{xs ys:Array Value}{Q:Value->Shared->Prop}(H:A.handled=none)(D:ZipApart z TI TO h i a b)(I:min xs.size ys.size<=2 ^ 24)(hz:IsZip s.heap z TI TO .none)(l:IsPair s.heap TI (.ref h) (.ref i))(f:∃ u v,IsPair s.heap TO u v)
  (h1:s.heap.IsListIter h a 0) (y:s.heap.IsListIter i b 0) (m:s.heap.IsList a xs) (n:s.heap.IsList b ys)
  (G:∀ h' c t,LE z TO h i s.heap.objs.size (s.heap.objs.size+1) xs ys s.heap (min xs.size ys.size) c t h'->Q (.ref s.heap.objs.size) { s with heap:=h' }):wpAny (model prog w) A (call (.type "list") [.ref z]) Q E s:=by
 show callType_codes (Q₁:=fun r g=>r=.ref s.heap.objs.size/\g={ s with heap:=s.heap.push { cls:=.type "list",data:=.seq #[] } }) F.called_list (F.typeCall_list_1 _) F.entry_list_init (code_list_new _ ⟨rfl,rfl⟩) fun r g p=>?_;obtain⟨rfl,rfl⟩:=p;have B:(s.heap.push { cls:=.type "list",data:=.seq #[] }).get? s.heap.objs.size=some { cls:=.type "list",data:=.seq #[] }:=yS _ rfl;have up:∀{q o},s.heap.get? q=some o->(s.heap.push { cls:=.type "list",data:=.seq #[] }).get? q=some o:=fun e=>yw _ e;have lt:∀{q o},s.heap.get? q=some o->q<s.heap.objs.size:=fun e=>yF e;obtain⟨u,v,f⟩:=f
 have L:LA z TI TO h i a b s.heap.objs.size (s.heap.objs.size+1):=by
  show⟨D,⟨lt hz,lt l,lt f,?_,?_,?_,?_⟩,xK _⟩
  .obtain⟨_,e,_⟩:=h1;show lt e
  .obtain⟨_,e,_⟩:=y;show lt e
  .obtain⟨_,e,_⟩:=m;show lt e
  .obtain⟨_,e,_⟩:=n;show lt e
 have x:LZ z TI TO h i a b s.heap.objs.size (s.heap.objs.size+1) xs ys s.heap 0 #[] 0 (s.heap.push { cls:=.type "list",data:=.seq #[] }):=by
  show⟨.inl (up hz),up l,⟨u,v,up f⟩,h1.at fun o e=>up e,y.at fun o e=>up e,?_,?_,B,by rw[YL];show yh _,rfl,fun j v e=>by simp at e,fun j k v e=>by simp at e,fun q o _ _ _ _ _ _ e=>up e⟩
  .obtain⟨o,e,d⟩:=m;show⟨o,up e,d⟩
  .obtain⟨o,e,d⟩:=n;show⟨o,up e,d⟩
 show⟨⟨_,B,rfl⟩,F.args_list_init_2 _ _,zinit (A:=A.in1) H L I (up hz) x fun h' c t C=>⟨rfl,G h' c t C⟩⟩
end
structure Zl(H H':Hp)(l:Addr)(ts:LQ)(xs ys:List V):Prop where
 sm:L2.Same H H'
 fl:H l=none
 ls:H' l=some (.lst (ts.map V.ref))
 len:ts.length=min xs.length ys.length
 tp:∀(j:Nat) t,ts[j]?=some t->H t=none/\∃ x y,xs[j]?=some x/\ys[j]?=some y/\H' t=some (.tup [x,y])
theorem qfp(H:Hp):∀(a:LQ) (xs ys:List V),a.Nodup->a.length<=xs.length->a.length<=ys.length->∃ G:Hp,(∀(j:Nat) t x y,a[j]?=some t->xs[j]?=some x->ys[j]?=some y->G t=some (.tup [x,y]))/\∀ q,q∉a->G q=H q
 | [],_,_,_,_,_=>⟨H,fun j t x y e=>by simp at e,fun _ _=>rfl⟩
 | t::a,[],_,_,h,_=>by simp at h
 | t::a,_::_,[],_,_,h=>by simp at h
 | t::a,x::xs,y::ys,nd,h1,h2=>by
  obtain⟨m,n⟩:=yo.mp nd;obtain⟨G,i,l⟩:=qfp H a xs ys n (by simpa using h1) (by simpa using h2);show⟨upd G t (.tup [x,y]),fun j t' o p c d f=>?_,fun q g=>?_⟩
  .cases j with
   | zero=>simp at c d f;subst c d f;show qb
   | succ j =>
    have b:a[j]?=some t':=by simpa using c
    rw[qf fun z=>m (by rw[<- z];show ye b)];show i j t' o p b (by simpa using d) (by simpa using f)
  .rw [qf fun z=>g (by rw[z];show yO)];show l q fun z=>g (yI _ z)
noncomputable def refN:Value->Nat
 | .ref a=>a
 | _=>0
def tLZ(K:yg)(d:TA):TE:=fun f H Q=>d f H fun vs c=>∃ a b xs ys,vs=[.ref a,.ref b]/\SqL K c a xs/\SqL K c b ys/\xs.length<=1000/\∀ l e H',Zl c H' l e xs ys->Q (.ref l) H'
theorem vLZ{K:yg}{d:TA}{e:St}{H:Hp}{Q:VK}(h:d e H fun vs c=>∃ a b xs ys,vs=[.ref a,.ref b]/\SqL K c a xs/\SqL K c b ys/\xs.length<=1000/\∀ l f H',Zl c H' l f xs ys->Q (.ref l) H'):tLZ K d e H Q:=h
theorem qcI{X:Cx}{K:yg}{a b:Expr}{ta:TA}{p p2 ao f:Pos}(hK:X.K=K)(hc:X.calm=true)(hg:Gl X "list")(ag:Gl X "zip")(F:X.mg "list"=none)(ak:X.mg "zip"=none)(ha:PA X [a,b] ta)(hs:starEach [a,b] X.env=[(false,eval a X.env),(false,eval b X.env)]:=by rfl)(P:starEach [b] X.env=[(false,eval b X.env)]:=by rfl)
  (he:starEach [.Call (.Name "zip" p2) [a,b] [] f] X.env=[(false,eval (.Call (.Name "zip" p2) [a,b] [] f) X.env)]:=by rfl):PE X (.Call (.Name "list" p) [.Call (.Name "zip" p2) [a,b] [] f] [] ao) (tLZ K ta):=by
 subst hK;intro Z s σ H Q I h;show Call_ (qaW I hg F YY (YU (T:="list") ?_ he rfl));rw[he];show wpAny _ _ (spliced ((false,eval (.Call (.Name "zip" p2) [a,b] [] f) X.env)::[])) _ _ s;show ke ?_;show Call_ (qaW I ag ak qdb (YU (thn (ha f Z s σ H _ I h) fun us w ⟨vs,H1,A,r1,q1⟩=>?_) (by rw[hs,P]) (by rw[P];rfl)));obtain⟨a,b,xs,ys,e,hq,al,hx,q⟩:=q1;subst e
 cases r1 with
 | cons r rr =>
  cases rr with
  | cons r2 rr =>
   cases rr;cases r;cases r2;obtain⟨C,rv,pl,_⟩:=A.list hq;obtain⟨l,aa,D,_⟩:=A.list al;have am:a<w.heap.objs.size:=by obtain⟨_,e,_⟩:=pl.isList;show yF e
   have an:b<w.heap.objs.size:=by obtain⟨_,e,_⟩:=D.isList;show yF e
   have l1:=rv.length;have l2:=aa.length;show call_zip_2 pl.isList D.isList fun h1 hz ae af ah ai hsz hk=>ki ?_;have la:h1.IsList a C.toArray:=by obtain⟨o,e,d⟩:=pl.isList;show⟨o,hk _ _ e,d⟩
   have B:h1.IsList b l.toArray:=by obtain⟨o,e,d⟩:=D.isList;show⟨o,hk _ _ e,d⟩
   show call_list_zip (A.ok.hd hc) (PySem.W.ktu_apart _ _ _ am an) (by simp only[yy];lk) hz ae ⟨_,_,af⟩ ah ai la B fun h2 acc c L=>?_;have L:LE (w.heap.objs.size+4) (w.heap.objs.size+3) w.heap.objs.size (w.heap.objs.size+1) h1.objs.size (h1.objs.size+1) C.toArray l.toArray h1 (min C.toArray.size l.toArray.size) acc c h2:=L;have O:acc.size=min xs.length ys.length:=by rw[L.len,l1,l2,yy,yy]
   obtain⟨g,R⟩:∃ g,g=acc.toList.map refN:=⟨_,rfl⟩;have n:g.length=min xs.length ys.length:=by rw[R,ya,xl,O]
   have J:∀(j:Nat) t,g[j]?=some t->acc[j]?=some (.ref t)/\h1.objs.size+1<=t/\∃ x y,xs[j]?=some x/\ys[j]?=some y/\∃ u v,RelV x u/\RelV y v/\IsPair h2 t u v:=fun j t e=>by
    rw[R,yd,Xb] at e;obtain⟨v,ev,et⟩:=yn.mp e;obtain⟨t',u1,u2,q1,q2,q3,q4,q5⟩:=L.its j v ev;subst q1;have ad:t'=t:=et;subst ad;have hj:j<acc.size:=(YW.mp ev).1;obtain⟨x,S⟩:∃ x,xs[j]?=some x:=⟨_,yb (by lk)⟩;obtain⟨y,U⟩:∃ y,ys[j]?=some y:=⟨_,yb (by lk)⟩;obtain⟨a1,ab,ap⟩:=rv.get S;obtain⟨a2,ac,aq⟩:=aa.get U;have b1:a1=u1:=by rw[List.getElem?_toArray,ab] at q4;cases q4;rfl
    have b2:a2=u2:=by rw[List.getElem?_toArray,ac] at q5;cases q5;rfl
    subst b1 b2;show⟨ev,q2,x,y,S,U,a1,a2,ap,aq,q3⟩
   have nd:g.Nodup:=by
    show xx.mpr fun i j hi hj aj e=>?_;have M:=(J i g[i] (yb hi)).1;have N:=(J j g[j] (yb hj)).1;rw[e] at M;show absurd (L.nd i j _ M N) (yG aj)
   have mem:∀ t∈g,h1.objs.size+1<=t:=fun t ht=>by
    obtain⟨j,e⟩:=YZ.mp ht;show(J j t e).2.1
   obtain⟨G,g1,g2⟩:=qfp H1 g xs ys nd (by lk) (by lk)
   have Y:∀ q,q<w.heap.objs.size->upd G h1.objs.size (.lst (g.map V.ref)) q=H1 q:=fun q hq=>by
    rw[qf (yG (by lk))];show g2 q fun z=>by have:=mem q z;lk
   have tl:∀ t∈g,t≠h1.objs.size:=fun t ht=>by have:=mem t ht;show Yd this
   show⟨.ref _,_,A.laidM (t':=w.toks) (H':=upd G h1.objs.size (.lst (g.map V.ref))) (fun b u e=>?_) Y fun b u hb e=>?_,rfl,q _ g _ ⟨fun b o e=>?_,A.hok.fresh (by show(w.heap.objs.size:Nat)<=h1.objs.size;lk),qb,n,fun j t e=>?_⟩⟩
   .have B:∀ m:Nat,w.heap.objs.size<=m->b<m:=fun m F=>yj (yF e) F;show L.kp b u (B _ (by lk)) (yG (B _ (by lk))) (yG (B _ (by lk))) (yG (B _ (by lk))) (yG (B _ (by lk))) (yG (B _ (by lk))) (hk b u e)
   .by_cases hl:b=h1.objs.size
    .subst hl;rw[qb] at e;cases e;show⟨by rw[ya,n,Yn];lk,acc.toList,c,qae (by rw[ya,n];show O.symm) fun j y u M N=>?_,by rw[Array.toArray_toList];show L.ls⟩;rw[yd] at M;obtain⟨t,et,E⟩:=yn.mp M;subst E;rw[Xb,(J j t et).1] at N;cases N;rfl
    .rw [qf hl] at e;by_cases F:b∈g
     .obtain⟨j,ej⟩:=YZ.mp F;obtain⟨_,_,x,y,ex,E,u1,u2,r1,r2,ep⟩:=J j b ej;rw[g1 j b x y ej ex E] at e;cases e;show⟨by show 2<=sizeLine;decide,[u1,u2],.cons r1 (.cons r2 .nil),⟨_,ep,rfl,_,rfl⟩⟩
     .rw [g2 b F,A.hok.fresh hb] at e;cases e
   .rw [Y b (kG fun z=>by rw[A.hok.fresh z] at e;cases e)];show e
   .obtain⟨_,N,x,y,ex,E,_⟩:=J j t e;show⟨A.hok.fresh (by lk),x,y,ex,E,?_⟩;rw[qf (tl t (ye e))];show g1 j t x y e ex E
section
variable{X:Cx}
end
noncomputable def eqS(x:Str):V->Bool
 | .str y=>x==y
 | _=>false
def ObV(H:Hp)(v:V):Prop:=jR v=true\/∃ a o,v=.ref a/\H a=some o/\qgb o=true
def qfq(K:yg):R2:=fun x y H Q=>qez K true x y H Q\/∃(p b:Addr) (a:List (Addr×Str×Str)) (u v:V),y=.ref p/\x=.ref b/\SqL K H p (a.map fun t=>V.ref t.1)/\(∀ t∈a,H t.1=some (.tup [.str t.2.1,.str t.2.2]))/\H b=some (.tup [u,v])/\ObV H u/\ObV H v/\Q (.bl (!a.any fun t=>eqS t.2.1 u&&eqS t.2.2 v)) H
section
variable{X:Cx}{K:yg}
theorem qdS{c:List (Addr×Obj)}{g:St}{H:Hp}{s:Shared}{A:Around}{b:Str}{tk:Tok}{v:V}{w:Value}(I:Inv X c g H s)(h:ObV H v)(r:RelV v w)(d:A.units<cLine):SeqAt.EqAt A s (.str b tk) w (eqS b v):=by
 rcases h with h | ⟨a,o,rfl,ha,ho⟩
 .have f:RelV (.str b) (.str b tk):=⟨tk,rfl⟩;have z:=qc0 (A:=A) (s:=s) f r rfl h;have e:eqV (.str b) v=eqS b v:=by cases v<;>first | rfl | cases h
  rw[e] at z;show z
 .cases r;show str_obj I ha ho d
theorem qdd(L:X.K=K)(hu:X.A.units+100<cLine):OpR X (compareOp .NotIn) (qfq K):=by
 intro B s σ H x y u v Q I O P h;rcases h with h | ⟨p,b,ts,u1,v1,rfl,rfl,hl,f,hb,hu1,hv1,q⟩
 .show qa3 L hu B s σ H x y u v Q I O P h
 .subst L;cases O;cases P;obtain⟨c,r,pl,hz⟩:=I.list hl;obtain⟨M,r2,F,aa⟩:=I.tuple (SqT.of (K:=X.K) hb)
  classical
  have n:∀{j:Nat} {a:Value},c[j]?=some a->∃ t∈ts,ts[j]?=some t/\a=.ref t.1:=fun{j a} o=>by
   obtain⟨z,hz,J⟩:=jo r o;rw[yd] at hz
   cases f:ts[j]? with
   | none=>rw[f] at hz;cases hz
   | some t=>rw[f] at hz;cases hz;cases J;show⟨t,ye f,rfl,rfl⟩
  have D:∀ t∈ts,∀ t'∈ts,t.1=t'.1->t.2=t'.2:=fun t h1 t' d e=>by
   have l:=f t h1;have R:=f t' d;rw[e,R] at l;have m:=HO.tup.inj (ym l);simp only[kR,V.str.injEq,and_true] at m;show Xz m.1.symm m.2.symm
  show kf (fun a=>decide (∃ t∈ts,a=.ref t.1/\(eqS t.2.1 u1&&eqS t.2.2 v1)=true)) pl.isList (fun a hw=>?_) ?_
  .have E:a∈c:=by simpa using hw
   obtain⟨j,o⟩:=YZ.mp E;obtain⟨t,C,_,rfl⟩:=n o
   have eq:decide (∃ t'∈ts,Value.ref t.1=.ref t'.1/\(eqS t'.2.1 u1&&eqS t'.2.2 v1)=true)=(eqS t.2.1 u1&&eqS t.2.2 v1):=by
    rw[YH,YG];constructor
    .rintro ⟨t',h1,d,Z⟩;rw[D t C t' h1 (by injection d)];show Z
    .show fun h=>⟨t,C,rfl,h⟩
   show SeqAt.EqAt X.A.in1 s (.ref t.1) (.ref b) (decide _);rw[eq];by_cases g:t.1=b
   .have l:=f t C;rw[g,hb] at l;cases l;have m:(eqS t.2.1 (.str t.2.1)&&eqS t.2.2 (.str t.2.2))=true:=by simp[eqS]
    rw[m,g];show Xs _
   .obtain⟨N,r3,G,_⟩:=I.tuple (SqT.of (K:=X.K) (f t C));obtain⟨w1,w2,rfl,T,U⟩:=qbJ r2;obtain⟨w3,w4,rfl,W,Y⟩:=qbJ r3;obtain⟨k3,rfl⟩:=W;obtain⟨k4,rfl⟩:=Y;have w:X.A.in1.in1.units<cLine:=by show X.A.units+1+1<cLine;lk
    have z:=SeqAt.RcAt.tuples (A:=X.A.in1) G F (by show X.A.units+1<cLine;lk) (e:=fun j=>if j=0 then eqS t.2.1 u1 else eqS t.2.2 v1) fun j h1 d=>by
     match j,h1,d with
     | 0,_,_=>show qdS I hu1 T w
     | 1,_,_=>show qdS I hv1 U w
     | j+2,h1,_=>show absurd h1 (by simp)
    have S:((List.range (min 2 2)).all (fun j=>if j=0 then eqS t.2.1 u1 else eqS t.2.2 v1)&&(2==2))=(eqS t.2.1 u1&&eqS t.2.2 v1):=by
     simp[kS]
    show SeqAt.EqAt.of_refs g ?_;rw[<- S];show z
  .have e:c.toArray.any (fun a=>decide (∃ t∈ts,a=.ref t.1/\(eqS t.2.1 u1&&eqS t.2.2 v1)=true))=ts.any fun t=>eqS t.2.1 u1&&eqS t.2.2 v1:=by
    rw[YH];constructor
    .intro h;have h':c.any (fun a=>decide (∃ t∈ts,a=.ref t.1/\(eqS t.2.1 u1&&eqS t.2.2 v1)=true))=true:=by simpa using h
     obtain⟨a,_,q'⟩:=YB.mp h';obtain⟨t,h1,_,d⟩:=yk q';show YB.mpr ⟨t,h1,d⟩
    .intro h;obtain⟨t,h1,d⟩:=YB.mp h;obtain⟨j,o⟩:=YZ.mp h1;obtain⟨a,hw,J⟩:=r.get (i:=j) (x:=.ref t.1) (by rw[yd,o];rfl);cases J;have:c.any (fun a=>decide (∃ t∈ts,a=.ref t.1/\(eqS t.2.1 u1&&eqS t.2.2 v1)=true))=true:=YB.mpr ⟨_,ye hw,yH ⟨t,h1,rfl,d⟩⟩;simpa using this
   rw[e];show⟨.bl _,H,I,rfl,q⟩
end
end L2
namespace K35
open PySem L2 PyProof.Rows
variable{A:Str->Str->Prop}{C cw dx l p t x:Addr}{E:XK}{G H H' H0 H1 H2:Hp}{K:W.Frag}{Pd:Str->Prop}{S S':FS}{a b c m q s u y z:Str}{ab:Str×Str}{d lo ol v:V}{dn l' l1 l2 m1 r rs rv rw rz ss:LS}{g:Str->Option Str}{i j n:Nat}{kps qs tps ups:LP}{kvs:List (Key×V)}{mg:Str->Option Value}{neg:Bool}{ns:LN}{o:HO}{ts us:LQ}{xs ys:List V}{α β:Type}
theorem Sr(H:Hp):L2.Same H H:=L2.Same.refl H
theorem jZ{k:Nat}{A:Around}(a:Room k A):A.units+100<cLine:=by have:=a.un;lk
theorem hmR{k:Nat}{A:Around}(a:Room k A)(h:j<=k:=by decide):Room j A:=a.mono h
theorem ub:FnScope ["self","text"] ["self","text"] (qh jy):=fS
theorem ul:FnScope ["self","found"] ["self","found"] (qh jW):=fS
local macro_rules | `(tactic| walk_at "w")=>`(tactic| first
 | with_reducible refine vSeq ?_ | with_reducible refine vAsg ?_ | with_reducible refine vAsgS ?_ | with_reducible refine vIfS ?_ | with_reducible refine vRet ?_ | with_reducible refine vNext ?_ | with_reducible refine vC ?_
 | ((with_reducible refine' vVar ?hv ?_);(case hv=>rfl)) | with_reducible refine vOp ?_ | with_reducible refine vChain ?_ | with_reducible refine vNil ?_ | with_reducible refine vCons ?_ | with_reducible refine vCB ?_ | with_reducible refine vCall ?_
 | with_reducible refine vLst ?_ | with_reducible refine vTup ?_ | with_reducible refine vTest ?_ | with_reducible refine vB ?_ | with_reducible refine vNot ?_ | with_reducible refine vAnd ?_ | with_reducible refine vOr ?_
 | with_reducible refine vAndV ?_ | with_reducible refine vOrV ?_ | with_reducible refine vNotV ?_ | with_reducible refine vYes ?_ | with_reducible refine vLeI ?_ | with_reducible refine vLeS ?_ | with_reducible refine vIsB ?_ | with_reducible refine vAddI ?_ | with_reducible refine vSl ?_ | with_reducible refine vNoPart ?_ | with_reducible refine vPart ?_ | with_reducible refine vExI ?_ | with_reducible refine vBM ?_ | with_reducible refine vBM0 ?_ | with_reducible refine vComp ?_ | with_reducible refine vFor ?_ | with_reducible refine vRng1 ?_ | with_reducible refine vAny ?_ | with_reducible refine vGN ?_ | with_reducible refine vI0 ?_ | with_reducible refine vEqI ?_ | with_reducible refine vEqB ?_ | with_reducible refine vEx ?_ | with_reducible refine vDrop ?_ | with_reducible refine vRetN ?_ | with_reducible refine vFldU ?_ | with_reducible refine vSFldU ?_ | with_reducible refine vXMake ?_ | with_reducible refine vMake ?_ | with_reducible refine vMeth ?_ | with_reducible refine vVinit ?_ | with_reducible refine vCallS ?_ | with_reducible refine vRaise ?_ | with_reducible refine vMethS ?_ | with_reducible refine vMakeS ?_ | with_reducible refine vUn ?_ | with_reducible refine vIf ?_ | with_reducible refine vRev ?_ | with_reducible refine vEnum ?_ | with_reducible refine vDGet2 ?_ | with_reducible refine vStep ?_)
local macro_rules | `(tactic| walk_at "v")=>`(tactic| repeat walk_at "w")
local macro_rules | `(tactic| ext)=>`(tactic| walk_at "v")
local macro_rules | `(tactic| apply $e)=>`(tactic| (ext;refine $e))
noncomputable def fAtt:LS:=["board","partners","rows","parents","bases","rings","waiting","longer"]
noncomputable def qe2(_:Nat):Str:="found"
structure Txt(K:W.Frag)(mg:Str->Option Value)(cc:Nat->Addr)(cw:Addr):Prop where
 b_len:mg "len"=none
 b_int:mg "int"=none
 b_enumerate:mg "enumerate"=none
 b_all:mg "all"=none
 b_max:mg "max"=none
 b_min:mg "min"=none
 b_isinstance:mg "isinstance"=none
 b_bool:mg "bool"=none
 b_str:mg "str"=none
 b_range:mg "range"=none
 b_list:mg "list"=none
 b_tuple:mg "tuple"=none
 b_ValueError:mg "ValueError"=none
 g_LONGEST_NAME:∃ tk,mg "LONGEST_NAME"=some (.int 6 tk)
 g_MOST_PLACES:∃ tk,mg "MOST_PLACES"=some (.int 14 tk)
 g_MOST_TIES:∃ tk,mg "MOST_TIES"=some (.int 30 tk)
 m_NoPairs:mg "NoPairs"=some (.ref (cc 0))
 m_NoPlace:mg "NoPlace"=some (.ref (cc 1))
 m_NoTie:mg "NoTie"=some (.ref (cc 2))
 m_OnceError:mg "OnceError"=some (.ref (cc 3))
 vinit:VInit K
 xat:∀ i,i<3+1->XAt K (cc i)
 na:∀ i,i<3->NoAttr K (cc i) (qe2 i)
 kit:∀ i j,i<3->j<3->W.kitOne K (.ref (cc i)) (.ref (cc j))=some (decide (i=j))
 kitV:∀ i,i<3+1->W.kitOne K (.ref (cc i)) (.type "ValueError")=some true
 mroO:∀ i,i<3->W.mroIn K (cc i) (.ref (cc 3))=some true
 wcl:Cls K cw
 wn:NoAttr K cw "numbers"
 wo:NoAttr K cw "order"
 wr:NoAttr K cw "near"
 m_Web:mg "Web"=some (.ref cw)
 m_Forest:mg "Forest"=some (.ref (cc 9))
 fcl:Cls K (cc 9)
 fa:∀ a∈fAtt,NoAttr K (cc 9) a
 b_zip:mg "zip"=none
inductive spOnce(K:W.Frag)(vs:List V)(H:Hp)(Q:VK)(E:XK):Prop|mk (e C:Addr) (y:V) (_:vs=[.ref e,y]) (_:H e=some (XN e C none)) (_:XAt K C) (_:Q .non H)
inductive spX(C:Addr)(fl:Str)(vs:List V)(H:Hp)(Q:VK)(E:XK):Prop|mk (e:Addr) (v:V) (_:vs=[.ref e,v]) (_:H e=some (XN e C none)) (_:∀ dx,H dx=none->Q .non (upd (upd H dx (.xd [(fl,v)])) e (XN e C (some dx))))
theorem raise_done{g:Str}{y:V}(c:XAt K C)(q:∀ dx H',L2.Same H1 H'->H' dx=some (.xd [(g,y)])->E (.ref C) (some dx) H') :
  [y].length<=1000/\∀ x,H1 x=none->spX C g (.ref x::[y]) (upd H1 x (XN x C none)) (fun v H2=>v=.non/\∃ a f dx,(V.ref x)=.ref a/\H2 a=some (XN a f dx)/\XAt K f/\E (.ref f) dx (upd H2 a (XO a f dx))) E0:=by
 show⟨by show 1<=1000;decide,fun x h=>⟨x,y,rfl,qb,fun dx d=>⟨rfl,x,C,some dx,rfl,qb,c,q dx _ (fun b o e=>?_) ?_⟩⟩⟩
 .have nx:b≠x:=fun z=>by rw[z,h] at e;cases e
  have nd:b≠dx:=fun z=>by rw[<- z,qf nx,e] at d;cases d
  rw[qf nx,qf nx,qf nd,qf nx];show e
 .have nx:dx≠x:=fun z=>by rw[z,qb] at d;cases d
  rw[qf nx,qf nx,qb]
def Rz(a:Nat->Addr)(H:Hp)(E:XK)(r:Nat×V):Prop:=∀ dx H',L2.Same H H'->H' dx=some (.xd [(qe2 r.1,r.2)])->E (.ref (a r.1)) (some dx) H'
theorem Rz.later{a:Nat->Addr}{r:Nat×V}(h:Rz a H E r)(s:L2.Same H H1):Rz a H1 E r:=fun dx H' t e=>h dx H' (s.trans t) e
section
variable{P:Program}{w:World}{K:W.Frag}{mg:Str->Option Value}{base:Heap}{cc:Nat->Addr}{cw:Addr}{f:Addr}{fd:FuncData}
theorem ok_once(F:Fun K "__init__" "OnceError.__init__" jy f fd)(T:Txt K mg cc cw):FnOk P w K mg base CX0 1 f fd ["self","text"] (spOnce K):=by
 show F.ok ub fun _ _ _ _ H vs Q E b h=>?_
 .obtain⟨e,C,y,rfl,a,c,q⟩:=h;show⟨_,(qe (qL (k_vinit (K:=K) rfl T.vinit rfl T.b_ValueError boot_ValueError (qa (pv 0) (qa (pv 1) qd))))),?_⟩;apply⟨e,C,y,rfl,a,c,q⟩
theorem ok_NoPairs(F:Fun K "__init__" "NoPairs.__init__" jW f fd)(T:Txt K mg cc cw)(c:CMethOk P w K mg base CX0 1 (cc 3) "OnceError" "__init__" ["self","text"] (spOnce K)) :
  FnOk P w K mg base CX0 2 f fd ["self","found"] (spX (cc 0) (qe2 0)):=by
 show F.ok ul fun _ _ _ _ H vs Q E b h=>?_
 .obtain⟨e,v,rfl,a,q⟩:=h;show⟨_,(qc (qL (pe_clsmQ c (hmR b) (qa (pv 0) (qa jt qd))))
 (qe (qV (K:=K) rfl (pv 0) (pv 1) rfl))),?_⟩
  apply⟨e,_,_,rfl,a,T.xat 0 (by decide),?_⟩;apply .inr ⟨e,_,rfl,a,T.xat 0 (by decide),T.na 0 (by decide),q⟩
theorem um:FnScope ["thing"] ["thing"] (qh zb):=fS
theorem uM:FnScope ["bits","number"] ["bits","number"] (qh qaJ):=fS
theorem uc:FnScope ["numbers","thing"] ["numbers","thing"] (qh zx):=fS
theorem Kk:FnScope ["numbers","thing","both"] ["numbers","thing"] (qh je):=fS
theorem qN(a:L2.Same H H1)(hl:H1 l=none):L2.Same H (upd H1 l o):=fun c u e=>by
 have q:=a c u e;rw[qf (qB q hl)];show q
theorem qaB(a:L2.Same H H1)(hl:H l=none):L2.Same H (upd H1 l o):=fun c u e=>by
 rw[qf (qB e hl)];show a c u e
noncomputable def sg(c:Nat):Bool:=if (!decide (([c]:LN)<("a":Str).cps.toList))=true then !decide (("z":Str).cps.toList < [c]) else false
noncomputable def jG(x:Str):Bool:=if 1<=x.length/\x.length<=6 then x.cps.toList.all sg else false
theorem nameS_at{x:Str}(h:jG x=true):1<=x.length/\x.length<=6/\x.cps.toList.all sg=true:=by
 unfold jG at h;split at h
 .rename_i z;show⟨z.1,z.2,h⟩
 .cases h
structure All2{α β:Type}(R:α->β->Prop)(l:List α)(m:List β):Prop where
 len:l.length=m.length
 at_:∀(k:Nat) a b,l[k]?=some a->m[k]?=some b->R a b
theorem All2.nil{R:α->β->Prop}:All2 R [] []:=⟨rfl,fun k a b h=>by simp at h⟩
theorem All2.mono{R S:α->β->Prop}{l:List α}{m:List β}(h:All2 R l m)(f:∀ a b,R a b->S a b):All2 S l m:=⟨h.len,fun k a b x y=>f a b (h.at_ k a b x y)⟩
theorem All2.snoc{R:α->β->Prop}{l:List α}{m:List β}{x:α}{y:β}(h:All2 R l m)(r:R x y):All2 R (l++[x]) (m++[y]):=by
 show⟨by rw[yt,yt,h.len];rfl,fun k a b c d=>?_⟩;by_cases e:k<l.length
 .rw [yQ e] at c;rw[yQ (by rw[<- h.len];show e)] at d;show h.at_ k a b c d
 .rw [yB (by lk)] at c;rw[yB (by rw[<- h.len];lk)] at d
  have f:k-l.length=0:=by
   have:=(yc.mp c).1;simp at this;lk
  rw[<- h.len] at d;rw[f] at c d;cases c;cases d;show r
theorem All2.mem{R:α->β->Prop}{l:List α}{m:List β}(h:All2 R l m){x:α}(c:x∈l):∃ y∈m,R x y:=by
 obtain⟨k,b,e⟩:=Xm c;have a:k<m.length:=by rw[<- h.len];show b
 show⟨m[k],Xg a,h.at_ k x m[k] (by rw[yb b,e]) (yb a)⟩
def PL(H:Hp)(l:Addr)(ts:LQ)(tps:LP):Prop:=H l=some (.lst (ts.map V.ref))/\All2 (fun t ab=>H t=some (.tup [.str ab.1,.str ab.2])) ts tps
theorem PL.same(h:PL H l ts tps)(s:L2.Same H H'):PL H' l ts tps:=⟨s _ _ h.1,h.2.mono fun _ _ z=>s _ _ z⟩
inductive spName(vs:List V)(H:Hp)(Q:VK)(E:XK):Prop|mk (x:Str) (_:vs=[.str x]) (_:jG x=true) (_:∀ H',L2.Same H H'->Q (.bl true) H')
theorem ok_name(F:Fun K "is_name" "is_name" zb f fd)(T:Txt K mg cc cw):FnOk P w K mg base CX0 1 f fd ["thing"] spName:=by
 show F.ok um fun _ _ _ _ H vs Q E t h=>?_
 .obtain⟨x,rfl,n,q⟩:=h;obtain⟨u,r,s⟩:=nameS_at n;show⟨_,(qc (qK (PW.pt (qav (q8 (qQ (qp (zl (K:=K) rfl) rfl T.b_isinstance Yk (qa (pv 0) (qa (jh (v:=.ty "str") rfl T.b_str boot_str rfl) qd))))) (zR (q8 (qcW qeo qeo qg (qp (zu (K:=K) rfl) rfl T.b_len YT (qa (pv 0) qd)) (qa2 rfl T.g_LONGEST_NAME)))))) (qe (qk jz)) qr)
 (qe (qk (qp (qec (K:=K) rfl rfl) rfl T.b_all boot_all (qa (jT (sc:=qh zb) (XN:=["thing"]) ["sign"] 1 [] rfl rfl rfl (by room) rfl (by room)
  (qW (K:=K) rfl (pv 0)) (fun _ _ _ _=>(qw (i:=0) (show(["sign"]:LS).Nodup by room) rfl (yJ rfl))) jB
  (fun _ _ _ _=>zj)
  (fun _ _ _ _=>(qcV qeo qeo jt (pv 0) jt))) qd))))),?_⟩
  apply zw (.inl (.str x)) rfl (jl K "str" (by simp) "str" (by simp)) ?_;apply yq ?_;apply qfj (yi r (by decide)) ?_;apply qG (fun h1=>?_) fun h1=>absurd (yH (by lk)) h1;apply qG (fun g=>by simp only[xE,Xv] at g;lk) fun g=>?_;apply qbK (fun i ys H'=>H'=H/\ys=((x.cps.toList.take i).map sg).map V.bl) ⟨rfl,by simp⟩ (fun i c ys H' hc e=>?_) fun ys H' e=>?_
  .obtain⟨rfl,rfl⟩:=e;apply zg ?_;ext
   have hl:(List.map V.bl (List.map sg (List.take i x.cps.toList))).length<sizeLine:=by
    rw[ya,ya,yP];show qi (yi (XD _ _) (by simpa [Str.length] using(show x.length<=1000 by lk)))
   have a:∀ b,b=sg c->(List.map V.bl (List.map sg (List.take i x.cps.toList)))++[V.bl b]=List.map V.bl (List.map sg (List.take (i+1) x.cps.toList)):=by
    intro b m;have j:x.cps.toList[i]?=some c:=by simpa using hc
    rw[m,yR,j];simp
   show qG (fun d=>?_) fun d=>⟨hl,rfl,a _ (by unfold sg;rw[yC d])⟩;apply⟨hl,rfl,a _ (by unfold sg;rw[yE d])⟩
  .obtain⟨rfl,rfl⟩:=e;have p:x.cps.toList.take x.cps.size=x.cps.toList:=by rw[<- xl,yW]
   rw[p];show⟨?_,fun l hl=>?_⟩
   .rw [ya,ya];show yX (qi (by simpa [Str.length] using(show x.length<=1000 by lk)))
   .ext;show⟨l,x.cps.toList.map sg,rfl,SqL.of qb,?_⟩;have z:=q _ (qN (Sr H') (o:=.lst ((x.cps.toList.map sg).map V.bl)) hl);rw[X7];rw[<- s] at z;show z
inductive spBit(vs:List V)(H:Hp)(Q:VK)(E:XK):Prop|mk (b n:Int) (_:vs=[.int b,.int n]) (_:0<=n) (_:Q (.bl (decide (Builtin.bitAnd (b / 2 ^ n.toNat) 1=1))) H)
theorem ok_bit(F:Fun K "has_bit" "has_bit" qaJ f fd):FnOk P w K mg base CX0 1 f fd ["bits","number"] spBit:=by
 show F.ok uM fun _ _ _ _ H vs Q E c h=>?_
 .obtain⟨b,n,rfl,a,q⟩:=h;have d:=jZ c;show⟨_,(qe (qk (jE (zE (K:=K) rfl d) (qH op_and (qH op_shr (pv 0) (pv 1)) qg) qg (qx _)))),?_⟩;apply vI a ?_;apply .inl (.inl (.inl ⟨rfl,rfl,?_⟩));show q
noncomputable def qa4:LS->Nat->List (Key×V)
 | [],_=>[]
 | s::r,i=>(.inr s,.int i)::qa4 r (i+1)
theorem qcn(y:Str):∀(ss:LS) (i:Nat),qa4 (ss++[y]) i=qa4 ss i++[(.inr y,.int (i+ss.length:Nat))]
 | [],i=>rfl
 | s::r,i=>by
  show(_::qa4 (r++[y]) (i+1))=_::(qa4 r (i+1)++_);rw[qcn y r (i+1)];have:i+1+r.length=i+(s::r).length:=by simp;lk
  rw[this]
theorem zF:∀(ss:LS) (i:Nat),(qa4 ss i).length=ss.length
 | [],_=>rfl
 | _::r,i=>congrArg (· + 1) (zF r (i+1))
theorem qbj:∀{ss:LS} {i:Nat},y∉ss->zh (qa4 ss i) (.inr y:Key)=none
 | [],_,_=>rfl
 | s::r,i,h=>by
  have h1:¬ s=y:=fun e=>h (by rw[e];show yO);show zh ((.inr s,V.int i)::qa4 r (i+1)) _=none;rw[qX (p:=((.inr s:Key),V.int i)) (fun e=>h1 (xC e))];show qbj fun m=>h (yI _ m)
theorem zc:∀{ss:LS} {i:Nat},y∈ss->∃ j,j<ss.length/\ss[j]?=some y/\zh (qa4 ss i) (.inr y:Key)=some (.int (i+j:Nat))
 | [],_,h=>by cases h
 | s::r,i,h=>by
  by_cases e:s=y
  .subst e;show⟨0,by simp,rfl,jf (p:=((.inr s:Key),V.int i)) rfl⟩
  .rcases yv.mp h with z | z
   .show absurd z.symm e
   .obtain⟨j,h1,b,c⟩:=zc (i:=i+1) z;show⟨j+1,by simp;lk,by simpa using b,?_⟩;show zh ((.inr s,V.int i)::qa4 r (i+1)) _=_;rw[qX (p:=((.inr s:Key),V.int i)) (fun a=>e (xC a)),c];have:i+1+j=i+(j+1):=by lk
    rw[this]
theorem qay(y:Str)(ss:LS)(i:Nat):(zh (qa4 ss i) (.inr y:Key)).isSome=decide (y∈ss):=by
 by_cases h:y∈ss
 .obtain⟨j,_,_,e⟩:=zc (i:=i) h;rw[e,yH h];rfl
 .rw [qbj h,yl h];rfl
inductive spPlace(vs:List V)(H:Hp)(Q:VK)(E:XK):Prop|mk (d:Addr) (ss:LS) (x:Str) (_:vs=[.ref d,.str x]) (_:H d=some (.dK (qa4 ss 0))) (_:jG x=true) (_:x∈ss) (_:∀ H',L2.Same H H'->Q (.bl true) H')
theorem ok_place(F:Fun K "is_place" "is_place" zx f fd)(c:DefOk P w K mg base CX0 1 "is_name" ["thing"] spName):FnOk P w K mg base CX0 2 f fd ["numbers","thing"] spPlace:=by
 show F.ok uc fun _ _ _ _ H vs Q E a h=>?_
 .obtain⟨d,ss,x,rfl,e,g,j,q⟩:=h;have i:=jZ a;show⟨_,(qe (qk (qap (qq c (hmR a) qz (qa (pv 1) qd)) (qao (jE (zU (K:=K) rfl i) (pv 1) (pv 0) (by with_unfolding_all rfl)))))),?_⟩;apply⟨x,rfl,g,fun H1 b=>?_⟩;apply zg ?_;apply .inr (.inl ⟨d,_,rfl,DGet.k (k:=Sum.inr x) (b d _ e),?_⟩);rw[qay,yH j];show q H1 b
inductive spTwo(vs:List V)(H:Hp)(Q:VK)(E:XK):Prop|mk (d t:Addr) (ss:LS) (a b:Str) (_:vs=[.ref d,.ref t]) (_:H d=some (.dK (qa4 ss 0))) (_:H t=some (.tup [.str a,.str b])) (_:jG a=true) (_:jG b=true) (_:a∈ss) (_:b∈ss) (_:a≠b) (_:∀ H',L2.Same H H'->Q (.bl true) H')
theorem ok_two(F:Fun K "are_two_places" "are_two_places" je f fd)(T:Txt K mg cc cw)(o:DefOk P w K mg base CX0 2 "is_place" ["numbers","thing"] spPlace):FnOk P w K mg base CX0 3 f fd ["numbers","thing"] spTwo:=by
 show F.ok Kk fun _ _ _ _ H vs Q E m h=>?_
 .obtain⟨d,t,ss,a,b,rfl,p,c,u,x,r,s,l,q⟩:=h;have g:=jZ m;show⟨_,(qc (qK (PW.pt (qav (q8 (qQ (qp (zl (K:=K) rfl) rfl T.b_isinstance Yk (qa (pv 1) (qa (jh (v:=.ty "tuple") rfl T.b_tuple kh rfl) qd))))) (zR (qm (qan (K:=K) rfl g) (qp (zu (K:=K) rfl) rfl T.b_len YT (qa (pv 1) qd)) qg (qx _))))) (qe (qk jz)) qr)
 (qc (qo (i:=2) Kk.nd rfl (yJ rfl) (qap (qq o (hmR m) qz (qa (pv 0) (qa (qt (qu (K:=K) rfl g) (pv 1) qg (fun _ _=>rfl)) qd))) (qao (qq o (hmR m) qz (qa (pv 0) (qa (qt (qu (K:=K) rfl g) (pv 1) qg (fun _ _=>rfl)) qd))))))
 (qe (qk (qap (pv 2) (qao (jE (qan (K:=K) rfl g) (qt (qu (K:=K) rfl g) (pv 1) qg (fun _ _=>rfl)) (qt (qu (K:=K) rfl g) (pv 1) qg (fun _ _=>rfl)) (qx _)))))))),?_⟩
  apply zw (.inl (.tup c)) rfl (jl K "tuple" (by simp) "tuple" (by simp)) ?_;apply yq ?_;apply qeT c ?_;apply .inl ⟨rfl,rfl,?_⟩;apply yq ?_;apply .inl (zP c rfl ?_);apply⟨d,ss,a,rfl,p,u,r,fun H1 j=>?_⟩;apply zg ?_;apply .inl (zP (j _ _ c) rfl ?_);apply⟨d,ss,b,rfl,j _ _ p,x,s,fun H2 n=>?_⟩;apply zg ?_;apply .inl (zP (n _ _ (j _ _ c)) rfl ?_);apply .inl (zP (n _ _ (j _ _ c)) rfl ?_);show .inl ⟨rfl,rfl,?_⟩;have z:=q H2 (j.trans n);have e:(if true=true then !eqV (V.str a) (V.str b) else eqV (V.str a) (V.str b))=true:=by simp[eqV,l]
  rw[e];show z
theorem KO:FnScope ["names","numbers","name"] ["names"] (qh zm):=fS
theorem qcJ(m j:Nat):decide (Builtin.bitAnd ((m:Int) / 2 ^ (j:Int).toNat) 1=1)=m.testBit j:=by
 rw[PyProof.Rows.bitAnd_m1,Nat.testBit_eq_decide_div_mod_eq];rw[xD];have e:(m:Int) / 2 ^ j=((m / 2 ^ j:Nat):Int):=by rw[Int.natCast_ediv,Int.natCast_pow];rfl
 rw[e]
 congr 1
 apply propext;lk
theorem qeD(m j:Nat):Builtin.bitOr (m:Int) (1*2 ^ (j:Int).toNat)=((m ||| 2 ^ j:Nat):Int):=by
 have e:(1*2 ^ (j:Int).toNat:Int)=((2 ^ j:Nat):Int):=by rw[xD,Int.one_mul,Int.natCast_pow];rfl
 rw[e];generalize 2 ^ j=k;have c:Builtin.bitNot (m:Int)=-(m:Int)-1:=rfl;have d:Builtin.bitNot (k:Int)=-(k:Int)-1:=rfl;unfold Builtin.bitOr Builtin.bitAnd;rw[c,d,yl (by lk),yl (by lk)];dsimp only;unfold Builtin.bitNot;have a:(-(-(m:Int)-1)-1).toNat=m:=by lk
 have b:(-(-(k:Int)-1)-1).toNat=k:=by lk
 rw[a,b];lk
def But(x:Addr)(H H':Hp):Prop:=∀ b o,b≠x->H b=some o->H' b=some o
theorem But.refl(x:Addr)(H:Hp):But x H H:=fun _ _ _ e=>e
theorem But.same(a:But x H H1)(b:L2.Same H1 H2):But x H H2:=fun c o n e=>b c o (a c o n e)
theorem But.put(a:But x H H1):But x H (upd H1 x o):=fun c u n e=>by rw[qf n];show a c u n e
theorem But.new(a:But x H H1)(hl:H1 l=none):But x H (upd H1 l o):=a.same (qN (Sr H1) hl)
theorem qdT{a q:Addr}{Q:VK}(h:H a=some (.lst xs))(b:H q=some (.tup [.ty "list",.ty "tuple"]))(k:Q (.bl true) H):qex K [.ref a,.ref q] H Q:=
 ⟨_,q,_,_,[.type "list",.type "tuple"],true,rfl,.inl (.lst h),b,rfl,rfl,k⟩
inductive spNums(vs:List V)(H:Hp)(Q:VK)(E:XK):Prop|mk (a:Addr) (ss:LS) (_:vs=[.ref a]) (_:H a=some (.lst (ss.map V.str))) (_:ss.length<=14) (_:ss.Nodup) (_:(∀ s∈ss,jG s=true)) (_:∀ d H',L2.Same H H'->H d=none->H' d=some (.dK (qa4 ss 0))->Q (.ref d) H')
theorem ok_nums(F:Fun K "numbers_of" "numbers_of" zm f fd)(T:Txt K mg cc cw)(M:DefOk P w K mg base CX0 1 "is_name" ["thing"] spName) :
  FnOk P w K mg base CX0 4 f fd ["names"] spNums:=by
 show F.ok KO fun _ _ _ _ H vs Q E G h=>?_
 .obtain⟨a,ss,rfl,l,N,r,s,q⟩:=h;have I:=jZ G;show⟨_,(qc (qK (q8 (qQ (qp (qcD (K:=K) rfl) rfl T.b_isinstance Yk (qa (pv 0) (qa (jP (qa (jh (v:=.ty "list") rfl T.b_list YY rfl) (qa (jh (v:=.ty "tuple") rfl T.b_tuple kh rfl) qd))) qd))))) (qe jC) qr)
 (qc (qK (qm qdC (qp (zu (K:=K) rfl) rfl T.b_len YT (qa (pv 0) qd)) (qa2 rfl T.g_MOST_PLACES) (qx _)) (qe jC) qr)
 (qc (qo (i:=1) KO.nd rfl (yJ rfl) jg)
 (qc (ju yT rfl (qW (K:=K) rfl (pv 0)) (qw (i:=2) KO.nd rfl (yJ rfl))
 (qc (qK (q8 (qQ (qq M (hmR G) qz (qa (pv 2) qd)))) (qe jC) qr)
 (qc (qK (qm (zU (K:=K) rfl I) (pv 2) (pv 1) (by with_unfolding_all rfl)) (qe jC) qr)
 (qe (jD (qp (zu (K:=K) rfl) rfl T.b_len YT (qa (pv 1) qd)) (jO (pv 1) (pv 2) (jQ I)))))))
 (qe (qk (pv 1))))))),?_⟩
  apply⟨by show 2<=sizeLine;decide,fun g O=>?_⟩;have m:=qN (Sr H) (o:=.tup [.ty "list",.ty "tuple"]) O;apply qdT (m _ _ l) qb ?_;apply yq ?_;apply qaY (m _ _ l) ?_;rw[ya];apply qG (fun h=>by have:=yk h;lk) fun _=>?_;ext;intro d C;have L:=qN m (o:=.dK []) C;have c:H d=none:=m.free C;apply .inl ⟨⟨_,SqL.of (L _ _ l)⟩,jc (K:=K) (fun i p H'=>∃ A,p=[some (.ref a),some (.ref d),A]/\L2.Same H H'/\H' d=some (.dK (qa4 (ss.take i) 0))) ⟨none,rfl,L,qb⟩ (fun i p H' _ e=>by obtain⟨_,_,z,_⟩:=e;show SqL.of (z _ _ l)) (fun i y p H' J e=>?_) fun p H' e=>?_⟩
  .obtain⟨A,rfl,u,b⟩:=e;rw[yd] at J;obtain⟨x,t,rfl⟩:=yn.mp J;have R:i<ss.length:=(yc.mp t).1;have j:ss.take (i+1)=ss.take i++[x]:=by rw[yR,t];rfl
   have D:x∉ss.take i:=fun z=>by
    have B:(ss.take (i+1)).Nodup:=r.sublist (Xx _ _);rw[j] at B;show(yV.mp B).2.2 _ z x (by simp) rfl
   apply⟨x,rfl,s x (ye t),fun H1 n=>?_⟩;have S:=u.trans n;apply yq ?_;apply .inr (.inl ⟨d,_,rfl,DGet.k (k:=Sum.inr x) (n _ _ b),?_⟩);rw[qay,yl D];apply yq ?_;apply .inr ⟨_,n _ _ b,?_⟩;apply .inr ⟨d,_,rfl,DPut.k (k:=Sum.inr x) (n _ _ b) (qi (by rw[zF,yP];lk)),?_⟩;show⟨_,rfl,qaB S c,?_⟩;rw[qb,qa1 _ (qbj D),j,qcn,zF];simp only[xY]
  .obtain⟨A,rfl,u,b⟩:=e;ext;rw[ya,yW] at b;show q d H' u c b
theorem uI:FnScope ["self","names","ties"] ["self","names","ties"] (qh qaf):=fS
theorem KC:FnScope ["numbers","ties","near","tie","one","other"] ["numbers","ties"] (qh qaK):=fS
def qbk(ss:LS)(ns:LN)(seen:LP):Prop:=ns.length=ss.length/\(∀ a,ns.getD a 0<2 ^ ss.length)/\∀ a b s t,ss[a]?=some s->ss[b]?=some t->(ns.getD a 0).testBit b=decide ((s,t)∈seen\/(t,s)∈seen)
theorem qA(h:ss.Nodup){a b:Nat}(i:ss[a]?=some s)(j:ss[b]?=some s):a=b:=by
 have e:=xx.mp h;obtain⟨f,c⟩:=yc.mp i;obtain⟨g,d⟩:=yc.mp j;rcases Nat.lt_trichotomy a b with q | q | q
 .show absurd (c.trans d.symm) (e a b f g q)
 .show q
 .show absurd (d.trans c.symm) (e b a g f q)
theorem bits_zero:qbk ss (List.replicate ss.length 0) []:=by
 have z:∀ a,(List.replicate ss.length 0).getD a 0=0:=fun a=>by
  simp only[List.getD,Xu];split<;>rfl
 show⟨by simp,fun a=>by rw[z a];show Nat.two_pow_pos _,fun a b s t c d=>?_⟩;rw[z a];simp
theorem qaL{v:Nat}(h:i<ns.length):(ns.set i v).getD j 0=if i=j then v else ns.getD j 0:=by
 simp only[List.getD,List.getElem?_set];by_cases e:i=j
 .subst e;simp[h]
 .simp [e]
theorem bits_step{seen:LP}(C:qbk ss ns seen)(n:ss.Nodup){t:Str}(d:ss[i]?=some s)(g:ss[j]?=some t)(m:s≠t) :
  qbk ss ((ns.set i (ns.getD i 0 ||| 2 ^ j)).set j (ns.getD j 0 ||| 2 ^ i)) (seen++[(s,t)]):=by
 obtain⟨hl,l,h⟩:=C;have A:i<ns.length:=by rw[hl];show(yc.mp d).1
 have B:j<ns.length:=by rw[hl];show(yc.mp g).1
 have E:i≠j:=fun e=>by rw[e,g] at d;cases d;show m rfl
 have x:i<ss.length:=(yc.mp d).1;have y:j<ss.length:=(yc.mp g).1;show⟨by simp[hl],fun a=>?_,fun a b u v f c=>?_⟩
 .rw [qaL (by simpa using B),qaL A];split
  .show Nat.or_lt_two_pow (l _) (Nat.pow_lt_pow_right (by decide) x)
  .split
   .show Nat.or_lt_two_pow (l _) (Nat.pow_lt_pow_right (by decide) y)
   .show l _
 rw[qaL (by simpa using B),qaL A];have o:=h a b u v f c;have D:∀ P Q:Prop,(P↔Q)->∀ [Decidable P] [Decidable Q],decide P=decide Q:=fun P Q e=>by intro _ _;show Y8.mpr e
 by_cases r:j=a
 .subst r;rw[g] at f;cases f;rw[yE rfl,Nat.testBit_or,o,Nat.testBit_two_pow];by_cases q:i=b
  .subst q;rw[d] at c;cases c;simp
  .have vs:v≠s:=fun e=>by subst e;show q (qA n d c)
   simp only[q,kY,ku];apply Y8.mpr;simp only[yA,yx,Xq];constructor
   .rintro (z | z)
    .show .inl (.inl z)
    .show .inr (.inl z)
   .rintro ((z | ⟨z,_⟩) | (z | ⟨z,_⟩))
    .show .inl z
    .show absurd z.symm m
    .show .inr z
    .show absurd z vs
 .rw [yC r];by_cases p:i=a
  .subst p;rw[d] at f;cases f;rw[yE rfl,Nat.testBit_or,o,Nat.testBit_two_pow];by_cases w:j=b
   .subst w;rw[g] at c;cases c;simp
   .have G:v≠t:=fun e=>by subst e;show w (qA n g c)
    simp only[w,kY,ku];apply Y8.mpr;simp only[yA,yx,Xq];constructor
    .rintro (z | z)
     .show .inl (.inl z)
     .show .inr (.inl z)
    .rintro ((z | ⟨_,z⟩) | (z | ⟨_,z⟩))
     .show .inl z
     .show absurd z G
     .show .inr z
     .show absurd z m
  .rw [yC p,o];have us:u≠s:=fun e=>by subst e;show p (qA n d f)
   have F:u≠t:=fun e=>by subst e;show r (qA n g f)
   apply Y8.mpr;simp only[yA,yx,Xq];constructor
   .rintro (z | z)
    .show .inl (.inl z)
    .show .inr (.inl z)
   .rintro ((z | ⟨z,_⟩) | (z | ⟨_,z⟩))
    .show .inl z
    .show absurd z us
    .show .inr z
    .show absurd z F
noncomputable def qde(ns:LN):List V:=ns.map fun(n:Nat)=>.int (n:Int)
theorem qa5(h:i<ns.length):(qde ns)[i]?=some (.int (ns.getD i 0:Nat)):=by
 unfold qde;rw[yd,yb h];simp[List.getD,h]
theorem qdf(ns:LN)(i m:Nat):(qde ns).set i (.int m)=qde (ns.set i m):=by
 unfold qde;rw[List.map_set]
theorem natV_zero(k:Nat):(List.replicate k [V.int 0]).flatten=qde (List.replicate k 0):=by
 induction k with
 | zero=>rfl
 | succ k ih=>rw[xm,Xc,ih];rfl
theorem qcK(h:j<n):ixN n (j:Int)=some j:=by
 unfold ixN;rw[yE (by lk),yE (by lk)];rfl
def UN(x y:Str×Str):Prop:=x≠y/\x≠(y.2,y.1)
structure TGo(ss:LS)(tps:LP):Prop where
 few:tps.length<=30
 inn:∀ ab∈tps,ab.1∈ss/\ab.2∈ss/\ab.1≠ab.2
 un:tps.Pairwise UN
structure WOk(ss:LS)(ns:LN):Prop where
 len:ns.length=ss.length
 few:ss.length<=14
 nd:ss.Nodup
 lt:∀ a,ns.getD a 0<2 ^ ss.length
 nm:∀ s∈ss,jG s=true
inductive WebAt(cw:Addr)(H:Hp)(x:Addr)(ss:LS)(ns:LN):Prop|mk (dx d ol n:_) (_:H x=some (.ins cw dx (qE "near" (.ref n) (qE "order" (.ref ol) (qE "numbers" (.ref d) []))))) (_:H d=some (.dK (qa4 ss 0))) (_:H ol=some (.lst (ss.map V.str))) (_:H n=some (.lst (qde ns))) (_:WOk ss ns)
theorem WebAt.same(h:WebAt cw H x ss ns)(s:L2.Same H H'):WebAt cw H' x ss ns:=by
 obtain⟨dx,d,ol,n,h1,a,b,c,e⟩:=h;show⟨dx,d,ol,n,s _ _ h1,s _ _ a,s _ _ b,s _ _ c,e⟩
inductive WebN(H0:Hp)(cw:Addr)(H:Hp)(x:Addr)(ss:LS)(ns:LN):Prop|mk (dx d ol n:_) (_:H x=some (.ins cw dx (qE "near" (.ref n) (qE "order" (.ref ol) (qE "numbers" (.ref d) []))))) (_:H d=some (.dK (qa4 ss 0))) (_:H ol=some (.lst (ss.map V.str))) (_:H n=some (.lst (qde ns))) (_:WOk ss ns) (_:H0 d=none) (_:H0 ol=none) (_:H0 n=none)
theorem WebN.web(h:WebN H0 cw H x ss ns):WebAt cw H x ss ns:=by
 obtain⟨dx,d,ol,n,h1,a,b,c,e,_⟩:=h;show⟨dx,d,ol,n,h1,a,b,c,e⟩
inductive WebP(A:Addr->Prop)(cw:Addr)(H:Hp)(x:Addr)(ss:LS)(ns:LN):Prop|mk (dx d ol n:_) (_:H x=some (.ins cw dx (qE "near" (.ref n) (qE "order" (.ref ol) (qE "numbers" (.ref d) []))))) (_:H d=some (.dK (qa4 ss 0))) (_:H ol=some (.lst (ss.map V.str))) (_:H n=some (.lst (qde ns))) (_:WOk ss ns) (_:¬ A x) (_:¬ A d) (_:¬ A ol) (_:¬ A n)
theorem WebP.web{A:Addr->Prop}(h:WebP A cw H x ss ns):WebAt cw H x ss ns:=by
 obtain⟨dx,d,ol,n,h1,a,b,c,e,_⟩:=h;show⟨dx,d,ol,n,h1,a,b,c,e⟩
theorem WebP.keep{A:Addr->Prop}(h:WebP A cw H x ss ns)(k:∀ b o,¬ A b->H b=some o->H' b=some o):WebP A cw H' x ss ns:=by
 obtain⟨dx,d,ol,n,h1,g,i,j,l,a,c,e,f⟩:=h;show⟨dx,d,ol,n,k _ _ a h1,k _ _ c g,k _ _ e i,k _ _ f j,l,a,c,e,f⟩
theorem WebN.apart{A:Addr->Prop}(h:WebN H0 cw H x ss ns)(m:¬ A x)(b:∀ a,A a->H0 a≠none):WebP A cw H x ss ns:=by
 obtain⟨dx,d,ol,n,h1,g,i,j,l,c,e,f⟩:=h;show⟨dx,d,ol,n,h1,g,i,j,l,m,fun z=>b _ z c,fun z=>b _ z e,fun z=>b _ z f⟩
theorem qco:∀(ss:LS) (i:Nat),(qa4 ss i).map (fun a=>kV a.1)=ss.map V.str
 | [],_=>rfl
 | s::r,i=>congrArg (V.str s::·) (qco r (i+1))
inductive spNear(vs:List V)(H:Hp)(Q:VK)(E:XK):Prop|mk (d l:Addr) (ss:LS) (ts:LQ) (tps:LP) (_:vs=[.ref d,.ref l]) (_:H d=some (.dK (qa4 ss 0))) (_:ss.length<=14) (_:ss.Nodup) (_:(∀ s∈ss,jG s=true)) (_:PL H l ts tps) (_:TGo ss tps) (_:∀ n ns H',L2.Same H H'->H n=none->H' n=some (.lst (qde ns))->qbk ss ns tps->Q (.ref n) H')
theorem ok_near(F:Fun K "near_of" "near_of" qaK f fd)(T:Txt K mg cc cw)(Kj:DefOk P w K mg base CX0 3 "are_two_places" ["numbers","thing"] spTwo)(KM:DefOk P w K mg base CX0 1 "has_bit" ["bits","number"] spBit) :
  FnOk P w K mg base CX0 4 f fd ["numbers","ties"] spNear:=by
 show F.ok KC fun _ _ _ _ H vs Q E hr h=>?_
 .obtain⟨d,l,ss,ts,tps,rfl,W,aj,af,G,⟨hl,D⟩,Z,q⟩:=h;have j:=jZ hr;have L:=D.len;have few:=Z.few;show⟨_,(qc (qK (q8 (qQ (qp (qcD (K:=K) rfl) rfl T.b_isinstance Yk (qa (pv 1) (qa (jP (qa (jh (v:=.ty "list") rfl T.b_list YY rfl) (qa (jh (v:=.ty "tuple") rfl T.b_tuple kh rfl) qd))) qd))))) (qe jC) qr)
 (qc (qK (qm qdC (qp (zu (K:=K) rfl) rfl T.b_len YT (qa (pv 1) qd)) (qa2 rfl T.g_MOST_TIES) (qx _)) (qe jC) qr)
 (qc (qo (i:=2) KC.nd rfl (yJ rfl) (qH qem (qI (qa qg qd)) (qp (zu (K:=K) rfl) rfl T.b_len YT (qa (pv 0) qd))))
 (qc (ju yT rfl (qW (K:=K) rfl (pv 1)) (qw (i:=3) KC.nd rfl (yJ rfl))
 (qc (qK (q8 (qQ (qq Kj (hmR hr) qz (qa (pv 0) (qa (pv 3) qd))))) (qe jC) qr)
 (qc (qo (i:=4) KC.nd rfl (yJ rfl) (qt (qu (K:=K) rfl j) (pv 0) (qt (qu (K:=K) rfl j) (pv 3) qg (fun _ _=>rfl)) (fun _ _=>rfl)))
 (qc (qo (i:=5) KC.nd rfl (yJ rfl) (qt (qu (K:=K) rfl j) (pv 0) (qt (qu (K:=K) rfl j) (pv 3) qg (fun _ _=>rfl)) (fun _ _=>rfl)))
 (qc (qK (qQ (qq KM (hmR hr) qz (qa (qt (qu (K:=K) rfl j) (pv 2) (pv 4) (fun _ _=>rfl)) (qa (pv 5) qd)))) (qe jC) qr)
 (qc (jD (qH qfb (qt (qu (K:=K) rfl j) (pv 2) (pv 4) (fun _ _=>rfl)) (qH qej qg (pv 5))) (jO (pv 2) (pv 4) (jQ j)))
 (qe (jD (qH qfb (qt (qu (K:=K) rfl j) (pv 2) (pv 5) (fun _ _=>rfl)) (qH qej qg (pv 4))) (jO (pv 2) (pv 5) (jQ j))))))))))
 (qe (qk (pv 2))))))),?_⟩
  apply⟨by show 2<=sizeLine;decide,fun g aa=>?_⟩;have s0:=qN (Sr H) (o:=.tup [.ty "list",.ty "tuple"]) aa;apply qdT (s0 _ _ hl) qb ?_;apply yq ?_;apply qaY (s0 _ _ hl) ?_;rw[ya];apply qG (fun h=>by have:=yk h;lk) fun _=>?_;apply⟨by show 1<=sizeLine;decide,fun z ah=>?_⟩;have s1:=qN s0 (o:=.lst [.int 0]) ah;apply .inr ⟨_,s1 _ _ W,?_⟩;ext;rw[zF];show⟨z,_,_,rfl,rfl,qb,by lk,by lk,by show 1*_<=sizeLine;rw[xD];show yX (qi (by lk)),fun n hn=>?_⟩;rw[xD,natV_zero];have s2:=qN s1 (o:=.lst (qde (List.replicate ss.length 0))) hn;have n0:H n=none:=s1.free hn;apply .inl ⟨⟨_,SqL.of (s2 _ _ hl)⟩,jc (K:=K) (fun i Y H'=>∃ v3 v4 v5 ns,Y=[some (.ref d),some (.ref l),some (.ref n),v3,v4,v5]/\L2.Same H H'/\H' n=some (.lst (qde ns))/\qbk ss ns (tps.take i))
   ⟨none,none,none,_,rfl,s2,qb,bits_zero⟩ (fun i Y H' _ I=>by obtain⟨_,_,_,_,_,z,_⟩:=I;show SqL.of (z _ _ hl)) (fun i y Y H' hy I=>?_) fun Y H' I=>?_⟩
  .obtain⟨v3,v4,v5,ns,rfl,N,A,a⟩:=I;rw[yd] at hy;obtain⟨t,ht,rfl⟩:=yn.mp hy;have ac:i<ts.length:=(yc.mp ht).1;obtain⟨⟨p,r⟩,u⟩:∃ ab,tps[i]?=some ab:=⟨_,yb (by rw[<- L];show ac)⟩;have U:=D.at_ i t _ ht u;obtain⟨m1,X,c⟩:=Z.inn _ (ye u);dsimp only at U m1 X c;have J:tps.take (i+1)=tps.take i++[(p,r)]:=by rw[yR,u];rfl
   have ag:¬ ((p,r)∈tps.take i\/(r,p)∈tps.take i):=fun z=>by
    have h3:(tps.take (i+1)).Pairwise UN:=Z.un.sublist (Xx _ _);rw[J] at h3;have h4:=(List.pairwise_append.mp h3).2.2;rcases z with z | z
    .show(h4 _ z (p,r) (by simp)).1 rfl
    .show(h4 _ z (p,r) (by simp)).2 rfl
   obtain⟨C,ad,b,R⟩:=zc (i:=0) m1;obtain⟨B,ae,s,S⟩:=zc (i:=0) X;rw[xY] at R S;have ai:C≠B:=fun e=>by rw[e,s] at b;cases b;show c rfl
   have m:C<ns.length:=by rw[a.1];show ad
   have M:B<ns.length:=by rw[a.1];show ae
   apply⟨d,t,ss,p,r,rfl,N _ _ W,N _ _ U,G _ m1,G _ X,m1,X,c,fun H1 t1=>?_⟩;have O:=N.trans t1;have x:=t1 _ _ A;apply yq ?_;apply .inl (zP (O _ _ U) rfl ?_);show .inr ⟨d,.int C,rfl,?_,?_⟩
   .have:=DGet.k (k:=Sum.inr p) (O _ _ W);rw[R] at this;show this
   apply .inl (zP (O _ _ U) rfl ?_);show .inr ⟨d,.int B,rfl,?_,?_⟩
   .have:=DGet.k (k:=Sum.inr r) (O _ _ W);rw[S] at this;show this
   apply .inl (zv x (qv (qa5 m)) ?_);apply⟨_,_,rfl,by lk,?_⟩;rw[qcJ,a.2.2 C B p r b s,yl ag];apply yq ?_;apply .inl (zv x (qv (qa5 m)) ?_);apply vI ⟨by lk,by lk,by decide⟩ ?_;ext;rw[qeD];show .inl (qeb x (qcK (by unfold qde;rw[ya];show m)) ?_);rw[qdf];ext;have e2:(ns.set C (ns.getD C 0 ||| 2 ^ B)).getD B 0=ns.getD B 0:=by rw[qaL m,yC ai]
   show .inl (zv qb (qv (qa5 (by simpa using M))) ?_);apply vI ⟨by lk,by lk,by decide⟩ ?_;ext;rw[qeD,e2];show .inl (qeb qb (qcK (by unfold qde;rw[ya];simpa using M)) ?_);rw[qdf];show⟨_,_,_,_,rfl,qaB (qaB O n0) n0,qb,?_⟩;rw[J];show bits_step a af b s c
  .obtain⟨v3,v4,v5,ns,rfl,N,A,a⟩:=I;ext;rw[ya,L,yW] at a;show q n _ H' N n0 A a
inductive spWeb(cw:Addr)(vs:List V)(H:Hp)(Q:VK)(E:XK):Prop|mk (x dx a l:Addr) (ss:LS) (ts:LQ) (tps:LP) (_:vs=[.ref x,.ref a,.ref l]) (_:H x=some (.ins cw dx [])) (_:H a=some (.lst (ss.map V.str))) (_:ss.length<=14) (_:ss.Nodup) (_:(∀ s∈ss,jG s=true)) (_:PL H l ts tps) (_:TGo ss tps) (_:∀ ns H',But x H H'->WebN H cw H' x ss ns->qbk ss ns tps->Q .non H')
theorem PL.but{fs:List (Str×V)}(h:PL H l ts tps)(a:H x=some (.ins C dx fs))(b:But x H H'):PL H' l ts tps:=
 ⟨b _ _ (qat h.1 a (by intro z;cases z)) h.1,h.2.mono fun t ab e=>b _ _ (qat e a (by intro z;cases z)) e⟩
theorem ok_web(F:Fun K "__init__" "Web.__init__" qaf f fd)(T:Txt K mg cc cw)(uF:DefOk P w K mg base CX0 4 "numbers_of" ["names"] spNums)(uQ:DefOk P w K mg base CX0 4 "near_of" ["numbers","ties"] spNear) :
  FnOk P w K mg base CX0 5 f fd ["self","names","ties"] (spWeb cw):=by
 show F.ok uI fun _ _ _ _ H vs Q E M h=>?_
 .obtain⟨x,dx,a,l,ss,ts,tps,rfl,U,Z,j,nd,p,L,hg,q⟩:=h;have hu:=jZ M;show⟨_,(qc (qV (K:=K) rfl (pv 0) (qq uF (hmR M) qz (qa (pv 1) qd)) rfl)
 (qc (qV (K:=K) rfl (pv 0) (ji (zV (K:=K) rfl rfl) rfl T.b_list YY (qa (qD (K:=K) rfl (pv 0) rfl) qd)) rfl)
 (qe (qV (K:=K) rfl (pv 0) (qq uQ (hmR M) qz (qa (qD (K:=K) rfl (pv 0) rfl) (qa (pv 2) qd))) rfl)))),?_⟩
  apply⟨a,ss,rfl,Z,j,nd,p,fun d H1 W J R=>?_⟩;have X:=(But.refl x H).same W;have A:=W _ _ U;have r:d≠x:=qat R A (by intro z;cases z);apply .inl ⟨x,cw,dx,[],rfl,A,T.wcl,T.wn,by decide,?_⟩;have I:=X.put (o:=.ins cw dx (qE "numbers" (.ref d) []));have g:upd H1 x (.ins cw dx (qE "numbers" (.ref d) [])) d=some (.dK (qa4 ss 0)):=by rw[qf r];show R
  have c:upd H1 x (.ins cw dx (qE "numbers" (.ref d) [])) x=_:=qb;generalize upd H1 x (.ins cw dx (qE "numbers" (.ref d) []))=H2 at I g c;apply .inl ⟨x,cw,dx,_,.ref d,rfl,c,T.wcl,T.wn,by rw[qC,yE rfl],?_⟩;apply .inr (.inl ⟨d,_,rfl,g,fun ol s=>?_⟩);rw[qco];have no:ol≠x:=fun e=>by subst e;rw[c] at s;cases s
  have Y:=I.new (o:=.lst (ss.map V.str)) s
  have y:H ol=none:=by
   cases O:H ol with
   | none=>rfl
   | some o'=>rw[I ol o' no O] at s;cases s
  have N:d≠ol:=qB g s;apply .inl ⟨x,cw,dx,_,rfl,(by rw[qf no.symm];show c),T.wcl,T.wo,Ys (jA _ _ _) (by decide),?_⟩;have D:=Y.put (o:=.ins cw dx (qE "order" (.ref ol) (qE "numbers" (.ref d) [])));have m:upd (upd H2 ol (.lst (ss.map V.str))) x (.ins cw dx (qE "order" (.ref ol) (qE "numbers" (.ref d) []))) d=some (.dK (qa4 ss 0)):=by rw[qf r,qf N];show g
  have v:upd (upd H2 ol (.lst (ss.map V.str))) x (.ins cw dx (qE "order" (.ref ol) (qE "numbers" (.ref d) []))) ol=some (.lst (ss.map V.str)):=by rw[qf no];show qb
  have i:upd (upd H2 ol (.lst (ss.map V.str))) x (.ins cw dx (qE "order" (.ref ol) (qE "numbers" (.ref d) []))) x=_:=qb;generalize upd (upd H2 ol (.lst (ss.map V.str))) x (.ins cw dx (qE "order" (.ref ol) (qE "numbers" (.ref d) [])))=H3 at D m v i;apply .inl ⟨x,cw,dx,_,.ref d,rfl,i,T.wcl,T.wn,by rw[qC,yC (by room),qC,yE rfl],?_⟩;apply⟨d,l,ss,ts,tps,rfl,m,j,nd,p,L.but U D,hg,fun n ns H4 G t S b=>?_⟩;have B:=G _ _ i;have C:n≠x:=qat S B (by intro z;cases z);apply .inl ⟨x,cw,dx,_,rfl,B,T.wcl,T.wr,Ys (jA _ _ _) (Ys (Nat.succ_le_succ (jA _ _ _)) (by decide)),?_⟩
  have u:H n=none:=by
   cases O:H n with
   | none=>rfl
   | some o'=>rw[D n o' C O] at t;cases t
  show q ns _ (D.same G).put ⟨dx,d,ol,n,qb,by rw[qf r];show G _ _ m,by rw[qf no];show G _ _ v,by rw[qf C];show S,⟨b.1,j,nd,b.2.1,p⟩,J,y,u⟩ b
theorem uA:FnScope ["self"] ["self"] (qh zn):=fS
theorem ug:FnScope ["self","thing"] ["self","thing"] (qh jH):=fS
theorem uh:FnScope ["self","place"] ["self","place"] (qh jI):=fS
theorem uB:FnScope ["self","place"] ["self","place"] (qh zo):=fS
theorem K9:FnScope ["self","place"] ["self","place"] (qh jr):=fS
theorem ud:FnScope ["self","one","other","bits"] ["self","one","other"] (qh qag):=fS
theorem uo:FnScope ["self","bits"] ["self","bits"] (qh jw):=fS
theorem jU{n:V}:(qE "near" n (qE "order" ol (qE "numbers" d []))).lookup ("numbers":Str)=some d:=by
 rw[qC,yC (by room),qC,yC (by room),qC,yE rfl]
theorem qbT{n:V}:(qE "near" n (qE "order" ol (qE "numbers" d []))).lookup ("order":Str)=some ol:=by
 rw[qC,yC (by room),qC,yE rfl]
theorem lk_near{n:V}:(qE "near" n (qE "order" ol (qE "numbers" d []))).lookup ("near":Str)=some n:=by
 rw[qC,yE rfl]
theorem zO{f:Str}{n:V}(h:(f=="near"||f=="order"||f=="numbers")=false):(qE "near" n (qE "order" ol (qE "numbers" d []))).lookup f=none:=by
 simp only[Bool.or_eq_false_iff,Yo] at h;rw[qC,yC h.1.1,qC,yC h.1.2,qC,yC h.2];rfl
noncomputable def inB:LS->Nat->Nat->LS
 | [],_,_=>[]
 | s::r,i,b=>if b.testBit i=true then s::inB r (i+1) b else inB r (i+1) b
theorem qa6(y:Str)(b:Nat):∀(l:LS) (k:Nat),inB (l++[y]) k b=inB l k b++(if b.testBit (k+l.length)=true then [y] else [])
 | [],k=>by simp[inB]
 | s::r,k=>by
  have a:=qa6 y b r (k+1);have e:k+1+r.length=k+(s::r).length:=by simp;lk
  rw[e] at a;simp only[kB,inB,a];split<;>simp
theorem qbl(b:Nat):∀(l:LS) (k:Nat),(inB l k b).length<=l.length
 | [],_=>yh _
 | s::r,k=>by
  have a:=qbl b r (k+1);simp only[inB];split
  .simp;lk
  .simp;lk
inductive spHas(cw:Addr)(vs:List V)(H:Hp)(Q:VK)(E:XK):Prop|mk (x:Addr) (ss:LS) (ns:LN) (y:Str) (_:vs=[.ref x,.str y]) (_:WebAt cw H x ss ns) (_:y∈ss) (_:∀ H',L2.Same H H'->Q (.bl true) H')
inductive spNum(cw:Addr)(vs:List V)(H:Hp)(Q:VK)(E:XK):Prop|mk (x:Addr) (ss:LS) (ns:LN) (y:Str) (j:Nat) (_:vs=[.ref x,.str y]) (_:WebAt cw H x ss ns) (_:ss[j]?=some y) (_:∀ H',L2.Same H H'->Q (.int (j:Nat)) H')
inductive spBB(cw:Addr)(vs:List V)(H:Hp)(Q:VK)(E:XK):Prop|mk (x:Addr) (ss:LS) (ns:LN) (y:Str) (j:Nat) (_:vs=[.ref x,.str y]) (_:WebAt cw H x ss ns) (_:ss[j]?=some y) (_:∀ H',L2.Same H H'->Q (.int (ns.getD j 0:Nat)) H')
inductive spNIn(cw:Addr)(vs:List V)(H:Hp)(Q:VK)(E:XK):Prop|mk (x:Addr) (ss:LS) (ns:LN) (b:Nat) (_:vs=[.ref x,.int b]) (_:WebAt cw H x ss ns) (_:∀ l,H l=none->Q (.ref l) (upd H l (.lst ((inB ss 0 b).map V.str))))
inductive spBs(cw:Addr)(vs:List V)(H:Hp)(Q:VK)(E:XK):Prop|mk (x:Addr) (ss:LS) (ns:LN) (y:Str) (j:Nat) (_:vs=[.ref x,.str y]) (_:WebAt cw H x ss ns) (_:ss[j]?=some y) (_:∀ H',L2.Same H H'->∀ l,H' l=none->Q (.ref l) (upd H' l (.lst ((inB ss 0 (ns.getD j 0)).map V.str))))
inductive spTied(cw:Addr)(vs:List V)(H:Hp)(Q:VK)(E:XK):Prop|mk (x:Addr) (ss:LS) (ns:LN) (y z:Str) (j i:Nat) (_:vs=[.ref x,.str y,.str z]) (_:WebAt cw H x ss ns) (_:ss[j]?=some y) (_:ss[i]?=some z) (_:∀ H',L2.Same H H'->Q (.bl ((ns.getD j 0).testBit i)) H')
inductive spPls(cw:Addr)(vs:List V)(H:Hp)(Q:VK)(E:XK):Prop|mk (x:Addr) (ss:LS) (ns:LN) (_:vs=[.ref x]) (_:WebAt cw H x ss ns) (_:∀ l,H l=none->Q (.ref l) (upd H l (.lst (ss.map V.str))))
theorem ok_has(F:Fun K "has_place" "Web.has_place" jH f fd)(T:Txt K mg cc cw)(b:DefOk P w K mg base CX0 2 "is_place" ["numbers","thing"] spPlace):FnOk P w K mg base CX0 3 f fd ["self","thing"] (spHas cw):=by
 show F.ok ug fun _ _ _ _ H vs Q E e h=>?_
 .obtain⟨x,ss,ns,y,rfl,⟨dx,d,ol,n,g,c,j,i,hw⟩,a,q⟩:=h;show⟨_,(qe (qk (qq b (hmR e) qz (qa (qD (K:=K) rfl (pv 0) rfl) (qa (pv 1) qd))))),?_⟩;apply .inl ⟨x,cw,dx,_,.ref d,rfl,g,T.wcl,T.wn,jU,?_⟩;apply⟨d,ss,y,rfl,c,hw.nm _ a,a,q⟩
theorem ok_num(F:Fun K "number_of" "Web.number_of" jI f fd)(T:Txt K mg cc cw)(o:MethOk P w K mg base CX0 3 cw "has_place" ["self","thing"] (spHas cw)):FnOk P w K mg base CX0 4 f fd ["self","place"] (spNum cw):=by
 show F.ok uh fun _ _ _ _ H vs Q E e h=>?_
 .obtain⟨x,ss,ns,y,j,rfl,c,b,q⟩:=h;obtain⟨dx,d,ol,n,g,r,v,u,hw⟩:=id c;have l:=ye b;have s:=jZ e;show⟨_,(qc (qK (q8 (qQ (qF o (hmR e) (pv 0) (qa (pv 1) qd)))) (qe jC) qr)
 (qe (qk (qt (qu (K:=K) rfl s) (qD (K:=K) rfl (pv 0) rfl) (pv 1) (fun _ _=>rfl))))),?_⟩
  apply⟨x,dx,_,rfl,g,zO (by room),?_⟩;apply⟨x,ss,ns,y,rfl,c,l,fun H1 a=>?_⟩;apply yq ?_;obtain⟨i,t,p,m⟩:=zc (i:=0) l;rw[xY,qA hw.nd p b] at m;apply .inl ⟨x,cw,dx,_,.ref d,rfl,a _ _ g,T.wcl,T.wn,jU,?_⟩;apply .inr ⟨d,.int j,rfl,?_,q H1 a⟩;have:=DGet.k (k:=Sum.inr y) (a _ _ r);rw[m] at this;show this
theorem ok_bb(F:Fun K "bits_beside" "Web.bits_beside" jr f fd)(T:Txt K mg cc cw)(i:MethOk P w K mg base CX0 4 cw "number_of" ["self","place"] (spNum cw)):FnOk P w K mg base CX0 5 f fd ["self","place"] (spBB cw):=by
 show F.ok K9 fun _ _ _ _ H vs Q E c h=>?_
 .obtain⟨x,ss,ns,y,j,rfl,b,a,q⟩:=h;obtain⟨dx,d,ol,n,e,o,p,l,hw⟩:=id b;have m:=jZ c;show⟨_,(qe (qk (qt (qu (K:=K) rfl m) (qD (K:=K) rfl (pv 0) rfl) (qF i (hmR c) (pv 0) (qa (pv 1) qd)) (fun _ _=>rfl)))),?_⟩;apply .inl ⟨x,cw,dx,_,.ref n,rfl,e,T.wcl,T.wr,lk_near,?_⟩;apply⟨x,dx,_,rfl,e,zO (by room),?_⟩;apply⟨x,ss,ns,y,j,rfl,b,a,fun H1 g=>?_⟩;show .inl (zv (g _ _ l) (qv (qa5 (by rw[hw.len];show(yc.mp a).1))) (q H1 g))
theorem ok_nin(F:Fun K "names_in" "Web.names_in" jw f fd)(T:Txt K mg cc cw)(A:DefOk P w K mg base CX0 1 "has_bit" ["bits","number"] spBit):FnOk P w K mg base CX0 2 f fd ["self","bits"] (spNIn cw):=by
 show F.ok uo fun _ _ _ _ H vs Q E u h=>?_
 .obtain⟨x,ss,ns,b,rfl,⟨dx,d,ol,n,v,D,t,L,hw⟩,q⟩:=h;have I:=jZ u;show⟨_,(qe (qk (jT (sc:=qh jw) (XN:=["self","bits"]) ["name","bits","self"] 1 [1,0] rfl rfl rfl (by room) rfl (by room)
  (qW (K:=K) rfl (qD (K:=K) rfl (pv 0) rfl)) (fun _ _ _ _=>(qw (i:=0) (show(["name","bits","self"]:LS).Nodup by room) rfl (yJ rfl))) jB
  (fun _ _ _ _=>(zk (qQ (qq A (hmR u) qz (qa (pv 1) (qa (qt (qu (K:=K) rfl I) (qD (K:=K) rfl (pv 2) rfl) (pv 0) (fun _ _=>rfl)) qd))))))
  (fun _ _ _ _=>(pv 0))))),?_⟩
  apply .inl ⟨x,cw,dx,_,.ref ol,rfl,v,T.wcl,T.wo,qbT,?_⟩;show .inl ⟨⟨_,SqL.of t⟩,jF (K:=K) (fun i ys H'=>H'=H/\ys=(inB (ss.take i) 0 b).map V.str) ⟨rfl,by simp[inB]⟩ (fun i ys H' _ e=>by rw[e.1];show SqL.of t) (fun i y ys H' r e=>?_) fun ys H' e=>?_⟩
  .obtain⟨rfl,rfl⟩:=e;have G:i<ss.length:=by simpa using(yc.mp r).1
   have c:ss[i]?=some ss[i]:=yb G;generalize ss[i]=s at c;have B:y=.str s:=by rw[yd,c] at r;cases r;rfl
   subst B;obtain⟨j,J,C,z⟩:=zc (i:=0) (ye c);rw[xY] at z;have p:j=i:=qA hw.nd C c;subst p;have g:ss.take (j+1)=ss.take j++[s]:=by rw[yR,c];rfl
   have a:(ss.take j).length=j:=by rw[yP];lk
   apply .inl ⟨x,cw,dx,_,.ref d,rfl,v,T.wcl,T.wn,jU,?_⟩;apply .inr ⟨d,.int j,rfl,?_,?_⟩
   .have:=DGet.k (k:=Sum.inr s) D;rw[z] at this;show this
   apply⟨_,_,rfl,by lk,?_⟩;rw[qcJ];ext
   have few:((inB (ss.take j) 0 b).map V.str).length<sizeLine:=by
    rw[ya];show qi (yi (qbl _ _ _) (by rw[a];have:=hw.few;lk))
   show qG (fun o=>?_) fun o=>?_
   .ext;show⟨few,rfl,?_⟩;rw[g,qa6,a,xY,yE o];simp
   .show⟨rfl,?_⟩;rw[g,qa6,a,xY,yC o];simp
  .obtain⟨rfl,rfl⟩:=e;have m:ss.take (ss.map V.str).length=ss:=by rw[ya,yW]
   rw[m];show⟨?_,fun l hl=>q l hl⟩;rw[ya];show yX (qi (yi (qbl _ _ _) (by have:=hw.few;lk)))
theorem ok_bs(F:Fun K "beside" "Web.beside" zo f fd)(T:Txt K mg cc cw)(g:MethOk P w K mg base CX0 5 cw "bits_beside" ["self","place"] (spBB cw))(l:MethOk P w K mg base CX0 2 cw "names_in" ["self","bits"] (spNIn cw)):FnOk P w K mg base CX0 6 f fd ["self","place"] (spBs cw):=by
 show F.ok uB fun _ _ _ _ H vs Q E b h=>?_
 .obtain⟨x,ss,ns,y,j,rfl,a,i,q⟩:=h;obtain⟨dx,d,ol,n,c,_⟩:=id a;show⟨_,(qe (qk (qF l (hmR b) (pv 0) (qa (qF g (hmR b) (pv 0) (qa (pv 1) qd)) qd)))),?_⟩;apply⟨x,dx,_,rfl,c,zO (by room),?_⟩;apply⟨x,dx,_,rfl,c,zO (by room),?_⟩;apply⟨x,ss,ns,y,j,rfl,a,i,fun H1 e=>?_⟩;apply⟨x,ss,ns,_,rfl,a.same e,q H1 e⟩
theorem ok_tied(F:Fun K "tied" "Web.tied" qag f fd)(T:Txt K mg cc cw)(m:MethOk P w K mg base CX0 5 cw "bits_beside" ["self","place"] (spBB cw))(g:MethOk P w K mg base CX0 4 cw "number_of" ["self","place"] (spNum cw))
  (l:DefOk P w K mg base CX0 1 "has_bit" ["bits","number"] spBit):FnOk P w K mg base CX0 6 f fd ["self","one","other"] (spTied cw):=by
 show F.ok ud fun _ _ _ _ H vs Q E b h=>?_
 .obtain⟨x,ss,ns,y,z,j,i,rfl,a,p,o,q⟩:=h;obtain⟨dx,d,ol,n,e,_⟩:=id a;show⟨_,(qc (qo (i:=3) ud.nd rfl (yJ rfl) (qF m (hmR b) (pv 0) (qa (pv 1) qd)))
 (qe (qk (qq l (hmR b) qz (qa (pv 3) (qa (qF g (hmR b) (pv 0) (qa (pv 2) qd)) qd)))))),?_⟩
  apply⟨x,dx,_,rfl,e,zO (by room),?_⟩;apply⟨x,ss,ns,y,j,rfl,a,p,fun H1 c=>?_⟩;apply⟨x,dx,_,rfl,c _ _ e,zO (by room),?_⟩;apply⟨x,ss,ns,z,i,rfl,a.same c,o,fun H2 r=>?_⟩;apply⟨_,_,rfl,by lk,?_⟩;rw[qcJ];show q H2 (c.trans r)
theorem ok_pls(F:Fun K "places" "Web.places" zn f fd)(T:Txt K mg cc cw):FnOk P w K mg base CX0 1 f fd ["self"] (spPls cw):=by
 show F.ok uA fun _ _ _ _ H vs Q E g h=>?_
 .obtain⟨x,ss,ns,rfl,⟨dx,d,ol,n,b,c,a,e,hw⟩,q⟩:=h;show⟨_,(qe (qk (ji (zV (K:=K) rfl rfl) rfl T.b_list YY (qa (qD (K:=K) rfl (pv 0) rfl) qd)))),?_⟩;apply .inl ⟨x,cw,dx,_,.ref ol,rfl,b,T.wcl,T.wo,qbT,?_⟩;apply .inl ⟨ol,_,rfl,.inl (SqL.of a),q⟩
theorem qeE(b:ss.Nodup)(h:ss[i]?=some s):ss.idxOf s=i:=by
 have a:s∈ss:=ye h;have hl:ss.idxOf s<ss.length:=YD a;show qA b (by rw[yb hl,Y7]) h
theorem qah(f:ss.Nodup)(b:Nat):inB ss 0 b=ss.filter fun s=>b.testBit (ss.idxOf s):=by
 have e:∀ k,k<=ss.length->inB (ss.take k) 0 b=(ss.take k).filter fun s=>b.testBit (ss.idxOf s):=fun k=>by
  induction k with
  | zero=>intro _;simp[inB]
  | succ k ih =>
   intro h;have a:ss[k]?=some ss[k]:=yb (by lk);generalize ss[k]=g at a;have d:ss.take (k+1)=ss.take k++[g]:=by rw[yR,a];rfl
   have c:(ss.take k).length=k:=by rw[yP];lk
   rw[d,qa6,Yt,ih (by lk),c,xY]
   congr 1
   rw[Yq,xB,qeE f a]
 have:=e ss.length (yh _)
 rwa[yW] at this
theorem KI:FnScope ["self","ties","one","other"] ["self"] (qh qai):=fS
theorem qdU(a:ss.Nodup){b:Nat}(h:s∈inB ss 0 b):s∈ss/\b.testBit (ss.idxOf s)=true:=by
 rw[qah a] at h;show yp.mp h
noncomputable def qeU(ss:LS)(ns:LN)(i:Nat):LP:=((inB ss 0 (ns.getD i 0)).filter fun o=>decide (i<ss.idxOf o)).map fun o=>(ss.getD i "",o)
noncomputable def qR(ss:LS)(ns:LN)(i:Nat):LP:=(List.range i).flatMap (qeU ss ns)
def PrAt(H H':Hp)(l:Addr)(t:Addr)(ab:Str×Str):Prop:=H t=none/\t≠l/\H' t=some (.tup [.str ab.1,.str ab.2])
theorem PrAt.same(h:PrAt H H1 l t ab)(s:L2.Same H1 H2):PrAt H H2 l t ab:=⟨h.1,h.2.1,s _ _ h.2.2⟩
inductive spTs(cw:Addr)(vs:List V)(H:Hp)(Q:VK)(E:XK):Prop|mk (x:Addr) (ss:LS) (ns:LN) (_:vs=[.ref x]) (_:WebAt cw H x ss ns) (_:∀(l:Addr) (ts:LQ) (H':Hp),L2.Same H H'->H l=none->H' l=some (.lst (ts.map V.ref))->ts.length<=196->All2 (PrAt H H' l) ts (qR ss ns ss.length)->Q (.ref l) H')
theorem ok_ts(F:Fun K "ties" "Web.ties" qai f fd)(T:Txt K mg cc cw)(KS:MethOk P w K mg base CX0 6 cw "beside" ["self","place"] (spBs cw)):FnOk P w K mg base CX0 7 f fd ["self"] (spTs cw):=by
 show F.ok KI fun _ _ _ _ H vs Q E hr h=>?_
 .obtain⟨x,ss,ns,rfl,hW,q⟩:=h;have hu:=jZ hr;obtain⟨dx,d,ol,n,hx,hd,ho,hn,hw⟩:=id hW;have few:=hw.few
  have Z:∀(H1:Hp) (y:Str) (i:Nat),L2.Same H H1->ss[i]?=some y->DGet H1 d (.str y) (some (.int (i:Nat))):=fun H1 y i R D=>by
   obtain⟨j,hj,gj,vj⟩:=zc (i:=0) (ye D);rw[xY] at vj;have af:j=i:=qA hw.nd gj D;subst af;have:=DGet.k (k:=Sum.inr y) (R _ _ hd);rw[vj] at this;show this
  show⟨_,(qc (qo (i:=1) KI.nd rfl (yJ rfl) (qI qd))
 (qc (ju yT rfl (qW (K:=K) rfl (qD (K:=K) rfl (pv 0) rfl)) (qw (i:=2) KI.nd rfl (yJ rfl))
 (qe (ju yT rfl (qW (K:=K) rfl (qF KS (hmR hr) (pv 0) (qa (pv 2) qd))) (qw (i:=3) KI.nd rfl (yJ rfl))
 (qe (qK (qm qdB (qt (qu (K:=K) rfl hu) (qD (K:=K) rfl (pv 0) rfl) (pv 2) (fun _ _=>rfl)) (qt (qu (K:=K) rfl hu) (qD (K:=K) rfl (pv 0) rfl) (pv 3) (fun _ _=>rfl)) (qx _)) (qe (qL (qbA (K:=K) rfl yN y8 y9 qS (pv 1) (qa (jP (qa (pv 2) (qa (pv 3) qd))) qd)))) qr)))))
 (qe (qk (pv 1))))),?_⟩
  apply⟨by decide,fun l hl=>?_⟩;have s0:=qN (Sr H) (o:=.lst []) hl;apply .inl ⟨x,cw,dx,_,.ref ol,rfl,s0 _ _ hx,T.wcl,T.wo,qbT,?_⟩;show .inl ⟨⟨_,SqL.of (s0 _ _ ho)⟩,jc (K:=K) (fun i J H'=>∃(ts:LQ) (x2 U:Option V),J=[some (.ref x),some (.ref l),x2,U]/\L2.Same H H'/\H' l=some (.lst (ts.map V.ref))/\ts.length<=i*14/\All2 (PrAt H H' l) ts (qR ss ns i))
   ⟨[],none,none,rfl,s0,qb,by simp,All2.nil⟩ (fun i J H' _ B=>by obtain⟨_,_,_,_,z,_⟩:=B;show SqL.of (z _ _ ho)) (fun i y J H1 hy B=>?_) fun J H1 B=>?_⟩
  .obtain⟨ts,x2,U,rfl,R,G,s,c⟩:=B;have hi:i<ss.length:=by simpa using(yc.mp hy).1
   have D:ss[i]?=some ss[i]:=yb hi;generalize ss[i]=p at D;have ey:y=.str p:=by rw[yd,D] at hy;cases hy;rfl
   subst ey;have al:=hw.nm p (ye D);apply⟨x,dx,_,rfl,R _ _ hx,zO (by room),?_⟩;apply⟨x,ss,ns,p,i,rfl,hW.same R,D,fun H2 s2 b X=>?_⟩;have s3:=R.trans s2;have s4:=qN s3 (o:=.lst ((inB ss 0 (ns.getD i 0)).map V.str)) X;have S:=qN s2 (o:=.lst ((inB ss 0 (ns.getD i 0)).map V.str)) X;have eb:upd H2 b (.lst ((inB ss 0 (ns.getD i 0)).map V.str)) b=some (.lst ((inB ss 0 (ns.getD i 0)).map V.str)):=qb;have ah:b≠l:=fun e=>by rw[e,s2 _ _ G] at X;cases X
   have aj:H b=none:=s3.free X;show .inl ⟨⟨_,SqL.of qb⟩,?_⟩;generalize upd H2 b (.lst ((inB ss 0 (ns.getD i 0)).map V.str))=H3 at s4 S eb ⊢;have L:∀ o,o∈inB ss 0 (ns.getD i 0)->o∈ss:=fun o h=>(qdU hw.nd h).1;have ad:=qbl (ns.getD i 0) ss 0;have r:qeU ss ns i=((inB ss 0 (ns.getD i 0)).filter fun o=>decide (i<ss.idxOf o)).map fun o=>(ss.getD i "",o):=rfl;have aa:ss.getD i ""=p:=by simp[List.getD,D]
   rw[aa] at r;generalize ak:inB ss 0 (ns.getD i 0)=bs at eb L ad r ⊢;show jc (K:=K) (fun k J H'=>∃(us:LQ) (U:Option V),J=[some (.ref x),some (.ref l),some (.str p),U]/\L2.Same H H'/\H' b=some (.lst (bs.map V.str))/\H' l=some (.lst (us.map V.ref))/\us.length<=i*14+k/\All2 (PrAt H H' l) us (qR ss ns i++((bs.take k).filter fun o=>decide (i<ss.idxOf o)).map fun o=>(p,o)))
    ⟨ts,_,rfl,s4,eb,S _ _ G,s,by simpa using c.mono fun _ _ h=>h.same S⟩ (fun k J H' _ B=>by obtain⟨_,_,_,_,z,_⟩:=B;show SqL.of z) (fun k u J H5 N B=>?_) fun J H5 B=>?_
   .obtain⟨us,U,rfl,I,C,g,v,a⟩:=B;have hk:k<bs.length:=by simpa using(yc.mp N).1
    have gk:bs[k]?=some bs[k]:=yb hk;generalize bs[k]=m at gk;have eu:u=.str m:=by rw[yd,gk] at N;cases N;rfl
    subst eu;have ag:=L m (ye gk);have ae:=YD ag;have ac:ss[ss.idxOf m]?=some m:=by rw[yb ae,Y7]
    have Y:bs.take (k+1)=bs.take k++[m]:=by rw[yR,gk];rfl
    apply .inl ⟨x,cw,dx,_,.ref d,rfl,I _ _ hx,T.wcl,T.wn,jU,?_⟩;apply .inr ⟨d,.int i,rfl,Z H5 p i I D,?_⟩;apply .inl ⟨x,cw,dx,_,.ref d,rfl,I _ _ hx,T.wcl,T.wn,jU,?_⟩;apply .inr ⟨d,.int (ss.idxOf m:Nat),rfl,Z H5 m _ I ac,?_⟩;apply qG (fun M=>?_) fun M=>?_
    .have A:i<ss.idxOf m:=by have:=yk M;lk
     apply⟨.inl ⟨rfl,_,SqL.of g⟩,?_⟩;apply⟨by show 2<=sizeLine;decide,fun t ht=>?_⟩;have O:l≠t:=qB g ht;have ai:b≠t:=qB C ht;have s6:=qN (Sr H5) (o:=.tup [.str p,.str m]) ht;apply⟨l,_,_,rfl,rfl,by rw[qf O];show g,by rw[ya];show qi (by have:i*14<=14*14:=Nat.mul_le_mul_right 14 (by lk);lk),?_⟩;show⟨us++[t],_,rfl,qaB (I.trans s6) hl,by rw[qf ah,qf ai];show C,by rw[qb,yK];rfl,by rw[yt];show us.length+1<=_;lk,?_⟩;rw[Y,Yt,yK,<- yZ];have W:([m].filter fun o=>decide (i<ss.idxOf o)).map (fun o=>(p,o))=[(p,m)]:=by simp[A]
     rw[W];show All2.snoc (a.mono fun t' ab h=>⟨h.1,h.2.1,?_⟩) ⟨I.free ht,O.symm,?_⟩
     .rw [qf h.2.1];show s6 _ _ h.2.2
     .rw [qf O.symm,qb]
    .have A:¬ i<ss.idxOf m:=fun h=>M (yH (by lk));show⟨us,_,rfl,I,C,g,by lk,?_⟩;have W:([m].filter fun o=>decide (i<ss.idxOf o)).map (fun o=>(p,o))=[]:=by simp[A]
     rw[Y,Yt,yK,W,Yg];show a
   .obtain⟨us,U,rfl,I,C,g,v,a⟩:=B;rw[ya,yW] at a;rw[ya] at v;show⟨us,_,_,rfl,I,g,by lk,?_⟩;unfold qR at a ⊢;rw[kS,Xn];have W:[i].flatMap (qeU ss ns)=(bs.filter fun o=>decide (i<ss.idxOf o)).map fun o=>(p,o):=by rw[<- r];simp
    rw[W];show a
  .obtain⟨ts,x2,U,rfl,R,G,s,c⟩:=B;rw[ya] at s c;apply q l ts H1 R hl G (by have:ss.length*14<=14*14:=Nat.mul_le_mul_right 14 few;lk) c
theorem uR:FnScope ["_law_script","_law_k"] ["_law_script","_law_k"] (qh qa7):=fS
theorem uW:FnScope ["_law_cell_here"] ["_law_cell_here"] (qh qbU):=fS
theorem K1:FnScope ["_law_box_here","_law_many","_law_number"] ["_law_box_here","_law_many"] (qh qa8):=fS
theorem uN:FnScope ["_law_names_here"] ["_law_names_here"] (qh zW):=fS
theorem uX:FnScope ["_law_box_here"] ["_law_box_here"] (qh qbm):=fS
def Box(H:Hp)(p:Addr):Prop:=∃ a b c:Int,H p=some (.lst [.int a,.int b,.int c])
def BB(p:Addr)(H H':Hp):Prop:=(∀ b o,b≠p->H b=some o->H' b=some o)/\Box H' p
theorem BB.refl(h:Box H p):BB p H H:=⟨fun _ _ _ e=>e,h⟩
theorem BB.trans(a:BB p H H1)(b:BB p H1 H2):BB p H H2:=⟨fun c o n e=>b.1 c o n (a.1 c o n e),b.2⟩
theorem BB.new(a:BB p H H1)(hl:H1 l=none):BB p H (upd H1 l o):=by
 obtain⟨x,y,z,b⟩:=a.2;show⟨fun c u n e=>?_,x,y,z,?_⟩
 .have q:=a.1 c u n e;rw[qf (qB q hl)];show q
 .rw [qf (qB b hl)];show b
inductive spTake(vs:List V)(H:Hp)(Q:VK)(E:XK):Prop|mk (p:Addr) (m:Int) (_:vs=[.ref p,.int m]) (_:Box H p) (_:0<m) (_:m<1073741824) (_:∀(r:Int) (H':Hp),0<=r->r<m->BB p H H'->Q (.int r) H')
theorem ok_take(F:Fun K "_law_take" "_law_take" qa8 f fd):FnOk P w K mg base CX0 1 f fd ["_law_box_here","_law_many"] spTake:=by
 show F.ok K1 fun _ _ _ _ H vs Q E l h=>?_
 .obtain⟨p,m,rfl,⟨a,b,c,g⟩,j,h1,k⟩:=h;have d:=jZ l;show⟨_,(qc (qK (qm qdC (qt (qu (K:=K) rfl d) (pv 0) qg (fun _ _=>rfl)) qg (qx _)) (qc (qo (i:=2) K1.nd rfl (yJ rfl) (qH qaq (qt (qu (K:=K) rfl d) (pv 0) qg (fun _ _=>rfl)) (pv 1)))
 (qc (jD (qH qdA (qt (qu (K:=K) rfl d) (pv 0) qg (fun _ _=>rfl)) (pv 1)) (jO (pv 0) qg (jQ d)))
 (qe (qk (pv 2))))) qr)
 (qc (jD (qH (jN (K:=K) rfl) (qt (qu (K:=K) rfl d) (pv 0) qg (fun _ _=>rfl)) qg) (jO (pv 0) qg (jQ d)))
 (qc (qo (i:=2) K1.nd rfl (yJ rfl) (qH qaq (qH (jN (K:=K) rfl) (qH (jN (K:=K) rfl) (qH qbL (qt (qu (K:=K) rfl d) (pv 0) qg (fun _ _=>rfl)) qg) (qH qbL qg (qt (qu (K:=K) rfl d) (pv 0) qg (fun _ _=>rfl)))) qg) qg))
 (qc (qo (i:=2) K1.nd rfl (yJ rfl) (qH qaq (qH (jN (K:=K) rfl) (qH (jN (K:=K) rfl) (qH qbL (pv 2) (pv 2)) (qH qbL qg (qt (qu (K:=K) rfl d) (pv 0) qg (fun _ _=>rfl)))) qg) qg))
 (qe (qk (qH qaq (qH qaq (qH qbL (pv 2) (qH (jN (K:=K) rfl) (pv 2) qg)) qg) (pv 1)))))))),?_⟩
  apply .inl (zv g rfl ?_);apply qG (fun hc=>?_) (fun hc=>?_)
  .ext;show .inl (zv g rfl ?_);apply vI j ?_;apply .inl (zv g rfl ?_);apply vI ⟨j,h1⟩ ?_;apply .inl (qeb g rfl ?_);apply k _ _ (YO _ (by lk)) (YQ _ j) ⟨fun x o n e=>by rw[qf n];show e,_,_,_,qb⟩
  .ext;show .inl (zv g rfl ?_);apply .inl (qeb g rfl ?_);apply .inl (zv qb rfl ?_);apply qbM (.inr (by decide)) ?_;apply .inl (zv qb rfl ?_);apply qbM (.inl (by decide)) ?_;apply vI (by decide) ?_;ext;have q:=YO (b*48271+7919*(c+1)+101) (show(2147483647:Int)≠0 by decide);have r:=YQ (b*48271+7919*(c+1)+101) (show(0:Int)<2147483647 by decide);show qbM (.inl ⟨by lk,by lk⟩) ?_;apply .inl (zv qb rfl ?_);apply qbM (.inl (by decide)) ?_;apply vI (by decide) ?_;ext;generalize ((b*48271+7919*(c+1)+101) % 2147483647*((b*48271+7919*(c+1)+101) % 2147483647)+104729*(c+1)+7)=z;have s:=YO z (show(2147483629:Int)≠0 by decide);have t:=YQ z (show(0:Int)<2147483629 by decide);show qbM (.inl ⟨by lk,by lk⟩) ?_;apply vI (by decide) ?_;apply vI j ?_;show k _ _ (YO _ (by lk)) (YQ _ j) ⟨fun x o n e=>by rw[qf n];show e,_,_,_,qb⟩
inductive spCell(K:W.Frag)(vs:List V)(H:Hp)(Q:VK)(E:XK):Prop|mk (a:Addr) (ns:LX) (k:Int) (_:vs=[.ref a,.int k]) (_:SqL K H a (ns.map V.int)) (_:0<=k) (_:k<1000) (_:∀ i:Int,Q (.int i) H)
theorem ok_cell(F:Fun K "_law_cell" "_law_cell" qa7 f fd)(T:Txt K mg cc cw):FnOk P w K mg base CX0 1 f fd ["_law_script","_law_k"] (spCell K):=by
 show F.ok uR fun _ _ _ _ H vs Q E l h=>?_
 .obtain⟨a,ns,k,rfl,e,j,h1,q⟩:=h;have m:=jZ l;show⟨_,(qc (qK (qm qdB (pv 1) (qp (zu (K:=K) rfl) rfl T.b_len YT (qa (pv 0) qd)) (qx _)) (qe (qk (qt (qu (K:=K) rfl m) (pv 0) (pv 1) (fun _ _=>rfl)))) qr)
 (qe (qk (qH (jN (K:=K) rfl) (qH qbL qg (pv 1)) qg)))),?_⟩
  apply qep e ?_;apply qG (fun hc=>?_) (fun hc=>?_)
  .ext;have c:k<(ns.map V.int).length:=yk hc;obtain⟨v,g,b⟩:=qar j c;rw[yd] at b
   cases d:ns[k.toNat]? with
   | none=>rw[d] at b;cases b
   | some i =>
    rw[d] at b;cases b;show .inl (vIxLs e g (q i))
  .ext;show qbM (.inl (by decide)) ?_;apply q _
inductive spBox(vs:List V)(H:Hp)(Q:VK)(E:XK):Prop|mk (i:Int) (_:vs=[.int i]) (_:∀(p:Addr) (a b c:Int),H p=none->Q (.ref p) (upd H p (.lst [.int a,.int b,.int c])))
theorem ok_box(F:Fun K "_law_box" "_law_box" qbU f fd):FnOk P w K mg base CX0 1 f fd ["_law_cell_here"] spBox:=by
 show F.ok uW fun _ _ _ _ H vs Q E b h=>?_
 .obtain⟨i,rfl,q⟩:=h;have c:=jZ b;show⟨_,(qc (qK (qm op_ge (pv 0) (qH op_pow qg qg) (qx _)) (qe (qk (qI (qa (pv 0) (qa (qH qaq (pv 0) qg) (qa qg qd)))))) qr)
 (qe (qk (qI (qa qg (qa (qH qaq (pv 0) qg) (qa qg qd))))))),?_⟩
  apply vI ⟨by decide,by decide,by decide⟩ ?_;apply qG (fun hc=>?_) (fun hc=>?_)
  .ext;show vI (by decide) ?_;apply⟨by show 3<=sizeLine;decide,fun p a=>q p _ _ _ a⟩
  .ext;show vI (by decide) ?_;apply⟨by show 3<=sizeLine;decide,fun p a=>q p _ _ _ a⟩
theorem BB.apart(a:BB p H H1)(hl:H1 l=none):l≠p:=fun e=>by subst e;obtain⟨_,_,_,z⟩:=a.2;rw[z] at hl;cases hl
theorem BB.free(a:BB p H H1)(hl:H1 l=none):H l=none:=by
 cases q:H l with
 | none=>rfl
 | some o=>rw[a.1 l o (a.apart hl) q] at hl;cases hl
theorem BB.put(a:BB p H H1)(hl:H l=none)(d:l≠p):BB p H (upd H1 l o):=by
 obtain⟨x,y,z,b⟩:=a.2;show⟨fun c u n e=>by rw[qf (qB e hl)];show a.1 c u n e,x,y,z,by rw[qf d.symm];show b⟩
theorem BB.same(a:BB p H H1)(s:L2.Same H1 H2):BB p H H2:=by
 obtain⟨x,y,z,b⟩:=a.2;show⟨fun c u n e=>s c u (a.1 c u n e),x,y,z,s _ _ b⟩
theorem Box.apart(h:Box H p)(hl:H l=none):l≠p:=(BB.refl h).apart hl
theorem qdV{lo a:Option Int}{y:V}(h:y∈qaw xs lo a):y∈xs:=by
 unfold qaw at h;show List.mem_of_mem_drop (List.mem_of_mem_take h)
noncomputable def NewH(H H':Hp):Hp:=fun a=>match H a with | none=>H' a | some _=>none
theorem odd_parts:∃ f p q w j y z a v,zt qbm=[.Return (some (.Subscript (.List f p) (.Call (.Name "_law_take" q) [.Name "_law_box_here" w,.Constant (.int 10) j y] [] z) a)) v]/\∀(env:Env) (c:Expr->TE->Prop) (d:List Expr->TA->Prop),
  (∀ j a,c (.Constant .none j a) (tC .non))->(∀ i j a,c (.Constant (.int i) j a) (tC (.int i)))->(∀ b j a,c (.Constant (.bool b) j a) (tC (.bl b)))->(∀ x j a,c (.Constant (.str x) j a) (tC (.str x))) ->
  (∀ f a t,d f t->c (.List f a) (qfD t))->(∀ f A a t,d f t->c (.Tuple f A a) (qfC t))->(∀ a,c (.Dict [] [] a) qdK)->(∀ i j p a,c (.UnaryOp .USub (.Constant (.int i) j p) a) (tUn (rU fun i=>.int (-i)) (tC (.int i))))->d [] qek ->
  (∀ e f l t,c e l->d f t->starEach (e::f) env=(false,eval e env)::starEach f env->d (e::f) (qam l t)) ->
  d f (qam (tC .non) (qam (tC (.int 0)) (qam (tC (.bl true)) (qam (tC (.str "")) (qam (tC (.str "A")) (qam (qfD (qam (tC (.str "a")) qek)) (qam (qfC (qam (tC (.str "a")) (qam (tC (.str "b")) qek))) (qam qdK (qam (tUn (rU fun i=>.int (-i)) (tC (.int 1))) (qam (tC (.str "zzzzzzz")) qek)))))))))):=
 ⟨_,_,_,_,_,_,_,_,_,rfl,fun env c d r o m g hl s n u h hc=>hc _ _ _ _ (r _ _) (hc _ _ _ _ (o _ _ _) (hc _ _ _ _ (m _ _ _) (hc _ _ _ _ (g _ _ _) (hc _ _ _ _ (g _ _ _) (hc _ _ _ _ (hl _ _ _ (hc _ _ _ _ (g _ _ _) h rfl)) (hc _ _ _ _ (s _ _ _ _ (hc _ _ _ _ (g _ _ _) (hc _ _ _ _ (g _ _ _) h rfl) rfl)) (hc _ _ _ _ (n _) (hc _ _ _ _ (u _ _ _ _) (hc _ _ _ _ (g _ _ _) h rfl) rfl) rfl) rfl) rfl) rfl) rfl) rfl) rfl) rfl⟩
theorem j3:∀{l m:LS},l.Nodup->(∀ x∈l,x∈m)->l.length<=m.length
 | [],_,_,_=>xp _
 | x::r,m,hn,h=>by
  obtain⟨h1,c⟩:=yo.mp hn;have a:=h x yO;have d:=j3 (l:=r) (m:=m.erase x) c fun y b=>(List.mem_erase_of_ne (fun e=>h1 (by rw[<- e];show b))).mpr (h y (yI _ b));rw[List.length_erase_of_mem a] at d;have:0<m.length:=List.length_pos_of_mem a;simp only[yD];lk
theorem qaV(c:Str)(ss:LS):inV (.str c) (ss.map V.str)=decide (c∈ss):=by
 unfold inV;rw[List.any_map,YH,YB,YG];constructor
 .rintro ⟨y,a,e⟩;have:y=c:=kc e;rw[<- this];show a
 .intro h;show⟨c,h,Y6 c⟩
theorem zX(ss:LS):(ss.map V.str).all jR=true:=by rw[X7];show YR.mpr fun _ _=>rfl
inductive spFresh(vs:List V)(H:Hp)(Q:VK)(E:XK):Prop|mk (l:Addr) (ss:LS) (_:vs=[.ref l]) (_:H l=some (.lst (ss.map V.str))) (_:ss.length<=14) (_:∀(x:Str) (H':Hp),L2.Same H H'->jG x=true->x∉ss->Q (.str x) H')
noncomputable def signs:LS:=("abcdefghijklmno":Str).cps.toList.map fun c=>⟨#[c]⟩
theorem signs_nodup:signs.Nodup:=by room
theorem qbn:signs.length=15:=by room
theorem ok_fresh(F:Fun K "_law_fresh" "_law_fresh" zW f fd):FnOk P w K mg base CX0 1 f fd ["_law_names_here"] spFresh:=by
 show F.ok uN fun _ _ _ _ H vs Q E y h=>?_
 .obtain⟨l,ss,rfl,hl,few,q⟩:=h;have s:=jZ y;show⟨_,(qe (qk (qt (qu (K:=K) rfl s) (jT (sc:=qh zW) (XN:=["_law_names_here"]) ["_law_sign","_law_names_here"] 1 [0] rfl rfl rfl (by room) rfl (by room)
  (qW (K:=K) rfl jt) (fun _ _ _ _=>(qw (i:=0) (show(["_law_sign","_law_names_here"]:LS).Nodup by room) rfl (yJ rfl))) jB
  (fun _ _ _ _=>(zk (qm (qa3 (K:=K) rfl s) (pv 0) (pv 1) (by with_unfolding_all rfl))))
  (fun _ _ _ _=>(pv 0))) qg (fun _ _=>rfl)))),?_⟩
  apply qbK (fun i ys H'=>H'=H/\ys=((signs.take i).filter fun c=>!decide (c∈ss)).map V.str) ⟨rfl,rfl⟩ (fun i c ys H' hc o=>?_) fun ys H' o=>?_
  .obtain⟨rfl,rfl⟩:=o;ext
   have t:signs[i]?=some (⟨#[c]⟩:Str):=by
    unfold signs;rw[yd];have:("abcdefghijklmno":Str).cps.toList[i]?=some c:=by simpa using hc
    rw[this];rfl
   have e:signs.take (i+1)=signs.take i++[⟨#[c]⟩]:=by rw[yR,t];rfl
   show .inl ⟨l,_,rfl,.inl (SqL.of hl),rfl,zX ss,?_⟩;rw[qaV];apply qG (fun h=>?_) fun h=>?_
   .ext;show⟨?_,rfl,?_⟩
    .rw [ya];show qi (yi (Yw _ _) ?_);rw[yP,qbn];lk
    .rw [e,Yt,yK];have:(!decide ((⟨#[c]⟩:Str)∈ss))=true:=h;simp[this]
   .show⟨rfl,?_⟩;rw[e,Yt];have:(!decide ((⟨#[c]⟩:Str)∈ss))=false:=by simpa using h
    simp[this]
  .obtain⟨rfl,rfl⟩:=o
   have z:signs.take ("abcdefghijklmno":Str).cps.size=signs:=by
    rw[show("abcdefghijklmno":Str).cps.size=signs.length by room,yW]
   rw[z]
   have n:∃ x r,(signs.filter fun c=>!decide (c∈ss))=x::r:=by
    cases h:signs.filter fun c=>!decide (c∈ss) with
    | cons x r=>show⟨x,r,rfl⟩
    | nil =>
     have d:∀ x∈signs,x∈ss:=fun x m=>by
      have:=List.filter_eq_nil_iff.mp h x m;simpa using this
     have:=j3 signs_nodup d;rw[qbn] at this;lk
   obtain⟨x,r,m⟩:=n
   have g:x∈signs/\x∉ss:=by
    have:x∈signs.filter fun c=>!decide (c∈ss):=by rw[m];show yO
    obtain⟨a,b⟩:=yp.mp this;show⟨a,by simpa using b⟩
   have p:jG x=true:=(show ∀ x∈signs,jG x=true by room) x g.1;show⟨?_,fun l2 u=>?_⟩
   .rw [ya];show yX (qi (yi (Yw _ _) ?_));rw[qbn];lk
   .rw [m];apply .inl (zv (v:=.str x) qb (qv (j:=0) rfl) ?_);show q x _ (qN (Sr H') u) p g.2
theorem Kg:FnScope ["_law_box_here","_law_many","_law_letters","_law_way","_law_shift","_law_step","_law_stem","_law_ahead","_law_names_here","_law_k","_law_name"] ["_law_box_here","_law_many"] (qh zy):=fS
theorem slice_ix(k n:Nat):Builtin.Str.strSliceIndices none (some (k:Int)) 1 n=List.range (min k n):=by
 unfold Builtin.Str.strSliceIndices sliceRange;simp only[show(1:Int)>0 by decide,Xf];rw[yC (show ¬ ((k:Int)<0) by lk)];have a:max 0 (min (k:Int) n)=((min k n:Nat):Int):=by lk
 rw[a];have b:(fun(j:Nat)=>((0:Int)+1*(j:Int)).toNat)=id:=by funext j;show _=j;lk
 rw[b,List.map_id]
 congr 1
 split
 .rw [Int.ediv_one];lk
 .omega
theorem qdW(a:Array Nat):∀ m,m<=a.size->(List.range m).filterMap (a[·]?)=a.toList.take m
 | 0,_=>rfl
 | m+1,h=>by
  rw[kS,List.filterMap_append,qdW a m (by lk),yR]
  congr 1
  have e:a[m]?=some a[m]:=xy (by lk);have b:a.toList[m]?=some a[m]:=by rw[Xb];show e
  rw[b,Xj,e];rfl
theorem qaj(z:Str)(k:Nat):(Txt.slice z none (some (k:Int))).cps.toList=z.cps.toList.take k:=by
 unfold Txt.slice;rw[slice_ix];have hz:z.length=z.cps.toList.length:=by simp[Str.length]
 split
 .rename_i h
  rw[List.length_range] at h;have:min k z.length=z.length:=by simpa using h
  rw[YX (by lk)]
 .show(List.filterMap _ _).toArray.toList=_;rw[qdW z.cps (min k z.length) (XD _ _)];show z.cps.toList.take (min k z.length)=_;by_cases a:k<=z.length
  .rw [kQ a]
  .rw [kE (by lk),YX (by lk),YX (by lk)]
theorem qaM(a b:Str):(a++b).cps.toList=a.cps.toList++b.cps.toList:=by
 show(a.cps++b.cps).toList=_;show Array.toList_append
theorem qdg:∀{xs:LS},(∀ x∈xs,x.cps.toList.all sg=true)->(Str.join "" xs).cps.toList.all sg=true
 | [],_=>rfl
 | [x],h=>h x (by simp)
 | x::y::r,h=>by
  have e:Str.join "" (x::y::r)=x++""++Str.join "" (y::r):=rfl;rw[e,qaM,qaM,XY,XY,h x (by simp),qdg fun z hz=>h z (yI _ hz)]
  room
theorem qeV{c:Nat}(h:97<=c)(b:c<=122):sg c=true:=by
 have a:∀ i,i<26->sg (97+i)=true:=by room
 have:=a (c-97) (by lk)
 rwa[show 97+(c-97)=c by lk] at this
theorem join_len{xs:LS}(h:∀ x∈xs,x.length=1):(Txt.join "" xs).length=xs.length:=by
 have e:Txt.join "" xs=Str.join "" xs:=Ye.mp (join_plain_closes "" xs);rw[e]
 cases xs with
 | nil=>rfl
 | cons a l =>
  rw[len_join_cons]
  have b:∀ l:LS,(∀ x∈l,x.length=1)->(l.map (·.length)).sum=l.length:=by
   intro l
   induction l with
   | nil=>intro _;rfl
   | cons a l ih =>
    intro h;rw[Yy,List.sum_cons,h a yO,ih fun x c=>h x (yI _ c),yD];lk
  have z:("":Str).length=0:=by room
  rw[b _ h,z];lk
theorem sum_ones{xs:LS}(h:∀ x∈xs,x.length=1):(xs.map (·.length)).sum=xs.length:=by
 induction xs with
 | nil=>rfl
 | cons a l ih =>
  rw[Yy,List.sum_cons,h a yO,ih fun x b=>h x (yI _ b),yD];lk
def Signs(p:Addr)(H:Hp)(i:Nat)(ys:List V)(H':Hp):Prop:=BB p H H'/\∃ xs:LS,ys=xs.map V.str/\xs.length=i/\∀ x∈xs,x.length=1/\x.cps.toList.all sg=true
theorem Signs.start(h:Box H p):Signs p H 0 [] H:=⟨BB.refl h,[],rfl,rfl,fun _ h=>by cases h⟩
theorem Signs.more{c:Nat}(h:Signs p H i ys H1)(b:BB p H1 H2)(hc:sg c=true):Signs p H (i+1) (ys++[.str ⟨#[c]⟩]) H2:=by
 obtain⟨a,xs,rfl,hl,h1⟩:=h;show⟨a.trans b,xs++[⟨#[c]⟩],by rw[yK];rfl,by rw[yt,hl];rfl,fun x d=>?_⟩;rcases yA.mp d with z | z
 .show h1 x z
 .rw [yx.mp z];show⟨rfl,by simp[hc]⟩
theorem Signs.len(h:Signs p H i ys H1):ys.length=i:=by
 obtain⟨_,xs,rfl,hl,_⟩:=h;rw[ya,hl]
noncomputable def L26:Str:="abcdefghijklmnopqrstuvwxyz"
theorem qeF{i:Int}(b:0<=i)(h1:i<26):atI L26.cps.toList i=some (97+i.toNat):=by
 obtain⟨n,rfl⟩:=xN b;have a:∀ n,n<26->L26.cps.toList[n]?=some (97+n):=by room
 rw[xD];show qv (a n (by lk))
theorem qdh{x:Str}{l:LN}(e:x.cps.toList=l)(h1:1<=l.length)(a:l.length<=6)(h:l.all sg=true):jG x=true:=by
 have hl:x.length=l.length:=by rw[<- e];simp[Str.length]
 unfold jG;rw[yE ⟨by lk,by lk⟩,e];show h
theorem qcp(h:∀(i j:Nat) (s:Str),ss[i]?=some s->ss[j]?=some s->i=j):ss.Nodup:=by
 show xx.mpr fun i j a c b e=>?_;have:=h i j ss[j] (by rw[yb a,e]) (yb c);lk
theorem qdi{step sh a b:Int}(c:step∈[(1:Int),3,5,7,9,11,15,25])(g:0<=a)(h:0<=b)(d:a<26)(f:b<26)(e:(sh+step*a) % 26=(sh+step*b) % 26):a=b:=by
 simp only[yv,yz,yU] at c;rcases c with rfl | rfl | rfl | rfl | rfl | rfl | rfl | rfl<;>lk
def NL(p:Addr)(H':Hp)(l:Addr)(ss:LS):Prop:=H' l=some (.lst (ss.map V.str))/\l≠p
structure NOk(ss:LS):Prop where
 few:ss.length<=14
 nd:ss.Nodup
 nm:∀ s∈ss,jG s=true
inductive spNames(vs:List V)(H:Hp)(Q:VK)(E:XK):Prop|mk (p:Addr) (m:Int) (_:vs=[.ref p,.int m]) (_:Box H p) (_:0<=m) (_:m<=14) (_:∀(l:Addr) (ss:LS) (H':Hp),BB p H H'->H l=none->NL p H' l ss->NOk ss->(ss.length:Int)<=m->Q (.ref l) H')
theorem ok_names(F:Fun K "_law_names" "_law_names" zy f fd)(T:Txt K mg cc cw)(X:DefOk P w K mg base CX0 1 "_law_take" ["_law_box_here","_law_many"] spTake):FnOk P w K mg base CX0 2 f fd ["_law_box_here","_law_many"] spNames:=by
 show F.ok Kg fun _ _ _ s H vs Q E O h=>?_
 .obtain⟨p,m,rfl,hB,m0,am,q⟩:=h;have hu:=jZ O;show⟨_,(qc (qo (i:=2) Kg.nd rfl (kg rfl) jt)
 (qc (qo (i:=3) Kg.nd rfl (yJ rfl) (qq X (hmR O) qz (qa (pv 0) (qa qg qd))))
 (qc (qo (i:=4) Kg.nd rfl (kg rfl) (qq X (hmR O) qz (qa (pv 0) (qa qg qd))))
 (qc (qo (i:=5) Kg.nd rfl (kg rfl) (qt (qu (K:=K) rfl hu) (qI (qa qg (qa qg (qa qg (qa qg (qa qg (qa qg (qa qg (qa qg qd))))))))) (qq X (hmR O) qz (qa (pv 0) (qa qg qd))) (fun _ _=>rfl)))
 (qc (qo (i:=6) Kg.nd rfl (kg rfl) (qbA (K:=K) rfl PySem.F.plainAttrs_str PySem.F.slot_str_join PySem.F.type_str_join (k_join (K:=K) rfl) jt (qa (jT (sc:=qh zy) (XN:=["_law_box_here","_law_many","_law_letters","_law_way","_law_shift","_law_step","_law_stem","_law_ahead","_law_names_here","_law_k","_law_name"]) ["_law_k","_law_letters","_law_box_here"] 1 [2,0] rfl rfl rfl (by room) rfl (by room)
  (za rfl T.b_range (qa qg qd)) (fun _ _ _ _=>(qw (i:=0) (show(["_law_k","_law_letters","_law_box_here"]:LS).Nodup by room) rfl (yJ rfl))) jB
  (fun _ _ _ _=>zj)
  (fun _ _ _ _=>(qt (qu (K:=K) rfl hu) (pv 1) (qq X (hmR O) qz (qa (pv 2) (qa qg qd))) (fun _ _=>rfl)))) qd)))
 (qc (qK (qm (zE (K:=K) rfl hu) (pv 3) qg (qx _)) (qe (qk (jT (sc:=qh zy) (XN:=["_law_box_here","_law_many","_law_letters","_law_way","_law_shift","_law_step","_law_stem","_law_ahead","_law_names_here","_law_k","_law_name"]) ["_law_k","_law_letters","_law_stem","_law_shift","_law_step"] 1 [2,6,4,5] rfl rfl rfl (by room) rfl (by room)
  (za rfl T.b_range (qa (pv 1) qd)) (fun _ _ _ _=>(qw (i:=0) (show(["_law_k","_law_letters","_law_stem","_law_shift","_law_step"]:LS).Nodup by room) rfl (yJ rfl))) jB
  (fun _ _ _ _=>zj)
  (fun _ _ _ _=>(qH (jN (K:=K) rfl) (qt (qu (K:=K) rfl hu) (pv 1) (qH qaq (qH (jN (K:=K) rfl) (pv 3) (qH qbL (pv 4) (qH qdA (pv 0) qg))) qg) (fun _ _=>rfl)) (jx (qdy (K:=K) rfl) (pv 2) j6 (jk (qH qaq (pv 0) qg)))))))) qr)
 (qc (qo (i:=7) Kg.nd rfl (yJ rfl) (qq X (hmR O) qz (qa (pv 0) (qa qg qd))))
 (qc (qo (i:=8) Kg.nd rfl (yJ rfl) (qI qd))
 (qc (ju yT rfl (za rfl T.b_range (qa (pv 1) qd)) (qw (i:=9) Kg.nd rfl (yJ rfl))
 (qc (qo (i:=10) Kg.nd rfl (yJ rfl) (qH (jN (K:=K) rfl) (jx (qdy (K:=K) rfl) (pv 6) j6 (jk (pv 7))) (qt (qu (K:=K) rfl hu) (pv 2) (qH qaq (qH (jN (K:=K) rfl) (pv 4) (qH qbL (pv 5) (pv 9))) qg) (fun _ _=>rfl))))
 (qe (qL (qbA (K:=K) rfl yN y8 y9 qS (pv 8) (qa (qH (jN (K:=K) rfl) (pv 10) (jx (qdy (K:=K) rfl) (pv 6) j6 (jk (qH qbL (qq X (hmR O) qz (qa (pv 0) (qa (qH qei qg (pv 7)) qd))) (qH qei (pv 3) qg))))) qd))))))
 (qe (qk (pv 8)))))))))))),?_⟩
  apply⟨p,3,rfl,hB,by decide,by decide,fun D H1 w0 w1 b1=>?_⟩;apply⟨p,26,rfl,b1.2,by decide,by decide,fun a H2 an ao b2=>?_⟩;replace b2:=b1.trans b2;apply⟨by show 8<=sizeLine;decide,fun l8 h8=>?_⟩;generalize S:[V.int 1,V.int 3,V.int 5,V.int 7,V.int 9,V.int 11,V.int 15,V.int 25]=xs;have b3:=b2.new (o:=.lst xs) h8;have n8:=b2.apart h8;have e8:upd H2 l8 (.lst xs) l8=some (.lst xs):=qb;generalize upd H2 l8 (.lst xs)=H3 at b3 e8 ⊢;apply⟨p,8,rfl,b3.2,by decide,by decide,fun r H4 r0 r1 B=>?_⟩;replace e8:=B.1 _ _ n8 e8;replace B:=b3.trans B;have al:xs.length=8:=by rw[<- S];rfl
  obtain⟨v,ix,hv⟩:=qar (xs:=xs) r0 (by lk)
  obtain⟨step,rfl,ac,ap,aq⟩:∃ i:Int,v=.int i/\i∈[(1:Int),3,5,7,9,11,15,25]/\0<=i/\i<=25:=by
   have hm:=ye hv;rw[<- S] at hm;simp only[yv,yz,yU] at hm;rcases hm with rfl | rfl | rfl | rfl | rfl | rfl | rfl | rfl<;>show⟨_,rfl,by decide,by decide,by decide⟩
  show .inl (zv e8 ix ?_);clear hv ix S e8;apply⟨rfl,?_⟩;apply⟨5,rfl,by decide,by decide,qby (lo:=0) (n:=5) (Signs p H4) (Signs.start B.2) (fun i ys H' J y=>?_) fun ys H5 y=>?_⟩
  .ext;show zg ?_;apply⟨p,26,rfl,y.1.2,by decide,by decide,fun r aj r0 r1 hb=>?_⟩;show .inl (qf4 (by room) (qeF r0 r1) ?_);show⟨by rw[y.len];show qi (by lk),y.more hb (qeV (by lk) (by lk))⟩
  .show⟨by rw[y.len];decide,fun l5 h5=>?_⟩;obtain⟨af,I,rfl,hn,h1⟩:=y;replace B:=(B.trans af).new (o:=.lst (I.map V.str)) h5;apply⟨_,l5,I,rfl,rfl,SqL.of qb,by rw[sum_ones fun x hx=>(h1 x hx).1,show("":Str).length=0 by room];lk,?_⟩;have u:(Txt.join "" I).length=5:=by rw[join_len fun x hx=>(h1 x hx).1];lk
   have C:(Txt.join "" I).cps.toList.all sg=true:=by
    have e:Txt.join "" I=Str.join "" I:=Ye.mp (join_plain_closes "" I);rw[e];show qdg fun x hx=>(h1 x hx).2
   generalize Txt.join "" I=b at u C ⊢;have Y:b.cps.toList.length=5:=by rw[<- u];simp[Str.length]
   have U:∀ k,(b.cps.toList.take k).all sg=true:=fun k=>YR.mpr fun c hc=>YR.mp C c (List.mem_of_mem_take hc)
   have R:∀ k:Nat,(Txt.slice b none (some (k:Int))).length=min k 5:=fun k=>by
    have:(Txt.slice b none (some (k:Int))).length=(Txt.slice b none (some (k:Int))).cps.toList.length:=by simp[Str.length]
    rw[this,qaj,yP,Y]
   generalize upd H5 l5 (.lst (I.map V.str))=H6 at B ⊢;have z:∀{i:Int} {H:Hp} {Q:VK},0<=i->i<26->Q (.str ⟨#[97+i.toNat]⟩) H->qfG K (.str L26) (.int i) H Q:=fun h0 h1 k=>.inl (qf4 (by room) (qeF h0 h1) k);apply .inl (.inl (.inl ⟨rfl,rfl,?_⟩));apply qG (fun hw=>?_) fun hw=>?_
   .ext;show⟨m,rfl,by lk,by lk,qby (lo:=0) (fun i ys H'=>H'=H6/\∃ ss:LS,ys=ss.map V.str/\ss.length=i/\∀(j:Nat) s,ss[j]?=some s->s.cps.toList=(97+((a+step*((j:Int) / 6)) % 26).toNat)::b.cps.toList.take (j % 6)) ⟨rfl,[],rfl,rfl,by simp⟩ (fun i ys H' J y=>?_) fun ys H' y=>?_⟩
    .obtain⟨rfl,ss,rfl,d,g⟩:=y;apply zg ?_;apply vI ⟨by decide,by decide⟩ ?_;apply qbM (.inl ⟨by lk,by lk⟩) ?_;apply vI (by decide) ?_;apply z (YO _ (by decide)) (YQ _ (by decide)) ?_;apply vI (by decide) ?_;apply qfR (yi (xT u) (by decide)) ?_;rw[k8,show((i:Int) % 6)=((i % 6:Nat):Int) by lk];show qeS (by rw[R];show 1+_<=_;show yX (qi (by lk))) ?_;show⟨by rw[ya,d];show qi (by lk),rfl,ss++[_],by rw[yK];rfl,by rw[yt,d];rfl,fun j s t=>?_⟩;by_cases N:j<ss.length
     .rw [yQ N] at t;show g j s t
     .rw [yB (by lk)] at t;have h0:j-ss.length=0:=by have:=(yc.mp t).1;simp at this;lk
      rw[h0] at t;cases t;have M:j=i:=by lk
      subst M;rw[qaM,qaj];rfl
    .obtain⟨rfl,ss,rfl,d,g⟩:=y;show⟨by rw[ya,d];show yX (qi (by lk)),fun l hl=>?_⟩;show q l ss _ (B.new hl) (B.free hl) ⟨qb,B.apart hl⟩ ⟨by lk,qcp fun i j s J t=>?_,fun s y=>?_⟩ (by lk)
     .have ei:=g i s J;have ej:=g j s t;have li:=(yc.mp J).1;have lj:=(yc.mp t).1;rw[ei,kR] at ej;obtain⟨e1,e2⟩:=ej;have e3:=congrArg List.length e2;rw[yP,yP,Y] at e3
      have e4:(i:Int) / 6=(j:Int) / 6:=qdi (sh:=a) ac (by lk) (by lk) (by lk) (by lk) (by
       have p1:=YO (a+step*((i:Int) / 6)) (show(26:Int)≠0 by decide);have p2:=YO (a+step*((j:Int) / 6)) (show(26:Int)≠0 by decide);lk)
      lk
     .obtain⟨j,t,e⟩:=Xm y;show qdh (g j s (by rw[yb t,e])) (by simp) (by simp[Y];lk) ?_;rw[Xp,U,qeV (by lk) (by have:=YQ (a+step*((j:Int) / 6)) (show(0:Int)<26 by decide);lk)];rfl
   .ext;show⟨p,4,rfl,B.2,by decide,by decide,fun ae H7 a0 a1 Z=>?_⟩;obtain⟨A,rfl⟩:=xN a0;replace Z:=B.trans Z;apply⟨by decide,fun l hl=>?_⟩;have b8:=Z.new (o:=.lst []) hl;have nl:=Z.apart hl;have aa:=Z.free hl;apply⟨m,rfl,by lk,by lk,zS (fun i σ H'=>BB p H H'/\∃(ss:LS) (x9 W:Option V),σ=[some (.ref p),some (.int m),some (.str L26),some (.int D),some (.int a),some (.int step),some (.str b),some (.int (A:Int)),some (.ref l),x9,W]/\H' l=some (.lst (ss.map V.str))/\ss.length=i/\∀(j:Nat) s,ss[j]?=some s->jG s=true/\s.cps.toList[A]?=some (97+((a+step*(j:Int)) % 26).toNat))
     ⟨b8,[],none,none,rfl,qb,rfl,by simp⟩ (fun i σ H8 J hp=>?_) fun σ H8 hp=>?_⟩
    .obtain⟨b9,ss,x9,W,rfl,g,d,hk⟩:=hp;apply qfR (yi (xT u) (by decide)) ?_;apply qbM (.inl ⟨by lk,by lk⟩) ?_;apply vI (by decide) ?_;ext;rw[k8];show z (YO _ (by decide)) (YQ _ (by decide)) ?_;show qeS (by rw[R];show _+1<=_;show yX (qi (by lk))) ?_;have L:(Txt.slice b none (some (A:Int))++(⟨#[97+((a+step*(i:Int)) % 26).toNat]⟩:Str)).cps.toList=b.cps.toList.take A++[97+((a+step*(i:Int)) % 26).toNat]:=by rw[qaM,qaj]
     have ag:(Txt.slice b none (some (A:Int))++(⟨#[97+((a+step*(i:Int)) % 26).toNat]⟩:Str)).length<=6:=by
      have:(Txt.slice b none (some (A:Int))++(⟨#[97+((a+step*(i:Int)) % 26).toNat]⟩:Str)).length=(Txt.slice b none (some (A:Int))++(⟨#[97+((a+step*(i:Int)) % 26).toNat]⟩:Str)).cps.toList.length:=by simp[Str.length]
      rw[this,L];simp[Y];lk
     generalize Txt.slice b none (some (A:Int))++(⟨#[97+((a+step*(i:Int)) % 26).toNat]⟩:Str)=nm at L ag ⊢;apply⟨.inl ⟨rfl,_,SqL.of g⟩,?_⟩;apply⟨p,_,rfl,b9.2,by lk,by lk,fun r H9 r0 r1 G=>?_⟩;replace g:=G.1 _ _ nl g;replace G:=b9.trans G;apply qbM (.inl ⟨by lk,by lk⟩) ?_;apply qfR (yi (xT u) (by decide)) ?_
     have ad:D=1\/D=2:=by
      have:¬ D=0:=fun e=>hw (by subst e;rfl);lk
     obtain⟨k,ak,ek⟩:∃ k:Nat,k<=5-A/\r*(D-1)=(k:Int):=by
      rcases ad with rfl | rfl
      .show⟨0,by lk,by lk⟩
      .show⟨r.toNat,by lk,by lk⟩
     rw[ek];show qeS (by rw[R];show yX (qi (by lk))) ?_;show⟨l,_,_,rfl,rfl,g,by rw[ya,d];show qi (by lk),?_⟩;show⟨G.put aa nl,ss++[_],_,_,rfl,by rw[qb,yK];rfl,by rw[yt,d];rfl,fun j s t=>?_⟩;by_cases N:j<ss.length
     .rw [yQ N] at t;show hk j s t
     .rw [yB (by lk)] at t;have h0:j-ss.length=0:=by have:=(yc.mp t).1;simp at this;lk
      rw[h0] at t;cases t;have M:j=i:=by lk
      subst M;have eF:(nm++Txt.slice b none (some (k:Int))).cps.toList=b.cps.toList.take A++[97+((a+step*(j:Int)) % 26).toNat]++b.cps.toList.take k:=by rw[qaM,L,qaj]
      have ai:=YQ (a+step*(j:Int)) (show(0:Int)<26 by decide);show⟨qdh eF (by simp;lk) (by simp[Y];lk) ?_,?_⟩
      .rw [XY,XY,U,U,Xp,qeV (by lk) (by lk)];rfl
      .rw [eF,yZ,yB (by rw[yP];lk)];have:A-(b.cps.toList.take A).length=0:=by rw[yP,Y];lk
       rw[this];rfl
    .obtain⟨b9,ss,x9,W,rfl,g,d,hk⟩:=hp;apply q l ss _ b9 aa ⟨g,nl⟩ ⟨by lk,qcp fun i j s J t=>?_,fun s y=>?_⟩ (by lk)
     .have ei:=(hk i s J).2;have ej:=(hk j s t).2;have li:=(yc.mp J).1;have lj:=(yc.mp t).1;rw[ei,Option.some.injEq] at ej
      have e4:(i:Int)=(j:Int):=qdi (sh:=a) ac (by lk) (by lk) (by lk) (by lk) (by
       have p1:=YO (a+step*(i:Int)) (show(26:Int)≠0 by decide);have p2:=YO (a+step*(j:Int)) (show(26:Int)≠0 by decide);lk)
      lk
     .obtain⟨j,t,e⟩:=Xm y;show(hk j s (by rw[yb t,e])).1
theorem KN:FnScope ["_law_box_here","_law_names_here","_law_found","_law_base","_law_k","_law_j"] ["_law_box_here","_law_names_here"] (qh qa9):=fS
theorem KR:FnScope ["_law_box_here","_law_most","_law_many","_law_names_here"] ["_law_box_here","_law_most"] (qh qaN):=fS
theorem KP:FnScope ["_law_box_here","_law_ties_here","_law_left","_law_found"] ["_law_box_here","_law_ties_here"] (qh j4):=fS
theorem NL.bb(h:NL p H l ss)(b:BB p H H'):NL p H' l ss:=⟨b.1 _ _ h.2 h.1,h.2⟩
theorem NL.same(h:NL p H l ss)(s:L2.Same H H'):NL p H' l ss:=⟨s _ _ h.1,h.2⟩
def PrT(p:Addr)(H:Hp)(t:Addr)(ab:Str×Str):Prop:=t≠p/\H t=some (.tup [.str ab.1,.str ab.2])
def TL(p:Addr)(H:Hp)(l:Addr)(ts:LQ)(tps:LP):Prop:=H l=some (.lst (ts.map V.ref))/\l≠p/\All2 (PrT p H) ts tps
theorem TL.bb(h:TL p H l ts tps)(b:BB p H H'):TL p H' l ts tps:=⟨b.1 _ _ h.2.1 h.1,h.2.1,h.2.2.mono fun t ab z=>⟨z.1,b.1 _ _ z.1 z.2⟩⟩
theorem TL.same(h:TL p H l ts tps)(s:L2.Same H H'):TL p H' l ts tps:=⟨s _ _ h.1,h.2.1,h.2.2.mono fun t ab z=>⟨z.1,s _ _ z.2⟩⟩
theorem PrT.put(h:PrT p H t ab)(hl:H l=some (.lst xs)):PrT p (upd H l (.lst ys)) t ab:=⟨h.1,by rw[qf (qat h.2 hl (by intro z;cases z))];show h.2⟩
theorem TL.more(h:TL p H l ts tps)(a:PrT p H t ab):TL p (upd H l (.lst (ts.map V.ref++[.ref t]))) l (ts++[t]) (tps++[ab]):=
 ⟨by rw[qb,yK];rfl,h.2.1,(h.2.2.mono fun _ _ z=>z.put h.1).snoc (a.put h.1)⟩
theorem TL.other{l':Addr}(h:TL p H l ts tps)(ne:l≠l')(hl:H l'=some (.lst xs)):TL p (upd H l' (.lst ys)) l ts tps:=⟨by rw[qf ne];show h.1,h.2.1,h.2.2.mono fun _ _ z=>z.put hl⟩
theorem qcq(f:α->β):∀(l:List α) (k:Nat),(l.map f).eraseIdx k=(l.eraseIdx k).map f
 | [],_=>rfl
 | _::_,0=>rfl
 | a::r,k+1=>congrArg (f a::·) (qcq f r k)
theorem All2.erase{R:α->β->Prop}{l:List α}{m:List β}(h:All2 R l m)(k:Nat):All2 R (l.eraseIdx k) (m.eraseIdx k):=by
 show⟨by rw[List.length_eraseIdx,List.length_eraseIdx,h.len],fun j a b d c=>?_⟩;rw[List.getElem?_eraseIdx] at d c;split at d
 .rename_i hlt
  rw[yE hlt] at c;show h.at_ j a b d c
 .rename_i hlt
  rw[yC hlt] at c;show h.at_ (j+1) a b d c
theorem qbD:∀(l:List α) (k:Nat) (h:k<l.length),(l[k]::l.eraseIdx k).Perm l
 | [],_,h=>absurd h (Nat.not_lt_zero _)
 | a::r,0,_=>.refl _
 | a::r,k+1,h=>(List.Perm.swap a _ _).trans (.cons a (qbD r k (Nat.lt_of_succ_lt_succ h)))
theorem TL.less(h:TL p H l ts tps)(k:Nat):TL p (upd H l (.lst ((ts.map V.ref).eraseIdx k))) l (ts.eraseIdx k) (tps.eraseIdx k):=
 ⟨by rw[qb,qcq],h.2.1,(h.2.2.erase k).mono fun _ _ z=>z.put h.1⟩
structure TOk(ss:LS)(tps:LP):Prop where
 few:tps.length<=30
 ok:∀ ab∈tps,∃ j k:Nat,j<k/\ss[j]?=some ab.1/\ss[k]?=some ab.2
 nd:tps.Nodup
inductive spTies(vs:List V)(H:Hp)(Q:VK)(E:XK):Prop|mk (p n:Addr) (ss:LS) (_:vs=[.ref p,.ref n]) (_:Box H p) (_:NL p H n ss) (_:NOk ss) (_:∀(l:Addr) (ts:LQ) (tps:LP) (H':Hp),BB p H H'->H l=none->TL p H' l ts tps->TOk ss tps->Q (.ref l) H')
inductive spDrawn(vs:List V)(H:Hp)(Q:VK)(E:XK):Prop|mk (p:Addr) (m:Int) (_:vs=[.ref p,.int m]) (_:0<=m) (_:m<=14) (_:Box H p) (_:∀(t n l:Addr) (ss:LS) (ts:LQ) (tps:LP) (H':Hp),BB p H H'->H' t=some (.tup [.ref n,.ref l])->H n=none->NL p H' n ss->NOk ss->H l=none->TL p H' l ts tps->TOk ss tps->Q (.ref t) H')
def Shuf(tps ups:LP):Prop:=∃ c,ups.Perm c/\All2 (fun a b=>b=a\/b=(a.2,a.1)) tps c
inductive spShuf(vs:List V)(H:Hp)(Q:VK)(E:XK):Prop|mk (p l:Addr) (ts:LQ) (tps:LP) (_:vs=[.ref p,.ref l]) (_:Box H p) (_:TL p H l ts tps) (_:tps.length<=30) (_:∀(l':Addr) (us:LQ) (ups:LP) (H':Hp),BB p H H'->H l'=none->TL p H' l' us ups->Shuf tps ups->Q (.ref l') H')
theorem qdX{z:Addr}{Q:VK}(hl:H l=some (.lst xs))(hz:H z=some (.lst []))(q:Q (.bl (!xs.isEmpty)) H):qed K true (.ref l) (.ref z) H Q:=by
 cases xs with
 | nil=>show .inr (.inl ⟨l,z,true,1,rfl,rfl,by decide,EqT.lst (n:=0) (e:=fun _=>true) (SqL.of hl) (SqL.of hz) rfl fun j x y h=>by(simp at h),q⟩)
 | cons x r=>show .inr (.inl ⟨l,z,false,1,rfl,rfl,by decide,EqT.lstL (SqL.of hl) (SqL.of hz) (by simp),q⟩)
theorem ok_ties(F:Fun K "_law_ties" "_law_ties" qa9 f fd)(T:Txt K mg cc cw)(Ka:DefOk P w K mg base CX0 1 "_law_take" ["_law_box_here","_law_many"] spTake):FnOk P w K mg base CX0 2 f fd ["_law_box_here","_law_names_here"] spTies:=by
 show F.ok KN fun _ _ _ _ H vs Q E hr h=>?_
 .obtain⟨p,n,ss,rfl,hB,L,X,q⟩:=h;have few:=X.few;have M:=jZ hr;show⟨_,(qc (qo (i:=2) KN.nd rfl (yJ rfl) (qI qd))
 (qc (qo (i:=3) KN.nd rfl (yJ rfl) (qt (qu (K:=K) rfl M) (qI (qa qg (qa qg (qa qg (qa qg qd))))) (qq Ka (hmR hr) qz (qa (pv 0) (qa qg qd))) (fun _ _=>rfl)))
 (qc (ju yT rfl (za rfl T.b_range (qa (qp (zu (K:=K) rfl) rfl T.b_len YT (qa (pv 1) qd)) qd)) (qw (i:=4) KN.nd rfl (yJ rfl))
 (qe (ju yT rfl (za rfl T.b_range (qa (pv 4) qd)) (qw (i:=5) KN.nd rfl (yJ rfl))
 (qe (qK (PW.pt (qbc (qm (zE (K:=K) rfl M) (qq Ka (hmR hr) qz (qa (pv 0) (qa (pv 3) qd))) qg (qx _)) (qau (qm qdB (qp (zu (K:=K) rfl) rfl T.b_len YT (qa (pv 2) qd)) qg (qx _))))) (qe (qL (qbA (K:=K) rfl yN y8 y9 qS (pv 2) (qa (jP (qa (qt (qu (K:=K) rfl M) (pv 1) (pv 5) (fun _ _=>rfl)) (qa (qt (qu (K:=K) rfl M) (pv 1) (pv 4) (fun _ _=>rfl)) qd))) qd)))) qr)))))
 (qe (qk (pv 2)))))),?_⟩
  apply⟨by decide,fun l hl=>?_⟩;have O:=(BB.refl hB).new (o:=.lst []) hl;have nl:=hB.apart hl;have A:TL p (upd H l (.lst [])) l [] []:=⟨qb,nl,All2.nil⟩;generalize upd H l (.lst [])=H1 at O A ⊢;apply⟨by show 4<=sizeLine;decide,fun l4 s=>?_⟩;generalize z:[V.int 2,V.int 2,V.int 3,V.int 5]=xs;have R:=O.new (o:=.lst xs) s;have n4:=O.apart s;have G:upd H1 l4 (.lst xs) l4=some (.lst xs):=qb;replace A:=A.same (qN (Sr H1) (o:=.lst xs) s);generalize upd H1 l4 (.lst xs)=H2 at R G A ⊢;apply⟨p,4,rfl,R.2,by decide,by decide,fun r H3 r0 r1 D=>?_⟩;replace G:=D.1 _ _ n4 G;replace A:=A.bb D;replace D:=R.trans D;have ae:xs.length=4:=by rw[<- z];rfl
  obtain⟨v,N,hv⟩:=qar (xs:=xs) r0 (by lk)
  obtain⟨bs,rfl,ac,af⟩:∃ i:Int,v=.int i/\0<i/\i<=25:=by
   have hm:=ye hv;rw[<- z] at hm;simp only[yv,yz,yU] at hm;rcases hm with rfl | rfl | rfl | rfl<;>show⟨_,rfl,by decide,by decide⟩
  show .inl (zv G N ?_);clear hv N z G;ext;have W:H3 n=some (.lst (ss.map V.str)):=D.1 _ _ L.2 L.1;show qaY W ?_;rw[ya];show⟨_,rfl,by lk,by lk,zS (fun i C H'=>BB p H H'/\∃(ts:LQ) (tps:LP) (x4 B:Option V),C=[some (.ref p),some (.ref n),some (.ref l),some (.int bs),x4,B]/\TL p H' l ts tps/\tps.length<=30/\tps.Nodup/\∀ ab∈tps,∃ j k,j<k/\ss[j]?=some ab.1/\ss[k]?=some ab.2/\k<i)
   ⟨D,[],[],none,none,rfl,A,by simp,by simp,by simp⟩ (fun i C H4 hi u=>?_) fun C H4 u=>?_⟩
  .obtain⟨S,ts,tps,x4,B,rfl,t4,b,nd,ok⟩:=u;have Y:i<ss.length:=by lk
   apply⟨_,rfl,by lk,by lk,zS (fun j C H'=>BB p H H'/\∃(ts:LQ) (tps:LP) (B:Option V),C=[some (.ref p),some (.ref n),some (.ref l),some (.int bs),some (.int (0+(i:Int))),B]/\TL p H' l ts tps/\tps.length<=30/\tps.Nodup/\∀ ab∈tps,∃ a k,a<k/\ss[a]?=some ab.1/\ss[k]?=some ab.2/\(k<i\/(k=i/\a<j)))
    ⟨S,ts,tps,_,rfl,t4,b,nd,fun ab h=>by obtain⟨a,k,h1,c,g,s⟩:=ok ab h;show⟨a,k,h1,c,g,.inl s⟩⟩ (fun j C H5 hj u=>?_) fun C H5 u=>?_⟩
   .obtain⟨J,ts,tps,B,rfl,d,b,nd,ok⟩:=u;have Z:j<ss.length:=by lk
    have aa:j<i:=by lk
    have keep:∀ ab∈tps,∃ a k,a<k/\ss[a]?=some ab.1/\ss[k]?=some ab.2/\(k<i\/(k=i/\a<j+1)):=fun ab h=>by
     obtain⟨a,k,h1,c,g,s⟩:=ok ab h;show⟨a,k,h1,c,g,by lk⟩
    apply⟨p,_,rfl,J.2,ac,by lk,fun r H6 r0 r1 m=>?_⟩;replace d:=d.bb m;replace m:=J.trans m;apply .inl (.inl (.inl ⟨rfl,rfl,?_⟩));apply qG (fun _=>?_) fun _=>?_
    .ext;show qaY d.1 ?_;apply qG (fun U=>?_) fun _=>?_
     .have ad:ts.length<30:=by
       have:=yk U;rw[ya] at this;lk
      have I:H6 n=some (.lst (ss.map V.str)):=m.1 _ _ L.2 L.1
      have at_:∀(k:Nat),k<ss.length->∃ x,atI (ss.map V.str) (0+(k:Int))=some (.str x)/\ss[k]?=some x:=fun k hk=>by
       rw[k8];show⟨ss[k],qv (by rw[yd,yb hk];rfl),yb hk⟩
      obtain⟨x,N,gx⟩:=at_ j Z;obtain⟨y,iy,gy⟩:=at_ i Y;apply⟨.inl ⟨rfl,_,SqL.of d.1⟩,?_⟩;apply .inl (zv I N ?_);apply .inl (zv I iy ?_);apply⟨by show 2<=sizeLine;decide,fun t ht=>?_⟩;have nt:=m.apart ht;have b7:=m.new (o:=.tup [.str x,.str y]) ht;have t7:=d.same (qN (Sr H6) (o:=.tup [.str x,.str y]) ht);show⟨l,_,_,rfl,rfl,t7.1,by rw[ya];show qi (by lk),?_⟩;show⟨b7.put hl nl,_,tps++[(x,y)],_,rfl,t7.more (ab:=(x,y)) ⟨nt,qb⟩,by rw[yt,<- d.2.2.len];show ts.length+1<=30;lk,?_,fun ab h=>?_⟩
      .show yV.mpr ⟨nd,by simp,fun ab h cd c e=>?_⟩;rw[yx.mp c] at e;subst e;obtain⟨a,k,h1,c,g,s⟩:=ok _ h;have e1:a=j:=qA X.nd c gx;have e2:k=i:=qA X.nd g gy;lk
      .rcases yA.mp h with h | h
       .show keep ab h
       .rw [yx.mp h];show⟨j,i,aa,gx,gy,.inr ⟨rfl,by lk⟩⟩
     .show⟨m,ts,tps,_,rfl,d,b,nd,keep⟩
    .ext;show yq ?_;show⟨m,ts,tps,_,rfl,d,b,nd,keep⟩
   .obtain⟨J,ts,tps,B,rfl,d,b,nd,ok⟩:=u;show⟨J,ts,tps,_,_,rfl,d,b,nd,fun ab h=>by obtain⟨a,k,h1,c,g,s⟩:=ok ab h;show⟨a,k,h1,c,g,by lk⟩⟩
  .obtain⟨S,ts,tps,x4,B,rfl,t4,b,nd,ok⟩:=u;apply q l ts tps _ S hl t4 ⟨b,fun ab h=>by obtain⟨a,k,h1,c,g,_⟩:=ok ab h;show⟨a,k,h1,c,g⟩,nd⟩
theorem ok_drawn(F:Fun K "_law_drawn" "_law_drawn" qaN f fd)(u:DefOk P w K mg base CX0 1 "_law_take" ["_law_box_here","_law_many"] spTake)(W:DefOk P w K mg base CX0 2 "_law_names" ["_law_box_here","_law_many"] spNames)(X:DefOk P w K mg base CX0 2 "_law_ties" ["_law_box_here","_law_names_here"] spTies) :
  FnOk P w K mg base CX0 3 f fd ["_law_box_here","_law_most"] spDrawn:=by
 show F.ok KR fun _ _ _ _ H vs Q E e h=>?_
 .obtain⟨p,mm,rfl,S,T,J,q⟩:=h;have M:=jZ e;show⟨_,(qc (qo (i:=2) KR.nd rfl (yJ rfl) (qq u (hmR e) qz (qa (pv 0) (qa qg qd))))
 (qc (qK (qm (zE (K:=K) rfl M) (qq u (hmR e) qz (qa (pv 0) (qa qg qd))) qg (qx _)) (qe (qo (i:=2) KR.nd rfl (yJ rfl) (qq u (hmR e) qz (qa (pv 0) (qa (qH (jN (K:=K) rfl) (pv 1) qg) qd))))) qr)
 (qc (qo (i:=3) KR.nd rfl (yJ rfl) (qq W (hmR e) qz (qa (pv 0) (qa (pv 2) qd))))
 (qe (qk (jP (qa (pv 3) (qa (qq X (hmR e) qz (qa (pv 0) (qa (pv 3) qd))) qd)))))))),?_⟩
  apply⟨p,8,rfl,J,by decide,by decide,fun m H1 Z m1 z=>?_⟩;apply⟨p,8,rfl,z.2,by decide,by decide,fun r H2 r0 r1 c=>?_⟩;replace c:=z.trans c;apply .inl (.inl (.inl ⟨rfl,rfl,?_⟩));ext
  have j:∀(n:Addr) (ss:LS) (b:Hp),BB p H b->H n=none->NL p b n ss->NOk ss->spTies [.ref p,.ref n] b (fun v s=>NewT [.ref n,v] s Q) E0:=fun n ss b d a B C =>
   ⟨p,n,ss,rfl,d.2,B,C,fun l ts tps s A x tl L=>⟨(by decide:2<=sizeLine),fun t D=>by
    have I:=d.trans A;have G:=qN (Sr s) (o:=.tup [.ref n,.ref l]) D;have U:=tl.2.1;show q t n l ss ts tps _ (I.new D) qb a ((B.bb A).same G) C (d.free x) (tl.same G) L⟩⟩
  show qG (fun _=>?_) fun _=>?_
  .ext;show⟨p,_,rfl,c.2,by lk,by lk,fun N Y O R g=>?_⟩;replace g:=c.trans g;apply⟨p,N,rfl,g.2,by lk,by lk,fun n ss b d a y few _=>?_⟩;apply j n ss b (g.trans d) (g.free a) y few
  .ext;show⟨p,m,rfl,c.2,by lk,by lk,fun n ss b d a y few _=>?_⟩;apply j n ss b (c.trans d) (c.free a) y few
theorem ok_shuf(F:Fun K "_law_shuffled" "_law_shuffled" j4 f fd)(T:Txt K mg cc cw)(Ka:DefOk P w K mg base CX0 1 "_law_take" ["_law_box_here","_law_many"] spTake):FnOk P w K mg base CX0 2 f fd ["_law_box_here","_law_ties_here"] spShuf:=by
 show F.ok KP fun _ _ _ _ H vs Q E hr h=>?_
 .obtain⟨p,l,ts,tps,rfl,hB,O,few,q⟩:=h;have hu:=jZ hr;have au:ts.length<=30:=by rw[O.2.2.len];show few
  show⟨_,(qc (qcC (sc:=qh j4) (XN:=["_law_box_here","_law_ties_here","_law_left","_law_found"]) ["_law_tie","_law_box_here"] 1 [0] rfl rfl rfl (by room) rfl (by room) (i:=2) KP.nd rfl rfl
  (qW (K:=K) rfl (pv 1)) (fun _ _ _ _=>(qw (i:=0) (show(["_law_tie","_law_box_here"]:LS).Nodup by room) rfl (yJ rfl))) jB
  (fun _ _ _ _=>zj)
  (fun _ _ _ _=>(qt (qu (K:=K) rfl hu) (qI (qa (pv 0) (qa (qeB (K:=K) rfl (pv 0) (jk (qaX zM qg))) qd))) (qq Ka (hmR hr) qz (qa (pv 1) (qa qg qd))) (fun _ _=>rfl))))
 (qc (qo (i:=3) KP.nd rfl (yJ rfl) (qI qd))
 (qc (qaC yT (qm (qan (K:=K) rfl hu) (pv 2) (qI qd) (qx _))
 (qe (qL (qbA (K:=K) rfl yN y8 y9 qS (pv 3) (qa (qbA (K:=K) rfl yN PySem.F.slot_list_pop PySem.F.type_list_pop qci (pv 2) (qa (qq Ka (hmR hr) qz (qa (pv 0) (qa (qp (zu (K:=K) rfl) rfl T.b_len YT (qa (pv 2) qd)) qd))) qd)) qd)))))
 (qe (qk (pv 3)))))),?_⟩
  apply .inl ⟨⟨_,SqL.of O.1⟩,jF (K:=K) (a:=l) (xs:=ts.map V.ref) (fun i ys H'=>BB p H H'/\∃(us:LQ) (ups:LP),ys=us.map V.ref/\us.length=i/\All2 (PrT p H') us ups/\All2 (fun a b=>b=a\/b=(a.2,a.1)) (tps.take i) ups) ⟨BB.refl hB,[],[],rfl,rfl,All2.nil,by simpa using All2.nil⟩
   (fun i ys H' _ h=>SqL.of (h.1.1 _ _ O.2.1 O.1)) (fun i x ys H1 hx hp=>?_) fun ys H1 hp=>?_⟩
  .obtain⟨M,us,ups,rfl,C,s,hA⟩:=hp;rw[yd] at hx
   cases ht:ts[i]? with
   | none=>rw[ht] at hx;cases hx
   | some t =>
    rw[ht] at hx;cases hx;have an:i<ts.length:=(yc.mp ht).1;have ac:i<tps.length:=by rw[<- O.2.2.len];show an
    have gi:tps[i]?=some tps[i]:=yb ac;generalize tps[i]=ab at gi;obtain⟨nt,n⟩:=(O.bb M).2.2.at_ i t ab ht gi;have ap:tps.take (i+1)=tps.take i++[ab]:=by rw[yR,gi];rfl
    obtain⟨a,b⟩:=ab;dsimp only at n;apply zg ?_;apply vU ?_;apply⟨rfl,t,_,_,rfl,SqT.of n,fun g B=>?_⟩;have I:=M.new (o:=.tup [.str b,.str a]) B;have n2:=M.apart B;have s2:=qN (Sr H1) (o:=.tup [.str b,.str a]) B;have N:upd H1 g (.tup [.str b,.str a]) g=some (.tup [.str b,.str a]):=qb;replace n:=s2 _ _ n;replace s:=s.mono (S:=PrT p (upd H1 g (.tup [.str b,.str a]))) fun t ab z=>⟨z.1,s2 _ _ z.2⟩;generalize upd H1 g (.tup [.str b,.str a])=H2 at I N n s ⊢;clear s2;apply⟨by show 2<=sizeLine;decide,fun L h3=>?_⟩;have U:=I.new (o:=.lst [.ref t,.ref g]) h3;have n3:=I.apart h3;have s3:=qN (Sr H2) (o:=.lst [.ref t,.ref g]) h3;have Z:upd H2 L (.lst [.ref t,.ref g]) L=some (.lst [.ref t,.ref g]):=qb;replace n:=s3 _ _ n;replace N:=s3 _ _ N;replace s:=s.mono (S:=PrT p (upd H2 L (.lst [.ref t,.ref g]))) fun t ab z=>⟨z.1,s3 _ _ z.2⟩;generalize upd H2 L (.lst [.ref t,.ref g])=H3 at U N Z n s ⊢;clear s3;apply⟨p,2,rfl,U.2,by decide,by decide,fun r G r0 r1 A=>?_⟩;replace n:=A.1 _ _ nt n;replace N:=A.1 _ _ n2 N;replace Z:=A.1 _ _ n3 Z;replace s:=s.mono (S:=PrT p G) fun t ab z=>⟨z.1,A.1 _ _ z.1 z.2⟩;replace A:=U.trans A
    have aa:∀ u Y,PrT p G u Y->(Y=(a,b)\/Y=(b,a))->(us.map V.ref).length<sizeLine/\(BB p H G/\∃(vs:LQ) (c:LP),us.map V.ref++[V.ref u]=vs.map V.ref/\vs.length=i+1/\All2 (PrT p G) vs c/\All2 (fun a b=>b=a\/b=(a.2,a.1)) (tps.take (i+1)) c):=fun u Y hu am =>
     ⟨by rw[ya,C];show qi (by lk),A,us++[u],ups++[Y],by rw[yK];rfl,by rw[yt,C];rfl,s.snoc hu,by rw[ap];show hA.snoc am⟩
    have ao:r=0\/r=1:=by lk
    rcases ao with rfl | rfl
    .show .inl (zv (v:=.ref t) Z (qv (j:=0) rfl) (aa t (a,b) ⟨nt,n⟩ (.inl rfl)))
    .show .inl (zv (v:=.ref g) Z (qv (j:=1) rfl) (aa g (b,a) ⟨n2,N⟩ (.inr rfl)))
  .obtain⟨M,us,y,rfl,C,s,hA⟩:=hp;rw[ya] at C hA;have al:tps.take ts.length=tps:=by rw[O.2.2.len,yW]
   rw[al] at hA;show⟨by rw[ya];show yX (qi (by lk)),fun l1 h1=>?_⟩;have I:=M.new (o:=.lst (us.map V.ref)) h1;have n1:=M.apart h1;have z1:=M.free h1;have ah:=qN (Sr H1) (o:=.lst (us.map V.ref)) h1;have t1:TL p (upd H1 l1 (.lst (us.map V.ref))) l1 us y:=⟨qb,n1,s.mono fun t ab z=>⟨z.1,ah _ _ z.2⟩⟩;generalize upd H1 l1 (.lst (us.map V.ref))=H2 at I t1 ⊢;clear ah;apply⟨by decide,fun l2 B=>?_⟩;have U:=I.new (o:=.lst []) B;have n2:=I.apart B;have z2:=I.free B;have af:l1≠l2:=qB t1.1 B;have t3:=t1.same (qN (Sr H2) (o:=.lst []) B);have g:TL p (upd H2 l2 (.lst [])) l2 [] []:=⟨qb,n2,All2.nil⟩;generalize upd H2 l2 (.lst [])=H3 at U g t3 ⊢;apply⟨fun m σ H'=>∃(us vs:LQ) (ups c:LP),m=us.length/\σ=[some (.ref p),some (.ref l),some (.ref l1),some (.ref l2)]/\BB p H H'/\TL p H' l1 us ups/\TL p H' l2 vs c/\us.length+vs.length<=30/\(c++ups).Perm y,⟨_,us,[],y,[],rfl,rfl,U,t3,g,by simp;lk,by simp⟩,fun m σ G hW=>?_⟩;obtain⟨us,vs,ups,c,rfl,rfl,A,u4,v4,ae,d⟩:=hW;apply⟨by decide,fun z hz=>?_⟩;have sz:=qN (Sr G) (o:=.lst []) hz;have b5:=A.new (o:=.lst []) hz;have R:=u4.same sz;have v5:=v4.same sz;have e5:upd G z (.lst []) z=some (.lst []):=qb;generalize upd G z (.lst [])=H5 at b5 R v5 e5 ⊢;show qdX R.1 e5 ?_;ext
   cases us with
   | nil =>
    show yq ?_;ext;have eu:ups=[]:=List.eq_nil_of_length_eq_zero (by rw[<- R.2.2.len];rfl);rw[eu,Yg] at d;show q l2 vs c H5 b5 z2 v5 ⟨y,d,hA⟩
   | cons D ur =>
    show qG (fun _=>?_) (fun h=>absurd rfl h);show⟨fun ak H'=>∃(us vs:LQ) (ups c:LP),us.length=ur.length/\ak=[some (.ref p),some (.ref l),some (.ref l1),some (.ref l2)]/\BB p H H'/\TL p H' l1 us ups/\TL p H' l2 vs c/\us.length+vs.length<=30/\(c++ups).Perm y,fun ak H' ⟨aq,ar,ai,aj,e,rest⟩=>⟨_,by rw[yD,<- e];show xK _,aq,ar,ai,aj,rfl,rest⟩,?_⟩;apply⟨.inl ⟨rfl,_,SqL.of v5.1⟩,?_⟩;apply⟨.inl ⟨rfl,_,SqL.of R.1⟩,?_⟩;apply qaY R.1 ?_;ext;rw[ya];rw[yD] at ae;show⟨p,_,rfl,b5.2,by(rw[yD];lk),by(rw[yD];lk),fun r H6 r0 r1 X=>?_⟩;have u6:=R.bb X;have v6:=v5.bb X;replace X:=b5.trans X;obtain⟨k,rfl⟩:=xN r0;have W:k<(D::ur).length:=by rw[yD];rw[yD] at r1;lk
    have ad:k<ups.length:=by rw[<- R.2.2.len];show W
    have gk:((D::ur).map V.ref)[k]?=some (.ref ((D::ur)[k])):=by rw[yd,yb W];rfl
    have as:(k:Int)<2 ^ 62:=by rw[yD] at W;lk
    show⟨l1,_,_,k,_,rfl,rfl,u6.1,by lk,by lk,(qcz (qcK (by rw[ya];show W))).1,gk,?_⟩;have pk:=u6.2.2.at_ k ((D::ur)[k]) ups[k] (yb W) (yb ad);have u7:=u6.less k;have v7:=v6.other (ys:=((D::ur).map V.ref).eraseIdx k) af.symm u6.1;have b7:=X.put (o:=.lst (((D::ur).map V.ref).eraseIdx k)) z1 n1;have ag:=pk.put (ys:=((D::ur).map V.ref).eraseIdx k) u6.1;generalize upd H6 l1 (.lst (((D::ur).map V.ref).eraseIdx k))=H7 at u7 v7 b7 ag ⊢;have J:((D::ur).eraseIdx k).length=ur.length:=by rw[List.length_eraseIdx_of_lt W,yD];lk
    show⟨l2,_,_,rfl,rfl,v7.1,by rw[ya];show qi (by lk),?_⟩;show⟨_,_,_,_,J,rfl,b7.put z2 n2,u7.other af v7.1,v7.more ag,?_,?_⟩
    .rw [J,yt,Xa];lk
    .rw [yZ];show(List.Perm.append_left c (qbD ups k ad)).trans d
theorem pair_eqD{a b:Addr}{t s' t':Str}(g:H b=some (.tup [.str s',.str t']))(f:H a=some (.tup [.str s,.str t])):EqD K H 1 (.ref b) (.ref a) (decide ((s',t')=(s,t))):=by
 by_cases e:b=a
 .subst e;rw[g] at f;cases f;rw[yH rfl];show .self
 .have z:=EqT.tup (K:=K) (H:=H) (n:=0) (e:=fun j=>if j=0 then eqV (.str s') (.str s) else eqV (.str t') (.str t)) (SqT.of g) (SqT.of f) fun j x y c d=>by
   match j,c,d with
   | 0,c,d=>cases c;cases d;show .flat rfl rfl
   | 1,c,d=>cases c;cases d;show .flat rfl rfl
  have h:((List.range (min [V.str s',V.str t'].length [V.str s,V.str t].length)).all (fun j=>if j=0 then eqV (.str s') (.str s) else eqV (.str t') (.str t))&&[V.str s',V.str t'].length==[V.str s,V.str t].length)=decide ((s',t')=(s,t)):=by
   show((s'==s)&&((t'==t)&&true)&&true)=_;rw[YH];simp
  rw[h] at z;show .deep z e
theorem TL.pl(h:TL p H l ts tps):PL H l ts tps:=⟨h.1,h.2.2.mono fun _ _ z=>z.2⟩
noncomputable def qdv(H:Hp)(z:V):Option (Str×Str):=match z with
 | .ref t=>(match H t with
  | some (.tup [.str a,.str b])=>some (a,b)
  | _=>none)
 | _=>none
theorem qbV(h:H t=some (.tup [.str a,.str b])):qdv H (.ref t)=some (a,b):=by
 unfold qdv;dsimp only;rw[h]
theorem any_in(h:All2 (fun t ab=>H t=some (.tup [.str ab.1,.str ab.2])) ts tps)(st:Str×Str):((ts.map V.ref).any fun z=>decide (qdv H z=some st))=decide (st∈tps):=by
 rw[YH,YB,YG];constructor
 .rintro ⟨z,hz,e⟩;obtain⟨t,f,rfl⟩:=YI.mp hz;obtain⟨ab,b,r⟩:=h.mem f;have e:=yk e;rw[qbV r] at e;cases e;show b
 .intro d;obtain⟨k,c,e⟩:=Xm d;have a:k<ts.length:=by rw[h.len];show c
  have r:=h.at_ k ts[k] tps[k] (yb a) (yb c);show⟨.ref ts[k],YI.mpr ⟨_,Xg a,rfl⟩,yH ?_⟩;rw[qbV r,e]
theorem pl_in{a:Addr}{t:Str}{Q:VK}(h:PL H l ts tps)(d:H a=some (.tup [.str s,.str t]))(q:Q (.bl (decide ((s,t)∈tps))) H):qez K false (.ref a) (.ref l) H Q:=by
 show .inr (.inr ⟨l,ts.map V.ref,fun z=>decide (qdv H z=some (s,t)),1,rfl,SqL.of h.1,by decide,fun z hz=>?_,?_⟩)
 .obtain⟨b,f,rfl⟩:=YI.mp hz;obtain⟨ab,_,r⟩:=h.2.mem f;have e:=pair_eqD (K:=K) r d
  have c:decide (qdv H (.ref b)=some (s,t))=decide ((ab.1,ab.2)=(s,t)):=by
   rw[qbV r];apply Y8.mpr;rw[Option.some.injEq]
  show EqD K H 1 (.ref b) (.ref a) (decide (qdv H (.ref b)=some (s,t)));rw[c];show e
 .rw [any_in h.2];show q
def Adj(ss:LS)(ns:LN)(tps:LP):Prop:=∀ a b s t,ss[a]?=some s->ss[b]?=some t->((ns.getD a 0).testBit b=true↔((s,t)∈tps\/(t,s)∈tps))
theorem Kl:FnScope ["web","thing","paired","tie"] ["web","thing"] (qh zd):=fS
theorem K3:FnScope ["self","thing"] ["self","thing"] (qh jJ):=fS
noncomputable def qaT(seen:LS):List (Key×V):=seen.map fun s=>(.inr s,.bl true)
theorem ze(y:Str):∀ seen:LS,(zh (qaT seen) (.inr y:Key)).isSome=decide (y∈seen)
 | []=>rfl
 | s::r=>by
  by_cases e:s=y
  .subst e;show(zh (((.inr s:Key),V.bl true)::qaT r) _).isSome=_;rw[yH (by simp)];simp[zh]
  .show(zh (((.inr s:Key),V.bl true)::qaT r) _).isSome=_;rw[qX (p:=((.inr s:Key),V.bl true)) (fun z=>e (xC z)),ze y r];apply Y8.mpr;simp[Yb e]
theorem qaO{seen:LS}(h:y∉seen):zB (qaT seen) (.inr y:Key) (.bl true)=qaT (seen++[y]):=by
 have:zh (qaT seen) (.inr y:Key)=none:=by
  have:=ze y seen;rw[yl h] at this;show Option.isNone_iff_eq_none.mp (by rw[<- Option.not_isSome,this];rfl)
 rw[qa1 _ this];unfold qaT;rw[yK];rfl
noncomputable def qj(qs:LP):LS:=qs.flatMap fun q=>[q.1,q.2]
noncomputable def prK(qs:LP):List (Key×V):=qs.flatMap fun q=>[(.inr q.1,.str q.2),(.inr q.2,.str q.1)]
noncomputable def pt:LP->Str->Option Str
 | [],_=>none
 | q::r,s=>if q.1=s then some q.2 else if q.2=s then some q.1 else pt r s
theorem jV(s:Str):∀ qs,zh (prK qs) (.inr s:Key)=(pt qs s).map V.str
 | []=>rfl
 | q::r=>by
  show zh (((.inr q.1:Key),V.str q.2)::((.inr q.2:Key),V.str q.1)::prK r) _=(pt (q::r) s).map V.str;unfold pt;by_cases h1:q.1=s
  .rw [jf (p:=((.inr q.1:Key),V.str q.2)) (congrArg Sum.inr h1),yE h1];rfl
  .rw [qX (p:=((.inr q.1:Key),V.str q.2)) (fun z=>h1 (xC z)),yC h1];by_cases a:q.2=s
   .rw [jf (p:=((.inr q.2:Key),V.str q.1)) (congrArg Sum.inr a),yE a];rfl
   .rw [qX (p:=((.inr q.2:Key),V.str q.1)) (fun z=>a (xC z)),yC a,jV s r]
theorem pt_none:∀{qs:LP},pt qs s=none↔s∉qj qs
 | []=>by simp[pt,qj]
 | q::r=>by
  have e:qj (q::r)=q.1::q.2::qj r:=rfl;rw[e];unfold pt;by_cases h1:q.1=s
  .rw [yE h1];simp[h1]
  .rw [yC h1];by_cases a:q.2=s
   .rw [yE a];simp[a]
   .rw [yC a,pt_none];simp only[yv,k9];show⟨fun z=>⟨Yb h1,Yb a,z⟩,fun z=>z.2.2⟩
structure PGo(ss:LS)(tps qs:LP):Prop where
 inn:∀ q∈qs,(q∈tps\/(q.2,q.1)∈tps)/\q.1∈ss/\q.2∈ss/\q.1≠q.2
 nd:(qj qs).Nodup
 few:qs.length<=30
theorem zG(qs:LP):(qj qs).length=2*qs.length:=by
 induction qs with
 | nil=>rfl
 | cons q r ih=>show(q.1::q.2::qj r).length=_;simp only[yD];lk
theorem zq(qs:LP)(q:Str×Str):qj (qs++[q])=qj qs++[q.1,q.2]:=by
 unfold qj;rw[Xn];rfl
theorem PGo.new(g:PGo ss tps qs)(h:qs[i]?=some ab):qs.take (i+1)=qs.take i++[ab]/\(qj (qs.take i++[ab])).Nodup/\ab.1∉qj (qs.take i)/\ab.2∉qj (qs.take i):=by
 have b:qs.take (i+1)=qs.take i++[ab]:=by rw[yR,h];rfl
 have a:(qj (qs.take i++[ab])).Nodup:=by
  rw[<- b];have:qj qs=qj (qs.take (i+1))++qj (qs.drop (i+1)):=by unfold qj;rw[<- Xn,List.take_append_drop]
  have e:=g.nd;rw[this] at e;show(yV.mp e).1
 have c:=a;rw[zq] at c;have d:=(yV.mp c).2.2;show⟨b,a,fun z=>d _ z ab.1 (by simp) rfl,fun z=>d _ z ab.2 (by simp) rfl⟩
inductive spHt(cw:Addr)(vs:List V)(H:Hp)(Q:VK)(E:XK):Prop|mk (x t:Addr) (ss:LS) (ns:LN) (tps:LP) (ab:Str×Str) (_:vs=[.ref x,.ref t]) (_:WebAt cw H x ss ns) (_:Adj ss ns tps) (_:H t=some (.tup [.str ab.1,.str ab.2])) (_:(ab∈tps\/(ab.2,ab.1)∈tps)) (_:ab.1∈ss) (_:ab.2∈ss) (_:ab.1≠ab.2) (_:∀ H',L2.Same H H'->Q (.bl true) H')
inductive spAp(cw:Addr)(vs:List V)(H:Hp)(Q:VK)(E:XK):Prop|mk (x l:Addr) (ss:LS) (ns:LN) (us:LQ) (tps qs:LP) (_:vs=[.ref x,.ref l]) (_:WebAt cw H x ss ns) (_:Adj ss ns tps) (_:PL H l us qs) (_:PGo ss tps qs) (_:∀ H',L2.Same H H'->Q (.bl true) H')
theorem ok_ht(F:Fun K "has_tie" "Web.has_tie" jJ f fd)(T:Txt K mg cc cw)(A:DefOk P w K mg base CX0 3 "are_two_places" ["numbers","thing"] spTwo)(z:MethOk P w K mg base CX0 6 cw "tied" ["self","one","other"] (spTied cw)):FnOk P w K mg base CX0 7 f fd ["self","thing"] (spHt cw):=by
 show F.ok K3 fun _ _ _ _ H vs Q E g h=>?_
 .obtain⟨x,t,ss,ns,tps,ab,rfl,r,B,n,c,m1,l,e,q⟩:=h;have u:=jZ g;obtain⟨y,m,ol,I,s,d,D,C,hw⟩:=id r;show⟨_,(qe (qk (qap (qq A (hmR g) qz (qa (qD (K:=K) rfl (pv 0) rfl) (qa (pv 1) qd))) (qao (qF z (hmR g) (pv 0) (qa (qt (qu (K:=K) rfl u) (pv 1) qg (fun _ _=>rfl)) (qa (qt (qu (K:=K) rfl u) (pv 1) qg (fun _ _=>rfl)) qd))))))),?_⟩;apply .inl ⟨x,cw,y,_,.ref m,rfl,s,T.wcl,T.wn,jU,?_⟩;apply⟨m,t,ss,ab.1,ab.2,rfl,d,n,hw.nm _ m1,hw.nm _ l,m1,l,e,fun H1 b=>?_⟩;show⟨true,rfl,zg ?_⟩;have a:=b _ _ n;apply⟨x,y,_,rfl,b _ _ s,zO (by room),?_⟩;apply .inl (zP a (v:=.str ab.1) (qv (j:=0) rfl) ?_);apply .inl (zP a (v:=.str ab.2) (qv (j:=1) rfl) ?_);ext;obtain⟨j,p⟩:=yf m1;obtain⟨i,o⟩:=yf l;show⟨x,ss,ns,ab.1,ab.2,j,i,rfl,r.same b,p,o,fun H2 G=>?_⟩;rw[(B j i ab.1 ab.2 p o).mpr c];show q H2 (b.trans G)
theorem ok_ap(F:Fun K "are_pairs" "are_pairs" zd f fd)(T:Txt K mg cc cw)(Kq:MethOk P w K mg base CX0 7 cw "has_tie" ["self","thing"] (spHt cw)):FnOk P w K mg base CX0 8 f fd ["web","thing"] (spAp cw):=by
 show F.ok Kl fun _ _ _ _ H vs Q E X h=>?_
 .obtain⟨x,l,ss,ns,us,tps,qs,rfl,W,hA,⟨hl,r⟩,g,q⟩:=h;have e:=jZ X;obtain⟨wx,dd,ol,nn,hb,_⟩:=id W;have few:=g.few;have N:=r.len;show⟨_,(qc (qK (q8 (qQ (qp (zl (K:=K) rfl) rfl T.b_isinstance Yk (qa (pv 1) (qa (jh (v:=.ty "list") rfl T.b_list YY rfl) qd))))) (qe (qk jz)) qr)
 (qc (qo (i:=2) Kl.nd rfl (yJ rfl) jg)
 (qc (ju yT rfl (qW (K:=K) rfl (pv 1)) (qw (i:=3) Kl.nd rfl (yJ rfl))
 (qc (qK (PW.pt (qav (q8 (qQ (qF Kq (hmR X) (pv 0) (qa (pv 3) qd)))) (qav (qm (zU (K:=K) rfl e) (qt (qu (K:=K) rfl e) (pv 3) qg (fun _ _=>rfl)) (pv 2) (by with_unfolding_all rfl)) (zR (qm (zU (K:=K) rfl e) (qt (qu (K:=K) rfl e) (pv 3) qg (fun _ _=>rfl)) (pv 2) (by with_unfolding_all rfl)))))) (qe (qk jz)) qr)
 (qc (jD jz (jO (pv 2) (qt (qu (K:=K) rfl e) (pv 3) qg (fun _ _=>rfl)) (jQ e)))
 (qe (jD jz (jO (pv 2) (qt (qu (K:=K) rfl e) (pv 3) qg (fun _ _=>rfl)) (jQ e)))))))
 (qe (qk jz))))),?_⟩
  apply zw (.inl (.lst hl)) rfl (jl K "list" (by simp) "list" (by simp)) ?_;apply yq ?_;ext;intro d C;have O:=qN (Sr H) (o:=.dK []) C;have U:upd H d (.dK []) d=some (.dK (qaT [])):=qb;generalize upd H d (.dK [])=H1 at O U;apply .inl ⟨⟨_,.of (O _ _ hl)⟩,jc (xs:=us.map V.ref) (fun i G J=>L2.Same H J/\∃ R,G=[some (.ref x),some (.ref l),some (.ref d),R]/\J d=some (.dK (qaT (qj (qs.take i))))) ⟨O,_,rfl,U⟩ (fun i G J _ u=>.of (u.1 _ _ hl)) (fun i y G J Y u=>?_) fun G J u=>?_⟩
  .obtain⟨n,R,rfl,c⟩:=u;rw[yd] at Y;obtain⟨b,s,rfl⟩:=yn.mp Y;have hi:i<us.length:=(yc.mp s).1;obtain⟨ab,m⟩:∃ ab,qs[i]?=some ab:=⟨_,yb (by rw[<- N];show hi)⟩;have B:=r.at_ i b ab s m;obtain⟨ht,m1,m2,t⟩:=g.inn ab (ye m);obtain⟨M,aa,Z,n2⟩:=g.new m;have ac:(qj (qs.take i)).length<=60:=by rw[zG,yP];lk
   have L:b≠d:=fun z=>by rw[z,C] at B;cases B
   apply⟨x,wx,_,rfl,n _ _ hb,zO (by room),?_⟩;apply⟨x,b,ss,ns,tps,ab,rfl,W.same n,hA,n _ _ B,ht,m1,m2,t,fun I D=>?_⟩;have A:=n.trans D;have a:=A _ _ B;apply yq ?_;apply .inl (zP a (v:=.str ab.1) (qv (j:=0) rfl) ?_);apply .inr (.inl ⟨d,_,rfl,DGet.k (k:=Sum.inr ab.1) (D _ _ c),?_⟩);rw[yC (by decide),ze,yl Z];apply yq ?_;apply .inl (zP a (v:=.str ab.2) (qv (j:=1) rfl) ?_);apply .inr (.inl ⟨d,_,rfl,DGet.k (k:=Sum.inr ab.2) (D _ _ c),?_⟩);rw[yC (by decide),ze,yl n2];apply yq ?_;apply .inl (zP a (v:=.str ab.1) (qv (j:=0) rfl) ?_);apply .inr ⟨d,_,rfl,DPut.k (k:=Sum.inr ab.1) (D _ _ c) (by unfold qaT;rw[ya,Yn];lk),?_⟩;rw[qaO Z];have s3:=qaB A (o:=.dK (qaT (qj (qs.take i)++[ab.1]))) C;have S:upd I d (.dK (qaT (qj (qs.take i)++[ab.1]))) d=some (.dK (qaT (qj (qs.take i)++[ab.1]))):=qb;have p:upd I d (.dK (qaT (qj (qs.take i)++[ab.1]))) b=some (.tup [.str ab.1,.str ab.2]):=by rw[qf L];show a
   generalize upd I d (.dK (qaT (qj (qs.take i)++[ab.1])))=J3 at s3 S p;apply .inl (zP p (v:=.str ab.2) (qv (j:=1) rfl) ?_);apply .inr ⟨d,_,rfl,DPut.k (k:=Sum.inr ab.2) S (by unfold qaT;rw[ya,yt,Yn];simp only[yD,YN];lk),?_⟩;rw[qaO (fun z=>by rcases yA.mp z with z | z;show n2 z;show t (yx.mp z).symm)];show⟨qaB s3 C,_,rfl,by rw[qb,M,zq,yZ];rfl⟩
  .obtain⟨n,R,rfl,c⟩:=u;apply q J n
theorem Ki:FnScope ["web","pairs","partners","pair"] ["web","pairs"] (qh jK):=fS
theorem prK_len(qs:LP):(prK qs).length=2*qs.length:=by
 induction qs with
 | nil=>rfl
 | cons q r ih=>show(_::_::prK r).length=_;simp only[yD];rw[ih];lk
theorem prK_snoc(qs:LP)(q:Str×Str):prK (qs++[q])=prK qs++[(.inr q.1,.str q.2),(.inr q.2,.str q.1)]:=by
 unfold prK;rw[Xn];rfl
theorem prK_put{q:Str×Str}(h:(qj (qs++[q])).Nodup):zB (zB (prK qs) (.inr q.1:Key) (.str q.2)) (.inr q.2:Key) (.str q.1)=prK (qs++[q]):=by
 rw[zq] at h;obtain⟨h1,b,c⟩:=yV.mp h;have e:q.1∉qj qs:=fun z=>c _ z _ (by simp) rfl;have f:q.2∉qj qs:=fun z=>c _ z q.2 (by simp) rfl;have g:q.1≠q.2:=by simp at b;show b
 have i:zh (prK qs) (.inr q.1:Key)=none:=by rw[jV,pt_none.mpr e];rfl
 rw[qa1 _ i]
 have a:zh (prK qs++[((.inr q.1:Key),V.str q.2)]) (.inr q.2:Key)=none:=by
  have a:zh (prK qs) (.inr q.2:Key)=none:=by rw[jV,pt_none.mpr f];rfl
  unfold zh at a ⊢;rw[List.find?_append];have:(prK qs).find? (fun d=>decide (d.1=(.inr q.2:Key)))=none:=by simpa using a
  rw[this];simp[g]
 rw[qa1 _ a,prK_snoc];simp
inductive spPn(cw:Addr)(vs:List V)(H:Hp)(Q:VK)(E:XK):Prop|mk (x l:Addr) (ss:LS) (ns:LN) (us:LQ) (tps qs:LP) (_:vs=[.ref x,.ref l]) (_:WebAt cw H x ss ns) (_:Adj ss ns tps) (_:PL H l us qs) (_:PGo ss tps qs) (_:∀(d:Addr) (H':Hp),L2.Same H H'->H d=none->H' d=some (.dK (prK qs))->Q (.ref d) H')
theorem ok_pn(F:Fun K "partners_in" "partners_in" jK f fd)(T:Txt K mg cc cw)(Y:DefOk P w K mg base CX0 8 "are_pairs" ["web","thing"] (spAp cw)):FnOk P w K mg base CX0 9 f fd ["web","pairs"] (spPn cw):=by
 show F.ok Ki fun _ _ _ _ H vs Q E S h=>?_
 .obtain⟨x,l,ss,ns,us,tps,qs,rfl,hW,Z,⟨hl,n⟩,g,q⟩:=h;have p:=jZ S;have few:=g.few;have u:=n.len;show⟨_,(qc (qK (q8 (qQ (qq Y (hmR S) qz (qa (pv 0) (qa (pv 1) qd))))) (qe jC) qr)
 (qc (qo (i:=2) Ki.nd rfl (yJ rfl) jg)
 (qc (ju yT rfl (qW (K:=K) rfl (pv 1)) (qw (i:=3) Ki.nd rfl (yJ rfl))
 (qc (jD (qt (qu (K:=K) rfl p) (pv 3) qg (fun _ _=>rfl)) (jO (pv 2) (qt (qu (K:=K) rfl p) (pv 3) qg (fun _ _=>rfl)) (jQ p)))
 (qe (jD (qt (qu (K:=K) rfl p) (pv 3) qg (fun _ _=>rfl)) (jO (pv 2) (qt (qu (K:=K) rfl p) (pv 3) qg (fun _ _=>rfl)) (jQ p))))))
 (qe (qk (pv 2)))))),?_⟩
  apply⟨x,l,ss,ns,us,tps,qs,rfl,hW,Z,⟨hl,n⟩,g,fun H1 W=>?_⟩;apply yq ?_;ext;intro d R;have c:=W.free R;have L:=qN W (o:=.dK []) R;have O:upd H1 d (.dK []) d=some (.dK (prK [])):=qb;generalize upd H1 d (.dK [])=H2 at L O;apply .inl ⟨⟨_,.of (L _ _ hl)⟩,jc (xs:=us.map V.ref) (fun i B J=>L2.Same H J/\∃ M,B=[some (.ref x),some (.ref l),some (.ref d),M]/\J d=some (.dK (prK (qs.take i)))) ⟨L,_,rfl,O⟩ (fun i B J _ t=>.of (t.1 _ _ hl)) (fun i y B J U t=>?_) fun B J t=>?_⟩
  .obtain⟨A,M,rfl,a⟩:=t;rw[yd] at U;obtain⟨b,s,rfl⟩:=yn.mp U;have hi:i<us.length:=(yc.mp s).1;obtain⟨ab,r⟩:∃ ab,qs[i]?=some ab:=⟨_,yb (by rw[<- u];show hi)⟩;have C:=n.at_ i b ab s r;obtain⟨I,G,n1,n2⟩:=g.new r;have D:b≠d:=fun z=>by rw[z,c] at C;cases C
   have m:=A _ _ C;have aa:(prK (qs.take i)).length<=2000:=by rw[prK_len,yP];lk
   apply .inl (zP m (v:=.str ab.2) (qv (j:=1) rfl) ?_);apply .inl (zP m (v:=.str ab.1) (qv (j:=0) rfl) ?_);apply .inr ⟨d,_,rfl,DPut.k (k:=Sum.inr ab.1) a (by rw[Yn];lk),?_⟩;have X:=qaB A (o:=.dK (zB (prK (qs.take i)) (Sum.inr ab.1) (.str ab.2))) c;have N:upd J d (.dK (zB (prK (qs.take i)) (Sum.inr ab.1) (.str ab.2))) d=some (.dK (zB (prK (qs.take i)) (Sum.inr ab.1) (.str ab.2))):=qb;have e:upd J d (.dK (zB (prK (qs.take i)) (Sum.inr ab.1) (.str ab.2))) b=some (.tup [.str ab.1,.str ab.2]):=by rw[qf D];show m
   generalize upd J d (.dK (zB (prK (qs.take i)) (Sum.inr ab.1) (.str ab.2)))=J3 at X N e;apply .inl (zP e (v:=.str ab.1) (qv (j:=0) rfl) ?_);apply .inl (zP e (v:=.str ab.2) (qv (j:=1) rfl) ?_);apply .inr ⟨d,_,rfl,DPut.k (k:=Sum.inr ab.2) N ?_,?_⟩
   .have:=jS (prK (qs.take i)) (Sum.inr ab.1:Key) (.str ab.2);rw[Yn];lk
   .show⟨qaB X c,_,rfl,by rw[qb,prK_put G,I]⟩
  .obtain⟨A,M,rfl,a⟩:=t;rw[ya,u,yW] at a;apply q d J A c a
structure Gr(A:Str->Str->Prop)(f:Str->Option Str):Prop where
 as:∀{a b},A a b->A b a
 ir:∀{a b},A a b->a≠b
 fs:∀{a b},f a=some b->f b=some a
 fa:∀{a b},f a=some b->A a b
structure FS where
 rows:Str->Option (LS)
 par:Str->Option Str
 bas:Str->Str
def Turns(A:Str->Str->Prop)(f:Str->Option Str)(r:LS):Prop:=∀(j:Nat) a b,r[j]?=some a->r[j+1]?=some b->A a b/\(f a=some b↔j % 2=1)
structure Alt(A:Str->Str->Prop)(f:Str->Option Str)(r:LS)(v:Str):Prop where
 nd:r.Nodup
 odd:r.length % 2=1
 hd:∀ s,r[0]?=some s->f s=none
 tl:∃ r0,r=r0++[v]
 st:Turns A f r
structure FI(A:Str->Str->Prop)(f:Str->Option Str)(S:FS):Prop where
 alt:∀ v r,S.rows v=some r->Alt A f r v
 bse:∀ v r,S.rows v=some r->∃ rb t,S.rows (S.bas v)=some rb/\r=rb++t/\∀ u∈t,S.bas u=S.bas v
 idm:∀ v r,S.rows v=some r->S.bas (S.bas v)=S.bas v
 dwn:∀ b r q,S.rows b=some r->S.bas b=b->f b=some q->S.rows q=none/\∃ z rz,S.par q=some z/\S.rows z=some rz/\r=rz++[q,b]
 mat:∀ v,S.bas v≠v->(∃ r,S.rows v=some r)/\∃ u,f v=some u/\S.bas u=S.bas v
 odd:∀ x z,S.par x=some z->A z x/\(∃ r,S.rows z=some r)/\∃ y r,f x=some y/\S.rows y=some r
section
variable{A:Str->Str->Prop}{f:Str->Option Str}{S:FS}
theorem FI.own(I:FI A f S){v:Str}(h:S.rows v=none):S.bas v=v:=Xh fun z=>by
 obtain⟨⟨r,e⟩,_⟩:=I.mat v z;rw[h] at e;cases e
theorem FI.evb(I:FI A f S){v:Str}(h:S.rows v=some r):∃ a,S.rows (S.bas v)=some a:=(I.bse v r h).elim fun a z=>⟨a,z.elim fun _ y=>y.1⟩
theorem FI.pair(I:FI A f S){v w:Str}{s:LS}(hv:S.rows v=some r)(hw:S.rows w=some s)(h:f v=some w):S.bas v=S.bas w:=by
 by_cases z:S.bas v=v
 .have:=(I.dwn v r w hv z h).1;rw[hw] at this;cases this
 .obtain⟨_,u,a,e⟩:=I.mat v z;rw[h] at a;cases a;show e.symm
inductive Ch(f:Str->Option Str)(S:FS):Str->LS->Prop
 | root {b:Str}:f b=none->Ch f S b [b]
 | step {b q z:Str} {l:LS}:f b=some q->S.par q=some z->Ch f S (S.bas z) l->Ch f S b (b::l)
theorem Ch.one{l:LS}(h:Ch f S b l):∀{m},Ch f S b m->m=l:=by
 induction h with
 | root e=>intro m g;cases g with
  | root _=>rfl
  | step e' _ _=>rw[e] at e';cases e'
 | step e p _ ih=>intro m g;cases g with
  | root e'=>rw[e] at e';cases e'
  | step e' p' g'=>rw[e] at e';cases e';rw[p] at p';cases p';rw[ih g']
theorem Ch.ne{l:LS}(h:Ch f S b l):∃ t,l=b::t:=by cases h<;>show⟨_,rfl⟩
theorem FI.chain(I:FI A f S):∀(n:Nat) {b:Str} {r:LS},r.length<=n->S.rows b=some r->S.bas b=b->∃ l,Ch f S b l
 | n,b,r,hn,hb,hbb=>by
  cases e:f b with
  | none=>show⟨_,.root e⟩
  | some q =>
   obtain⟨_,z,rz,p,hz,c⟩:=I.dwn b r q hb hbb e;obtain⟨a,t,h1,d,_⟩:=I.bse z rz hz;have hl:a.length<n:=by rw[c,d] at hn;simp at hn;lk
   match n,hl with
   | n+1,hl =>
    obtain⟨l,g⟩:=I.chain n (b:=S.bas z) (r:=a) (by lk) h1 (I.idm z rz hz);show⟨_,.step e p g⟩
theorem FI.chainOf(I:FI A f S){v:Str}(h:S.rows v=some r):∃ l,Ch f S (S.bas v) l:=by
 obtain⟨a,e⟩:=I.evb h;show I.chain _ (yh _) e (I.idm v r h)
def Cov(f:Str->Option Str)(S:FS)(l:LS)(u:Str):Prop:=∃ d∈l,S.bas u=d\/f d=some u
theorem Cov.mono{l m:LS}(h:Cov f S l u)(a:∀ d∈l,d∈m):Cov f S m u:=h.elim fun d z=>⟨d,a d z.1,z.2⟩
theorem Ch.up(I:FI A f S){l:LS}(h:Ch f S b l):∀{v:Str} {r:LS},S.rows v=some r->S.bas v=b->∀{l1 l2:LS} {c:Str},l=l1++c::l2->∃ s t,S.rows c=some s/\S.bas c=c/\Ch f S c (c::l2)/\r=s++t/\∀ u∈t,S.bas u=c\/Cov f S l1 u:=by
 induction h with
 | root e =>
  intro v r hv m l1 l2 c j
  cases l1 with
  | cons x y=>show absurd (congrArg List.length j) (by simp)
  | nil =>
   cases j;obtain⟨o,t,h1,n,i⟩:=I.bse v r hv;rw[m] at h1 i;show⟨o,t,h1,by rw[<- m];show I.idm v r hv,.root e,n,fun u hu=>.inl (i u hu)⟩
 | @step b q z l e p g ih =>
  intro v r hv m l1 l2 c j;obtain⟨o,t,h1,n,i⟩:=I.bse v r hv;rw[m] at h1 i;have a:S.bas b=b:=by rw[<- m];show I.idm v r hv
  cases l1 with
  | nil =>
   cases j;show⟨o,t,h1,a,.step e p g,n,fun u hu=>.inl (i u hu)⟩
  | cons x y =>
   cases j;obtain⟨J,K,rz,w,hz,B⟩:=I.dwn b o q h1 a e;rw[p] at w;cases w;obtain⟨s,t',D,E,F,G,H⟩:=ih hz rfl rfl;show⟨s,t'++[q,b]++t,D,E,F,by rw[n,B,G];simp,fun u hu=>?_⟩;rcases yA.mp hu with hu | hu
   .rcases yA.mp hu with hu | hu
    .show(H u hu).imp id fun z=>z.mono fun d C=>yI _ C
    .simp only[yv,yz,yU] at hu;rcases hu with rfl | rfl
     .show .inr ⟨b,yO,.inr e⟩
     .show .inr ⟨_,yO,.inl a⟩
   .show .inr ⟨b,yO,.inl (i u hu)⟩
theorem Ch.bs0(I:FI A f S){v:Str}{l:LS}(hv:S.rows v=some r)(h:Ch f S (S.bas v) l)(hc:c∈l):∃ a,S.rows c=some a/\S.bas c=c:=by
 obtain⟨l1,l2,e⟩:=Yj hc;obtain⟨a,_,h1,b,_⟩:=h.up I hv rfl e;show⟨a,h1,b⟩
theorem Ch.cov(G:Gr A f)(I:FI A f S){v:Str}{l:LS}(hv:S.rows v=some r)(h:Ch f S (S.bas v) l)(hu:u∈r):Cov f S l u:=by
 have hl:l≠[]:=by obtain⟨t,e⟩:=h.ne;rw[e];show kH _ _
 obtain⟨o,t,h1,s,w,x,y⟩:=h.up I hv rfl (xk hl).symm;have b:l.getLast hl∈l:=List.getLast_mem hl;rw[x] at hu;rcases yA.mp hu with hu | hu
 .have D:f (l.getLast hl)=none:=by
   cases w with
   | root e=>show e
   | step _ _ g=>obtain⟨_,e⟩:=g.ne;cases e
  have c:=I.alt _ _ h1;obtain⟨q,i⟩:=c.tl
  have m:q=[]:=by
   cases j:q.length with
   | zero=>show List.eq_nil_of_length_eq_zero j
   | succ n =>
    exfalso;have p:o.length=n+2:=by rw[i];simp[j]
    obtain⟨a,B⟩:∃ a,o[n]?=some a:=⟨_,yb (by lk)⟩;have C:o[n+1]?=some (l.getLast hl):=by rw[i,yB (by lk),j];simp
    have:=G.fs ((c.st n a _ B C).2.mpr (by have:=c.odd;lk));rw[D] at this;cases this
  rw[i,m] at hu;have e:u=l.getLast hl:=by simpa using hu
  show⟨_,b,.inl (by rw[e];show s)⟩
 .rcases y u hu with z | ⟨d,hd,z⟩
  .show⟨_,b,.inl z⟩
  .show⟨d,List.dropLast_subset l hd,z⟩
theorem Cov.apart(G:Gr A f)(I:FI A f S){l m:LS}(hl:∀ d∈l,∃ r,S.rows d=some r/\S.bas d=d)(n:∀ d∈m,∃ r,S.rows d=some r/\S.bas d=d)(t:∀ d∈l,d∉m)(h1:Cov f S l u)(p:Cov f S m u):False:=by
 have i:∀{d e:Str},(∃ r,S.rows d=some r/\S.bas d=d)->(∃ r,S.rows e=some r/\S.bas e=e)->S.bas u=d->f e=some u->False:=fun⟨r,b,q⟩ ⟨s,g,j⟩ h h'=>by
  have o:=(I.dwn _ _ _ g j h').1;have:=I.own o;rw[h] at this;rw[this,o] at b;cases b
 obtain⟨d,b,z⟩:=h1;obtain⟨e,g,y⟩:=p;have c:d≠e:=fun w=>t d b (by rw[w];show g);rcases z with z | z<;>rcases y with y | y
 .show c (z.symm.trans y)
 .show i (hl d b) (n e g) z y
 .show i (n e g) (hl d b) y z
 .have a:=G.fs z;rw[G.fs y] at a;show c (ym a).symm
theorem Turns.app{s:LS}(h:Turns A f r)(g:∀(j:Nat) a b,s[j]?=some a->s[j+1]?=some b->A a b/\(f a=some b↔(r.length+j) % 2=1))(w:∀ a b,r[r.length-1]?=some a->s[0]?=some b->0<r.length->A a b/\(f a=some b↔(r.length-1) % 2=1)):Turns A f (r++s):=fun j a b c d=>by
 by_cases h1:j+1<r.length
 .rw [yQ (by lk)] at c;rw[yQ h1] at d;show h j a b c d
 .by_cases e:j+1=r.length
  .rw [yQ (by lk),show j=r.length-1 by lk] at c;rw[yB (by lk),show j+1-r.length=0 by lk] at d;rw[show j=r.length-1 by lk];show w a b c d (by lk)
  .rw [yB (by lk)] at c;rw[yB (by lk),show j+1-r.length=j-r.length+1 by lk] at d;have:=g _ a b c d
   rwa[show r.length+(j-r.length)=j by lk] at this
theorem Alt.back(G:Gr A f){s t:LS}{v w:Str}(hw:Alt A f s w)(hv:Alt A f r v)(i:r=rz++q::c::t)(hz:rz.length % 2=1)(F:A w v)(H:f w≠some v)(B:∀ u∈s,u∉q::c::t):Alt A f (s++(q::c::t).reverse) q:=by
 obtain⟨L,p⟩:=hw.tl;obtain⟨K,l⟩:=hv.tl;have o:0<s.length:=by rw[p];simp
 have I:=hv.odd;have n:r.length=rz.length+(t.length+2):=by rw[i];simp
 have at_:∀{j:Nat} {a:Str},(q::c::t).reverse[j]?=some a->j<t.length+2/\r[r.length-1-j]?=some a:=fun{j a} h=>by
  have hl:=(yc.mp h).1;rw[Yx] at hl;simp only[yD] at hl;rw[List.getElem?_reverse (by simp only[yD];lk)] at h;simp only[yD] at h;show⟨by lk,?_⟩;rw[n]
  conv=>lhs;rw[i]
  rw[yB (by lk),show rz.length+(t.length+2)-1-j-rz.length=t.length+1+1-1-j by lk];show h
 show⟨yV.mpr ⟨hw.nd,?_,fun x J y g e=>B x J (by rw[e];show kI.mp g)⟩,?_,fun y g=>?_,⟨s++(c::t).reverse,by simp⟩,hw.st.app (fun j a b h1 m=>?_) fun a b h1 m _=>?_⟩
 .show(List.reverse_perm _).nodup_iff.mpr ((yV.mp (i ▸ hv.nd)).2.1)
 .rw [yt,Yx];simp only[yD];have:=hw.odd;lk
 .rw [yQ o] at g;show hw.hd y g
 .obtain⟨l1,C⟩:=at_ h1;obtain⟨l2,d⟩:=at_ m;have:=hv.st (r.length-1-(j+1)) b a d (by rw[show r.length-1-(j+1)+1=r.length-1-j by lk];show C);show⟨G.as this.1,⟨fun z=>?_,fun z=>?_⟩⟩
  .have:=this.2.mp (G.fs z);have:=hw.odd;lk
  .show G.fs (this.2.mpr (by have:=hw.odd;lk))
 .have D:a=w:=by
   rw[p,yt,yB (by simp)] at h1;simpa using h1.symm
  have E:b=v:=by
   obtain⟨_,d⟩:=at_ m;rw[k7,l,yt,yB (by simp)] at d;simpa using d.symm
  subst D;subst E;show⟨F,⟨fun z=>absurd z H,fun z=>by have:=hw.odd;lk⟩⟩
end
section
variable{A:Str->Str->Prop}{f:Str->Option Str}{S S':FS}
theorem Ch.nd(I:FI A f S){l:LS}(h:Ch f S b l):∀{v:Str} {r:LS},S.rows v=some r->S.bas v=b->l.Nodup:=by
 induction h with
 | root e=>intro _ _ _ _;simp
 | @step b q z l e p g ih =>
  intro v r hv d;have a:S.bas b=b:=by rw[<- d];show I.idm v r hv
  obtain⟨n,h1⟩:=I.evb hv;rw[d] at h1;obtain⟨_,o,rz,i,hz,_⟩:=I.dwn b n q h1 a e;rw[p] at i;cases i;show yo.mpr ⟨fun j=>?_,ih hz rfl⟩;obtain⟨x,y,c⟩:=Yj j;obtain⟨_,_,_,_,m,_⟩:=g.up I hz rfl c;have:=m.one (.step e p g);rw[c] at this;have:=congrArg List.length this;simp at this;lk
theorem Ch.suf(I:FI A f S){v:Str}{l:LS}(hv:S.rows v=some r)(h:Ch f S (S.bas v) l)(e:l=l1++c::l2)(b:f c=some q):∃ rz t,r=rz++q::c::t/\rz.length % 2=1/\S.rows q=none/\∀ u∈q::c::t,Cov f S (l1++[c]) u:=by
 obtain⟨p,t,h1,a,_,g,i⟩:=h.up I hv rfl e;obtain⟨m,z,rz,_,n,o⟩:=I.dwn c p q h1 a b;show⟨rz,t,by rw[g,o];simp,(I.alt z rz n).odd,m,fun u hu=>?_⟩;rcases yv.mp hu with rfl | hu
 .show⟨c,by simp,.inr b⟩
 .rcases yv.mp hu with rfl | hu
  .show⟨u,by simp,.inl a⟩
  .rcases i u hu with z | z
   .show⟨c,by simp,.inl z⟩
   .show z.mono fun d j=>yM _ j
theorem Ch.meet(I:FI A f S){v w:Str}{s l:LS}(hv:S.rows v=some r)(hw:S.rows w=some s)(h:Ch f S (S.bas v) l)(h':Ch f S (S.bas w) l'){j:LS}(n:l=l1++m::l2)(i:l'=m1++m::j)(J:∀ d∈l1,d∉l'):j=l2/\∀ d∈m1,d∉l:=by
 obtain⟨_,_,_,_,k,_⟩:=h.up I hv rfl n;obtain⟨_,_,_,_,k',_⟩:=h'.up I hw rfl i;have E:j=l2:=(xq (k.one k')).2;show⟨E,fun d K hl=>?_⟩;obtain⟨a,b,C⟩:=Yj K;obtain⟨x,y,ex⟩:=Yj hl;obtain⟨_,_,_,_,g,_⟩:=h.up I hv rfl ex;obtain⟨_,_,_,_,g',_⟩:=h'.up I hw rfl (l1:=a) (c:=d) (l2:=b++m::j) (by rw[i,C];simp);have u:y=b++m::j:=(xq (g'.one g)).2;have e:=h.nd I hv rfl;have o:d∈l':=by rw[i,C];simp
 have q:d∉l1:=fun z=>J d z o;have p:d∈m::l2:=by rw[n] at hl;show(yA.mp hl).resolve_left q
 rcases yv.mp p with z | z
 .rw [z] at ex;rw[ex,u] at e;have:=(yV.mp e).2.1;show(yo.mp this).1 (by simp)
 .have t:m∈x:=by
   obtain⟨L,D,F⟩:=Yj z;have B:l=(l1++m::L)++d::D:=by rw[n,F];simp
   obtain⟨_,_,_,_,H,_⟩:=h.up I hv rfl B;have G:D=y:=(xq (g.one H)).2;rw[B,G] at ex;rw[<- List.append_cancel_right ex];simp
  rw[ex,u] at e;show(yV.mp e).2.2 m t m (by simp) rfl
def NewRow(S:FS)(v w u:Str)(r:LS):Prop:=∃ rv rw rz t,S.rows v=some rv/\S.rows w=some rw/\rv=rz++u::t/\r=rw++(u::t).reverse
def InR(f:Str->Option Str)(m:Str)(a:LS)(u:Str):Prop:=u=m\/∃ c∈a,u=c\/f c=some u
structure Mg(f:Str->Option Str)(S S':FS)(v w m:Str)(l1 m1:LS):Prop where
 par:S'.par=S.par
 old:∀ u r,S.rows u=some r->S'.rows u=some r
 new:∀ u r,S'.rows u=some r->S.rows u=some r\/(∃ c∈l1,f c=some u/\NewRow S v w u r)\/(∃ c∈m1,f c=some u/\NewRow S w v u r)
 all:∀ c∈l1++m1,∀ q,f c=some q->∃ r,S'.rows q=some r
 inn:∀ u,InR f m (l1++m1) (S.bas u)->S'.bas u=m
 out:∀ u,¬ InR f m (l1++m1) (S.bas u)->S'.bas u=S.bas u
theorem cut_one{a b c d:LS}{x:Str}(h:(a++x::b).Nodup)(e:a++x::b=c++x::d):a=c/\b=d:=by
 induction a generalizing c with
 | nil =>
  cases c with
  | nil=>show⟨rfl,(xq e).2⟩
  | cons y c =>
   obtain⟨f,g⟩:=xq e;show absurd (show x∈b by rw[g];simp) (yo.mp h).1
 | cons y a ih =>
  cases c with
  | nil =>
   obtain⟨f,g⟩:=xq e;show absurd (show y∈a++x::b by rw[f];simp) (yo.mp h).1
  | cons z c =>
   obtain⟨f,g⟩:=xq e;obtain⟨h1,i⟩:=ih (yo.mp h).2 g;show⟨by rw[f,h1],i⟩
theorem NewRow.ok(G:Gr A f)(I:FI A f S){v w:Str}{l:LS}(hv:S.rows v=some rv)(hw:S.rows w=some rw)(h:Ch f S (S.bas v) l)(h':Ch f S (S.bas w) l')(o:l=l1++l2)(J:∀ d∈l1,d∉l')(F:A w v)(H:S.bas w≠S.bas v)(hc:c∈l1)(L:f c=some u)(K:NewRow S v w u r) :
  Alt A f r u/\S.rows u=none/\∃ t,r=rw++t/\∀ x∈t,Cov f S l1 x:=by
 obtain⟨M,N,rz,t,p,q,s,y⟩:=K;rw[hv] at p;cases p;rw[hw] at q;cases q;obtain⟨a,b,n⟩:=Yj hc;obtain⟨O,t',j,B,C,m⟩:=h.suf I hv (l1:=a) (c:=c) (l2:=b++l2) (by rw[o,n];simp) L;have e:=(I.alt v rv hv).nd;obtain⟨D,E⟩:=cut_one (by rw[<- s];show e) (s.symm.trans j);subst D;subst E;have sub:∀ d∈a++[c],d∈l1:=fun d z=>by rw[n];rcases yA.mp z with z | z;show yM _ z;rw[yx.mp z];simp
 have inl:∀ d∈l1,d∈l:=fun d z=>by rw[o];show yM _ z
 show⟨?_,C,_,y,fun x g=>(m x (kI.mp g)).mono sub⟩;rw[y];show Alt.back G (I.alt w rw hw) (I.alt v rv hv) j B F (fun z=>H (I.pair hw hv z)) fun x g i=>?_;show Cov.apart G I (fun d z=>h.bs0 I hv (inl d (sub d z))) (fun d z=>h'.bs0 I hw z) (fun d z=>J d (sub d z)) (m x i) (h'.cov G I hw g)
theorem FI.merge(G:Gr A f)(I:FI A f S){v w:Str}(hv:S.rows v=some rv)(hw:S.rows w=some rw)(h:Ch f S (S.bas v) (l1++m::l2))(h':Ch f S (S.bas w) (m1++m::l2))(hd:∀ d∈l1,d∉m1++m::l2)(U:∀ d∈m1,d∉l1++m::l2)(ha:A v w)(hb:S.bas v≠S.bas w)(M:Mg f S S' v w m l1 m1):FI A f S':=by
 have hm:∃ r,S.rows m=some r/\S.bas m=m:=h.bs0 I hv (by simp);obtain⟨P,H,W⟩:=hm
 have B:∀ c∈l1++m1,(∃ r,S.rows c=some r/\S.bas c=c)/\c≠m/\∃ q,f c=some q/\S.rows q=none:=fun c hc=>by
  rcases yA.mp hc with z | z
  .show⟨h.bs0 I hv (yM _ z),fun e=>hd c z (by rw[e];simp),?_⟩;obtain⟨a,b,E⟩:=Yj z;obtain⟨rc,_,D,o,p,_⟩:=h.up I hv rfl (l1:=a) (c:=c) (l2:=b++m::l2) (by rw[E];simp);generalize l:b++m::l2=x at p
   cases p with
   | root _=>show absurd (congrArg List.length l) (by simp)
   | step e _ _=>show⟨_,e,(I.dwn _ _ _ D o e).1⟩
  .show⟨h'.bs0 I hw (yM _ z),fun e=>U c z (by rw[e];simp),?_⟩;obtain⟨a,b,E⟩:=Yj z;obtain⟨rc,_,D,o,p,_⟩:=h'.up I hw rfl (l1:=a) (c:=c) (l2:=b++m::l2) (by rw[E];simp);generalize l:b++m::l2=x at p
   cases p with
   | root _=>show absurd (congrArg List.length l) (by simp)
   | step e _ _=>show⟨_,e,(I.dwn _ _ _ D o e).1⟩
 have cov:∀ u,Cov f S (l1++m1) u->S'.bas u=m:=fun u ⟨d,hd,z⟩=>by
  show M.inn u ?_;rcases z with z | z
  .show .inr ⟨d,hd,.inl z⟩
  .have hn:=(B d hd).2.2;obtain⟨q,e,F⟩:=hn;rw[z] at e;cases e;rw[I.own F];show .inr ⟨d,hd,.inr z⟩
 have K:∀ u,Cov f S l1 u->S'.bas u=m:=fun u z=>cov u (z.mono fun d y=>yM _ y);have L:∀ u,Cov f S m1 u->S'.bas u=m:=fun u z=>cov u (z.mono fun d y=>yL _ y);have bm:∀ u,S.bas u=m->S'.bas u=m:=fun u z=>M.inn u (.inl z);have m0:S'.bas m=m:=bm m W;have Z:=M.old m P H
 have J:∀{x:Str} {rx a b:LS},S.rows x=some rx->Ch f S (S.bas x) (a++m::b)->(∀ d∈a,d∈l1++m1)->∃ t,rx=P++t/\∀ u∈t,S'.bas u=m:=fun{x rx a b} l hc hs=>by
  obtain⟨rc,t,D,_,_,R,g5⟩:=hc.up I l rfl rfl;rw[H] at D;cases D;show⟨t,R,fun u j=>(g5 u j).elim (bm u) fun z=>cov u (z.mono hs)⟩
 have nw:∀ u r,(∃ c∈l1,f c=some u/\NewRow S v w u r)\/(∃ c∈m1,f c=some u/\NewRow S w v u r)->Alt A f r u/\S.rows u=none/\S'.bas u=m/\∃ t,r=P++t/\∀ x∈t,S'.bas x=m:=fun u r z=>by
  rcases z with⟨c,hc,j,C⟩ | ⟨c,hc,j,C⟩
  .obtain⟨D,o,t,p,R⟩:=NewRow.ok G I hv hw h h' rfl hd (G.as ha) (Yb hb) hc j C;obtain⟨t0,p1,p2⟩:=J hw h' fun d y=>yL _ y;show⟨D,o,K u ⟨c,hc,.inr j⟩,t0++t,by rw[p,p1];simp,fun x l=>(yA.mp l).elim (p2 x) fun y=>K x (R x y)⟩
  .obtain⟨D,o,t,p,R⟩:=NewRow.ok G I hw hv h' h rfl U ha hb hc j C;obtain⟨t0,p1,p2⟩:=J hv h fun d y=>yM _ y;show⟨D,o,L u ⟨c,hc,.inr j⟩,t0++t,by rw[p,p1];simp,fun x l=>(yA.mp l).elim (p2 x) fun y=>L x (R x y)⟩
 have af:∀ u r,S.rows u=some r->InR f m (l1++m1) (S.bas u)->S.bas u=m\/S.bas u∈l1++m1:=fun u r j z=>by
  rcases z with z | ⟨c,hc,z | z⟩
  .show .inl z
  .show .inr (by rw[z];show hc)
  .obtain⟨q,e,F⟩:=(B c hc).2.2;rw[z] at e;cases e;obtain⟨rb,n⟩:=I.evb j;rw[F] at n;cases n
 show⟨fun u r j=>?_,fun u r j=>?_,fun u r j=>?_,fun b r q aa O F=>?_,fun u j=>?_,fun x z l=>?_⟩
 .rcases M.new u r j with z | z
  .show I.alt u r z
  .show(nw u r z).1
 .rcases M.new u r j with z | z
  .by_cases i:InR f m (l1++m1) (S.bas u)
   .rw [M.inn u i];show⟨P,?_⟩
    have:∃ t,r=P++t/\∀ x∈t,S'.bas x=m:=by
     rcases af u r z i with y | y
     .obtain⟨rb,t,N,n,e3⟩:=I.bse u r z;rw[y,H] at N;cases N;show⟨t,n,fun x l=>bm x ((e3 x l).trans y)⟩
     .rcases yA.mp y with y | y
      .obtain⟨a,b,E⟩:=Yj y;obtain⟨_,_,_,_,g,_⟩:=h.up I hv rfl (l1:=a) (c:=S.bas u) (l2:=b++m::l2) (by rw[E];simp);show J z (a:=S.bas u::b) (by simpa using g) fun d hd=>by rw[E];rcases yv.mp hd with rfl | hd<;>simp[*]
      .obtain⟨a,b,E⟩:=Yj y;obtain⟨_,_,_,_,g,_⟩:=h'.up I hw rfl (l1:=a) (c:=S.bas u) (l2:=b++m::l2) (by rw[E];simp);show J z (a:=S.bas u::b) (by simpa using g) fun d hd=>by rw[E];rcases yv.mp hd with rfl | hd<;>simp[*]
    obtain⟨t,N,n⟩:=this;show⟨t,Z,N,n⟩
   .rw [M.out u i];obtain⟨rb,t,N,n,e3⟩:=I.bse u r z;show⟨rb,t,M.old _ _ N,n,fun x l=>by rw[M.out x (by rw[e3 x l];show i)];show e3 x l⟩
  .obtain⟨_,_,e,t,N,n⟩:=nw u r z;rw[e];show⟨P,t,Z,N,n⟩
 .by_cases i:InR f m (l1++m1) (S.bas u)
  .rw [M.inn u i];show m0
  .rw [M.out u i];rcases M.new u r j with z | z
   .have e:=I.idm u r z;rw[M.out _ (by rw[e];show i)];show e
   .obtain⟨_,o,_⟩:=nw u r z;have e:=I.own o;rw[e,M.out u (by rw[e] at i ⊢;show i)];show e
 .have ac:S.bas b=b/\(b=m\/¬ InR f m (l1++m1) (S.bas b)):=by
   by_cases i:InR f m (l1++m1) (S.bas b)
   .have:=M.inn b i;rw[O] at this;rw[this];show⟨W,.inl rfl⟩
   .have:=M.out b i;rw[O] at this;show⟨this.symm,.inr i⟩
  obtain⟨T,ad⟩:=ac
  have C:S.rows b=some r:=by
   rcases M.new b r aa with z | z
   .show z
   .exfalso;obtain⟨_,o,p,_⟩:=nw b r z;rw[O] at p;rw[p,H] at o;cases o
  obtain⟨k1,z,rz,k2,k3,k4⟩:=I.dwn b r q C T F;show⟨?_,z,rz,by rw[M.par];show k2,M.old _ _ k3,k4⟩
  cases e:S'.rows q with
  | none=>rfl
  | some s =>
   exfalso
   have Y:∀ c∈l1++m1,f c=some q->False:=fun c hc ae=>by
    have:=G.fs ae;rw[G.fs F] at this;have n:=ym this;subst n;rcases ad with y | y
    .show(B b hc).2.1 y
    .show y (.inr ⟨b,hc,.inl T⟩)
   rcases M.new q s e with y | ⟨c,hc,y,_⟩ | ⟨c,hc,y,_⟩
   .rw [k1] at y;cases y
   .show Y c (yM _ hc) y
   .show Y c (yL _ hc) y
 .by_cases i:InR f m (l1++m1) (S.bas u)
  .rw [M.inn u i] at j ⊢;by_cases X:S.bas u=u
   .rw [X] at i;rcases i with z | ⟨c,hc,z | z⟩
    .show absurd z.symm j
    .subst z;obtain⟨⟨r,C,_⟩,_,q,F,_⟩:=B u hc;show⟨⟨r,M.old _ _ C⟩,q,F,cov q ⟨u,hc,.inr F⟩⟩
    .show⟨M.all c hc u z,c,G.fs z,cov c ⟨c,hc,.inl (B c hc).1.choose_spec.2⟩⟩
   .obtain⟨⟨r,C⟩,y,hy,e⟩:=I.mat u X;show⟨⟨r,M.old _ _ C⟩,y,hy,M.inn y (by rw[e];show i)⟩
  .rw [M.out u i] at j ⊢;obtain⟨⟨r,C⟩,y,hy,e⟩:=I.mat u j;show⟨⟨r,M.old _ _ C⟩,y,hy,by rw[M.out y (by rw[e];show i)];show e⟩
 .rw [M.par] at l;obtain⟨k1,⟨r,k2⟩,y,s,k3,k4⟩:=I.odd x z l;show⟨k1,⟨r,M.old _ _ k2⟩,y,s,k3,M.old _ _ k4⟩
end
structure Aug(A:Str->Str->Prop)(f:Str->Option Str)(r:LS):Prop where
 nd:r.Nodup
 two:2<=r.length
 ev:r.length % 2=0
 st:Turns A f r
 hd:∀ s,r[0]?=some s->f s=none
 tl:∀ s,r[r.length-1]?=some s->f s=none
section
variable{A:Str->Str->Prop}{f:Str->Option Str}{S S':FS}
theorem FI.aug(G:Gr A f)(I:FI A f S){v w:Str}{l:LS}(hv:S.rows v=some rv)(hw:S.rows w=some rw)(h:Ch f S (S.bas v) l)(h':Ch f S (S.bas w) l')(hl:l.getLast?≠l'.getLast?)(E:A v w):Aug A f (rv++rw.reverse):=by
 have n:∀ d∈l,d∉l':=fun d F p=>by
  obtain⟨a,b,e⟩:=Yj F;obtain⟨x,y,q⟩:=Yj p;obtain⟨_,_,_,_,k,_⟩:=h.up I hv rfl e;obtain⟨_,_,_,_,k',_⟩:=h'.up I hw rfl q;have:=k.one k';show hl (by rw[e,q,this,List.getLast?_append,List.getLast?_append];rfl)
 have c:=I.alt v rv hv;have g:=I.alt w rw hw;obtain⟨O,r⟩:=c.tl;obtain⟨P,t⟩:=g.tl;have K:0<rv.length:=by rw[r];simp
 have L:0<rw.length:=by rw[t];simp
 have M:=c.odd;have N:=g.odd
 have H:f v≠some w:=fun z=>by
  have e:=I.pair hv hw z;have:=h.one (e ▸ h');rw[this] at hl;show hl rfl
 have at_:∀{j:Nat} {a:Str},rw.reverse[j]?=some a->j<rw.length/\rw[rw.length-1-j]?=some a:=fun{j a} e=>by
  have hl:=(yc.mp e).1;rw[Yx] at hl;rw[List.getElem?_reverse hl] at e;show⟨hl,e⟩
 show⟨yV.mpr ⟨c.nd,(List.reverse_perm _).nodup_iff.mpr g.nd,fun x J y u e=>?_⟩,by rw[yt,Yx];lk,by rw[yt,Yx];lk,c.st.app (fun j a b h1 o=>?_) fun a b h1 o _=>?_,fun s i=>?_,fun s i=>?_⟩
 .rw [<- e] at u;show Cov.apart G I (fun d z=>h.bs0 I hv z) (fun d z=>h'.bs0 I hw z) n (h.cov G I hv J) (h'.cov G I hw (kI.mp u))
 .obtain⟨l1,B⟩:=at_ h1;obtain⟨l2,m⟩:=at_ o;have:=g.st (rw.length-1-(j+1)) b a m (by rw[show rw.length-1-(j+1)+1=rw.length-1-j by lk];show B);show⟨G.as this.1,⟨fun z=>?_,fun z=>?_⟩⟩
  .have:=this.2.mp (G.fs z);lk
  .show G.fs (this.2.mpr (by lk))
 .have C:a=v:=by
   rw[r,yt,yB (by simp)] at h1;simpa using h1.symm
  have D:b=w:=by
   obtain⟨_,m⟩:=at_ o;rw[k7,t,yt,yB (by simp)] at m;simpa using m.symm
  subst C;subst D;show⟨E,⟨fun z=>absurd z H,fun z=>by lk⟩⟩
 .rw [yQ K] at i;show c.hd s i
 .rw [yt,Yx,yB (by lk),show rv.length+rw.length-1-rv.length=rw.length-1 by lk] at i;obtain⟨_,e⟩:=at_ i;rw[kN] at e;show g.hd s e
structure Gw(S S':FS)(p u y:Str)(r:LS):Prop where
 ry:S'.rows y=some (r++[u,y])
 ro:∀ s,s≠y->S'.rows s=S.rows s
 pu:S'.par u=some p
 po:∀ s,s≠u->S'.par s=S.par s
 ba:S'.bas=S.bas
theorem FI.fresh(G:Gr A f)(I:FI A f S)(a:S.rows u=none)(g:S.par u=none)(c:f u=some y):S.rows y=none:=by
 cases e:S.rows y with
 | none=>rfl
 | some s =>
  exfalso;by_cases z:S.bas y=y
  .obtain⟨_,_,_,k,_⟩:=I.dwn y s u e z (G.fs c);rw[g] at k;cases k
  .obtain⟨_,x,b,k⟩:=I.mat y z;rw[G.fs c] at b;cases b;rw[I.own a] at k;obtain⟨h,d⟩:=I.evb e;rw[<- k,a] at d;cases d
theorem FI.grow(G:Gr A f)(I:FI A f S){p:Str}(o:S.rows p=some r)(O:A p u)(w:S.rows u=none)(K:S.par u=none)(n:f u=some y)(W:Gw S S' p u y r):FI A f S':=by
 have c:=I.fresh G w K n;have T:u≠y:=G.ir (G.fa n);have py:p≠y:=fun z=>by rw[z,c] at o;cases o
 have g:∀ s t,S.rows s=some t->S'.rows s=some t:=fun s t e=>by rw[W.ro s (fun z=>by rw[z,c] at e;cases e)];show e
 have new:∀ s t,S'.rows s=some t->(s=y/\t=r++[u,y])\/(s≠y/\S.rows s=some t):=fun s t e=>by
  by_cases z:s=y
  .subst z;rw[W.ry] at e;show .inl ⟨rfl,(ym e).symm⟩
  .rw [W.ro s z] at e;show .inr ⟨z,e⟩
 obtain⟨l,hl⟩:=I.chainOf o
 have C:∀ x∈r,x≠u/\x≠y:=fun x D=>by
  obtain⟨d,X,z⟩:=hl.cov G I o D;obtain⟨rd,i,m⟩:=hl.bs0 I o X;show⟨fun e=>?_,fun e=>?_⟩
  .rw [e] at z;rcases z with z | z
   .rw [I.own w] at z;rw[z,i] at w;cases w
   .obtain⟨_,_,_,k,_⟩:=I.dwn d rd u i m z;rw[K] at k;cases k
  .rw [e] at z;rcases z with z | z
   .rw [I.own c] at z;rw[z,i] at c;cases c
   .have:=G.fs z;rw[G.fs n] at this;rw[ym this,i] at w;cases w
 have B:=I.alt p r o;obtain⟨r0,N⟩:=B.tl;have L:0<r.length:=by rw[N];simp
 show⟨fun v t e=>?_,fun v t e=>?_,fun v t e=>?_,fun b t q e P F=>?_,fun v e=>?_,fun x z e=>?_⟩
 .rcases new v t e with⟨rfl,rfl⟩ | ⟨_,e⟩
  .show⟨yV.mpr ⟨B.nd,by simp[T],fun x D z hz E=>?_⟩,by rw[yt];have:=B.odd;simp only[yD,YN];lk,fun s R=>?_,⟨r++[u],by simp⟩,B.st.app (fun j a b h1 J=>?_) fun a b h1 J _=>?_⟩
   .obtain⟨Z,n2⟩:=C x D;simp only[yv,yz,yU] at hz;rcases hz with rfl | rfl
    .show Z E
    .show n2 E
   .rw [yQ L] at R;show B.hd s R
   .have Y:j=0:=by have:=(yc.mp J).1;simp at this;lk
    subst Y;cases h1;cases J;show⟨G.fa n,⟨fun _=>by have:=B.odd;lk,fun _=>n⟩⟩
   .cases J
    have U:a=p:=by
     rw[N,yt,yB (by simp)] at h1;simpa using h1.symm
    subst U;show⟨O,⟨fun z=>?_,fun z=>by have:=B.odd;lk⟩⟩;have:=G.fs z;rw[n] at this;show absurd (ym this).symm py
  .show I.alt v t e
 .rw [W.ba];rcases new v t e with⟨rfl,rfl⟩ | ⟨_,e⟩
  .rw [I.own c];show⟨_,[],W.ry,by simp,(fun x h=>by cases h)⟩
  .obtain⟨rb,s,i,m,H⟩:=I.bse v t e;show⟨rb,s,g _ _ i,m,H⟩
 .rw [W.ba];rcases new v t e with⟨rfl,rfl⟩ | ⟨_,e⟩
  .rw [I.own c,I.own c]
  .show I.idm v t e
 .rw [W.ba] at P;rcases new b t e with⟨rfl,rfl⟩ | ⟨_,e⟩
  .rw [G.fs n] at F;cases F;show⟨by rw[W.ro u T];show w,p,r,W.pu,g _ _ o,rfl⟩
  .obtain⟨i,z,rz,m,H,M⟩:=I.dwn b t q e P F;show⟨?_,z,rz,?_,g _ _ H,M⟩
   .rw [W.ro q fun z=>?_]
    .show i
    .rw [z] at F;have:=G.fs F;rw[G.fs n] at this;rw[<- ym this,w] at e;cases e
   .rw [W.po q fun z=>?_]
    .show m
    .rw [z,K] at m;cases m
 .rw [W.ba] at e ⊢;obtain⟨⟨t,i⟩,m⟩:=I.mat v e;show⟨⟨t,g _ _ i⟩,m⟩
 .by_cases D:x=u
  .subst D;rw[W.pu] at e;cases e;show⟨O,⟨r,g _ _ o⟩,y,_,n,W.ry⟩
  .rw [W.po x D] at e;obtain⟨i,⟨t,m⟩,y',s,H,M⟩:=I.odd x z e;show⟨i,⟨t,g _ _ m⟩,y',s,H,g _ _ M⟩
theorem FI.start(h1:∀ v r,S.rows v=some r->f v=none/\r=[v])(d:∀ x,S.par x=none)(c:∀ v,S.bas v=v):FI A f S:=by
 show⟨fun v r e=>?_,fun v r e=>?_,fun v r e=>by rw[c,c],fun b r q e _ g=>?_,fun v e=>absurd (c v) e,fun x z e=>by rw[d] at e;cases e⟩
 .obtain⟨k,rfl⟩:=h1 v r e;show⟨by simp,rfl,fun s i=>by cases i;show k,⟨[],rfl⟩,fun j a b h1 d=>?_⟩;simp at d
 .show⟨r,[],by rw[c];show e,by simp,(fun x h=>by cases h)⟩
 .rw [(h1 b r e).1] at g;cases g
end
structure CI(A:Str->Str->Prop)(S:FS)(Pd:Str->Prop):Prop where
 cl:∀ v u,Pd v->A v u->S.bas u=S.bas v\/(S.par u≠none/\¬ Pd u)
 pe:∀ v,Pd v->S.rows v≠none
theorem CI.mono(h:CI A S Pd)(b:∀ u v,S.bas u=S.bas v->S'.bas u=S'.bas v)(c:∀ u,S.par u≠none->S'.par u≠none)(d:∀ u,S.rows u≠none->S'.rows u≠none):CI A S' Pd:=
 ⟨fun v u k a=>(h.cl v u k a).imp (b u v) fun z=>⟨c u z.1,z.2⟩,fun v k=>d v (h.pe v k)⟩
theorem qe3:∀{l m:LS},l.Nodup->(∀ x∈l,x∈m)->l.length<=m.length
 | [],_,_,_=>xp _
 | x::r,m,hn,hs=>by
  obtain⟨h1,c⟩:=yo.mp hn;have a:=hs x yO;have:=qe3 (l:=r) (m:=m.erase x) c fun y b=>(List.mem_erase_of_ne (fun e=>h1 (by rw[<- e];show b))).mpr (hs y (yI _ b));rw[List.length_erase_of_mem a] at this;have:0<m.length:=List.length_pos_of_mem a;simp only[yD];lk
structure Fn(A:Str->Str->Prop)(f:Str->Option Str)(S:FS)(ss:LS):Prop where
 fi:FI A f S
 gr:Gr A f
 inn:∀ a b,A a b->a∈ss
 nd:ss.Nodup
 cl:∀ v u,S.rows v≠none->A v u->S.bas u=S.bas v\/(S.par u≠none/\S.rows u=none)
 sng:∀ z∈ss,f z=none->S.rows z≠none
 es:∀ v,S.rows v≠none->v∈ss
noncomputable def clsL(S:FS)(ss:LS)(b:Str):LS:=ss.filter fun u=>(S.rows u).isSome&&decide (S.bas u=b)
noncomputable def basL(S:FS)(ss:LS):LS:=ss.filter fun u=>(S.rows u).isSome&&decide (S.bas u=u)
noncomputable def barL(S:FS)(ss:LS):LS:=ss.filter fun u=>(S.par u).isSome&&!(S.rows u).isSome
noncomputable def snL(g:Str->Option Str)(ss:LS):LS:=ss.filter fun u=>!(g u).isSome
section
variable{A:Str->Str->Prop}{f g:Str->Option Str}{S:FS}{ss:LS}
theorem some_of{o:Option α}(h:o≠none):∃ r,o=some r:=by cases o with | none=>show absurd rfl h | some r=>show⟨r,rfl⟩
end
theorem qdY{t:Str}:∀{qs:LP},pt qs s=some t->(s,t)∈qs\/(t,s)∈qs
 | [],h=>by cases h
 | q::r,h=>by
  unfold pt at h;split at h
  .rename_i e;cases h;show .inl (by rw[<- e];simp)
  .split at h
   .rename_i e;cases h;show .inr (by rw[<- e];simp)
   .rcases qdY h with z | z
    .show .inl (yI _ z)
    .show .inr (yI _ z)
theorem qfr:∀{qs:LP},(qj qs).Nodup->∀{a b:Str},(a,b)∈qs\/(b,a)∈qs->pt qs a=some b
 | [],_,a,b,m=>by rcases m with z | z<;>cases z
 | q::r,h,a,b,m=>by
  have d:(q.1::q.2::qj r).Nodup:=h;obtain⟨g,l⟩:=yo.mp d;obtain⟨n,o⟩:=yo.mp l;have inr:∀{x y:Str},(x,y)∈r->x∈qj r/\y∈qj r:=fun c=>⟨xt.mpr ⟨_,c,by simp⟩,xt.mpr ⟨_,c,by simp⟩⟩;unfold pt
  have later:(a,b)∈r\/(b,a)∈r->(if q.1=a then some q.2 else if q.2=a then some q.1 else pt r a)=some b:=fun j=>by
   have i:a∈qj r:=j.elim (fun z=>(inr z).1) fun z=>(inr z).2;rw[yC (fun z=>g (by rw[z];show yI _ i)),yC (fun z=>n (by rw[z];show i))];show qfr o j
  rcases m with z | z
  .rcases yv.mp z with z | z
   .subst z;rw[yE rfl]
   .show later (.inl z)
  .rcases yv.mp z with z | z
   .subst z;have f:b≠a:=fun e=>g (by show b∈a::_;rw[e];show yO);rw[yC f,yE rfl]
   .show later (.inr z)
theorem qdZ(h:(qj qs).Nodup):pt qs a=some b↔(a,b)∈qs\/(b,a)∈qs:=⟨qdY,qfr h⟩
theorem qd0(h:(qj qs).Nodup):pt qs a=some b↔pt qs b=some a:=by
 rw[qdZ h,qdZ h,Or.comm]
theorem qd1{x y:Option Str}(h:∀ b,x=some b↔y=some b):x=y:=by
 cases x with
 | none=>cases y with
  | none=>rfl
  | some b=>show absurd ((h b).mpr rfl) (fun z=>by cases z)
 | some a=>show((h a).mp rfl).symm
theorem uq:FnScope ["self","place","row"] ["self","place","row"] (qh jX):=fS
structure Fo where
 x:Addr
 b:Addr
 dp:Addr
 dr:Addr
 da:Addr
 ds:Addr
 dg:Addr
 dw:Addr
 ex:LQ
noncomputable def Fo.six(a:Fo):LQ:=[a.x,a.dr,a.da,a.ds,a.dg,a.dw]
noncomputable def Fo.all(a:Fo):LQ:=a.six++a.ex
noncomputable def Fo.tab(a:Fo)(lo:V):List (Str×V):=[("board",.ref a.b),("partners",.ref a.dp),("rows",.ref a.dr),("parents",.ref a.da),("bases",.ref a.ds),("rings",.ref a.dg),("waiting",.ref a.dw),("longer",lo)]
def Bx(l:LQ)(H H':Hp):Prop:=∀ c o,c∉l->H c=some o->H' c=some o
def RowV(H:Hp)(l:LQ)(o:Option V):Option (LS)->Prop
 | none=>o=none
 | some r=>∃ t,o=some (.ref t)/\H t=some (.lst (r.map V.str))/\t∉l
def FoO(b:Addr)(H:Hp)(a:Fo)(lo:V):Prop:=∃ dx fs,H a.x=some (.ins b dx fs)/\fs.length<=9/\(lo=.non->fs.length<=8)/\(∀ f v,(f,v)∈a.tab lo->fs.lookup f=some v)/\∀ f,f∉fAtt->fs.lookup f=none
structure FoA(cf cw:Addr)(H0 H:Hp)(a:Fo)(ss:LS)(ns:LN)(qs:LP)(S:FS)(bs dn wt:LS)(lo:V):Prop where
 sm:L2.Same H0 H
 web:WebAt cw H0 a.b ss ns
 prt:H0 a.dp=some (.dK (prK qs))
 fr:∀ c∈a.six,H0 c=none
 nd:[a.dr,a.da,a.ds,a.dg,a.dw].Nodup
 exf:∀ c∈a.ex,H0 c=none/\c∉a.six/\∃ o,H c=some o
 obj:FoO cf H a lo
 row:∃ kvs,H a.dr=some (.dK kvs)/\kvs.length<=(dn++wt).length/\∀ s,RowV H a.all (zh kvs (.inr s:Key)) (S.rows s)
 par:∃ kvs,H a.da=some (.dK kvs)/\(∃ po:LS,kvs.length<=po.length/\po.Nodup/\∀ u∈po,u∈ss/\S.par u≠none)/\∀ s,zh kvs (.inr s:Key)=(S.par s).map V.str
 bas:∃ kvs,H a.ds=some (.dK kvs)/\kvs.length<=bs.length/\∀ s∈bs,zh kvs (.inr s:Key)=some (.str (S.bas s))
 rng:∃ xs,H a.dg=some (.lst xs)/\xs.length<=(dn++wt).length
 wai:H a.dw=some (.lst (wt.map V.str))
 evn:(dn++wt).Nodup
 evi:∀ v,v∈dn++wt↔S.rows v≠none
 evs:∀ v∈dn++wt,v∈ss
theorem RowV.mono{l:LQ}{o:Option V}{r:Option (LS)}(h:RowV H l o r){m:LQ}(k:Bx m H H')(d:∀ c∈m,c∈l):RowV H' l o r:=by
 cases r with
 | none=>show h
 | some r=>obtain⟨t,h1,b,a⟩:=h;show⟨t,h1,k _ _ (fun z=>a (d _ z)) b,a⟩
theorem Fo.sub{a:Fo}:∀ c∈a.six,c∈a.all:=fun c h=>yM _ h
theorem Bx.of{l:LQ}(s:L2.Same H H'):Bx l H H':=fun c o _ e=>s c o e
theorem Bx.trans{l:LQ}{d:Hp}(a:Bx l H H')(b:Bx l H' d):Bx l H d:=fun c o n e=>b c o n (a c o n e)
section
variable{cf cw:Addr}{H0 H H':Hp}{a:Fo}{ss:LS}{ns:LN}{qs:LP}{S S':FS}{bs dn wt:LS}{lo:V}
theorem FoA.same(h:FoA cf cw H0 H a ss ns qs S bs dn wt lo)(s:L2.Same H H'):FoA cf cw H0 H' a ss ns qs S bs dn wt lo:=by
 obtain⟨dx,fs,h1,i⟩:=h.obj;obtain⟨j,r,t,u⟩:=h.row;obtain⟨m,p,q⟩:=h.par;obtain⟨n,b,d⟩:=h.bas;obtain⟨xs,f,g⟩:=h.rng;show⟨h.sm.trans s,h.web,h.prt,h.fr,h.nd,fun c hc=>⟨(h.exf c hc).1,(h.exf c hc).2.1,(h.exf c hc).2.2.elim fun o e=>⟨o,s _ _ e⟩⟩,⟨dx,fs,s _ _ h1,i⟩,⟨j,s _ _ r,t,fun z=>(u z).mono (Bx.of (l:=[]) s) (fun c h=>by cases h)⟩,⟨m,s _ _ p,q⟩,⟨n,s _ _ b,d⟩,⟨xs,s _ _ f,g⟩,s _ _ h.wai,h.evn,h.evi,h.evs⟩
theorem FoA.six(h:FoA cf cw H0 H a ss ns qs S bs dn wt lo):∀ c∈a.six,∃ o,H c=some o:=fun c hc=>by
 obtain⟨dx,fs,h1,_⟩:=h.obj;obtain⟨g,f,_⟩:=h.row;obtain⟨i,e,_⟩:=h.par;obtain⟨j,b,_⟩:=h.bas;obtain⟨xs,d,_⟩:=h.rng;simp only[Fo.six,yv,yz,yU] at hc;rcases hc with rfl | rfl | rfl | rfl | rfl | rfl
 .show⟨_,h1⟩
 .show⟨_,f⟩
 .show⟨_,e⟩
 .show⟨_,b⟩
 .show⟨_,d⟩
 .show⟨_,h.wai⟩
theorem FoA.new(h:FoA cf cw H0 H a ss ns qs S bs dn wt lo){c:Addr}(e:H c=none):c∉a.six:=fun z=>by
 obtain⟨o,k⟩:=h.six c z;rw[e] at k;cases k
theorem FoA.sep(h:FoA cf cw H0 H a ss ns qs S bs dn wt lo):a.six.Nodup:=by
 obtain⟨dx,fs,h1,_⟩:=h.obj;obtain⟨f,e,_⟩:=h.row;obtain⟨g,d,_⟩:=h.par;obtain⟨i,b,_⟩:=h.bas;obtain⟨xs,c,_⟩:=h.rng;show yo.mpr ⟨fun z=>?_,h.nd⟩;simp only[yv,yz,yU] at z;rcases z with z | z | z | z | z
 .rw [z,e] at h1;cases h1
 .rw [z,d] at h1;cases h1
 .rw [z,b] at h1;cases h1
 .rw [z,c] at h1;cases h1
 .rw [z,h.wai] at h1;cases h1
theorem FoO.eq(h:FoO cf H a lo)(e:H' a.x=H a.x):FoO cf H' a lo:=by
 obtain⟨dx,fs,h1,b⟩:=h;show⟨dx,fs,e.trans h1,b⟩
theorem Bx.upd{l:LQ}{c:Addr}(k:Bx l H H')(hc:c∈l):Bx l H (upd H' c o):=fun d u n e=>by
 rw[qf (fun z=>n (by rw[z];show hc))];show k d u n e
noncomputable def Fo.add(a:Fo)(c:Addr):Fo:={ a with ex:=c::a.ex }
theorem FoA.add(h:FoA cf cw H0 H a ss ns qs S bs dn wt lo){c:Addr}(e:H c=none):FoA cf cw H0 (upd H c o) (a.add c) ss ns qs S bs dn wt lo:=by
 have g:=h.same (qN (Sr H) (o:=o) e);obtain⟨f,q,w,x⟩:=g.row;obtain⟨n,v,_,A⟩:=h.row
 have s:n=f:=by
  have:=qN (Sr H) (o:=o) e _ _ v;rw[q] at this;show(HO.dK.inj (ym this)).symm
 subst s;show⟨g.sm,g.web,g.prt,g.fr,g.nd,fun d hd=>?_,g.obj,⟨n,q,w,fun z=>?_⟩,g.par,g.bas,g.rng,g.wai,g.evn,g.evi,g.evs⟩
 .rcases yv.mp hd with rfl | hd
  .show⟨h.sm.free e,h.new e,_,qb⟩
  .show g.exf d hd
 .have b:=x z;have j:=A z
  cases i:S.rows z with
  | none=>rw[i] at b;show b
  | some r =>
   rw[i] at b j;obtain⟨t,f,u,p⟩:=b;obtain⟨t',l,m,_⟩:=j;rw[f] at l;cases l;show⟨t,f,u,fun y=>?_⟩;rcases yA.mp y with y | y
   .show p (yM _ y)
   .rcases yv.mp y with y | y
    .rw [y,e] at m;cases m
    .show p (yL _ y)
theorem FoA.updE(h:FoA cf cw H0 H a ss ns qs S bs dn wt lo){c:Addr}(hc:c∈a.ex):FoA cf cw H0 (upd H c o) a ss ns qs S bs dn wt lo:=by
 obtain⟨l,p,_⟩:=h.exf c hc;have ne:∀{d:Addr},d∈a.six->upd H c o d=H d:=fun b=>qf fun z=>p (by rw[<- z];show b);obtain⟨q,w,x,A⟩:=h.row;obtain⟨r,t,v⟩:=h.par;obtain⟨s,f,g⟩:=h.bas;obtain⟨xs,i,j⟩:=h.rng;show⟨qaB h.sm l,h.web,h.prt,h.fr,h.nd,fun d b=>⟨(h.exf d b).1,(h.exf d b).2.1,by by_cases z:d=c;show⟨_,by rw[z,qb]⟩;rw[qf z];show(h.exf d b).2.2⟩,h.obj.eq (ne (by simp[Fo.six])),⟨q,(ne (by simp[Fo.six])).trans w,x,fun z=>(A z).mono (m:=[c]) (fun d u n e=>by rw[qf (fun y=>n (by rw[y];simp))];show e) fun d b=>by rw[yx.mp b];show yL _ hc⟩,⟨r,(ne (by simp[Fo.six])).trans t,v⟩,⟨s,(ne (by simp[Fo.six])).trans f,g⟩,⟨xs,(ne (by simp[Fo.six])).trans i,j⟩,(ne (by simp[Fo.six])).trans h.wai,h.evn,h.evi,h.evs⟩
theorem FoA.drop(h:FoA cf cw H0 H a ss ns qs S bs dn wt lo){l:LQ}(f:∀ c∈l,c∈a.ex):FoA cf cw H0 H { a with ex:=l } ss ns qs S bs dn wt lo:=by
 obtain⟨d,j,m,n⟩:=h.row;show⟨h.sm,h.web,h.prt,h.fr,h.nd,fun c hc=>h.exf c (f c hc),h.obj,⟨d,j,m,fun z=>?_⟩,h.par,h.bas,h.rng,h.wai,h.evn,h.evi,h.evs⟩;have b:=n z
 cases e:S.rows z with
 | none=>rw[e] at b;show b
 | some r =>
  rw[e] at b;obtain⟨t,d,g,i⟩:=b;show⟨t,d,g,fun y=>i ((yA.mp y).elim (fun z=>yM _ z) fun z=>yL _ (f _ z))⟩
theorem FoA.newA(h:FoA cf cw H0 H a ss ns qs S bs dn wt lo){c:Addr}(e:H c=none):c∉a.all:=fun z=>by
 rcases yA.mp z with z | z
 .show h.new e z
 .obtain⟨o,k⟩:=(h.exf c z).2.2;rw[e] at k;cases k
theorem FoA.few(h:FoA cf cw H0 H a ss ns qs S bs dn wt lo):(dn++wt).length<=ss.length:=j3 h.evn h.evs
end
noncomputable def FS.setRow(S:FS)(p:Str)(r:LS):FS:=⟨fun s=>if s=p then some r else S.rows s,S.par,S.bas⟩
inductive spRe(cc:Nat->Addr)(cw:Addr)(vs:List V)(H:Hp)(Q:VK)(E:XK):Prop|mk (H0:Hp) (a:Fo) (ss:LS) (ns:LN) (qs:LP) (S:FS) (bs dn wt:LS) (lo:V) (p:Str) (t:Addr) (r:LS) (_:vs=[.ref a.x,.str p,.ref t]) (_:FoA (cc 9) cw H0 H a ss ns qs S bs dn wt lo) (_:ss.length<=14) (_:H t=some (.lst (r.map V.str))) (_:t∉a.all) (_:p∈ss) (_:S.rows p=none) (_:∀ H',FoA (cc 9) cw H0 H' a ss ns qs (S.setRow p r) bs dn (wt++[p]) lo->Bx a.six H H'->(∀ o,H a.dg=some o->H' a.dg=some o)->Q .non H')
inductive spBd(cc:Nat->Addr)(cw:Addr)(vs:List V)(H:Hp)(Q:VK)(E:XK):Prop|mk (H0:Hp) (a:Fo) (ss:LS) (ns:LN) (qs:LP) (S:FS) (dn wt:LS) (lo:V) (p:Str) (r l:LS) (A:Str->Str->Prop) (_:vs=[.ref a.x,.str p]) (_:FoA (cc 9) cw H0 H a ss ns qs S ss dn wt lo) (_:ss.length<=14) (_:FI A (pt qs) S) (_:S.rows p=some r) (_:Ch (pt qs) S (S.bas p) l) (_:l.length<=14) (_:∀(t:Addr) (H':Hp),L2.Same H H'->H t=none->H' t=some (.lst (l.map V.str))->Q (.ref t) H')
section
variable{P:Program}{w:World}{K:W.Frag}{mg:Str->Option Value}{base:Heap}{cc:Nat->Addr}{cw:Addr}{H0 H:Hp}{a:Fo}{ss:LS}{ns:LN}{qs:LP}{S:FS}{bs dn wt:LS}{lo:V}
theorem FoO.rd{Q:VK}{f:Str}(h:FoO (cc 9) H a lo)(T:Txt K mg cc cw)(i:Nat)(e:(a.tab lo)[i]?=some (f,v))(q:Q v H):FldR K f (.ref a.x) H Q:=by
 obtain⟨dx,fs,h1,_,_,b,_⟩:=h;show⟨a.x,cc 9,dx,fs,v,rfl,h1,T.fcl,T.fa f ?_,b f v (ye e),q⟩;have:((a.tab lo).map Prod.fst)[i]?=some f:=by rw[yd,e];rfl
 show ye (l:=fAtt) (i:=i) this
theorem ok_re(F:Fun K "reach" "Forest.reach" jX f fd)(T:Txt K mg cc cw):FnOk P w K mg base CX0 1 f fd ["self","place","row"] (spRe cc cw):=by
 show F.ok uq fun _ _ _ _ H vs Q E U h=>?_
 .obtain⟨H0,a,ss,ns,qs,S,bs,dn,wt,lo,p,t,r,rfl,h,R,W,d,s,m,q⟩:=h;have X:=jZ U;have b:=h.few;have l:p∉dn++wt:=fun z=>(h.evi p).mp z m;show⟨_,(qc (jD (pv 2) (jO (qD (K:=K) rfl (pv 0) rfl) (pv 1) (jQ X)))
 (qe (qL (qbA (K:=K) rfl yN y8 y9 qS (qD (K:=K) rfl (pv 0) rfl) (qa (pv 1) qd))))),?_⟩
  ext;obtain⟨⟨n1,n2,n3,n4,n5⟩,⟨n6,n7,C,D⟩,⟨aa,ac,A⟩,⟨ad,B⟩,g⟩:=(by simpa [Fo.six] using h.sep:(¬a.x=a.dr/\¬a.x=a.da/\¬a.x=a.ds/\¬a.x=a.dg/\¬a.x=a.dw)/\(¬a.dr=a.da/\¬a.dr=a.ds/\¬a.dr=a.dg/\¬a.dr=a.dw)/\(¬a.da=a.ds/\¬a.da=a.dg/\¬a.da=a.dw)/\(¬a.ds=a.dg/\¬a.ds=a.dw)/\¬a.dg=a.dw);obtain⟨j,r1,r2,r3⟩:=h.row;obtain⟨Z,p1,p2,p3⟩:=h.par;obtain⟨ks,J,L,M⟩:=h.bas;obtain⟨xs,N,O⟩:=h.rng;show .inl (h.obj.rd T 2 rfl ?_);apply .inr ⟨a.dr,_,rfl,DPut.k (k:=Sum.inr p) r1 (by rw[Yn];lk),?_⟩;have G:FoO (cc 9) (upd H a.dr (.dK (zB j (Sum.inr p) (.ref t)))) a lo:=h.obj.eq (qf n1);have I:upd H a.dr (.dK (zB j (Sum.inr p) (.ref t))) a.dw=some (.lst (wt.map V.str)):=by rw[qf (Yb D)];show h.wai
  apply .inl (G.rd T 6 rfl ?_);show⟨.inl ⟨rfl,_,.of I⟩,?_⟩;apply⟨a.dw,_,_,rfl,rfl,I,by rw[ya];show qi (by rw[yt] at b;lk),?_⟩;have u:∀{c:Addr} {o o':HO},c∉a.six->upd (upd H a.dr o) a.dw o' c=H c:=fun hc=>by rw[qf (fun z=>hc (by rw[z];simp[Fo.six])),qf (fun z=>hc (by rw[z];simp[Fo.six]))]
  have i:Bx a.six H (upd (upd H a.dr (.dK (zB j (Sum.inr p) (.ref t)))) a.dw (.lst (wt.map V.str++[.str p]))):=fun c o n e=>by rw[u n];show e
  show q _ ⟨qaB (qaB h.sm (h.fr _ (by simp[Fo.six]))) (h.fr _ (by simp[Fo.six])),h.web,h.prt,h.fr,h.nd,fun c hc=>⟨(h.exf c hc).1,(h.exf c hc).2.1,(h.exf c hc).2.2.elim fun o e=>⟨o,i _ _ (h.exf c hc).2.1 e⟩⟩,G.eq (qf n5),⟨_,by rw[qf D,qb],?_,fun z=>?_⟩,⟨Z,by rw[qf A,qf (Yb n6)];show p1,p2,p3⟩,⟨ks,by rw[qf B,qf (Yb n7)];show J,L,M⟩,⟨xs,by rw[qf g,qf (Yb C)];show N,?_⟩,by rw[qb,yK];rfl,?_,fun v=>?_,fun v hv=>?_⟩ i fun o e=>by(rw[qf g,qf (Yb C)];show e)
  .have:=jS j (Sum.inr p:Key) (.ref t);rw[<- yZ,yt (bs:=[p])];show _<=_+1;lk
  .unfold FS.setRow;dsimp only;rw[qa0];by_cases e:z=p
   .subst e;rw[yE rfl,yE rfl];show⟨t,rfl,i _ _ (fun y=>d (Fo.sub _ y)) W,d⟩
   .rw [yC (fun y=>e (xC y)),yC e];show(r3 z).mono i Fo.sub
  .rw [<- yZ,yt (bs:=[p])];show ko O
  .rw [<- yZ];show yV.mpr ⟨h.evn,List.pairwise_singleton _ _,fun x u y Y e=>l (by rw[<- yx.mp Y,<- e];show u)⟩
  .rw [<- yZ,yA,yx,h.evi];unfold FS.setRow;dsimp only;by_cases e:v=p
   .subst e;rw[yE rfl];show⟨(fun _ z=>by cases z),fun _=>.inr rfl⟩
   .rw [yC e];show⟨fun z=>z.resolve_right e,.inl⟩
  .rw [<- yZ] at hv;rcases yA.mp hv with z | z
   .show h.evs v z
   .rw [yx.mp z];show s
end
theorem Kh:FnScope ["self","place","bases","below"] ["self","place"] (qh qO):=fS
theorem atI_last{xs:LS}:atI ((xs++[c]).map V.str) (-1)=some (.str c):=by
 have e:ixN ((xs++[c]).map V.str).length (-1)=some xs.length:=by
  unfold ixN;rw[yC (by lk),yE (by rw[ya,yt];simp;lk)]
  congr 1
  rw[ya,yt];simp only[yD,YN];lk
 unfold atI;rw[e];show((xs++[c]).map V.str)[xs.length]?=_;rw[yd,yB (yh _),kN];rfl
theorem Ch.cases'{f:Str->Option Str}{t:LS}(h:Ch f S b (b::t)):(f b=none/\t=[])\/∃ q z,f b=some q/\S.par q=some z/\Ch f S (S.bas z) t:=by
 generalize e:b::t=l at h
 cases h with
 | root h=>cases e;show .inl ⟨h,rfl⟩
 | step h1 h2 h3=>cases e;show .inr ⟨_,_,h1,h2,h3⟩
theorem in_prK{d:Addr}{Q:VK}(a:H d=some (.dK (prK qs)))(q:Q (.bl (pt qs s).isSome) H):qez K false (.str s) (.ref d) H Q:=by
 show .inr (.inl ⟨d,_,rfl,DGet.k (k:=Sum.inr s) a,?_⟩);rw[jV,yC (by decide),Xd];show q
theorem qd7{d:Addr}{Q:VK}(a:H d=some (.dK kvs))(e:zh kvs (.inr s:Key)=some v)(q:Q v H):qfG K (.ref d) (.str s) H Q:=.inr ⟨d,v,rfl,by rw[<- e];show DGet.k (k:=Sum.inr s) a,q⟩
theorem ok_bd(F:Fun K "bases_down_from" "Forest.bases_down_from" qO f fd)(T:Txt K mg cc cw):FnOk P w K mg base CX0 1 f fd ["self","place"] (spBd cc cw):=by
 show F.ok Kh fun _ _ _ _ H vs Q E hr h=>?_
 .obtain⟨H0,a,ss,ns,qs,S,dn,wt,lo,p,r,l,B,rfl,h,ad,I,hp,y,aa,q⟩:=h;have n:=jZ hr;show⟨_,(qc (qo (i:=2) Kh.nd rfl (yJ rfl) (qI (qa (qt (qu (K:=K) rfl n) (qD (K:=K) rfl (pv 0) rfl) (pv 1) (fun _ _=>rfl)) qd)))
 (qc (qaC yT (qm (zU (K:=K) rfl n) (qt (qu (K:=K) rfl n) (pv 2) (qaX zM qg) (fun _ _=>rfl)) (qD (K:=K) rfl (pv 0) rfl) (by with_unfolding_all rfl))
 (qc (qo (i:=3) Kh.nd rfl (yJ rfl) (qt (qu (K:=K) rfl n) (qD (K:=K) rfl (pv 0) rfl) (qt (qu (K:=K) rfl n) (qD (K:=K) rfl (pv 0) rfl) (qt (qu (K:=K) rfl n) (pv 2) (qaX zM qg) (fun _ _=>rfl)) (fun _ _=>rfl)) (fun _ _=>rfl)))
 (qe (qL (qbA (K:=K) rfl yN y8 y9 qS (pv 2) (qa (qt (qu (K:=K) rfl n) (qD (K:=K) rfl (pv 0) rfl) (pv 3) (fun _ _=>rfl)) qd))))))
 (qe (qk (pv 2))))),?_⟩
  have u:∀{v:Str} {r:LS},S.rows v=some r->v∈ss:=fun e=>h.evs _ ((h.evi _).mpr (by rw[e];show fun z=>by cases z));obtain⟨ks,b1,b2,b3⟩:=h.bas;apply .inl (h.obj.rd T 4 rfl ?_);apply qd7 b1 (b3 p (u hp)) ?_;apply⟨by show 1<=sizeLine;decide,fun bl j=>?_⟩;have s1:=qN (Sr H) (o:=.lst [.str (S.bas p)]) j;have e1:upd H bl (.lst [.str (S.bas p)]) bl=some (.lst (([]++[S.bas p]).map V.str)):=qb;generalize upd H bl (.lst [.str (S.bas p)])=H1 at s1 e1;ext;obtain⟨W,g⟩:∃ W:Nat->L2.St->Hp->Prop,W=fun m σ J=>∃(l1 l2:LS) (c:Str) (y3:Option V),l=l1++c::l2/\σ=[some (.ref a.x),some (.str p),some (.ref bl),y3]/\L2.Same H J/\J bl=some (.lst ((l1++[c]).map V.str))/\m=l2.length:=⟨_,rfl⟩;obtain⟨t0,R⟩:=y.ne;show⟨W,⟨t0.length,by rw[g];show⟨[],t0,_,_,R,rfl,s1,e1,rfl⟩⟩,fun m σ J hW=>?_⟩;rw[g] at hW;obtain⟨l1,l2,c,y3,M,rfl,sJ,s,hm⟩:=hW;obtain⟨rc,_,Y,U,A,_⟩:=y.up I hp rfl M;have d:=h.same sJ;have D:=d.sm _ _ h.prt;apply⟨1,rfl,?_⟩;show .inl (zv s (v:=.str c) atI_last ?_);apply .inl (d.obj.rd T 1 rfl ?_);show in_prK D ?_;rcases A.cases' with⟨C,rfl⟩ | ⟨q',z,C,G,X⟩
  .rw [C];show⟨_,rfl,qG (fun h=>by cases h) fun _=>?_⟩;apply q bl J sJ j (by rw[M];show s)
  .rw [C];show⟨_,rfl,zg ⟨fun L H'=>∃ m',m'<m/\W m' L H',fun L H' z=>z,?_⟩⟩;obtain⟨_,z',rz,b,Z,_⟩:=I.dwn c rc q' Y U C;rw[G] at b;cases b;obtain⟨ka,p1,p2,p3⟩:=d.par;obtain⟨ae,N,ac,O⟩:=d.bas;apply .inl (d.obj.rd T 3 rfl ?_);apply .inl (d.obj.rd T 1 rfl ?_);apply⟨1,rfl,?_⟩;show .inl (zv s (v:=.str c) atI_last ?_);show qd7 D (by rw[jV,C];rfl) ?_;show qd7 p1 (by rw[p3,G];rfl) ?_;apply⟨.inl ⟨rfl,_,.of s⟩,?_⟩;apply .inl (d.obj.rd T 4 rfl ?_);apply qd7 N (O z (u Z)) ?_;apply⟨bl,_,_,rfl,rfl,s,by rw[ya];show qi (by have:=congrArg List.length M;rw[yt,yD] at this;rw[yt];simp only[yD,YN];lk),?_⟩;obtain⟨t1,t⟩:=X.ne;rw[g];show⟨t1.length,by rw[hm,t];simp,l1++[c],t1,S.bas z,_,by rw[M,t];simp,rfl,qaB sJ j,by rw[qb,yK (l₁:=l1++[c])];rfl,rfl⟩
theorem Ke:FnScope ["self","one","other","bases","side","base","place","row"] ["self","one","other","bases"] (qh qY):=fS
structure RR(f:Str->Option Str)(S S':FS)(v w:Str)(cs:LS):Prop where
 par:S'.par=S.par
 bas:S'.bas=S.bas
 old:∀ u r,S.rows u=some r->S'.rows u=some r
 new:∀ u r,S'.rows u=some r->S.rows u=some r\/∃ c∈cs,f c=some u/\NewRow S v w u r
 all:∀ c∈cs,∀ q,f c=some q->∃ r,S'.rows q=some r
inductive spRr(cc:Nat->Addr)(cw:Addr)(vs:List V)(H:Hp)(Q:VK)(E:XK):Prop|mk (H0:Hp) (a:Fo) (ss:LS) (ns:LN) (qs:LP) (S:FS) (dn wt:LS) (lo:V) (v w:Str) (lb:Addr) (cs rv rw:LS) (_:vs=[.ref a.x,.str v,.str w,.ref lb]) (_:FoA (cc 9) cw H0 H a ss ns qs S ss dn wt lo) (_:ss.length<=14) (_:H lb=some (.lst (cs.map V.str))) (_:lb∉a.six) (_:S.rows v=some rv) (_:S.rows w=some rw) (_:rv.length<=14) (_:rw.length<=14) (_:rv.Nodup) (_:cs.Nodup) (_:cs.length<=14) (_:(qj qs).Nodup) (_:(∀ c∈cs,∃ q rz t,pt qs c=some q/\S.rows q=none/\q∈ss/\rv=rz++q::t)) (_:∀(t:Addr) (sd more:LS) (H':Hp) (S':FS),FoA (cc 9) cw H0 H' (a.add t) ss ns qs S' ss dn (wt++more) lo->Bx a.six H H'->H t=none->H' t=some (.lst (sd.map V.str))->(∀ u,u∈sd↔∃ c∈cs,u=c\/pt qs c=some u)->sd.length=2*cs.length->more.length=cs.length->RR (pt qs) S S' v w cs->(∀ o,H a.dg=some o->H' a.dg=some o)->Q (.ref t) H')
theorem qcL{t:LS}(a:(rz++q::t).Nodup):(rz++q::t).idxOf q=rz.length:=by
 show qeE a (by rw[yB (yh _),kN];rfl)
theorem qef{a b:Addr}{Q:VK}(c:G a=some (.lst xs))(d:G b=some (.lst ys))(hl:xs.length+ys.length<=1000)(q:∀ p,G p=none->Q (.ref p) (upd G p (.lst (xs++ys)))):qdt K (.ref a) (.ref b) G Q:=.inl ⟨a,b,_,_,rfl,rfl,c,d,yi hl (by decide),q⟩
theorem ok_rr(F:Fun K "reach_round" "Forest.reach_round" qY f fd)(T:Txt K mg cc cw)(Km:MethOk P w K mg base CX0 1 (cc 9) "reach" ["self","place","row"] (spRe cc cw)):FnOk P w K mg base CX0 2 f fd ["self","one","other","bases"] (spRr cc cw):=by
 show F.ok Ke fun _ _ _ _ H vs Q E hr h=>?_
 .obtain⟨H0,a,ss,ns,qs,S,dn,wt,lo,v,w,lb,R,rv,b,rfl,h,ap,G,az,hv,hw,bc,bj,ak,aw,bg,aj,ax,q⟩:=h;have hu:=jZ hr;show⟨_,(qc (qo (i:=4) Ke.nd rfl (yJ rfl) (qI qd))
 (qc (ju yT rfl (qW (K:=K) rfl (pv 3)) (qw (i:=5) Ke.nd rfl (yJ rfl))
 (qc (qo (i:=6) Ke.nd rfl (yJ rfl) (qt (qu (K:=K) rfl hu) (qD (K:=K) rfl (pv 0) rfl) (pv 5) (fun _ _=>rfl)))
 (qc (qo (i:=7) Ke.nd rfl (yJ rfl) (qt (qu (K:=K) rfl hu) (qD (K:=K) rfl (pv 0) rfl) (pv 1) (fun _ _=>rfl)))
 (qc (qL (qF Km (hmR hr) (pv 0) (qa (pv 6) (qa (qH (jN (K:=K) rfl) (qt (qu (K:=K) rfl hu) (qD (K:=K) rfl (pv 0) rfl) (pv 2) (fun _ _=>rfl)) (qeC (K:=K) rfl (jx (qdy (K:=K) rfl) (pv 7) (jk (qbA (K:=K) rfl yN xO Xw (qcH (K:=K) rfl) (pv 7) (qa (pv 6) qd))) j6) (jk (qaX zM qg)))) qd))))
 (qe (qL (qbA (K:=K) rfl yN PySem.F.slot_list_extend PySem.F.type_list_extend qbC (pv 4) (qa (qI (qa (pv 5) (qa (pv 6) qd))) qd))))))))
 (qe (qk (pv 4))))),?_⟩
  apply⟨by show 0<=sizeLine;decide,fun g p=>?_⟩;have s1:=qN (Sr H) (o:=.lst []) p;have h1:=h.add (o:=.lst []) p;have Y:upd H g (.lst []) g=some (.lst (([]:LS).map V.str)):=qb;have bm:lb≠g:=fun z=>by rw[z,p] at G;cases G
  generalize upd H g (.lst [])=H1 at s1 h1 Y;ext;obtain⟨LI,A⟩:∃ LI:Nat->L2.St->Hp->Prop,LI=fun i σ J=>∃(S':FS) (more D:LS) (y5 y6 y7:Option V),σ=[some (.ref a.x),some (.str v),some (.str w),some (.ref lb),some (.ref g),y5,y6,y7]/\FoA (cc 9) cw H0 J (a.add g) ss ns qs S' ss dn (wt++more) lo/\Bx a.six H J/\J g=some (.lst (D.map V.str))/\(∀ u,u∈D↔∃ c∈R.take i,u=c\/pt qs c=some u)/\D.length=2*i/\more.length=i/\RR (pt qs) S S' v w (R.take i)/\∀ o,H a.dg=some o->J a.dg=some o:=⟨_,rfl⟩;show .inl ⟨⟨_,.of (s1 _ _ G)⟩,jc (xs:=R.map V.str) LI (by rw[A];show⟨S,[],[],_,_,_,rfl,by rw[Yg];show h1,Bx.of s1,Y,fun u=>by simp,rfl,rfl,⟨rfl,rfl,fun _ _ e=>e,fun _ _ e=>.inl e,fun c hc=>by simp at hc⟩,fun o e=>s1 _ _ e⟩) (fun i σ J _ O=>?_) (fun i y σ J hy O=>?_) fun σ J O=>?_⟩
  .rw [A] at O;obtain⟨S',more,D,y5,y6,y7,rfl,s,W,_⟩:=O;show .of (W _ _ az G)
  .rw [A] at O;obtain⟨S',more,D,y5,y6,y7,rfl,s,W,eJ,L,l,I,C,U⟩:=O;rw[yd] at hy;obtain⟨c,hc,rfl⟩:=yn.mp hy;have av:=ye hc;obtain⟨z,rz,t,hz,al,bf,m⟩:=ax c av;have bh:i<R.length:=(yc.mp hc).1;have M:R.take (i+1)=R.take i++[c]:=by rw[yR,hc];rfl
   have ba:=s.sm _ _ h.prt;obtain⟨kr,r1,r2,r3⟩:=s.row
   have rowOf:∀{u:Str} {r:LS},S.rows u=some r->∃ t,zh kr (.inr u:Key)=some (.ref t)/\J t=some (.lst (r.map V.str)):=fun{u r} e=>by
    have:=r3 u;rw[C.old u r e] at this;obtain⟨t,k1,k2,_⟩:=this;show⟨t,k1,k2⟩
   obtain⟨tv,kv,ev⟩:=rowOf hv;obtain⟨tw,kw,ew⟩:=rowOf hw;apply .inl (s.obj.rd T 1 rfl ?_);apply qd7 ba (by rw[jV,hz];rfl) ?_;apply .inl (s.obj.rd T 2 rfl ?_);apply qd7 r1 kv ?_;ext;obtain⟨dx,fs,bd,_,_,_,be⟩:=id s.obj;show⟨a.x,dx,fs,rfl,bd,be _ (by room),?_⟩;apply .inl (s.obj.rd T 2 rfl ?_);apply qd7 r1 kw ?_;apply qga ?_;apply⟨.inl ⟨rfl,_,.of ev⟩,?_⟩;apply⟨tv,rv,z,rfl,rfl,.of ev,by rw[m];simp,_,rfl,?_⟩;rw[m] at ak;have ao:rv.idxOf z=rz.length:=by rw[m];show qcL ak
   rw[ao];apply .inl ⟨tv,_,rfl,.of ev,fun c1 ar=>?_⟩;have af:qaw (rv.map V.str) (some ((rz.length:Nat):Int)) none=(z::t).map V.str:=by rw[qcl,m,yK,List.drop_left' (by simp)]
   rw[af];have t1:=qN (Sr J) (o:=.lst ((z::t).map V.str)) ar;have aa:upd J c1 (.lst ((z::t).map V.str)) c1=some (.lst ((z::t).map V.str)):=qb;generalize upd J c1 (.lst ((z::t).map V.str))=J1 at t1 aa;apply⟨1,rfl,?_⟩;show⟨_,rfl,rfl,c1,_,rfl,.of aa,fun c2 as=>?_⟩;have t2:=qN t1 (o:=.lst ((z::t).map V.str).reverse) as;have ac:upd J1 c2 (.lst ((z::t).map V.str).reverse) c2=some (.lst ((z::t).reverse.map V.str)):=by rw[qb,List.map_reverse]
   generalize upd J1 c2 (.lst ((z::t).map V.str).reverse)=J2 at t2 ac;have bi:(z::t).length<=14:=by rw[m,yt] at bc;lk
   show qef (t2 _ _ ew) ac (by rw[ya,ya,Yx];lk) fun c3 ag=>?_;have aq:=s.same t2;have n3:=aq.newA ag;have t3:=qN t2 (o:=.lst (b.map V.str++(z::t).reverse.map V.str)) ag;have ad:upd J2 c3 (.lst (b.map V.str++(z::t).reverse.map V.str)) c3=some (.lst ((b++(z::t).reverse).map V.str)):=by rw[qb,yK]
   generalize upd J2 c3 (.lst (b.map V.str++(z::t).reverse.map V.str))=J3 at t3 ad
   have ah:c∉R.take i:=fun y=>by
    obtain⟨j,hj⟩:=yf y;have ay:=(yc.mp hj).1;rw[yP] at ay;rw[List.getElem?_take,yE (by lk)] at hj;have:=qA aw hj hc;lk
   have am:S'.rows z=none:=by
    cases e:S'.rows z with
    | none=>rfl
    | some r =>
     exfalso;rcases C.new z r e with y | ⟨N,B,y,_⟩
     .rw [al] at y;cases y
     .have Y:=(qd0 aj).mp y;rw[(qd0 aj).mp hz] at Y;rw[<- ym Y] at B;show ah B
   apply⟨H0,a.add g,ss,ns,qs,S',ss,dn,wt++more,lo,z,c3,b++(z::t).reverse,rfl,s.same t3,ap,ad,n3,bf,am,fun J4 h4 X ai=>?_⟩;have an:g∉a.six:=h.new p;have Z:J4 g=some (.lst (D.map V.str)):=X _ _ an (t3 _ _ eJ);apply⟨.inl ⟨rfl,_,.of Z⟩,?_⟩;apply⟨by show 2<=sizeLine;decide,fun c5 au=>?_⟩;have t5:=qN (Sr J4) (o:=.lst [.str c,.str z]) au;have ae:upd J4 c5 (.lst [.str c,.str z]) c5=some (.lst [.str c,.str z]):=qb;generalize upd J4 c5 (.lst [.str c,.str z])=J5 at t5 ae;have h5:=h4.same t5;apply⟨g,c5,_,_,rfl,rfl,t5 _ _ Z,ae,by rw[ya,Yn];show _+2<=_;lk,?_⟩;have h6:=h5.updE (c:=g) (o:=.lst (D.map V.str++[.str c,.str z])) yO;rw[A];show⟨S'.setRow z (b++(z::t).reverse),more++[z],D++[c,z],_,_,_,rfl,by rw[<- yZ wt];show h6,?_,by rw[qb,yK];rfl,fun u=>?_,by rw[yt,l];show _+2=_;lk,by rw[yt,I];rfl,⟨C.par,C.bas,fun u r e=>?_,fun u r e=>?_,fun N B q' e=>?_⟩,fun o e=>?_⟩
   .show fun d o n e=>by
     have ne:d≠g:=fun y=>by rw[y,p] at e;cases e
     rw[qf ne];show t5 _ _ (X _ _ n (t3 _ _ (W _ _ n e)))
   .rw [M,yA,L];simp only[yA,yv,yz,yU];constructor
    .rintro (⟨N,h1,h2⟩ | rfl | rfl)
     .show⟨N,.inl h1,h2⟩
     .show⟨u,.inr rfl,.inl rfl⟩
     .show⟨c,.inr rfl,.inr hz⟩
    .rintro ⟨N,h1 | rfl,h2⟩
     .show .inl ⟨N,h1,h2⟩
     .rcases h2 with h2 | h2
      .show .inr (.inl h2)
      .rw [hz] at h2;show .inr (.inr (ym h2).symm)
   .show(if u=z then _ else S'.rows u)=_;rw[yC (fun y=>by rw[y,al] at e;cases e)];show C.old u r e
   .have e':(if u=z then some (b++(z::t).reverse) else S'.rows u)=some r:=e;by_cases y:u=z
    .subst y;rw[yE rfl] at e';show .inr ⟨c,by rw[M];simp,hz,rv,b,rz,t,hv,hw,m,(ym e').symm⟩
    .rw [yC y] at e';rcases C.new u r e' with x | ⟨N,h1,h2⟩
     .show .inl x
     .show .inr ⟨N,by rw[M];show yM _ h1,h2⟩
   .show ∃ r,(if q'=z then some (b++(z::t).reverse) else S'.rows q')=some r;by_cases y:q'=z
    .rw [yE y];show⟨_,rfl⟩
    .rw [yC y];rw[M] at B;rcases yA.mp B with x | x
     .show C.all N x q' e
     .rw [yx.mp x,hz] at e;show absurd (ym e).symm y
   .have ne:a.dg≠g:=fun y=>an (by rw[<- y];simp[Fo.six]);rw[qf ne];show t5 _ _ (ai o (t3 _ _ (U o e)))
  .rw [A] at O;obtain⟨S',more,D,y5,y6,y7,rfl,s,W,eJ,L,l,I,C,U⟩:=O;rw[ya] at l I;rw[ya,yW] at L C;apply q g D more J S' s W p eJ L l I C U
theorem KH:FnScope ["self","ring","meeting","within","place"] ["self","ring","meeting"] (qh jL):=fS
noncomputable def FS.setBas(S:FS)(l:LS)(m:Str):FS:=⟨S.rows,S.par,fun u=>if u∈l then m else S.bas u⟩
noncomputable def wnL(S:FS)(ss a:LS)(m:Str):LS:=ss.filter fun u=>decide (S.bas u∈a++[m])
inductive spFd(cc:Nat->Addr)(cw:Addr)(vs:List V)(H:Hp)(Q:VK)(E:XK):Prop|mk (H0:Hp) (a:Fo) (ss:LS) (ns:LN) (qs:LP) (S:FS) (dn wt:LS) (lo:V) (lr:Addr) (rg:LS) (m:Str) (xs:List V) (_:vs=[.ref a.x,.ref lr,.str m]) (_:FoA (cc 9) cw H0 H a ss ns qs S ss dn wt lo) (_:ss.length<=14) (_:H lr=some (.lst (rg.map V.str))) (_:lr∉a.six) (_:rg.length<=100) (_:H a.dg=some (.lst xs)) (_:xs.length<(dn++wt).length) (_:∀ H',FoA (cc 9) cw H0 H' a ss ns qs (S.setBas (wnL S ss rg m) m) ss dn wt lo->Bx a.six H H'->Q .non H')
theorem put_len{k:Key}{u:V}(h:zh kvs k=some u):(zB kvs k v).length=kvs.length:=by
 unfold zB;rw[qac,h];show ya _
theorem qd2{n:Addr}{Q:VK}(a:H n=some (.lst (ss.map V.str)))(q:Q (.bl (decide (z∈ss))) H):qez K false (.str z) (.ref n) H Q:=
 .inl ⟨n,_,rfl,.inl (.of a),rfl,YR.mpr fun x b=>by(obtain⟨s,_,rfl⟩:=YI.mp b;rfl),by rw[yC (by decide),qaV];show q⟩
theorem FoA.setB{a:Fo}{wt:LS}{ks:List (Key×V)}{l:LS}(h:FoA (cc 9) cw H0 H a ss ns qs (S.setBas l m) ss dn wt lo)(t:H a.ds=some (.dK ks))(hz:z∈ss):FoA (cc 9) cw H0 (upd H a.ds (.dK (zB ks (Sum.inr z) (.str m)))) a ss ns qs (S.setBas (l++[z]) m) ss dn wt lo/\ks.length<=ss.length:=by
 obtain⟨A,K,L,M⟩:=h.row;obtain⟨w,G,I,J⟩:=h.par;obtain⟨k,g,i,j⟩:=h.bas;obtain⟨xs,r,s⟩:=h.rng;rw[t] at g;cases g;obtain⟨⟨N,O,E,P,R⟩,⟨T,F,U,W⟩,⟨b,B,C⟩,⟨d,f⟩,D⟩:=(by simpa [Fo.six] using h.sep:(¬a.x=a.dr/\¬a.x=a.da/\¬a.x=a.ds/\¬a.x=a.dg/\¬a.x=a.dw)/\(¬a.dr=a.da/\¬a.dr=a.ds/\¬a.dr=a.dg/\¬a.dr=a.dw)/\(¬a.da=a.ds/\¬a.da=a.dg/\¬a.da=a.dw)/\(¬a.ds=a.dg/\¬a.ds=a.dw)/\¬a.dg=a.dw);have p:Bx a.six H (upd H a.ds (.dK (zB ks (Sum.inr z) (.str m)))):=fun c o n e=>by rw[qf (fun y=>n (by rw[y];simp[Fo.six]))];show e
 show⟨⟨qaB h.sm (h.fr _ (by simp[Fo.six])),h.web,h.prt,h.fr,h.nd,fun c hc=>⟨(h.exf c hc).1,(h.exf c hc).2.1,(h.exf c hc).2.2.elim fun o e=>⟨o,p _ _ (h.exf c hc).2.1 e⟩⟩,h.obj.eq (qf E),⟨A,by rw[qf F];show K,L,fun y=>(M y).mono p Fo.sub⟩,⟨w,by rw[qf b];show G,I,J⟩,⟨_,qb,by rw[put_len (j z hz)];show i,fun u v=>?_⟩,⟨xs,by rw[qf (Yb d)];show r,s⟩,by rw[qf (Yb f)];show h.wai,h.evn,h.evi,h.evs⟩,i⟩;rw[qa0,j u v];show(if _ then _ else _)=some (V.str (if u∈l++[z] then m else S.bas u));have q:(S.setBas l m).bas u=if u∈l then m else S.bas u:=rfl;rw[q];by_cases e:u=z
 .subst e;rw[yE rfl,yE (by simp)]
 .rw [yC (fun x=>e (xC x))];by_cases y:u∈l
  .rw [yE y,yE (yM _ y)]
  .rw [yC y,yC (fun x=>(yA.mp x).elim y fun x=>e (yx.mp x))]
theorem FoA.updG{a:Fo}{bs wt:LS}(h:FoA (cc 9) cw H0 H a ss ns qs S bs dn wt lo)(m:xs.length<=(dn++wt).length):FoA (cc 9) cw H0 (upd H a.dg (.lst xs)) a ss ns qs S bs dn wt lo:=by
 obtain⟨p,A,B,C⟩:=h.row;obtain⟨n,v,w,z⟩:=h.par;obtain⟨k,i,j,l⟩:=h.bas;obtain⟨⟨D,E,F,t,G⟩,⟨I,J,u,K⟩,⟨q,b,r⟩,⟨d,s⟩,f⟩:=(by simpa [Fo.six] using h.sep:(¬a.x=a.dr/\¬a.x=a.da/\¬a.x=a.ds/\¬a.x=a.dg/\¬a.x=a.dw)/\(¬a.dr=a.da/\¬a.dr=a.ds/\¬a.dr=a.dg/\¬a.dr=a.dw)/\(¬a.da=a.ds/\¬a.da=a.dg/\¬a.da=a.dw)/\(¬a.ds=a.dg/\¬a.ds=a.dw)/\¬a.dg=a.dw);have g:Bx a.six H (upd H a.dg (.lst xs)):=(Bx.of (Sr H)).upd (by simp[Fo.six]);show⟨qaB h.sm (h.fr _ (by simp[Fo.six])),h.web,h.prt,h.fr,h.nd,fun c hc=>⟨(h.exf c hc).1,(h.exf c hc).2.1,(h.exf c hc).2.2.elim fun o e=>⟨o,g _ _ (h.exf c hc).2.1 e⟩⟩,h.obj.eq (qf t),⟨p,by rw[qf u];show A,B,fun y=>(C y).mono g Fo.sub⟩,⟨n,by rw[qf b];show v,w,z⟩,⟨k,by rw[qf d];show i,j,l⟩,⟨xs,qb,m⟩,by rw[qf (Yb f)];show h.wai,h.evn,h.evi,h.evs⟩
theorem ok_fdF(F:Fun K "fold" "Forest.fold" jL f fd)(T:Txt K mg cc cw)(KU:MethOk P w K mg base CX0 1 cw "places" ["self"] (spPls cw)):FnOk P w K mg base CX0 2 f fd ["self","ring","meeting"] (spFd cc cw):=by
 show F.ok KH fun _ _ _ _ H vs Q E hr h=>?_
 .obtain⟨H0,a,ss,ns,qs,S,dn,wt,lo,lr,d,m,xs,rfl,h,an,af,aq,ar,ad,as,q⟩:=h;have B:=jZ hr;show⟨_,(qc (qcC (sc:=qh jL) (XN:=["self","ring","meeting","within","place"]) ["place","ring","self","meeting"] 1 [1,0,2] rfl rfl rfl (by room) rfl (by room) (i:=3) KH.nd rfl rfl
  (qW (K:=K) rfl (jm KU (hmR hr) (qD (K:=K) rfl (pv 0) rfl))) (fun _ _ _ _=>(qw (i:=0) (show(["place","ring","self","meeting"]:LS).Nodup by room) rfl (yJ rfl))) jB
  (fun _ _ _ _=>(zk (qm (zU (K:=K) rfl B) (qt (qu (K:=K) rfl B) (qD (K:=K) rfl (pv 2) rfl) (pv 0) (fun _ _=>rfl)) (qH (jN (K:=K) rfl) (pv 1) (qI (qa (pv 3) qd))) (by with_unfolding_all rfl))))
  (fun _ _ _ _=>(pv 0)))
 (qc (ju yT rfl (qW (K:=K) rfl (pv 3)) (qw (i:=4) KH.nd rfl (yJ rfl))
 (qe (jD (pv 2) (jO (qD (K:=K) rfl (pv 0) rfl) (pv 4) (jQ B)))))
 (qe (qL (qbA (K:=K) rfl yN y8 y9 qS (qD (K:=K) rfl (pv 0) rfl) (qa (pv 3) qd)))))),?_⟩
  have al:=h.few;have A:=h.web.same h.sm;obtain⟨wx,dd,ol,nn,hb,_⟩:=id A;apply .inl (h.obj.rd T 0 rfl ?_);show⟨a.b,wx,_,rfl,hb,zO (by room),?_⟩;apply⟨a.b,ss,ns,rfl,A,fun pl ag=>?_⟩;have s1:=qN (Sr H) (o:=.lst (ss.map V.str)) ag;have Y:upd H pl (.lst (ss.map V.str)) pl=some (.lst (ss.map V.str)):=qb;generalize upd H pl (.lst (ss.map V.str))=H1 at s1 Y;show .inl ⟨⟨_,.of Y⟩,jF (xs:=ss.map V.str) (fun i ys J=>L2.Same H1 J/\ys=((ss.take i).filter fun u=>decide (S.bas u∈d++[m])).map V.str) ⟨L2.Same.refl H1,rfl⟩ (fun i ys J _ g=>.of (g.1 _ _ Y)) (fun i y ys J G g=>?_) fun ys J g=>?_⟩
  .obtain⟨I,rfl⟩:=g;rw[yd] at G;obtain⟨z,hz,rfl⟩:=yn.mp G;have j:=s1.trans I;have l:=h.same j;obtain⟨ks,N,b2,b3⟩:=l.bas;have ao:=(yc.mp hz).1
   have r:(ss.take (i+1)).filter (fun u=>decide (S.bas u∈d++[m]))=(ss.take i).filter (fun u=>decide (S.bas u∈d++[m]))++(if S.bas z∈d++[m] then [z] else []):=by
    rw[yR,hz,Yt];show _++[z].filter _=_;rw[Yq];simp only[kt,xB]
   apply .inl (l.obj.rd T 4 rfl ?_);apply qd7 N (b3 z (ye hz)) ?_;apply⟨by show 1<=sizeLine;decide,fun W aa=>?_⟩;have t1:=qN (Sr J) (o:=.lst [.str m]) aa;have s:upd J W (.lst [.str m]) W=some (.lst [.str m]):=qb;generalize upd J W (.lst [.str m])=J1 at t1 s;show qef ((j.trans t1) _ _ af) s (by rw[ya];show _+1<=_;lk) fun X ac=>?_;have t2:=qN t1 (o:=.lst (d.map V.str++[.str m])) ac;have t:upd J1 X (.lst (d.map V.str++[.str m])) X=some (.lst ((d++[m]).map V.str)):=by rw[qb,yK];rfl
   generalize upd J1 X (.lst (d.map V.str++[.str m]))=J2 at t2 t;show qd2 t ⟨_,rfl,?_⟩;rw[r];by_cases p:S.bas z∈d++[m]
   .rw [yH p,yE p];show zg ?_;ext;have ae:=Yw (fun u=>decide (S.bas u∈d++[m])) (ss.take i);rw[yP] at ae;show⟨by rw[ya];show qi (by lk),I.trans t2,by rw[yK];rfl⟩
   .rw [yl p,yC p,Yg];show yq ?_;show⟨I.trans t2,rfl⟩
  .obtain⟨I,rfl⟩:=g;rw[show(ss.map V.str).length=ss.length from ya _,yW];have j:=s1.trans I;have ai:(ss.filter fun u=>decide (S.bas u∈d++[m])).length<=ss.length:=Yw _ _;show⟨by rw[ya];show yX (qi (by lk)),fun M C=>?_⟩;have O:=qN j (o:=.lst ((wnL S ss d m).map V.str)) C;have Z:upd J M (.lst ((wnL S ss d m).map V.str)) M=some (.lst ((wnL S ss d m).map V.str)):=qb;have am:(wnL S ss d m).length<=ss.length:=ai;have aj:∀ u∈wnL S ss d m,u∈ss:=fun u B=>(yp.mp B).1;show qfJ _ _ _ _ (upd J M (.lst ((wnL S ss d m).map V.str)));generalize wnL S ss d m=L at *;have D:=(h.same j).new C;generalize upd J M (.lst (L.map V.str))=H2 at O Z;have h2:=h.same O;apply .inl ⟨⟨_,.of Z⟩,jc (xs:=L.map V.str) (fun i R J=>Bx a.six H2 J/\(∀ o,H2 a.dg=some o->J a.dg=some o)/\FoA (cc 9) cw H0 J a ss ns qs (S.setBas (L.take i) m) ss dn wt lo/\∃ y4,R=[some (.ref a.x),some (.ref lr),some (.str m),some (.ref M),y4]) ⟨fun c o _ e=>e,fun _ e=>e,?_,_,rfl⟩ (fun i R J _ g=>.of (g.1 _ _ D Z)) (fun i y R J G g=>?_) fun R J g=>?_⟩
   .have:S.setBas ([]:LS) m=S:=by unfold FS.setBas;simp
    rw[List.take_zero,this];show h2
   .obtain⟨U,hg,l,y4,rfl⟩:=g;rw[yd] at G;obtain⟨z,hz,rfl⟩:=yn.mp G;obtain⟨ks,N,b2,b3⟩:=l.bas;have ah:L.take (i+1)=L.take i++[z]:=by rw[yR,hz];rfl
    obtain⟨h3,ap⟩:=l.setB N (aj z (ye hz));apply .inl (l.obj.rd T 4 rfl ?_);apply .inr ⟨a.ds,_,rfl,DPut.k (k:=Sum.inr z) N (by rw[Yn];lk),?_⟩;have ak:a.dg≠a.ds:=fun e=>by have:=h.nd;rw[e] at this;simp at this
    show⟨fun c o n e=>by rw[qf (fun y=>n (by rw[y];simp[Fo.six]))];show U c o n e,fun o e=>by rw[qf ak];show hg o e,by rw[ah];show h3,_,rfl⟩
   .obtain⟨U,hg,l,y4,rfl⟩:=g;rw[ya,yW] at l;have v:=hg _ (O _ _ ad);apply .inl (l.obj.rd T 5 rfl ?_);show⟨.inl ⟨rfl,_,.of v⟩,?_⟩;apply⟨a.dg,_,_,rfl,rfl,v,qi (by lk),?_⟩;show q _ (l.updG (by rw[yt];simp only[yD,YN];lk)) ((Bx.of O).trans U |>.upd (by simp[Fo.six]))
theorem Kd:FnScope ["self","one","other","ones","others","meeting","ring"] ["self","one","other"] (qh qJ):=fS
structure Mono(S S':FS):Prop where
 ba:∀ u v,S.bas u=S.bas v->S'.bas u=S'.bas v
 pa:∀ u,S.par u≠none->S'.par u≠none
 ro:∀ u r,S.rows u=some r->S'.rows u=some r
theorem Mono.refl(S:FS):Mono S S:=⟨fun _ _ e=>e,fun _ e=>e,fun _ _ e=>e⟩
theorem Mono.trans{c:FS}(a:Mono S S')(b:Mono S' c):Mono S c:=⟨fun u v e=>b.ba u v (a.ba u v e),fun u e=>b.pa u (a.pa u e),fun u r e=>b.ro u r (a.ro u r e)⟩
structure Wb(A:Str->Str->Prop)(ss:LS)(qs:LP):Prop where
 gr:Gr A (pt qs)
 inn:∀ a b,A a b->a∈ss
 qn:(qj qs).Nodup
 few:ss.length<=14
 nd:ss.Nodup
theorem Alt.inn(W:Wb A ss qs){v:Str}(h:Alt A (pt qs) r v)(hv:v∈ss):r.length<=14/\∀ u∈r,u∈ss:=by
 have a:∀ u∈r,u∈ss:=fun u g=>by
  obtain⟨j,d⟩:=yf g;obtain⟨i,e⟩:=h.tl;by_cases hl:j+1<r.length
  .obtain⟨b,f⟩:∃ b,r[j+1]?=some b:=⟨_,yb hl⟩;show W.inn _ _ (h.st j u b d f).1
  .have c:=(yc.mp d).1;have:j=i.length:=by rw[e,yt] at c hl;simp at c hl;lk
   rw[e,this,yB (yh _),kN] at d;rw[<- ym d];show hv
 show⟨yi (j3 h.nd a) W.few,a⟩
theorem qdj(l':LS):∀{l:LS},(∃ d∈l,d∈l')->∃ l1 m l2,l=l1++m::l2/\m∈l'/\(∀ d∈l1,d∉l')/\∃ t,l.filter (fun d=>decide (d∈l'))=m::t
 | [],⟨_,h,_⟩=>by cases h
 | x::r,h=>by
  by_cases b:x∈l'
  .show⟨[],x,r,rfl,b,(fun _ h=>by cases h),_,by rw[Yq,yE (yH b)]⟩
  .obtain⟨d,i,a⟩:=h;obtain⟨l1,m,l2,c,e,f,t,g⟩:=qdj l' (l:=r) ⟨d,(yv.mp i).resolve_left (fun z=>b (by rw[<- z];show a)),a⟩;show⟨x::l1,m,l2,by rw[c];rfl,e,fun y hy=>?_,t,by rw[Yq,yC (by simpa using b)];show g⟩;rcases yv.mp hy with rfl | hy
   .show b
   .show f y hy
inductive spBt(cc:Nat->Addr)(cw:Addr)(vs:List V)(H:Hp)(Q:VK)(E:XK):Prop|mk (H0:Hp) (a:Fo) (ss:LS) (ns:LN) (qs:LP) (S:FS) (dn wt:LS) (v w:Str) (rv rw:LS) (A:Str->Str->Prop) (_:vs=[.ref a.x,.str v,.str w]) (_:FoA (cc 9) cw H0 H a ss ns qs S ss dn wt .non) (_:Wb A ss qs) (_:FI A (pt qs) S) (_:S.rows v=some rv) (_:S.rows w=some rw) (_:A v w) (_:(∀(H':Hp) (S':FS) (more:LS),FoA (cc 9) cw H0 H' a ss ns qs S' ss dn (wt++more) .non->Bx a.six H H'->FI A (pt qs) S'->S'.bas v=S'.bas w->Mono S S'->Q .non H')) (_:∀(H':Hp) (t:Addr) (r:LS),FoA (cc 9) cw H0 H' a ss ns qs S ss dn wt (.ref t)->Bx a.six H H'->H' t=some (.lst (r.map V.str))->t∉a.all->Aug A (pt qs) r->r.length<=28->Q .non H')
theorem qeG{d:Str}{Q:VK}(q:Q (.bl (!decide (c=d))) H):qed K true (.str c) (.str d) H Q:=by
 show .inl ⟨rfl,rfl,?_⟩;rw[yE rfl]
 have e:eqV (.str c) (.str d)=decide (c=d):=by
  by_cases h:c=d
  .subst h;simp[eqV]
  .simp [eqV,h]
 rw[e];show q
theorem FoA.setL{a:Fo}{bs wt:LS}{fs:List (Str×V)}(h:FoA (cc 9) cw H0 H a ss ns qs S bs dn wt .non)(s:H a.x=some (.ins (cc 9) dx fs))(hv:v≠.non):fs.length<1000/\FoA (cc 9) cw H0 (upd H a.x (.ins (cc 9) dx (qE "longer" v fs))) a ss ns qs S bs dn wt v:=by
 obtain⟨m,n,g,K,G,I,J⟩:=h.obj;rw[s] at g;cases g;have hl:=G rfl;obtain⟨w,D,E,F⟩:=h.row;obtain⟨t,A,B,C⟩:=h.par;obtain⟨k,i,j,l⟩:=h.bas;obtain⟨xs,p,q⟩:=h.rng;have r:=h.sep;have nx:∀{c:Addr},c∈[a.dr,a.da,a.ds,a.dg,a.dw]->c≠a.x:=fun hc e=>(yo.mp r).1 (by rw[<- e];show hc);have d:Bx a.six H (upd H a.x (.ins (cc 9) dx (qE "longer" v fs))):=(Bx.of (Sr H)).upd (by simp[Fo.six]);show⟨by lk,qaB h.sm (h.fr _ (by simp[Fo.six])),h.web,h.prt,h.fr,h.nd,fun c hc=>⟨(h.exf c hc).1,(h.exf c hc).2.1,(h.exf c hc).2.2.elim fun o e=>⟨o,d _ _ (h.exf c hc).2.1 e⟩⟩,⟨dx,_,qb,yi (jA _ _ _) (by lk),fun e=>absurd e hv,fun f u b=>?_,fun f b=>?_⟩,⟨w,by rw[qf (nx (by simp))];show D,E,fun y=>(F y).mono d Fo.sub⟩,⟨t,by rw[qf (nx (by simp))];show A,B,C⟩,⟨k,by rw[qf (nx (by simp))];show i,j,l⟩,⟨xs,by rw[qf (nx (by simp))];show p,q⟩,by rw[qf (nx (by simp))];show h.wai,h.evn,h.evi,h.evs⟩
 .rw [qC];by_cases e:f="longer"
  .rw [yE e];subst e;have:(Str.ofString "longer",u)∈a.tab v:=b;simp only[Fo.tab,yv,Xq,yz,yU] at this;rcases this with⟨z,_⟩ | ⟨z,_⟩ | ⟨z,_⟩ | ⟨z,_⟩ | ⟨z,_⟩ | ⟨z,_⟩ | ⟨z,_⟩ | ⟨_,z⟩<;>first | show absurd z (by room) | show congrArg some z.symm
  .rw [yC e];show I f u ?_;have:(f,u)∈a.tab v:=b;simp only[Fo.tab,yv,Xq,yz,yU] at this ⊢;rcases this with z | z | z | z | z | z | z | ⟨z,_⟩
   all_goals first | show absurd z e | simp[z]
 .rw [qC,yC (fun e=>b (by rw[e];room))];show J f b
theorem FoA.rowAt{a:Fo}{bs wt:LS}(h:FoA (cc 9) cw H0 H a ss ns qs S bs dn wt lo)(e:S.rows u=some r){Q:VK}(q:∀ t,H t=some (.lst (r.map V.str))->Q (.ref t) H):qfG K (.ref a.dr) (.str u) H Q:=by
 obtain⟨g,d,_,f⟩:=h.row;have:=f u;rw[e] at this;obtain⟨t,b,c,_⟩:=this;show qd7 d b (q t c)
theorem ok_bt(F:Fun K "bring_together" "Forest.bring_together" qJ f fd)(T:Txt K mg cc cw)(Ku:MethOk P w K mg base CX0 1 (cc 9) "bases_down_from" ["self","place"] (spBd cc cw))(KF:MethOk P w K mg base CX0 2 (cc 9) "reach_round" ["self","one","other","bases"] (spRr cc cw))(uC:MethOk P w K mg base CX0 2 (cc 9) "fold" ["self","ring","meeting"] (spFd cc cw)):FnOk P w K mg base CX0 3 f fd ["self","one","other"] (spBt cc cw):=by
 show F.ok Kd fun _ _ _ _ H vs Q E hr h=>?_
 .obtain⟨H0,a,ss,ns,qs,S,dn,wt,v,w,rv,g,B,rfl,h,b,I,hv,hw,cg,q1,q2⟩:=h;have M:=jZ hr;have Y:∀{v:Str} {r:LS},S.rows v=some r->v∈ss:=fun e=>h.evs _ ((h.evi _).mpr (by rw[e];show fun z=>by cases z));obtain⟨l,hl⟩:=I.chainOf hv;obtain⟨l',D⟩:=I.chainOf hw;have ai:=hl.nd I hv rfl;have C:=D.nd I hw rfl;have Z:l.length<=14:=yi (j3 ai fun c hc=>(hl.bs0 I hv hc).elim fun r z=>Y z.1) b.few;have L:l'.length<=14:=yi (j3 C fun c hc=>(D.bs0 I hw hc).elim fun r z=>Y z.1) b.few;obtain⟨au,dv⟩:=(I.alt v rv hv).inn b (Y hv);obtain⟨al,dw⟩:=(I.alt w g hw).inn b (Y hw);obtain⟨lx,c,ax⟩:∃ lx c,l=lx++[c]:=by obtain⟨t,e⟩:=hl.ne;show⟨_,_,(xk (by rw[e];show kH _ _)).symm⟩
  obtain⟨ly,d,ay⟩:∃ ly d,l'=ly++[d]:=by obtain⟨t,e⟩:=D.ne;show⟨_,_,(xk (by rw[e];show kH _ _)).symm⟩
  show⟨_,(qc (qo (i:=3) Kd.nd rfl (yJ rfl) (qF Ku (hmR hr) (pv 0) (qa (pv 1) qd)))
 (qc (qo (i:=4) Kd.nd rfl (kg rfl) (qF Ku (hmR hr) (pv 0) (qa (pv 2) qd)))
 (qe (qK (qm (qan (K:=K) rfl M) (qt (qu (K:=K) rfl M) (pv 3) (qaX zM qg) (fun _ _=>rfl)) (qt (qu (K:=K) rfl M) (pv 4) (qaX zM qg) (fun _ _=>rfl)) (qx _)) (qe (qV (K:=K) rfl (pv 0) (qH (jN (K:=K) rfl) (qt (qu (K:=K) rfl M) (qD (K:=K) rfl (pv 0) rfl) (pv 1) (fun _ _=>rfl)) (qeC (K:=K) rfl (qt (qu (K:=K) rfl M) (qD (K:=K) rfl (pv 0) rfl) (pv 2) (fun _ _=>rfl)) (jk (qaX zM qg)))) rfl)) (qe (qK (qm (qan (K:=K) rfl M) (qt (qu (K:=K) rfl M) (pv 3) qg (fun _ _=>rfl)) (qt (qu (K:=K) rfl M) (pv 4) qg (fun _ _=>rfl)) (qx _)) (qc (qo (i:=5) Kd.nd rfl (yJ rfl) (qt (qu (K:=K) rfl M) (jT (sc:=qh qJ) (XN:=["self","one","other","ones","others","meeting","ring"]) ["base","others"] 1 [4] rfl rfl rfl (by room) rfl (by room)
  (qW (K:=K) rfl (pv 3)) (fun _ _ _ _=>(qw (i:=0) (show(["base","others"]:LS).Nodup by room) rfl (yJ rfl))) jB
  (fun _ _ _ _=>(zk (qm (zU (K:=K) rfl M) (pv 0) (pv 1) (by with_unfolding_all rfl))))
  (fun _ _ _ _=>(pv 0))) qg (fun _ _=>rfl)))
 (qc (qo (i:=6) Kd.nd rfl (yJ rfl) (qF KF (hmR hr) (pv 0) (qa (pv 1) (qa (pv 2) (qa (jx (qdy (K:=K) rfl) (pv 3) j6 (jk (qbA (K:=K) rfl yN xO Xw (qcH (K:=K) rfl) (pv 3) (qa (pv 5) qd)))) qd)))))
 (qc (qL (qbA (K:=K) rfl yN PySem.F.slot_list_extend PySem.F.type_list_extend qbC (pv 6) (qa (qF KF (hmR hr) (pv 0) (qa (pv 2) (qa (pv 1) (qa (jx (qdy (K:=K) rfl) (pv 4) j6 (jk (qbA (K:=K) rfl yN xO Xw (qcH (K:=K) rfl) (pv 4) (qa (pv 5) qd)))) qd)))) qd)))
 (qe (qL (qF uC (hmR hr) (pv 0) (qa (pv 6) (qa (pv 5) qd)))))))) qr)))))),?_⟩
  ext;obtain⟨dx,fs,ak,_,_,_,ba⟩:=id h.obj;show⟨a.x,dx,fs,rfl,ak,ba _ (by room),?_⟩;apply⟨H0,a,ss,ns,qs,S,dn,wt,.non,v,rv,l,B,rfl,h,b.few,I,hv,hl,Z,fun o1 H1 s1 dl cv=>?_⟩;apply⟨a.x,dx,fs,rfl,s1 _ _ ak,ba _ (by room),?_⟩;apply⟨H0,a,ss,ns,qs,S,dn,wt,.non,w,g,l',B,rfl,h.same s1,b.few,I,hw,D,L,fun o2 H2 s2 dm am=>?_⟩;have aq:=s1.trans s2;have h2:=h.same aq;have R:=s2 _ _ cv;have dt:=h.newA dl;have du:=(h.same s1).newA dm;apply⟨1,rfl,?_⟩;show .inl (zv R (v:=.str c) (by rw[ax];show atI_last) ?_);apply⟨1,rfl,?_⟩;show .inl (zv am (v:=.str d) (by rw[ay];show atI_last) ?_);show qeG ⟨_,rfl,?_⟩;by_cases an:c=d
  .rw [yH an];show yq ?_;obtain⟨t0,X⟩:=hl.ne;obtain⟨eg,A⟩:=D.ne;apply .inl (zv R (v:=.str (S.bas v)) (qv (j:=0) (by rw[X];rfl)) ?_);apply .inl (zv am (v:=.str (S.bas w)) (qv (j:=0) (by rw[A];rfl)) ?_);show qeG ⟨_,rfl,?_⟩;by_cases ag:S.bas v=S.bas w
   .rw [yH ag];show yq ?_;show q1 H2 S [] (by rw[Yg];show h2) (Bx.of aq) I ag (Mono.refl S)
   .rw [yl ag];show zg ?_;obtain⟨l1,m,l2,U,aj,ao,tf,br⟩:=qdj l' (l:=l) ⟨c,by rw[ax];simp,by rw[ay,an];simp⟩;obtain⟨m1,m2,O⟩:=Yj aj;obtain⟨cu,df⟩:=hl.meet I hv hw D U O ao;rw[cu] at O;have dz:m∉m1:=fun z=>by rw[O] at C;show(yV.mp C).2.2 m z m (by simp) rfl
    have dy:m∉l1:=fun z=>ao m z aj;apply .inl ⟨⟨_,.of R⟩,jF (xs:=l.map V.str) (fun i ys J=>J=H2/\ys=((l.take i).filter fun d=>decide (d∈l')).map V.str) ⟨rfl,rfl⟩ (fun i ys J _ hp=>by rw[hp.1];show .of R) (fun i y ys J hy hp=>?_) fun ys J hp=>?_⟩
    .obtain⟨rfl,rfl⟩:=hp;rw[yd] at hy;obtain⟨z,hz,rfl⟩:=yn.mp hy
     have az:(l.take (i+1)).filter (fun d=>decide (d∈l'))=(l.take i).filter (fun d=>decide (d∈l'))++(if z∈l' then [z] else []):=by
      rw[yR,hz,Yt];show _++[z].filter _=_;rw[Yq];simp only[kt,xB]
     have ed:=(yc.mp hz).1;have di:=Yw (fun d=>decide (d∈l')) (l.take i);rw[yP] at di;apply qd2 am ⟨_,rfl,?_⟩;rw[az];by_cases G:z∈l'
     .rw [yH G,yE G];show zg ?_;apply⟨by rw[ya];show qi (by lk),rfl,by rw[yK];rfl⟩
     .rw [yl G,yC G,Yg];show yq ?_;show⟨rfl,rfl⟩
    .obtain⟨rfl,rfl⟩:=hp;rw[show(l.map V.str).length=l.length from ya _,yW,br];have dq:=Yw (fun d=>decide (d∈l')) l;rw[br] at dq;show⟨by rw[ya];show yX (qi (by lk)),fun cl bu=>?_⟩;have s3:=qN aq (o:=.lst ((m::tf).map V.str)) bu;have bd:=qN (Sr J) (o:=.lst ((m::tf).map V.str)) bu;have bi:upd J cl (.lst ((m::tf).map V.str)) cl=some (.lst ((m::tf).map V.str)):=qb;generalize upd J cl (.lst ((m::tf).map V.str))=H3 at s3 bd bi;apply .inl (zv bi (v:=.str m) (qv (j:=0) rfl) ?_);have h3:=h.same s3;have ae:=bd _ _ R;have bn:=bd _ _ am;apply⟨a.x,dx,fs,rfl,s3 _ _ ak,ba _ (by room),?_⟩;apply⟨.inl ⟨rfl,_,.of ae⟩,?_⟩;apply⟨o1,l,m,rfl,rfl,.of ae,by rw[U];simp,_,rfl,?_⟩;rw[show l.idxOf m=l1.length by rw[U] at ai ⊢;show qcL ai];apply .inl ⟨o1,_,rfl,.of ae,fun c1 aa=>?_⟩;have bj:qaw (l.map V.str) none (some ((l1.length:Nat):Int))=l1.map V.str:=by rw[qck,U,yK,List.take_left' (by simp)]
     rw[bj];have s4:=qN s3 (o:=.lst (l1.map V.str)) aa;have cp:=qN (Sr H3) (o:=.lst (l1.map V.str)) aa;have ac:upd H3 c1 (.lst (l1.map V.str)) c1=some (.lst (l1.map V.str)):=qb;have n1:=h3.new aa;generalize upd H3 c1 (.lst (l1.map V.str))=H4 at s4 cp ac;have h4:=h.same s4
     have av:∀{x y:Str} {rx k W:LS},S.rows x=some rx->(∀ u∈rx,u∈ss)->Ch (pt qs) S (S.bas x) k->k=W++m::l2->∀ c∈W,∃ q rz t,pt qs c=some q/\S.rows q=none/\q∈ss/\rx=rz++q::t:=fun{x y rx k W} hx hs hk ek c hc=>by
      obtain⟨a',b',ea⟩:=Yj hc;have bm:k=a'++c::(b'++m::l2):=by rw[ek,ea];simp
      obtain⟨_,_,_,_,g3,_⟩:=hk.up I hx rfl bm;rcases g3.cases' with⟨_,z⟩ | ⟨q,_,hq,_⟩
      .simp at z
      .obtain⟨rz,t,W,_,k3,_⟩:=hk.suf I hx bm hq;show⟨q,rz,_,hq,k3,hs q (by rw[W];simp),W⟩
     apply⟨H0,a,ss,ns,qs,S,dn,wt,.non,v,w,c1,l1,rv,g,rfl,h4,b.few,ac,n1,hv,hw,au,al,(I.alt v rv hv).nd,?_,?_,b.qn,av (y:=v) hv dv hl U,fun N p ap H5 S1 h5 bf cf bo ca cd bx R1 dj=>?_⟩
     .rw [U] at ai;show(yV.mp ai).1
     .rw [U,yt] at Z;lk
     have ec:o1∉a.six:=fun z=>dt (Fo.sub _ z);have co:o2∉a.six:=fun z=>du (Fo.sub _ z);have af:=bf _ _ co (cp _ _ bn);apply⟨.inl ⟨rfl,_,.of bo⟩,?_⟩;ext;obtain⟨cs,da,ci,_,_,_,ck⟩:=id h5.obj;show⟨a.x,cs,da,rfl,ci,ck _ (by room),?_⟩;apply⟨.inl ⟨rfl,_,.of af⟩,?_⟩;apply⟨o2,l',m,rfl,rfl,.of af,aj,_,rfl,?_⟩;rw[show l'.idxOf m=m1.length by rw[O] at C ⊢;show qcL C];apply .inl ⟨o2,_,rfl,.of af,fun c2 ah=>?_⟩;have aw:qaw (l'.map V.str) none (some ((m1.length:Nat):Int))=m1.map V.str:=by rw[qck,O,yK,List.take_left' (by simp)]
     rw[aw];have s6:=qN (Sr H5) (o:=.lst (m1.map V.str)) ah;have ad:upd H5 c2 (.lst (m1.map V.str)) c2=some (.lst (m1.map V.str)):=qb;have n2:=h5.new ah;generalize upd H5 c2 (.lst (m1.map V.str))=H6 at s6 ad;have h6:=h5.same s6
     have cn:∀ c∈m1,∀ q,pt qs c=some q->S.rows q=none->S1.rows q=none:=fun c hc q hq hn=>by
      cases e:S1.rows q with
      | none=>rfl
      | some r =>
       exfalso;rcases R1.new q r e with z | ⟨c',hc',z,_⟩
       .rw [hn] at z;cases z
       .have e1:=b.gr.fs z;rw[b.gr.fs hq] at e1;rw[<- ym e1] at hc';show ao c hc' (by rw[O];show yM _ hc)
     apply⟨H0,a.add N,ss,ns,qs,S1,dn,wt++ap,.non,w,v,c2,m1,g,rv,rfl,h6,b.few,ad,n2,R1.old _ _ hw,R1.old _ _ hv,al,au,(I.alt w g hw).nd,?_,?_,b.qn,fun c hc=>?_,fun t2 s bc H7 S2 h7 bg ee cx cb ce bz R2 dk=>?_⟩
     .rw [O] at C;show(yV.mp C).1
     .rw [O,yt] at L;lk
     .obtain⟨q,rz,t,W,k2,k3,k4⟩:=av (y:=v) hw dw D O c hc;show⟨q,rz,t,W,cn c hc q W k2,k3,k4⟩
     have be:N∉a.six:=h4.new cf;have bp:H7 N=some (.lst (p.map V.str)):=bg _ _ be (s6 _ _ bo);apply⟨N,t2,_,_,rfl,rfl,bp,cx,by rw[ya,ya,Yn];rw[U,yt] at Z;rw[O,yt] at L;lk,?_⟩;have h8:=h7.updE (c:=N) (o:=.lst (p.map V.str++s.map V.str)) (by simp[Fo.add]);obtain⟨xs,dh,ef⟩:=h.rng;have bv:=dk _ (s6 _ _ (dj _ (s4 _ _ dh)));have ds:a.dg≠N:=fun z=>be (by rw[<- z];simp[Fo.six]);have bq:upd H7 N (.lst (p.map V.str++s.map V.str)) N=some (.lst ((p++s).map V.str)):=by rw[qb,yK]
     have ar:upd H7 N (.lst (p.map V.str++s.map V.str)) a.dg=some (.lst xs):=by rw[qf ds];show bv
     have bh:Bx a.six H (upd H7 N (.lst (p.map V.str++s.map V.str))):=fun e o n k=>by
      have ne:e≠N:=fun z=>by rw[z,s4.free cf] at k;cases k
      rw[qf ne];show bg _ _ n (s6 _ _ (bf _ _ n (s4 _ _ k)))
     generalize upd H7 N (.lst (p.map V.str++s.map V.str))=H8 at h8 bq ar bh
     have eb:0<ap.length+bc.length:=by
      rw[bx,bz];rcases l1 with _ | ⟨x,r⟩
      .rcases m1 with _ | ⟨x,r⟩
       .rw [U] at X;rw[O] at A;show absurd ((xq X).1.symm.trans (xq A).1) ag
       .simp
      .simp;lk
     ext;obtain⟨ct,db,cj,_,_,_,cm⟩:=id h8.obj;show⟨a.x,ct,db,rfl,cj,cm _ (by room),?_⟩;apply⟨H0,(a.add N).add t2,ss,ns,qs,S2,dn,wt++ap++bc,.non,N,p++s,m,xs,rfl,h8,b.few,bq,be,?_,ar,?_,fun H9 h9 cr=>?_⟩
     .rw [yt,cd,ce];rw[U,yt] at Z;rw[O,yt] at L;lk
     .rw [<- yZ,<- yZ,yt,yt (as:=dn++wt)];lk
     have dp:∀ u,u∈p++s++[m]↔InR (pt qs) m (l1++m1) u:=fun u=>by
      rw[yA,yA,ca,cb,yx];unfold InR;constructor
      .rintro ((⟨c,hc,z⟩ | ⟨c,hc,z⟩) | z)
       .show .inr ⟨c,yM _ hc,z⟩
       .show .inr ⟨c,yL _ hc,z⟩
       .show .inl z
      .rintro (z | ⟨c,hc,z⟩)
       .show .inr z
       .rcases yA.mp hc with y | y
        .show .inl (.inl ⟨c,y,z⟩)
        .show .inl (.inr ⟨c,y,z⟩)
     have bt:S2.bas=S.bas:=by rw[R2.bas,R1.bas]
     have bw:∀ u,InR (pt qs) m (l1++m1) (S.bas u)->u∈ss:=fun u M=>by
      cases e:S.rows u with
      | some r=>show Y e
      | none =>
       rw[I.own e] at M;rcases M with z | ⟨c,hc,z⟩
       .obtain⟨r,k,_⟩:=hl.bs0 I hv (c:=m) (by rw[U];simp);rw[z];show Y k
       .have de:∃ r,S.rows c=some r:=by
         rcases yA.mp hc with y | y
         .show(hl.bs0 I hv (by rw[U];show yM _ y)).elim fun r k=>⟨r,k.1⟩
         .show(D.bs0 I hw (by rw[O];show yM _ y)).elim fun r k=>⟨r,k.1⟩
        obtain⟨r,k⟩:=de;rcases z with z | z
        .rw [z];show Y k
        .show b.inn _ _ (b.gr.as (b.gr.fa z))
     have hM:Mg (pt qs) S (S2.setBas (wnL S2 ss (p++s) m) m) v w m l1 m1:=by
      have ch:∀ u,u∈wnL S2 ss (p++s) m↔u∈ss/\InR (pt qs) m (l1++m1) (S.bas u):=fun u=>by
       unfold wnL;rw[yp,YG,dp,bt]
      have nr:∀{u:Str} {r:LS},NewRow S1 w v u r->NewRow S w v u r:=fun⟨a1,a2,a3,a4,W,k2,k3⟩=>by
       rw[R1.old _ _ hw] at W;rw[R1.old _ _ hv] at k2;cases W;cases k2;show⟨_,_,a3,a4,hw,hv,k3⟩
      show⟨by show S2.par=S.par;rw[R2.par,R1.par],fun u r e=>R2.old _ _ (R1.old _ _ e),fun u r e=>?_,fun c hc q hq=>?_,fun u M=>?_,fun u M=>?_⟩
      .rcases R2.new u r e with z | ⟨c,hc,W,k2⟩
       .rcases R1.new u r z with z | z
        .show .inl z
        .show .inr (.inl z)
       .show .inr (.inr ⟨c,hc,W,nr k2⟩)
      .rcases yA.mp hc with y | y
       .obtain⟨r,k⟩:=R1.all c y q hq;show⟨r,R2.old _ _ k⟩
       .show R2.all c y q hq
      .show(if u∈wnL S2 ss (p++s) m then m else S2.bas u)=m;rw[yE ((ch u).mpr ⟨bw u M,M⟩)]
      .show(if u∈wnL S2 ss (p++s) m then m else S2.bas u)=S.bas u;rw[yC (fun z=>M ((ch u).mp z).2),bt]
     have hI:=I.merge b.gr hv hw (U ▸ hl) (O ▸ D) (O ▸ ao) (U ▸ df) cg ag hM
     have dc:InR (pt qs) m (l1++m1) (S.bas v):=by
      rcases l1 with _ | ⟨x,r⟩
      .rw [U] at X;cases X;show .inl rfl
      .rw [U] at X;cases X;show .inr ⟨_,by simp,.inl rfl⟩
     have dd:InR (pt qs) m (l1++m1) (S.bas w):=by
      rcases m1 with _ | ⟨x,r⟩
      .rw [O] at A;cases A;show .inl rfl
      .rw [O] at A;cases A;show .inr ⟨_,by simp,.inl rfl⟩
     show q1 H9 _ (ap++bc) ?_ (bh.trans cr) hI ((hM.inn v dc).trans (hM.inn w dd).symm) ⟨fun u z e=>?_,fun u e=>by rw[hM.par];show e,hM.old⟩
     .rw [<- yZ];show h9.drop (l:=a.ex) fun c hc=>by simp[Fo.add,hc]
     .by_cases G:InR (pt qs) m (l1++m1) (S.bas u)
      .rw [hM.inn u G,hM.inn z (by rw[<- e];show G)]
      .rw [hM.out u G,hM.out z (by rw[<- e];show G),e]
  .rw [yl an];show zg ?_;apply .inl (h2.obj.rd T 2 rfl ?_);apply h2.rowAt hv fun tv cy=>?_;apply qga ?_;apply .inl (h2.obj.rd T 2 rfl ?_);apply h2.rowAt hw fun tw cz=>?_;apply⟨1,rfl,?_⟩;show⟨_,rfl,rfl,tw,_,rfl,.of cz,fun c1 aa=>?_⟩;have N:=qN aq (o:=.lst (g.map V.str).reverse) aa;have cq:=qN (Sr H2) (o:=.lst (g.map V.str).reverse) aa;have ac:upd H2 c1 (.lst (g.map V.str).reverse) c1=some (.lst (g.reverse.map V.str)):=by rw[qb,List.map_reverse]
   generalize upd H2 c1 (.lst (g.map V.str).reverse)=H3 at N cq ac;show qef (cq _ _ cy) ac (by rw[ya,ya,Yx];lk) fun c2 ah=>?_;have n2:=(h.same N).newA ah;have t2:=qN N (o:=.lst (rv.map V.str++g.reverse.map V.str)) ah;have ad:upd H3 c2 (.lst (rv.map V.str++g.reverse.map V.str)) c2=some (.lst ((rv++g.reverse).map V.str)):=by rw[qb,yK]
   generalize upd H3 c2 (.lst (rv.map V.str++g.reverse.map V.str))=H4 at t2 ad;obtain⟨W,k2⟩:=(h.same t2).setL (v:=.ref c2) (t2 _ _ ak) (fun e=>by cases e);apply .inl ⟨a.x,cc 9,dx,fs,rfl,t2 _ _ ak,T.fcl,T.fa _ (by room),W,?_⟩;have dr:c2≠a.x:=fun z=>n2 (Fo.sub _ (by rw[z];simp[Fo.six]));show q2 _ c2 _ k2 ((Bx.of t2).upd (by simp[Fo.six])) (by rw[qf dr];show ad) n2 (I.aug b.gr hv hw hl D (by rw[ax,ay];simpa using an) cg) (by rw[yt,Yx];lk)
theorem Kn:FnScope ["self","place","other","partner"] ["self","place"] (qh qZ):=fS
noncomputable def FS.setPar(S:FS)(u p:Str):FS:=⟨S.rows,fun s=>if s=u then some p else S.par s,S.bas⟩
inductive spLa(cc:Nat->Addr)(cw:Addr)(vs:List V)(H:Hp)(Q:VK)(E:XK):Prop|mk (H0:Hp) (a:Fo) (ss:LS) (ns:LN) (qs:LP) (S:FS) (dn wt:LS) (v:Str) (A:Str->Str->Prop) (_:vs=[.ref a.x,.str v]) (_:FoA (cc 9) cw H0 H a ss ns qs S ss (dn++[v]) wt .non) (_:Wb A ss qs) (_:(∀ s∈ss,jG s=true)) (_:(∀(j:Nat) z u,ss[j]?=some z->(u∈inB ss 0 (ns.getD j 0)↔A z u))) (_:(∀ z∈ss,pt qs z=none->S.rows z≠none)) (_:FI A (pt qs) S) (_:CI A S (fun u=>u∈dn)) (_:(∀(H':Hp) (S':FS) (more:LS),FoA (cc 9) cw H0 H' a ss ns qs S' ss (dn++[v]) (wt++more) .non->Bx a.six H H'->FI A (pt qs) S'->CI A S' (fun u=>u∈dn++[v])->Mono S S'->Q .non H')) (_:∀(H':Hp) (S':FS) (more:LS) (t:Addr) (r:LS),FoA (cc 9) cw H0 H' a ss ns qs S' ss (dn++[v]) (wt++more) (.ref t)->Bx a.six H H'->H' t=some (.lst (r.map V.str))->t∉a.all->Aug A (pt qs) r->r.length<=28->Q .non H')
theorem CI.on(h:CI A S Pd)(m:Mono S S'):CI A S' Pd:=h.mono m.ba m.pa fun u a=>by
 cases e:S.rows u with
 | none=>show absurd e a
 | some r=>rw[m.ro u r e];show fun z=>by cases z
theorem FoA.setP{a:Fo}{bs wt:LS}{d:List (Key×V)}{p:Str}(h:FoA (cc 9) cw H0 H a ss ns qs S bs dn wt lo)(C:H a.da=some (.dK d))(g:u∈ss)(f:S.par u=none):FoA (cc 9) cw H0 (upd H a.da (.dK (zB d (Sum.inr u) (.str p)))) a ss ns qs (S.setPar u p) bs dn wt lo/\d.length<=ss.length:=by
 obtain⟨E,P,R,T⟩:=h.row;obtain⟨k',r,M,N⟩:=h.par;obtain⟨k,t,v,w⟩:=h.bas;obtain⟨xs,A,B⟩:=h.rng;rw[C] at r;cases r;obtain⟨⟨U,J,W,X,Y⟩,⟨K,Z,n8,n9⟩,⟨i,j,l⟩,⟨F,G⟩,I⟩:=(by simpa [Fo.six] using h.sep:(¬a.x=a.dr/\¬a.x=a.da/\¬a.x=a.ds/\¬a.x=a.dg/\¬a.x=a.dw)/\(¬a.dr=a.da/\¬a.dr=a.ds/\¬a.dr=a.dg/\¬a.dr=a.dw)/\(¬a.da=a.ds/\¬a.da=a.dg/\¬a.da=a.dw)/\(¬a.ds=a.dg/\¬a.ds=a.dw)/\¬a.dg=a.dw);have n:Bx a.six H (upd H a.da (.dK (zB d (Sum.inr u) (.str p)))):=(Bx.of (Sr H)).upd (by simp[Fo.six]);obtain⟨O,L,q,m⟩:=M;show⟨⟨qaB h.sm (h.fr _ (by simp[Fo.six])),h.web,h.prt,h.fr,h.nd,fun c hc=>⟨(h.exf c hc).1,(h.exf c hc).2.1,(h.exf c hc).2.2.elim fun o e=>⟨o,n _ _ (h.exf c hc).2.1 e⟩⟩,h.obj.eq (qf J),⟨E,by rw[qf K];show P,R,fun y=>(T y).mono n Fo.sub⟩,⟨_,qb,⟨O++[u],by have:=jS d (Sum.inr u:Key) (.str p);rw[yt];show _<=_+1;lk,yV.mpr ⟨q,List.pairwise_singleton _ _,fun x b y D e=>(m u (by rw[<- yx.mp D,<- e];show b)).2 f⟩,fun x b=>?_⟩,fun s=>?_⟩,⟨k,by rw[qf (Yb i)];show t,v,w⟩,⟨xs,by rw[qf (Yb j)];show A,B⟩,by rw[qf (Yb l)];show h.wai,h.evn,h.evi,h.evs⟩,yi L (j3 q fun x b=>(m x b).1)⟩
 .show x∈ss/\(if x=u then some p else S.par x)≠none;by_cases e:x=u
  .rw [yE e,e];show⟨g,fun z=>by cases z⟩
  .rw [yC e];show m x ((yA.mp b).resolve_right fun z=>e (yx.mp z))
 .rw [qa0,N];show _=(if s=u then some p else S.par s).map V.str;by_cases e:s=u
  .subst e;rw[yE rfl,yE rfl];rfl
  .rw [yC (fun x=>e (xC x)),yC e]
theorem ok_la(F:Fun K "look_around" "Forest.look_around" qZ f fd)(T:Txt K mg cc cw)(KS:MethOk P w K mg base CX0 6 cw "beside" ["self","place"] (spBs cw))(K0:MethOk P w K mg base CX0 3 (cc 9) "bring_together" ["self","one","other"] (spBt cc cw))(Km:MethOk P w K mg base CX0 1 (cc 9) "reach" ["self","place","row"] (spRe cc cw)):FnOk P w K mg base CX0 7 f fd ["self","place"] (spLa cc cw):=by
 show F.ok Kn fun _ _ _ s H vs Q E hr h=>?_
 .obtain⟨H0,a,ss,ns,qs,S,dn,wt,v,B,rfl,h,c,bh,av,bc,I,hC,q1,q2⟩:=h;have O:=jZ hr;show⟨_,(qe (ju yT rfl (qW (K:=K) rfl (qF KS (hmR hr) (qD (K:=K) rfl (pv 0) rfl) (qa (pv 1) qd))) (qw (i:=2) Kn.nd rfl (yJ rfl))
 (qc (qK (qm (zU (K:=K) rfl O) (pv 2) (qD (K:=K) rfl (pv 0) rfl) (by with_unfolding_all rfl)) (qe (qL (qF K0 (hmR hr) (pv 0) (qa (pv 1) (qa (pv 2) qd))))) (qe (qK (qm (qa3 (K:=K) rfl O) (pv 2) (qD (K:=K) rfl (pv 0) rfl) (by with_unfolding_all rfl)) (qc (qo (i:=3) Kn.nd rfl (yJ rfl) (qt (qu (K:=K) rfl O) (qD (K:=K) rfl (pv 0) rfl) (pv 2) (fun _ _=>rfl)))
 (qc (jD (pv 1) (jO (qD (K:=K) rfl (pv 0) rfl) (pv 2) (jQ O)))
 (qe (qL (qF Km (hmR hr) (pv 0) (qa (pv 3) (qa (qH (jN (K:=K) rfl) (qt (qu (K:=K) rfl O) (qD (K:=K) rfl (pv 0) rfl) (pv 1) (fun _ _=>rfl)) (qI (qa (pv 2) (qa (pv 3) qd)))) qd))))))) qr)))
 (qe (qK (qm qcy (qD (K:=K) rfl (pv 0) rfl) j7 (qx _)) (qe ps_retN) qr))))),?_⟩
  have am:v∈ss:=h.evs v (by simp)
  obtain⟨rv,az⟩:∃ r,S.rows v=some r:=by
   cases e:S.rows v with
   | none=>show absurd e ((h.evi v).mp (by simp))
   | some r=>show⟨r,rfl⟩
  obtain⟨j,hj⟩:=yf am;have ae:=h.web.same h.sm;obtain⟨wx,dd,ol,nn,hb,_⟩:=id ae;apply .inl (h.obj.rd T 0 rfl ?_);show⟨a.b,wx,_,rfl,hb,zO (by room),?_⟩;apply⟨a.b,ss,ns,v,j,rfl,ae,hj,fun H1 s1 bl af=>?_⟩;have g:=fun u=>av j v u hj;have M:(inB ss 0 (ns.getD j 0)).length<=14:=yi (qbl _ _ _) c.few;generalize inB ss 0 (ns.getD j 0)=bes at g M ⊢;have bf:=(h.same s1).new af;have s2:=qN s1 (o:=.lst (bes.map V.str)) af;have eb:upd H1 bl (.lst (bes.map V.str)) bl=some (.lst (bes.map V.str)):=qb;generalize upd H1 bl (.lst (bes.map V.str))=H2 at s2 eb;have h2:=h.same s2;show .inl ⟨⟨_,.of eb⟩,jc (xs:=bes.map V.str) (fun i σ J=>∃(S':FS) (more:LS) (Z y3:Option V),σ=[some (.ref a.x),some (.str v),Z,y3]/\FoA (cc 9) cw H0 J a ss ns qs S' ss (dn++[v]) (wt++more) .non/\Bx a.six H2 J/\FI B (pt qs) S'/\Mono S S'/\∀ u∈bes.take i,S'.bas u=S'.bas v\/(S'.par u≠none/\u∉dn++[v])) ⟨S,[],_,_,rfl,by rw[Yg];show h2,fun _ _ _ e=>e,I,Mono.refl S,(fun u O=>by simp at O)⟩ (fun i σ J _ hp=>?_) (fun i y σ J hy hp=>?_) fun σ J hp=>?_⟩
  .obtain⟨S',more,Z,y3,rfl,_,t,_⟩:=hp;show .of (t _ _ bf eb)
  .obtain⟨S',more,Z,y3,rfl,d,t,D,C,L⟩:=hp;rw[yd] at hy;obtain⟨u,ai,rfl⟩:=yn.mp hy;have R:B v u:=(g u).mp (ye ai);have ak:u∈ss:=c.inn _ _ (c.gr.as R);have l:=C.ro v rv az;have N:bes.take (i+1)=bes.take i++[u]:=by rw[yR,ai];rfl
   obtain⟨kr,r1,r2,r3⟩:=d.row;have n:=r3 u;apply .inl (d.obj.rd T 2 rfl ?_);show .inr (.inl ⟨a.dr,_,rfl,DGet.k (k:=Sum.inr u) r1,?_⟩)
   cases A:S'.rows u with
   | some ru =>
    rw[A] at n;obtain⟨tu,k1,k2,_⟩:=n;rw[k1];show⟨_,rfl,zg ?_⟩;ext;obtain⟨dx,fs,U,_,_,_,X⟩:=id d.obj;show⟨a.x,dx,fs,rfl,U,X _ (by room),?_⟩;apply⟨H0,a,ss,ns,qs,S',dn++[v],wt++more,v,u,rv,ru,B,rfl,d,c,D,l,A,R,fun H5 S5 be h5 G I5 au m5=>?_,fun H5 t5 r5 h5 G e5 n5 aq ax=>?_⟩
    .ext;show .inl (h5.obj.rd T 7 rfl ?_);apply⟨rfl,_,rfl,qG (fun h=>by simp at h) fun _=>?_⟩;show⟨S5,more++be,_,_,rfl,by rw[<- yZ wt];show h5,t.trans G,I5,C.trans m5,fun z hz=>?_⟩;rw[N] at hz;rcases yA.mp hz with hz | hz
     .show(L z hz).imp (m5.ba z v) fun y=>⟨m5.pa z y.1,y.2⟩
     .rw [yx.mp hz];show .inl au.symm
    .ext;show .inl (h5.obj.rd T 7 rfl ?_);apply⟨rfl,_,rfl,zg ?_⟩;show q2 H5 S' more t5 r5 h5 (((Bx.of s2).trans t).trans G) e5 n5 aq ax
   | none =>
    rw[A] at n;have ah:zh kr (.inr u:Key)=none:=n;rw[ah];have aj:u∉dn++[v]:=fun z=>(d.evi u).mp (yM _ z) A;show⟨_,rfl,qG (fun h=>by cases h) fun _=>?_⟩;obtain⟨ka,p1,p2,p3⟩:=d.par;apply .inl (d.obj.rd T 3 rfl ?_);show .inr (.inl ⟨a.da,_,rfl,DGet.k (k:=Sum.inr u) p1,?_⟩);rw[p3]
    cases ep:S'.par u with
    | some z =>
     show⟨_,rfl,qG (fun h=>by cases h) fun _=>?_⟩;apply .inl (d.obj.rd T 7 rfl ?_);apply⟨rfl,_,rfl,qG (fun h=>by simp at h) fun _=>?_⟩;show⟨S',more,_,_,rfl,d,t,D,C,fun z hz=>?_⟩;rw[N] at hz;rcases yA.mp hz with hz | hz
     .show L z hz
     .rw [yx.mp hz];show .inr ⟨by rw[ep];show(fun y=>by cases y),aj⟩
    | none =>
     show⟨_,rfl,zg ?_⟩
     obtain⟨y,q⟩:∃ y,pt qs u=some y:=by
      cases e:pt qs u with
      | some y=>show⟨y,rfl⟩
      | none =>
       exfalso;have k:=bc u ak e
       cases e2:S.rows u with
       | none=>show k e2
       | some r=>rw[C.ro u r e2] at A;cases A
     have bd:y∈ss:=c.inn _ _ (c.gr.as (c.gr.fa q));have an:=D.fresh c.gr A ep q;have ay:=d.sm _ _ h.prt;obtain⟨Y,bg⟩:=d.setP (p:=v) p1 ak ep;have bj:=c.few;apply .inl (d.obj.rd T 1 rfl ?_);apply qd7 ay (by rw[jV,q];rfl) ?_;apply .inl (d.obj.rd T 3 rfl ?_);apply .inr ⟨a.da,_,rfl,DPut.k (k:=Sum.inr u) p1 (by rw[Yn];lk),?_⟩;have aa:Bx a.six H2 (upd J a.da (.dK (zB ka (Sum.inr u) (.str v)))):=t.upd (by simp[Fo.six]);generalize upd J a.da (.dK (zB ka (Sum.inr u) (.str v)))=J3 at Y aa;ext;obtain⟨dx,fs,U,_,_,_,X⟩:=id Y.obj;show⟨a.x,dx,fs,rfl,U,X _ (by room),?_⟩;apply .inl (Y.obj.rd T 2 rfl ?_);apply Y.rowAt (S:=S'.setPar u v) l fun tv ap=>?_;apply⟨by show 2<=sizeLine;decide,fun c1 aw=>?_⟩;have t1:=qN (Sr J3) (o:=.lst [.str u,.str y]) aw;have ac:upd J3 c1 (.lst [.str u,.str y]) c1=some (.lst [.str u,.str y]):=qb;generalize upd J3 c1 (.lst [.str u,.str y])=J4 at t1 ac;have bi:=((D.alt v rv l).inn c am).1;show qef (t1 _ _ ap) ac (by rw[ya];show _+2<=_;lk) fun c2 ag=>?_;have n2:=(Y.same t1).newA ag;have t2:=qN t1 (o:=.lst (rv.map V.str++[.str u,.str y])) ag;have ad:upd J4 c2 (.lst (rv.map V.str++[.str u,.str y])) c2=some (.lst ((rv++[u,y]).map V.str)):=by rw[qb,yK];rfl
     generalize upd J4 c2 (.lst (rv.map V.str++[.str u,.str y]))=J5 at t2 ad;apply⟨H0,a,ss,ns,qs,S'.setPar u v,ss,dn++[v],wt++more,.non,y,c2,rv++[u,y],rfl,Y.same t2,c.few,ad,n2,bd,an,fun H6 h6 ao _=>?_⟩;have W:Gw S' ((S'.setPar u v).setRow y (rv++[u,y])) v u y rv:=⟨yE rfl,fun s hs=>yC hs,yE rfl,fun s hs=>yC hs,rfl⟩;have I6:=D.grow c.gr l R A ep q W
     have m6:Mono S' ((S'.setPar u v).setRow y (rv++[u,y])):=⟨fun _ _ e=>e,fun z hz=>by
      show(if z=u then some v else S'.par z)≠none;split
      .show fun x=>by cases x
      .show hz,fun z r e=>by rw[W.ro z (fun x=>by rw[x,an] at e;cases e)];show e⟩
     apply .inl (h6.obj.rd T 7 rfl ?_);apply⟨rfl,_,rfl,qG (fun h=>by simp at h) fun _=>?_⟩;show⟨_,more++[y],_,_,rfl,by rw[<- yZ wt];show h6,(aa.trans (Bx.of t2)).trans ao,I6,C.trans m6,fun z hz=>?_⟩;rw[N] at hz;rcases yA.mp hz with hz | hz
     .show(L z hz).imp (m6.ba z v) fun y=>⟨m6.pa z y.1,y.2⟩
     .rw [yx.mp hz];show .inr ⟨by rw[W.pu];show(fun x=>by cases x),aj⟩
  .obtain⟨S',more,Z,y3,rfl,d,t,D,C,L⟩:=hp;rw[ya,yW] at L;show q1 J S' more d ((Bx.of s2).trans t) D ?_ C;have ar:=hC.on C;show⟨fun z u hz m=>?_,fun z hz=>?_⟩
   .rcases yA.mp hz with hz1 | hz1
    .by_cases al:u=v
     .rw [al] at m ⊢;rcases L z ((g z).mpr (c.gr.as m)) with y | y
      .show .inl y.symm
      .show absurd (yM _ hz1) y.2
     .rcases ar.cl z u hz1 m with y | ⟨y1,Z⟩
      .show .inl y
      .show .inr ⟨y1,fun x=>(yA.mp x).elim Z fun x=>al (yx.mp x)⟩
    .rw [yx.mp hz1] at m ⊢;show L u ((g u).mpr m)
   .show(d.evi z).mp (yM _ hz)
theorem K4:FnScope ["self","place"] ["self"] (qh j8):=fS
structure FoD(cf cw:Addr)(H0 H:Hp)(a:Fo)(ss:LS)(ns:LN)(qs:LP)(S:FS)(dn wt:LS)(lo:V)(A:Str->Str->Prop):Prop where
 fo:FoA cf cw H0 H a ss ns qs S ss dn wt lo
 en:(lo=.non/\wt=[]/\FI A (pt qs) S/\CI A S (fun u=>u∈dn)/\∀ z∈ss,pt qs z=none->S.rows z≠none)\/∃ t r,lo=.ref t/\H t=some (.lst (r.map V.str))/\t∉a.all/\Aug A (pt qs) r/\r.length<=28
noncomputable def S0:FS:=⟨fun _=>none,fun _=>none,fun s=>s⟩
noncomputable def SI(qs:LP)(l:LS):FS:=⟨fun s=>if s∈l/\pt qs s=none then some [s] else none,fun _=>none,fun s=>s⟩
theorem SI_nil(qs:LP):SI qs []=S0:=by unfold SI S0;simp
theorem SI_on{l:LS}(h:pt qs z=none):SI qs (l++[z])=(SI qs l).setRow z [z]:=by
 unfold SI FS.setRow
 congr 1
 funext s;dsimp only;by_cases e:s=z
 .subst e;rw[yE ⟨by simp,h⟩,yE rfl]
 .rw [yC e];have:s∈l++[z]↔s∈l:=by simp[e]
  simp only[this]
theorem SI_off{l:LS}(h:pt qs z≠none):SI qs (l++[z])=SI qs l:=by
 unfold SI
 congr 1
 funext s;by_cases e:s=z
 .subst e;rw[yC (fun k=>h k.2),yC (fun k=>h k.2)]
 .have:s∈l++[z]↔s∈l:=by simp[e]
  simp only[this]
inductive spGw(cc:Nat->Addr)(cw:Addr)(vs:List V)(H:Hp)(Q:VK)(E:XK):Prop|mk (H0:Hp) (a:Fo) (ss:LS) (ns:LN) (qs:LP) (A:Str->Str->Prop) (_:vs=[.ref a.x]) (_:FoA (cc 9) cw H0 H a ss ns qs S0 [] [] [] .non) (_:Wb A ss qs) (_:(∀ s∈ss,jG s=true)) (_:(∀(j:Nat) z u,ss[j]?=some z->(u∈inB ss 0 (ns.getD j 0)↔A z u))) (_:∀(H':Hp) (S:FS) (dn wt:LS) (lo:V),FoD (cc 9) cw H0 H' a ss ns qs S dn wt lo A->Bx a.six H H'->Q .non H')
theorem ix_natF{k:Nat}(h:k<n):seqIndex? (k:Int) n=some k:=by
 unfold seqIndex?;simp;lk
theorem nin_prF{d:Addr}{Q:VK}(a:H d=some (.dK (prK qs)))(q:Q (.bl (!(pt qs s).isSome)) H):qez K true (.str s) (.ref d) H Q:=by
 show .inr (.inl ⟨d,_,rfl,DGet.k (k:=Sum.inr s) a,?_⟩);rw[jV,yE rfl,Xd];show q
theorem FoA.ne{a:Fo}{bs wt:LS}(h:FoA (cc 9) cw H0 H a ss ns qs S bs dn wt lo):(¬a.x=a.dr/\¬a.x=a.da/\¬a.x=a.ds/\¬a.x=a.dg/\¬a.x=a.dw)/\(¬a.dr=a.da/\¬a.dr=a.ds/\¬a.dr=a.dg/\¬a.dr=a.dw)/\(¬a.da=a.ds/\¬a.da=a.dg/\¬a.da=a.dw)/\(¬a.ds=a.dg/\¬a.ds=a.dw)/\¬a.dg=a.dw:=by simpa [Fo.six] using h.sep
theorem FoA.setN{a:Fo}{bs wt:LS}{ks:List (Key×V)}(h:FoA (cc 9) cw H0 H a ss ns qs S bs dn wt lo)(p:H a.ds=some (.dK ks))(hz:S.bas z=z):FoA (cc 9) cw H0 (upd H a.ds (.dK (zB ks (Sum.inr z) (.str z)))) a ss ns qs S (bs++[z]) dn wt lo/\ks.length<=bs.length:=by
 obtain⟨s,F,G,I⟩:=h.row;obtain⟨r,C,D,E⟩:=h.par;obtain⟨k,g,j,l⟩:=h.bas;obtain⟨xs,m,n⟩:=h.rng;rw[p] at g;cases g;obtain⟨⟨J,K,A,L,M⟩,⟨N,B,O,P⟩,⟨b,t,v⟩,⟨d,f⟩,w⟩:=h.ne;have i:Bx a.six H (upd H a.ds (.dK (zB ks (Sum.inr z) (.str z)))):=(Bx.of (Sr H)).upd (by simp[Fo.six]);show⟨⟨qaB h.sm (h.fr _ (by simp[Fo.six])),h.web,h.prt,h.fr,h.nd,fun c hc=>⟨(h.exf c hc).1,(h.exf c hc).2.1,(h.exf c hc).2.2.elim fun o e=>⟨o,i _ _ (h.exf c hc).2.1 e⟩⟩,h.obj.eq (qf A),⟨s,by rw[qf B];show F,G,fun y=>(I y).mono i Fo.sub⟩,⟨r,by rw[qf b];show C,D,E⟩,⟨_,qb,by have:=jS ks (Sum.inr z:Key) (.str z);rw[yt];show _<=_+1;lk,fun u q=>?_⟩,⟨xs,by rw[qf (Yb d)];show m,n⟩,by rw[qf (Yb f)];show h.wai,h.evn,h.evi,h.evs⟩,j⟩;rw[qa0];by_cases e:u=z
 .subst e;rw[yE rfl,hz]
 .rw [yC (fun x=>e (xC x))];show l u ((yA.mp q).resolve_right fun y=>e (yx.mp y))
theorem FoA.pop{a:Fo}{bs wt:LS}{v:Str}(h:FoA (cc 9) cw H0 H a ss ns qs S bs dn (v::wt) lo):FoA (cc 9) cw H0 (upd H a.dw (.lst (wt.map V.str))) a ss ns qs S bs (dn++[v]) wt lo:=by
 obtain⟨r,C,D,E⟩:=h.row;obtain⟨q,z,A,B⟩:=h.par;obtain⟨k,j,l,m⟩:=h.bas;obtain⟨xs,n,p⟩:=h.rng;obtain⟨⟨F,G,I,J,w⟩,⟨K,L,M,x⟩,⟨s,t,d⟩,⟨u,f⟩,g⟩:=h.ne;have b:dn++[v]++wt=dn++v::wt:=by simp
 have i:Bx a.six H (upd H a.dw (.lst (wt.map V.str))):=(Bx.of (Sr H)).upd (by simp[Fo.six]);show⟨qaB h.sm (h.fr _ (by simp[Fo.six])),h.web,h.prt,h.fr,h.nd,fun c hc=>⟨(h.exf c hc).1,(h.exf c hc).2.1,(h.exf c hc).2.2.elim fun o e=>⟨o,i _ _ (h.exf c hc).2.1 e⟩⟩,h.obj.eq (qf w),⟨r,by rw[qf x];show C,by rw[b];show D,fun y=>(E y).mono i Fo.sub⟩,⟨q,by rw[qf d];show z,A,B⟩,⟨k,by rw[qf f];show j,l,m⟩,⟨xs,by rw[qf g];show n,by rw[b];show p⟩,qb,by rw[b];show h.evn,by rw[b];show h.evi,by rw[b];show h.evs⟩
theorem ok_gw(F:Fun K "grow" "Forest.grow" j8 f fd)(T:Txt K mg cc cw)(KU:MethOk P w K mg base CX0 1 cw "places" ["self"] (spPls cw))(Km:MethOk P w K mg base CX0 1 (cc 9) "reach" ["self","place","row"] (spRe cc cw))(K7:MethOk P w K mg base CX0 7 (cc 9) "look_around" ["self","place"] (spLa cc cw)):FnOk P w K mg base CX0 8 f fd ["self"] (spGw cc cw):=by
 show F.ok K4 fun _ _ _ _ H vs Q E hr h=>?_
 .obtain⟨H0,a,ss,ns,qs,B,rfl,h,G,an,aj,q⟩:=h;have hu:=jZ hr;have ap:=G.few;show⟨_,(qc (ju yT rfl (qW (K:=K) rfl (jm KU (hmR hr) (qD (K:=K) rfl (pv 0) rfl))) (qw (i:=1) K4.nd rfl (yJ rfl))
 (qc (jD (pv 1) (jO (qD (K:=K) rfl (pv 0) rfl) (pv 1) (jQ hu)))
 (qe (qK (qm (qa3 (K:=K) rfl hu) (pv 1) (qD (K:=K) rfl (pv 0) rfl) (by with_unfolding_all rfl)) (qe (qL (qF Km (hmR hr) (pv 0) (qa (pv 1) (qa (qI (qa (pv 1) qd)) qd))))) qr))))
 (qe (qaC yT (PW.pt (qbc (qm qdC (qp (zu (K:=K) rfl) rfl T.b_len YT (qa (qD (K:=K) rfl (pv 0) rfl) qd)) qg (qx _)) (qau (qm qfE (qD (K:=K) rfl (pv 0) rfl) j7 (qx _)))))
 (qe (qL (qF K7 (hmR hr) (pv 0) (qa (qbA (K:=K) rfl yN PySem.F.slot_list_pop PySem.F.type_list_pop qci (qD (K:=K) rfl (pv 0) rfl) (qa qg qd)) qd))))))),?_⟩
  have ac:=h.web.same h.sm;obtain⟨wx,dd,ol,nn,hb,_⟩:=id ac;apply .inl (h.obj.rd T 0 rfl ?_);show⟨a.b,wx,_,rfl,hb,zO (by room),?_⟩;apply⟨a.b,ss,ns,rfl,ac,fun pl ae=>?_⟩;have as:=h.new ae;have s1:=qN (Sr H) (o:=.lst (ss.map V.str)) ae;have e1:upd H pl (.lst (ss.map V.str)) pl=some (.lst (ss.map V.str)):=qb;generalize upd H pl (.lst (ss.map V.str))=H1 at s1 e1;show .inl ⟨⟨_,.of e1⟩,jc (xs:=ss.map V.str) (fun i R J=>∃(p:LS) (Y:Option V),R=[some (.ref a.x),Y]/\FoA (cc 9) cw H0 J a ss ns qs (SI qs (ss.take i)) (ss.take i) [] p .non/\Bx a.six H1 J) ⟨[],_,rfl,by rw[List.take_zero,SI_nil];show h.same s1,fun _ _ _ e=>e⟩ (fun i R J _ n=>?_) (fun i y R J hy n=>?_) fun R J n=>?_⟩
  .obtain⟨p,Y,rfl,_,Z⟩:=n;show .of (Z _ _ as e1)
  .obtain⟨p,Y,rfl,X,Z⟩:=n;rw[yd] at hy;obtain⟨z,hz,rfl⟩:=yn.mp hy;have aw:=(yc.mp hz).1;have ar:=ye hz;have af:ss.take (i+1)=ss.take i++[z]:=by rw[yR,hz];rfl
   obtain⟨ks,b1,b2,b3⟩:=X.bas;rw[yP] at b2;obtain⟨D,_⟩:=X.setN (z:=z) b1 rfl;apply .inl (X.obj.rd T 4 rfl ?_);apply .inr ⟨a.ds,_,rfl,DPut.k (k:=Sum.inr z) b1 (by rw[Yn];lk),?_⟩;have s:Bx a.six H1 (upd J a.ds (.dK (zB ks (Sum.inr z) (.str z)))):=Z.upd (by simp[Fo.six]);generalize upd J a.ds (.dK (zB ks (Sum.inr z) (.str z)))=J2 at D s;have ao:=D.sm _ _ h.prt;apply .inl (D.obj.rd T 1 rfl ?_);show nin_prF ao ⟨_,rfl,?_⟩
   cases ez:pt qs z with
   | some y =>
    show yq ?_;show⟨p,_,rfl,by rw[af,SI_off (by rw[ez];show fun k=>nomatch k)];show D,s⟩
   | none =>
    show zg ?_;ext;obtain⟨dx,fs,N,_,_,_,O⟩:=id D.obj;show⟨a.x,dx,fs,rfl,N,O _ (by room),?_⟩;apply⟨by show 1<=sizeLine;decide,fun c1 ad=>?_⟩;have n1:=D.newA ad;have t1:=qN (Sr J2) (o:=.lst [.str z]) ad;have aa:upd J2 c1 (.lst [.str z]) c1=some (.lst ([z].map V.str)):=qb;generalize upd J2 c1 (.lst [.str z])=J3 at t1 aa
    have aq:z∉ss.take i:=fun y=>by
     obtain⟨j,hj⟩:=yf y;have ak:=(yc.mp hj).1;rw[yP] at ak;rw[List.getElem?_take,yE (by lk)] at hj;have:=qA G.nd hj hz;lk
    apply⟨H0,a,ss,ns,qs,SI qs (ss.take i),ss.take i++[z],[],p,.non,z,c1,[z],rfl,D.same t1,ap,aa,n1,ar,yC (fun k=>aq k.1),fun H6 h6 ah _=>?_⟩;show⟨p++[z],_,rfl,by rw[af,SI_on ez];show h6,(s.trans (Bx.of t1)).trans ah⟩
  .obtain⟨p,Y,rfl,X,Z⟩:=n;rw[ya,yW] at X;have ag:Bx a.six H J:=(Bx.of s1).trans Z
   have IJ:FI B (pt qs) (SI qs ss):=FI.start (fun v r e=>by
    have e':(if v∈ss/\pt qs v=none then some [v] else none)=some r:=e;split at e'
    .rename_i k;show⟨k.2,(ym e').symm⟩
    .cases e') (fun _=>rfl) fun _=>rfl
   ext;obtain⟨W,g⟩:∃ W:Nat->L2.St->Hp->Prop,W=fun m R J=>∃(S:FS) (dn wt:LS) (lo:V) (Y:Option V),R=[some (.ref a.x),Y]/\Bx a.six H J/\((lo=.non/\m=15-dn.length/\FoA (cc 9) cw H0 J a ss ns qs S ss dn wt .non/\FI B (pt qs) S/\CI B S (fun u=>u∈dn)/\∀ z∈ss,pt qs z=none->S.rows z≠none)\/(lo≠.non/\m=0/\FoD (cc 9) cw H0 J a ss ns qs S dn wt lo B)):=⟨_,rfl⟩;show⟨W,⟨15,by rw[g];show⟨SI qs ss,[],p,.non,_,rfl,ag,.inl ⟨rfl,rfl,X,IJ,⟨(fun v u k=>by cases k),(fun v k=>by cases k)⟩,fun z hz e=>by show(if _ then _ else _)≠none;rw[yE ⟨hz,e⟩];show fun k=>by cases k⟩⟩⟩,fun m R J hW=>?_⟩;rw[g] at hW;obtain⟨S,dn,wt,lo,ax,rfl,d,L⟩:=hW;rcases L with⟨rfl,hm,l,I,hC,M⟩ | ⟨am,hm,U⟩
   .have c:=l.wai;apply .inl (l.obj.rd T 6 rfl ?_);apply qaY c ?_;rw[ya];ext
    cases wt with
    | nil =>
     show qG (fun h=>by simp at h) fun _=>qG (fun h=>by cases h) fun _=>?_;show q J S dn [] .non ⟨l,.inl ⟨rfl,rfl,I,hC,M⟩⟩ d
    | cons v wt =>
     show qG (fun _=>?_) fun h=>absurd (yH (by simp)) h;apply .inl (l.obj.rd T 7 rfl ?_);apply⟨_,rfl,zg ⟨fun au H'=>∃ m',m'<m/\W m' au H',fun _ _ z=>z,?_⟩⟩;have av:dn.length+1<=14:=by have:=l.few;rw[yt,yD] at this;lk
     ext;obtain⟨dx,fs,N,_,_,_,O⟩:=id l.obj;show⟨a.x,dx,fs,rfl,N,O _ (by room),?_⟩;apply .inl (l.obj.rd T 6 rfl ?_);show⟨.inl ⟨rfl,_,.of c⟩,?_⟩;apply⟨a.dw,_,0,0,.str v,rfl,rfl,c,by decide,by decide,by rw[ya];show ix_natF (by simp),rfl,?_⟩;have n:=l.pop;have C:Bx a.six H (upd J a.dw (.lst (wt.map V.str))):=d.upd (by simp[Fo.six]);ext;show spLa cc cw _ (upd J a.dw (.lst (wt.map V.str))) _ _;generalize upd J a.dw (.lst (wt.map V.str))=J2 at n C;show⟨H0,a,ss,ns,qs,S,dn,wt,v,B,rfl,n,G,an,aj,M,I,hC,fun H5 S5 mo h5 A I5 C5 m5=>?_,fun H5 S5 mo t5 r5 h5 A e5 n5 ai al=>?_⟩
     .show⟨15-(dn++[v]).length,by rw[hm,yt];show _-(_+1)<_;lk,?_⟩;rw[g]
      show⟨S5,dn++[v],wt++mo,.non,_,rfl,C.trans A,.inl ⟨rfl,rfl,h5,I5,C5,fun z hz e=>(by
       have k:=M z hz e
       cases e2:S.rows z with
       | none=>show absurd e2 k
       | some r=>rw[m5.ro z r e2];show fun x=>by cases x)⟩⟩
     .show⟨0,by lk,?_⟩;rw[g];show⟨S5,dn++[v],wt++mo,.ref t5,_,rfl,C.trans A,.inr ⟨(fun e=>by cases e),rfl,⟨h5,.inr ⟨t5,r5,rfl,e5,n5,ai,al⟩⟩⟩⟩
   .have c:=U.fo.wai;rcases U.en with k | ⟨t,r,rfl,_⟩
    .show absurd k.1 am
    apply .inl (U.fo.obj.rd T 6 rfl ?_);apply qaY c ?_;apply qG (fun _=>?_) (fun _=>qG (fun h=>by cases h) fun _=>q J S dn wt _ U d);apply .inl (U.fo.obj.rd T 7 rfl ?_);apply⟨_,rfl,qG (fun h=>by cases h) fun _=>?_⟩;show q J S dn wt _ U d
theorem K5:FnScope ["self","web","pairs"] ["self","web","pairs"] (qh jM):=fS
theorem uD:FnScope ["self"] ["self"] (qh zr):=fS
noncomputable def qeW(p:Addr)(H:Hp):Hp:=fun b=>if b=p then none else H b
theorem zH{b:Addr}(h:b≠p):qeW p H b=H b:=yC h
theorem lkn{f g:Str}{fs:List (Str×V)}(h:f≠g)(k:fs.lookup f=none):(qE g v fs).lookup f=none:=by rw[qC,yC h];show k
inductive spFi(cc:Nat->Addr)(cw:Addr)(vs:List V)(H:Hp)(Q:VK)(E:XK):Prop|mk (x dx b r:Addr) (ss:LS) (ns:LN) (us:LQ) (tps qs:LP) (A:Str->Str->Prop) (_:vs=[.ref x,.ref b,.ref r]) (_:H x=some (.ins (cc 9) dx [])) (_:WebAt cw H b ss ns) (_:Adj ss ns tps) (_:Wb A ss qs) (_:(∀ s∈ss,jG s=true)) (_:(∀(j:Nat) z u,ss[j]?=some z->(u∈inB ss 0 (ns.getD j 0)↔A z u))) (_:PL H r us qs) (_:qs.length<=30) (_:(∀ q∈qs,(q∈tps\/(q.2,q.1)∈tps)/\q.1∈ss/\q.2∈ss/\q.1≠q.2)) (_:∀(H0 H':Hp) (a:Fo) (S:FS) (dn wt:LS) (lo:V),a.x=x->a.ex=[]->FoD (cc 9) cw H0 H' a ss ns qs S dn wt lo A->L2.Same (qeW x H) H0->Q .non H')
theorem WebAt.out{b:Addr}{fs:List (Str×V)}(h:WebAt cw H b ss ns)(a:H x=some (.ins (cc 9) dx fs))(i:b≠x):WebAt cw (qeW x H) b ss ns:=by
 obtain⟨j,d,ol,n,h1,c,e,f,g⟩:=h;show⟨j,d,ol,n,(zH i).trans h1,(zH ?_).trans c,(zH ?_).trans e,(zH ?_).trans f,g⟩
 .show qat c a (fun z=>by cases z)
 .show qat e a (fun z=>by cases z)
 .show qat f a (fun z=>by cases z)
theorem qfs(F:Fun K "__init__" "Forest.__init__" jM f fd)(T:Txt K mg cc cw)(Kc:DefOk P w K mg base CX0 9 "partners_in" ["web","pairs"] (spPn cw))(KQ:MethOk P w K mg base CX0 8 (cc 9) "grow" ["self"] (spGw cc cw)):FnOk P w K mg base CX0 10 f fd ["self","web","pairs"] (spFi cc cw):=by
 show F.ok K5 fun _ _ _ s H vs Q E hr h=>?_
 .obtain⟨x,dx,b,r,ss,ns,us,tps,qs,B,rfl,hx,hW,hA,bu,ch,cf,hP,ci,cj,q⟩:=h;have hu:=jZ hr;show⟨_,(qc (qV (K:=K) rfl (pv 0) (pv 1) rfl)
 (qc (qV (K:=K) rfl (pv 0) (qq Kc (hmR hr) qz (qa (pv 1) (qa (pv 2) qd))) rfl)
 (qc (qV (K:=K) rfl (pv 0) jg rfl)
 (qc (qV (K:=K) rfl (pv 0) jg rfl)
 (qc (qV (K:=K) rfl (pv 0) jg rfl)
 (qc (qV (K:=K) rfl (pv 0) (qI qd) rfl)
 (qc (qV (K:=K) rfl (pv 0) (qI qd) rfl)
 (qc (qV (K:=K) rfl (pv 0) j7 rfl)
 (qe (qL (jm KQ (hmR hr) (pv 0)))))))))))),?_⟩
  have ca:b≠x:=fun e=>by
   obtain⟨wx,d,ol,n,hb,_⟩:=id hW;subst e;rw[hx] at hb;injection hb with hb;injection hb with _ _ hb;cases hb
  have cq:r≠x:=qat hP.1 hx (fun z=>by cases z)
  have cr:∀ u∈us,u≠x:=fun u hu=>by
   obtain⟨q,_,eu⟩:=hP.2.mem hu;show qat eu hx (fun z=>by cases z)
  have fa:∀ i,(h:i<8)->NoAttr K (cc 9) (fAtt.getD i ""):=fun i h=>T.fa _ (by have:i<fAtt.length:=h;rw[Yh,yb this];show Xg this);apply .inl ⟨x,cc 9,dx,[],rfl,hx,T.fcl,fa 0 (by decide),by decide,?_⟩;have b1:=(But.refl x H).put (o:=.ins (cc 9) dx (qE "board" (.ref b) []));have bq:upd H x (.ins (cc 9) dx (qE "board" (.ref b) [])) x=some (.ins (cc 9) dx (qE "board" (.ref b) [])):=qb;generalize upd H x (.ins (cc 9) dx (qE "board" (.ref b) []))=H1 at b1 bq ⊢
  have keepW:∀{J:Hp},But x H J->WebAt cw J b ss ns:=fun k=>by
   obtain⟨wx,d,ol,n,h1,h2,h3,h4,h5⟩:=hW;show⟨wx,d,ol,n,k _ _ ca h1,k _ _ (qat h2 hx (fun z=>by cases z)) h2,k _ _ (qat h3 hx (fun z=>by cases z)) h3,k _ _ (qat h4 hx (fun z=>by cases z)) h4,h5⟩
  have cd:PL H1 r us qs:=⟨b1 _ _ cq hP.1,hP.2.len,fun k t ab ht ce=>b1 _ _ (cr t (ye ht)) (hP.2.at_ k t ab ht ce)⟩;apply⟨b,r,ss,ns,us,tps,qs,rfl,keepW b1,hA,cd,⟨cj,bu.qn,ci⟩,fun dp H2 s2 bh cg=>?_⟩;have bw:=s2 _ _ bq;have b2:=b1.same s2;have cp:dp≠x:=fun e=>by rw[e,bq] at bh;cases bh
  have hl:∀{f:Str} {v:V} {fs:List (Str×V)} {n:Nat},fs.length<=n->(qE f v fs).length<=n+1:=fun h=>yi (jA _ _ _) (by lk);apply .inl ⟨x,cc 9,dx,_,rfl,bw,T.fcl,fa 1 (by decide),Ys (hl (n:=0) (yh _)) (by decide),?_⟩
  have c3:L2.Same (qeW x H2) (upd H2 x (.ins (cc 9) dx (qE "partners" (.ref dp) (qE "board" (.ref b) [])))):=fun c o e=>by
   have hc:c≠x:=fun z=>by rw[z] at e;unfold qeW at e;rw[yE rfl] at e;cases e
   rw[zH hc] at e;rw[qf hc];show e
  have ap:upd H2 x (.ins (cc 9) dx (qE "partners" (.ref dp) (qE "board" (.ref b) []))) x=some (.ins (cc 9) dx (qE "partners" (.ref dp) (qE "board" (.ref b) []))):=qb;obtain⟨H0,ac⟩:∃ H0,H0=qeW x H2:=⟨_,rfl⟩;rw[<- ac] at c3;have D:H0 x=none:=by rw[ac];show yE rfl
  have l3:(qE "partners" (.ref dp) (qE "board" (.ref b) [])).length<=2:=hl (hl (n:=0) (yh _));generalize upd H2 x (.ins (cc 9) dx (qE "partners" (.ref dp) (qE "board" (.ref b) [])))=H3 at c3 ap ⊢;obtain⟨f3,bi⟩:∃ f3,f3=qE "partners" (.ref dp) (qE "board" (.ref b) []):=⟨_,rfl⟩;rw[<- bi] at ap l3;ext;intro m ao;have C:m≠x:=fun e=>by rw[e,ap] at ao;cases ao
  have cv:H0 m=none:=c3.free ao;have ck:upd H3 m (.dK []) x=some (.ins (cc 9) dx f3):=by rw[qf C.symm];show ap
  apply .inl ⟨x,cc 9,dx,_,rfl,ck,T.fcl,fa 2 (by decide),Ys l3 (by decide),?_⟩;have c4:L2.Same H0 (upd (upd H3 m (.dK [])) x (.ins (cc 9) dx (qE "rows" (.ref m) f3))):=qaB (qN c3 ao) D;have aq:(upd (upd H3 m (.dK [])) x (.ins (cc 9) dx (qE "rows" (.ref m) f3))) x=some (.ins (cc 9) dx (qE "rows" (.ref m) f3)):=qb;have l4:(qE "rows" (.ref m) f3).length<=3:=hl l3;have U:(upd (upd H3 m (.dK [])) x (.ins (cc 9) dx (qE "rows" (.ref m) f3))) m=some (.dK []):=by rw[qf C,qb]
  generalize upd (upd H3 m (.dK [])) x (.ins (cc 9) dx (qE "rows" (.ref m) f3))=H4 at c4 aq U ⊢;obtain⟨f4,bj⟩:∃ f,f=qE "rows" (.ref m) f3:=⟨_,rfl⟩;rw[<- bj] at aq l4;ext;intro l G;have I:l≠x:=fun e=>by rw[e,aq] at G;cases G
  have ct:H0 l=none:=c4.free G;have ad:l≠m:=fun e=>by rw[e,U] at G;cases G
  have cl:upd H4 l (.dK []) x=some (.ins (cc 9) dx f4):=by rw[qf I.symm];show aq
  apply .inl ⟨x,cc 9,dx,_,rfl,cl,T.fcl,fa 3 (by decide),Ys l4 (by decide),?_⟩;have c5:L2.Same H0 (upd (upd H4 l (.dK [])) x (.ins (cc 9) dx (qE "parents" (.ref l) f4))):=qaB (qN c4 G) D;have ar:(upd (upd H4 l (.dK [])) x (.ins (cc 9) dx (qE "parents" (.ref l) f4))) x=some (.ins (cc 9) dx (qE "parents" (.ref l) f4)):=qb;have l5:(qE "parents" (.ref l) f4).length<=4:=hl l4;have M:(upd (upd H4 l (.dK [])) x (.ins (cc 9) dx (qE "parents" (.ref l) f4))) l=some (.dK []):=by rw[qf I,qb]
  have W:(upd (upd H4 l (.dK [])) x (.ins (cc 9) dx (qE "parents" (.ref l) f4))) m=some (.dK []):=by rw[qf C,qf (Yb ad)];show U
  generalize upd (upd H4 l (.dK [])) x (.ins (cc 9) dx (qE "parents" (.ref l) f4))=H5 at c5 ar W M ⊢;obtain⟨f5,bm⟩:∃ f,f=qE "parents" (.ref l) f4:=⟨_,rfl⟩;rw[<- bm] at ar l5;ext;intro j A;have ah:j≠x:=fun e=>by rw[e,ar] at A;cases A
  have cx:H0 j=none:=c5.free A;have aj:j≠m:=fun e=>by rw[e,W] at A;cases A
  have ai:j≠l:=fun e=>by rw[e,M] at A;cases A
  have cm:upd H5 j (.dK []) x=some (.ins (cc 9) dx f5):=by rw[qf ah.symm];show ar
  apply .inl ⟨x,cc 9,dx,_,rfl,cm,T.fcl,fa 4 (by decide),Ys l5 (by decide),?_⟩;have c6:L2.Same H0 (upd (upd H5 j (.dK [])) x (.ins (cc 9) dx (qE "bases" (.ref j) f5))):=qaB (qN c5 A) D;have as:(upd (upd H5 j (.dK [])) x (.ins (cc 9) dx (qE "bases" (.ref j) f5))) x=some (.ins (cc 9) dx (qE "bases" (.ref j) f5)):=qb;have l6:(qE "bases" (.ref j) f5).length<=5:=hl l5;have Z:(upd (upd H5 j (.dK [])) x (.ins (cc 9) dx (qE "bases" (.ref j) f5))) j=some (.dK []):=by rw[qf ah,qb]
  have X:(upd (upd H5 j (.dK [])) x (.ins (cc 9) dx (qE "bases" (.ref j) f5))) m=some (.dK []):=by rw[qf C,qf (Yb aj)];show W
  have N:(upd (upd H5 j (.dK [])) x (.ins (cc 9) dx (qE "bases" (.ref j) f5))) l=some (.dK []):=by rw[qf I,qf (Yb ai)];show M
  generalize upd (upd H5 j (.dK [])) x (.ins (cc 9) dx (qE "bases" (.ref j) f5))=H6 at c6 as X N Z ⊢;obtain⟨f6,bn⟩:∃ f,f=qE "bases" (.ref j) f5:=⟨_,rfl⟩;rw[<- bn] at as l6;apply⟨by show 0<=sizeLine;decide,fun g y=>?_⟩;have av:g≠x:=fun e=>by rw[e,as] at y;cases y
  have cu:H0 g=none:=c6.free y;have af:g≠m:=fun e=>by rw[e,X] at y;cases y
  have ae:g≠l:=fun e=>by rw[e,N] at y;cases y
  have ag:g≠j:=fun e=>by rw[e,Z] at y;cases y
  have cn:upd H6 g (.lst []) x=some (.ins (cc 9) dx f6):=by rw[qf av.symm];show as
  apply .inl ⟨x,cc 9,dx,_,rfl,cn,T.fcl,fa 5 (by decide),Ys l6 (by decide),?_⟩;have c7:L2.Same H0 (upd (upd H6 g (.lst [])) x (.ins (cc 9) dx (qE "rings" (.ref g) f6))):=qaB (qN c6 y) D;have au:(upd (upd H6 g (.lst [])) x (.ins (cc 9) dx (qE "rings" (.ref g) f6))) x=some (.ins (cc 9) dx (qE "rings" (.ref g) f6)):=qb;have l7:(qE "rings" (.ref g) f6).length<=6:=hl l6;have R:(upd (upd H6 g (.lst [])) x (.ins (cc 9) dx (qE "rings" (.ref g) f6))) g=some (.lst []):=by rw[qf av,qb]
  have Y:(upd (upd H6 g (.lst [])) x (.ins (cc 9) dx (qE "rings" (.ref g) f6))) m=some (.dK []):=by rw[qf C,qf (Yb af)];show X
  have O:(upd (upd H6 g (.lst [])) x (.ins (cc 9) dx (qE "rings" (.ref g) f6))) l=some (.dK []):=by rw[qf I,qf (Yb ae)];show N
  have aa:(upd (upd H6 g (.lst [])) x (.ins (cc 9) dx (qE "rings" (.ref g) f6))) j=some (.dK []):=by rw[qf ah,qf (Yb ag)];show Z
  generalize upd (upd H6 g (.lst [])) x (.ins (cc 9) dx (qE "rings" (.ref g) f6))=H7 at c7 au Y O aa R ⊢;obtain⟨L,bo⟩:∃ f,f=qE "rings" (.ref g) f6:=⟨_,rfl⟩;rw[<- bo] at au l7;apply⟨by show 0<=sizeLine;decide,fun a p=>?_⟩;have bt:a≠x:=fun e=>by rw[e,au] at p;cases p
  have cy:H0 a=none:=c7.free p;have am:a≠m:=fun e=>by rw[e,Y] at p;cases p
  have ak:a≠l:=fun e=>by rw[e,O] at p;cases p
  have an:a≠j:=fun e=>by rw[e,aa] at p;cases p
  have al:a≠g:=fun e=>by rw[e,R] at p;cases p
  have co:upd H7 a (.lst []) x=some (.ins (cc 9) dx L):=by rw[qf bt.symm];show au
  apply .inl ⟨x,cc 9,dx,_,rfl,co,T.fcl,fa 6 (by decide),Ys l7 (by decide),?_⟩;have c8:L2.Same H0 (upd (upd H7 a (.lst [])) x (.ins (cc 9) dx (qE "waiting" (.ref a) L))):=qaB (qN c7 p) D;have br:(upd (upd H7 a (.lst [])) x (.ins (cc 9) dx (qE "waiting" (.ref a) L))) x=some (.ins (cc 9) dx (qE "waiting" (.ref a) L)):=qb;have l8:(qE "waiting" (.ref a) L).length<=7:=hl l7;have bf:(upd (upd H7 a (.lst [])) x (.ins (cc 9) dx (qE "waiting" (.ref a) L))) a=some (.lst []):=by rw[qf bt,qb]
  have ba:(upd (upd H7 a (.lst [])) x (.ins (cc 9) dx (qE "waiting" (.ref a) L))) m=some (.dK []):=by rw[qf C,qf (Yb am)];show Y
  have aw:(upd (upd H7 a (.lst [])) x (.ins (cc 9) dx (qE "waiting" (.ref a) L))) l=some (.dK []):=by rw[qf I,qf (Yb ak)];show O
  have bd:(upd (upd H7 a (.lst [])) x (.ins (cc 9) dx (qE "waiting" (.ref a) L))) j=some (.dK []):=by rw[qf ah,qf (Yb an)];show aa
  have ay:(upd (upd H7 a (.lst [])) x (.ins (cc 9) dx (qE "waiting" (.ref a) L))) g=some (.lst []):=by rw[qf av,qf (Yb al)];show R
  generalize upd (upd H7 a (.lst [])) x (.ins (cc 9) dx (qE "waiting" (.ref a) L))=H8 at c8 br ba aw bd ay bf ⊢;obtain⟨f8,bp⟩:∃ f,f=qE "waiting" (.ref a) L:=⟨_,rfl⟩;rw[<- bp] at br l8;apply .inl ⟨x,cc 9,dx,_,rfl,br,T.fcl,fa 7 (by decide),Ys l8 (by decide),?_⟩;have c9:L2.Same H0 (upd H8 x (.ins (cc 9) dx (qE "longer" .non f8))):=qaB c8 D;have bz:(upd H8 x (.ins (cc 9) dx (qE "longer" .non f8))) x=some (.ins (cc 9) dx (qE "longer" .non f8)):=qb;have l9:(qE "longer" .non f8).length<=8:=hl l8;have bc:(upd H8 x (.ins (cc 9) dx (qE "longer" .non f8))) m=some (.dK []):=by rw[qf C];show ba
  have ax:(upd H8 x (.ins (cc 9) dx (qE "longer" .non f8))) l=some (.dK []):=by rw[qf I];show aw
  have be:(upd H8 x (.ins (cc 9) dx (qE "longer" .non f8))) j=some (.dK []):=by rw[qf ah];show bd
  have az:(upd H8 x (.ins (cc 9) dx (qE "longer" .non f8))) g=some (.lst []):=by rw[qf av];show ay
  have bg:(upd H8 x (.ins (cc 9) dx (qE "longer" .non f8))) a=some (.lst []):=by rw[qf bt];show bf
  generalize upd H8 x (.ins (cc 9) dx (qE "longer" .non f8))=H9 at c9 bz bc ax be az bg ⊢
  have hF:FoA (cc 9) cw H0 H9 ⟨x,b,dp,m,l,j,g,a,[]⟩ ss ns qs S0 [] [] [] .non:=by
   show⟨c9,?_,?_,fun c hc=>?_,?_,(fun c hc=>by cases hc),⟨dx,_,bz,ko l9,fun _=>l9,fun f v hf=>?_,fun f hf=>?_⟩,⟨[],bc,yh _,fun _=>rfl⟩,⟨[],ax,⟨[],yh _,.nil,(fun u hu=>by cases hu)⟩,fun _=>rfl⟩,⟨[],be,yh _,(fun s hs=>by cases hs)⟩,⟨[],az,yh _⟩,bg,.nil,fun v=>⟨(fun k=>by cases k),fun k=>absurd rfl k⟩,(fun v hv=>by cases hv)⟩
   .rw [ac];show(keepW b2).out bw ca
   .rw [ac];show(zH cp).trans cg
   .simp only[Fo.six,yv,yz,yU] at hc;rcases hc with rfl | rfl | rfl | rfl | rfl | rfl<;>assumption
   .simp [ad.symm,aj.symm,af.symm,am.symm,ai.symm,ae.symm,ak.symm,ag.symm,an.symm,al.symm]
   .simp only[Fo.tab,yv,Xq,yz,yU] at hf;rw[bp,bo,bn,bm,bj,bi];rcases hf with⟨rfl,rfl⟩ | ⟨rfl,rfl⟩ | ⟨rfl,rfl⟩ | ⟨rfl,rfl⟩ | ⟨rfl,rfl⟩ | ⟨rfl,rfl⟩ | ⟨rfl,rfl⟩ | ⟨rfl,rfl⟩<;>rfl
   .rw [bp,bo,bn,bm,bj,bi];have no:∀ i,i<8->f≠fAtt.getD i "":=fun i hi e=>hf (by rw[e,Yh,yb (show i<fAtt.length from hi)];show Xg _);show lkn (no 7 (by decide)) (lkn (no 6 (by decide)) (lkn (no 5 (by decide)) (lkn (no 4 (by decide)) (lkn (no 3 (by decide)) (lkn (no 2 (by decide)) (lkn (no 1 (by decide)) (lkn (no 0 (by decide)) rfl)))))))
  ext;obtain⟨cb,fs,bv,_,_,_,bx⟩:=id hF.obj;show⟨x,cb,fs,rfl,bv,bx _ (by room),?_⟩;apply⟨H0,_,ss,ns,qs,B,rfl,hF,bu,ch,cf,fun HA S dn wt lo hD cs=>?_⟩;show q H0 HA _ S dn wt lo rfl rfl hD fun c o e=>?_;have hc:c≠x:=fun z=>by rw[z] at e;unfold qeW at e;rw[yE rfl] at e;cases e
  rw[zH hc] at e;rw[ac,zH hc];show b2 _ _ hc e
inductive spFr(cc:Nat->Addr)(cw:Addr)(vs:List V)(H:Hp)(Q:VK)(E:XK):Prop|mk (H0:Hp) (a:Fo) (ss:LS) (ns:LN) (qs:LP) (S:FS) (dn wt:LS) (lo:V) (A:Str->Str->Prop) (_:vs=[.ref a.x]) (_:FoD (cc 9) cw H0 H a ss ns qs S dn wt lo A) (_:(lo=.non->Q .non H)) (_:∀(t:Addr) (r:LS),lo=.ref t->H t=some (.lst (r.map V.str))->Aug A (pt qs) r->∀ l,H l=none->Q (.ref l) (upd H l (.lst (r.map V.str))))
inductive spFd2(cc:Nat->Addr)(cw:Addr)(vs:List V)(H:Hp)(Q:VK)(E:XK):Prop|mk (H0:Hp) (a:Fo) (ss:LS) (ns:LN) (qs:LP) (S:FS) (dn wt:LS) (lo:V) (A:Str->Str->Prop) (_:vs=[.ref a.x]) (_:FoD (cc 9) cw H0 H a ss ns qs S dn wt lo A) (_:ss.length<=14) (_:(lo≠.non->Q .non H)) (_:(lo=.non->∀(l:Addr) (H':Hp),L2.Same H H'->H l=none->H' l=some (.lst ((ss.filter fun s=>(S.rows s).isSome).map V.str))->Q (.ref l) H'))
theorem ok_fr(F:Fun K "row" "Forest.row" zr f fd)(T:Txt K mg cc cw):FnOk P w K mg base CX0 1 f fd ["self"] (spFr cc cw):=by
 show F.ok uD fun _ _ _ _ H vs Q E i h=>?_
 .obtain⟨H0,a,ss,ns,qs,S,dn,wt,lo,B,rfl,b,e,g⟩:=h;show⟨_,(qe (qk (qcT (qm qfE (qD (K:=K) rfl (pv 0) rfl) j7 (qx _)) j7 (ji (zV (K:=K) rfl rfl) rfl T.b_list YY (qa (qD (K:=K) rfl (pv 0) rfl) qd))))),?_⟩;apply .inl (b.fo.obj.rd T 7 rfl ?_);ext;rcases b.en with⟨rfl,_⟩ | ⟨t,r,rfl,c,j,d,_⟩
  .show⟨_,rfl,zg ?_⟩;apply e rfl
  .show⟨_,rfl,qG (fun h=>by cases h) fun _=>?_⟩;apply .inl (b.fo.obj.rd T 7 rfl ?_);apply .inl ⟨t,_,rfl,.inl (.of c),g t r rfl c d⟩
theorem Kz:FnScope ["web","pairs","partners"] ["web","pairs"] (qh jp):=fS
theorem Kp:FnScope ["web","thing","seen","place"] ["web","thing"] (qh jd):=fS
theorem qcM(a b:Str):eqV (.str a) (.str b)=decide (a=b):=by
 unfold eqV;by_cases h:a=b<;>simp[h]
theorem qfS{i j:Str}{Q:VK}(q:Q (.bl (decide (i=j))) H):qfH K (.str i) (.str j) H Q:=.inl (.inl (.inl ⟨rfl,rfl,by rw[yC (by decide),qcM];show q⟩))
noncomputable def qbo(a qs:LP):LP:=a.filter fun q=>decide (pt qs q.1=some q.2)
inductive spTp(cw:Addr)(vs:List V)(H:Hp)(Q:VK)(E:XK):Prop|mk (x l:Addr) (ss:LS) (ns:LN) (us:LQ) (tps qs:LP) (_:vs=[.ref x,.ref l]) (_:WebAt cw H x ss ns) (_:Adj ss ns tps) (_:PL H l us qs) (_:PGo ss tps qs) (_:∀(l:Addr) (ls:LQ) (H':Hp),L2.Same H H'->H l=none->H' l=some (.lst (ls.map V.ref))->ls.length<=196->All2 (PrAt H H' l) ls (qbo (qR ss ns ss.length) qs)->Q (.ref l) H')
noncomputable def stp(rs:LS):LP:=rs.zip rs.tail
noncomputable def prB(qs:LP)(ab:Str×Str):Bool:=decide (pt qs ab.1=some ab.2)
theorem stp_at:(stp rs)[j]?=some ab↔rs[j]?=some ab.1/\rs[j+1]?=some ab.2:=by
 unfold stp;rw[List.getElem?_zip_eq_some,xZ]
theorem qaz(rs:LS):(stp rs).length=rs.length-1:=by unfold stp;rw[List.length_zip,xQ];lk
structure RowG(ss:LS)(tps qs:LP)(rs:LS):Prop where
 nd:rs.Nodup
 two:2<=rs.length
 few:rs.length<=1000
 inn:∀ r∈rs,r∈ss
 tie:∀(j:Nat) ab,(stp rs)[j]?=some ab->(ab∈tps\/(ab.2,ab.1)∈tps)/\prB qs ab=decide (j % 2=1)
 hd:∀ s,rs[0]?=some s->pt qs s=none
 tl:∀ s,rs[rs.length-1]?=some s->pt qs s=none
structure Rw(cw:Addr)(H:Hp)(x l a:Addr)(ss:LS)(ns:LN)(us:LQ)(tps qs:LP)(rs:LS):Prop where
 web:WebAt cw H x ss ns
 adj:Adj ss ns tps
 prs:PL H l us qs
 pgo:PGo ss tps qs
 row:H a=some (.lst (rs.map V.str))
 rok:RowG ss tps qs rs
theorem Rw.same{a:Addr}(h:Rw cw H x l a ss ns us tps qs rs)(s:L2.Same H H'):Rw cw H' x l a ss ns us tps qs rs:=
 ⟨h.web.same s,h.adj,h.prs.same s,h.pgo,s _ _ h.row,h.rok⟩
inductive spUl(cw:Addr)(vs:List V)(H:Hp)(Q:VK)(E:XK):Prop|mk (x a:Addr) (ss:LS) (ns:LN) (rs:LS) (_:vs=[.ref x,.ref a]) (_:WebAt cw H x ss ns) (_:H a=some (.lst (rs.map V.str))) (_:rs.Nodup) (_:rs.length<=1000) (_:(∀ r∈rs,r∈ss)) (_:∀ H',L2.Same H H'->Q (.bl true) H')
inductive spGt(cw:Addr)(vs:List V)(H:Hp)(Q:VK)(E:XK):Prop|mk (x l d a:Addr) (ss:LS) (ns:LN) (us:LQ) (tps qs:LP) (rs:LS) (_:vs=[.ref x,.ref d,.ref a]) (_:Rw cw H x l a ss ns us tps qs rs) (_:H d=some (.dK (prK qs))) (_:∀ H',L2.Same H H'->Q (.bl true) H')
inductive spIr(cw:Addr)(vs:List V)(H:Hp)(Q:VK)(E:XK):Prop|mk (x l a:Addr) (ss:LS) (ns:LN) (us:LQ) (tps qs:LP) (rs:LS) (_:vs=[.ref x,.ref l,.ref a]) (_:Rw cw H x l a ss ns us tps qs rs) (_:∀ H',L2.Same H H'->Q (.bl true) H')
theorem qeX{t:Str}{Q:VK}(q:Q (.bl (decide (pt qs s=some t))) H):qfH K (((pt qs s).map V.str).getD .non) (.str t) H Q:=by
 cases e:pt qs s with
 | none=>rw[e] at q;show .inl (.inl (.inl ⟨rfl,rfl,q⟩))
 | some u =>
  show qfS ?_;rw[e] at q
  rwa[show decide (u=t)=decide (some u=some t) from Y8.mpr ⟨congrArg some,ym⟩]
theorem ok_tp(F:Fun K "told_pairs" "told_pairs" jp f fd)(T:Txt K mg cc cw)(S:DefOk P w K mg base CX0 9 "partners_in" ["web","pairs"] (spPn cw))(R:MethOk P w K mg base CX0 7 cw "ties" ["self"] (spTs cw)):FnOk P w K mg base CX0 10 f fd ["web","pairs"] (spTp cw):=by
 show F.ok Kz fun _ _ _ _ H vs Q E J h=>?_
 .obtain⟨x,pl,ss,ns,ps,tps,qs,rfl,C,U,X,W,q⟩:=h;have A:=jZ J;obtain⟨wx,dd,ol,nn,Y,_⟩:=id C;show⟨_,(qc (qo (i:=2) Kz.nd rfl (kg rfl) (qq S (hmR J) qz (qa (pv 0) (qa (pv 1) qd))))
 (qe (qk (jT (sc:=qh jp) (XN:=["web","pairs","partners"]) ["tie","partners"] 1 [2] rfl rfl rfl (by room) rfl (by room)
  (qW (K:=K) rfl (jm R (hmR J) (pv 0))) (fun _ _ _ _=>(qw (i:=0) (show(["tie","partners"]:LS).Nodup by room) rfl (yJ rfl))) jB
  (fun _ _ _ _=>(zk (qm (zE (K:=K) rfl A) (qad (qe0 A) (pv 1) (qt (qu (K:=K) rfl A) (pv 0) qg (fun _ _=>rfl)) ⟨rfl,rfl,rfl,rfl⟩) (qt (qu (K:=K) rfl A) (pv 0) qg (fun _ _=>rfl)) (qx _))))
  (fun _ _ _ _=>(pv 0)))))),?_⟩
  apply⟨x,pl,ss,ns,ps,tps,qs,rfl,C,U,X,W,fun d H1 B aa Z=>?_⟩;apply⟨x,wx,_,rfl,B _ _ Y,zO (by room),?_⟩;apply⟨x,ss,ns,rfl,C.same B,fun l ts H2 O ac hl D b=>?_⟩;have p:=O _ _ Z;have s:=B.trans O;show .inl ⟨⟨_,.of hl⟩,jF (xs:=ts.map V.ref) (fun i ys G=>G=H2/\∃ us:LQ,ys=us.map V.ref/\us.length<=i/\All2 (fun t ab=>H1 t=none/\H2 t=some (.tup [.str ab.1,.str ab.2])) us (qbo ((qR ss ns ss.length).take i) qs)) ⟨rfl,[],rfl,yh _,.nil⟩ (fun i ys G _ a=>by rw[a.1];show .of hl) (fun i y ys G N a=>?_) fun ys G a=>?_⟩
  .obtain⟨rfl,us,rfl,r,m⟩:=a;rw[yd] at N;obtain⟨t,M,rfl⟩:=yn.mp N;have hi:i<ts.length:=(yc.mp M).1;obtain⟨ab,n⟩:∃ ab,(qR ss ns ss.length)[i]?=some ab:=⟨_,yb (by rw[<- b.len];show hi)⟩;obtain⟨z1,z2,L⟩:=b.at_ i t ab M n
   have c:qbo ((qR ss ns ss.length).take (i+1)) qs=qbo ((qR ss ns ss.length).take i) qs++(if pt qs ab.1=some ab.2 then [ab] else []):=by
    unfold qbo;rw[yR,n,Yt];show _++[ab].filter _=_;rw[Yq];simp only[kt,xB]
   apply qcm ?_;apply⟨d,rfl,.inl ⟨_,.inl p⟩,?_⟩;apply .inl (zP L (v:=.str ab.1) (qv (j:=0) rfl) ?_);show⟨_,DGet.k (k:=Sum.inr ab.1) p,?_⟩;rw[jV];apply .inl (zP L (v:=.str ab.2) (qv (j:=1) rfl) ?_);show qeX ?_;ext;rw[c];show qG (fun I=>?_) (fun I=>?_)
   .rw [yE (yk I)];apply⟨by rw[ya];show qi (by lk),rfl,us++[t],by rw[yK];rfl,by rw[yt];simp;lk,m.snoc ⟨z1,L⟩⟩
   .rw [yC (fun e=>I (yH e)),Yg];show⟨rfl,us,rfl,by lk,m⟩
  .obtain⟨rfl,us,rfl,r,m⟩:=a;have e:(ts.map V.ref).length=(qR ss ns ss.length).length:=by rw[ya,b.len]
   rw[e,yW] at m;rw[ya] at r;show⟨by rw[ya];show yX (qi (by lk)),fun g u=>?_⟩;have s3:=qN s (o:=.lst (us.map V.ref)) u;show q g us _ s3 (s.free u) qb (by lk) (m.mono fun t ab z=>⟨B.free z.1,(fun e=>by rw[e,u] at z;cases z.2),by rw[qf (fun e=>by rw[e,u] at z;cases z.2)];show z.2⟩)
theorem ok_ul(F:Fun K "are_unlike_places" "are_unlike_places" jd f fd)(T:Txt K mg cc cw)(L:MethOk P w K mg base CX0 3 cw "has_place" ["self","thing"] (spHas cw)):FnOk P w K mg base CX0 4 f fd ["web","thing"] (spUl cw):=by
 show F.ok Kp fun _ _ _ _ H vs Q E D h=>?_
 .obtain⟨x,a,ss,ns,rs,rfl,A,l,n,hl,m,q⟩:=h;have G:=jZ D;show⟨_,(qc (qK (q8 (qQ (qp (zl (K:=K) rfl) rfl T.b_isinstance Yk (qa (pv 1) (qa (jh (v:=.ty "list") rfl T.b_list YY rfl) qd))))) (qe (qk jz)) qr)
 (qc (qo (i:=2) Kp.nd rfl (yJ rfl) jg)
 (qc (ju yT rfl (qW (K:=K) rfl (pv 1)) (qw (i:=3) Kp.nd rfl (yJ rfl))
 (qc (qK (PW.pt (qav (q8 (qQ (qF L (hmR D) (pv 0) (qa (pv 3) qd)))) (zR (qm (zU (K:=K) rfl G) (pv 3) (pv 2) (by with_unfolding_all rfl))))) (qe (qk jz)) qr)
 (qe (jD jz (jO (pv 2) (pv 3) (jQ G))))))
 (qe (qk jz))))),?_⟩
  apply zw (.inl (.lst l)) rfl (jl K "list" (by simp) "list" (by simp)) ?_;apply yq ?_;ext;intro d B;have p:=qN (Sr H) (o:=.dK []) B;have t:upd H d (.dK []) d=some (.dK (qaT [])):=qb;generalize upd H d (.dK [])=H1 at p t;obtain⟨O,S,ol,U,M,_⟩:=id A;apply .inl ⟨⟨_,.of (p _ _ l)⟩,jc (xs:=rs.map V.str) (fun i j J=>L2.Same H J/\∃ s,j=[some (.ref x),some (.ref a),some (.ref d),s]/\J d=some (.dK (qaT (rs.take i)))) ⟨p,_,rfl,t⟩ (fun i j J _ c=>.of (c.1 _ _ l)) (fun i y j J I c=>?_) fun j J c=>?_⟩
  .obtain⟨g,s,rfl,b⟩:=c;rw[yd] at I;obtain⟨z,hz,rfl⟩:=yn.mp I;have N:i<rs.length:=(yc.mp hz).1;have e:rs.take (i+1)=rs.take i++[z]:=by rw[yR,hz];rfl
   have C:z∉rs.take i:=fun y=>by
    have u:(rs.take (i+1)).Nodup:=n.sublist (Xx _ _);rw[e] at u;show(yV.mp u).2.2 _ y z (by simp) rfl
   apply⟨x,O,_,rfl,g _ _ M,zO (by room),?_⟩;apply⟨x,ss,ns,z,rfl,A.same g,m z (ye hz),fun R r=>?_⟩;apply yq ?_;apply .inr (.inl ⟨d,_,rfl,DGet.k (k:=Sum.inr z) (r _ _ b),?_⟩);rw[yC (by decide),ze,yl C];apply yq ?_;apply .inr ⟨d,_,rfl,DPut.k (k:=Sum.inr z) (r _ _ b) (qi (by unfold qaT;rw[ya,yP];lk)),?_⟩;show⟨qaB (g.trans r) B,_,rfl,?_⟩;rw[qb,qaO C,e]
  .obtain⟨g,s,rfl,b⟩:=c;apply q J g
theorem uz:FnScope ["web","pairs","thing","partners"] ["web","pairs","thing"] (qh qba):=fS
theorem KA:FnScope ["web","partners","names","steps","paired"] ["web","partners","names"] (qh qP):=fS
theorem KJ:FnScope ["web","pairs","thing","partners","first","last"] ["web","pairs","thing"] (qh qak):=fS
theorem qbb(rs:List V):qaw rs (some 1) none=rs.tail:=by
 have:=qcl rs 1
 rwa[List.drop_one] at this
theorem qft:∀{bs:List Bool},(∀ b∈bs,b=true)->bs.all id=true:=fun h=>YR.mpr h
theorem qd3{xs ys:LS}(Z:Zl H H' l ts (xs.map V.str) (ys.map V.str))(hl:qs.length=min xs.length ys.length)(h:∀(j:Nat) q,qs[j]?=some q->xs[j]?=some q.1/\ys[j]?=some q.2):All2 (fun t ab=>H' t=some (.tup [.str ab.1,.str ab.2])) ts qs:=by
 show⟨by rw[Z.len,ya,ya,hl],fun j t ab g c=>?_⟩;obtain⟨d,f⟩:=h j ab c;obtain⟨_,u,v,a,b,e⟩:=Z.tp j t g;rw[yd,d] at a;rw[yd,f] at b;cases a;cases b;show e
theorem atI_back{xs:List α}{v:α}(a:1<=j)(h1:j<=xs.length)(h:xs[xs.length-j]?=some v):atI xs (-(j:Int))=some v:=by
 have e:ixN xs.length (-(j:Int))=some (xs.length-j):=by
  unfold ixN;rw[yC (by lk),yE (by lk)]
  congr 1
  lk
 unfold atI;rw[e];show h
theorem ok_gt(F:Fun K "goes_by_turns" "goes_by_turns" qP f fd)(T:Txt K mg cc cw)(Kq:MethOk P w K mg base CX0 7 cw "has_tie" ["self","thing"] (spHt cw)):FnOk P w K mg base CX0 8 f fd ["web","partners","names"] (spGt cw):=by
 show F.ok KA fun _ _ _ _ H vs Q E hr h=>?_
 .obtain⟨x,l,d,a,ss,ns,us,tps,qs,rs,rfl,R,hd,q⟩:=h;have hu:=jZ hr;obtain⟨wx,dd,ol,nn,X,_⟩:=id R.web;have ha:=R.row;have M:=R.rok;have hl:=M.few;show⟨_,(qc (qo (i:=3) KA.nd rfl (yJ rfl) (qcI (K:=K) rfl rfl rfl rfl T.b_list T.b_zip (qa (pv 2) (qa (jx (qdy (K:=K) rfl) (pv 2) (jk qg) j6) qd))))
 (qc (qK (q8 (qQ (qp (qec (K:=K) rfl rfl) rfl T.b_all boot_all (qa (jT (sc:=qh qP) (XN:=["web","partners","names","steps","paired"]) ["step","web"] 1 [0] rfl rfl rfl (by room) rfl (by room)
  (qW (K:=K) rfl (pv 3)) (fun _ _ _ _=>(qw (i:=0) (show(["step","web"]:LS).Nodup by room) rfl (yJ rfl))) jB
  (fun _ _ _ _=>zj)
  (fun _ _ _ _=>(qF Kq (hmR hr) (pv 1) (qa (pv 0) qd)))) qd)))) (qe (qk jz)) qr)
 (qc (qcC (sc:=qh qP) (XN:=["web","partners","names","steps","paired"]) ["step","partners"] 1 [1] rfl rfl rfl (by room) rfl (by room) (i:=4) KA.nd rfl rfl
  (qW (K:=K) rfl (pv 3)) (fun _ _ _ _=>(qw (i:=0) (show(["step","partners"]:LS).Nodup by room) rfl (yJ rfl))) jB
  (fun _ _ _ _=>zj)
  (fun _ _ _ _=>(jE (zE (K:=K) rfl hu) (qad (qe0 hu) (pv 1) (qt (qu (K:=K) rfl hu) (pv 0) qg (fun _ _=>rfl)) ⟨rfl,rfl,rfl,rfl⟩) (qt (qu (K:=K) rfl hu) (pv 0) qg (fun _ _=>rfl)) (qx _))))
 (qe (qk (qp (qec (K:=K) rfl rfl) rfl T.b_all boot_all (qa (jT (sc:=qh qP) (XN:=["web","partners","names","steps","paired"]) ["one","other"] 2 [] rfl rfl rfl (by room) rfl (by room)
  (pi_zip (K:=K) rfl rfl T.b_zip (qa (pv 4) (qa (jx (qdy (K:=K) rfl) (pv 4) (jk qg) j6) qd))) (fun _ _ _ _=>(qdz (n:=2) rfl (zY (qw (i:=0) (show(["one","other"]:LS).Nodup by room) rfl (yJ rfl)) (zY (qw (i:=1) (show(["one","other"]:LS).Nodup by room) rfl (yJ rfl)) qcw)))) gk_two
  (fun _ _ _ _=>zj)
  (fun _ _ _ _=>(jE (qan (K:=K) rfl hu) (pv 0) (pv 1) (qx _)))) qd))))))),?_⟩
  apply vLZ ?_;apply .inl ⟨a,_,rfl,SqL.of ha,fun c hc=>?_⟩;rw[qbb,<- ky];have s1:=qN (Sr H) (o:=.lst (rs.tail.map V.str)) hc;have aa:upd H c (.lst (rs.tail.map V.str)) c=some (.lst (rs.tail.map V.str)):=qb;generalize upd H c (.lst (rs.tail.map V.str))=H1 at s1 aa;apply⟨a,c,_,_,rfl,SqL.of (s1 _ _ ha),SqL.of aa,by rw[ya];show hl,fun l ts H2 Z=>?_⟩;have L:=s1.trans Z.sm;have ak:(stp rs).length<=1000:=by rw[qaz];lk
  have W:=qd3 (qs:=stp rs) Z (by rw[qaz,xQ];lk) fun j q e=>by
   obtain⟨z1,z2⟩:=stp_at.mp e;show⟨z1,by rw[xZ];show z2⟩
  have tl:=W.len;have C:=Z.ls
  have ai:∀{i:Nat} {y:V},(ts.map V.ref)[i]?=some y->∃ t ab,y=.ref t/\(stp rs)[i]?=some ab/\H2 t=some (.tup [.str ab.1,.str ab.2]):=fun{i y} O=>by
   rw[yd] at O;obtain⟨t,ht,rfl⟩:=yn.mp O;obtain⟨ab,p⟩:∃ ab,(stp rs)[i]?=some ab:=⟨_,yb (by rw[<- tl];show(yc.mp ht).1)⟩;show⟨t,ab,rfl,p,W.at_ i t ab ht p⟩
  apply .inl ⟨⟨_,.of C⟩,jF (xs:=ts.map V.ref) (fun i ys G=>L2.Same H2 G/\ys=(((stp rs).take i).map fun _=>true).map V.bl) ⟨L2.Same.refl H2,rfl⟩ (fun i ys G _ m=>.of (m.1 _ _ C)) (fun i y ys G O m=>?_) fun ys G m=>?_⟩
  .obtain⟨S,rfl⟩:=m;obtain⟨t,ab,rfl,p,N⟩:=ai O;obtain⟨e1,U⟩:=stp_at.mp p;apply zg ?_;apply⟨x,wx,_,rfl,(L.trans S) _ _ X,zO (by room),?_⟩;apply⟨x,t,ss,ns,tps,ab,rfl,R.web.same (L.trans S),R.adj,S _ _ N,(M.tie i ab p).1,M.inn _ (ye e1),M.inn _ (ye U),fun z=>?_,fun G2 am=>?_⟩
   .rw [<- z] at U;show absurd (qA M.nd e1 U) (by lk)
   .show⟨by rw[ya,ya,yP];show qi (by lk),S.trans am,?_⟩;rw[yR,p,yK,yK];rfl
  .obtain⟨S,rfl⟩:=m;rw[show(ts.map V.ref).length=(stp rs).length by rw[ya,tl],yW];show⟨by rw[ya,ya];show yX (qi (by lk)),fun g hg=>?_⟩;have s3:=qN S (o:=.lst (((stp rs).map fun _=>true).map V.bl)) hg;have eg:upd G g (.lst (((stp rs).map fun _=>true).map V.bl)) g=some (.lst (((stp rs).map fun _=>true).map V.bl)):=qb;generalize upd G g (.lst (((stp rs).map fun _=>true).map V.bl))=G3 at s3 eg;apply⟨g,_,rfl,SqL.of eg,_,rfl,?_⟩;rw[qft (fun b X=>by obtain⟨_,_,rfl⟩:=YI.mp X;rfl)];have ag:=L.trans s3;show yq ?_;have r:=s3 _ _ C;have ad:=ag _ _ hd;apply .inl ⟨⟨_,.of r⟩,jF (xs:=ts.map V.ref) (fun i ys G=>G=G3/\ys=(((stp rs).take i).map (prB qs)).map V.bl) ⟨rfl,rfl⟩ (fun i ys G _ m=>by rw[m.1];show .of r) (fun i y ys G O m=>?_) fun ys G m=>?_⟩
   .obtain⟨rfl,rfl⟩:=m;obtain⟨t,ab,rfl,p,N⟩:=ai O;have N:=s3 _ _ N;apply zg ?_;apply qcm ?_;apply⟨d,rfl,.inl ⟨_,.inl ad⟩,?_⟩;apply .inl (zP N (v:=.str ab.1) (qv (j:=0) rfl) ?_);show⟨_,DGet.k (k:=Sum.inr ab.1) ad,?_⟩;rw[jV];apply .inl (zP N (v:=.str ab.2) (qv (j:=1) rfl) ?_);show qeX ?_;show⟨by rw[ya,ya,yP];show qi (by lk),rfl,?_⟩;rw[yR,p,yK,yK];rfl
   .obtain⟨rfl,rfl⟩:=m;rw[show(ts.map V.ref).length=(stp rs).length by rw[ya,tl],yW];show⟨by rw[ya,ya];show yX (qi (by lk)),fun b aj=>?_⟩;obtain⟨bs,B⟩:∃ bs,bs=(stp rs).map (prB qs):=⟨_,rfl⟩;rw[<- B];have an:bs.length<=1000:=by rw[B,ya];show ak
    have Y:∀(i:Nat) b,bs[i]?=some b->b=decide (i % 2=1):=fun i b e=>by
     rw[B,yd] at e;obtain⟨ab,p,rfl⟩:=yn.mp e;show(M.tie i ab p).2
    have s4:=qN ag (o:=.lst (bs.map V.bl)) aj;have eb:upd G b (.lst (bs.map V.bl)) b=some (.lst (bs.map V.bl)):=qb;generalize upd G b (.lst (bs.map V.bl))=G4 at s4 eb;apply vZip ?_;apply .inl ⟨b,_,rfl,SqL.of eb,fun c2 ac=>?_⟩;rw[qbb,<- ky];have s5:=qN s4 (o:=.lst (bs.tail.map V.bl)) ac;have s:=qN (Sr G4) (o:=.lst (bs.tail.map V.bl)) ac _ _ eb;have A:upd G4 c2 (.lst (bs.tail.map V.bl)) c2=some (.lst (bs.tail.map V.bl)):=qb;generalize upd G4 c2 (.lst (bs.tail.map V.bl))=G5 at s5 s A;apply⟨b,c2,_,_,rfl,SqL.of s,SqL.of A,comp_zip (xs:=bs.map V.bl) (ys:=bs.tail.map V.bl) (by simp) (fun i zs J=>L2.Same G5 J/\zs=(List.replicate i true).map V.bl) ⟨L2.Same.refl G5,rfl⟩ (fun i zs J _ m=>⟨SqL.of (m.1 _ _ s),SqL.of (m.1 _ _ A)⟩) (fun i u v t zs J D I ht m=>?_) fun zs J m=>?_⟩
    .obtain⟨sJ,rfl⟩:=m;rw[yd] at D I;obtain⟨u,ae,rfl⟩:=yn.mp D;obtain⟨v,af,rfl⟩:=yn.mp I;clear D I;have ao:=(yc.mp ae).1;rw[xZ] at af;have e1:=Y _ _ ae;have U:=Y _ _ af;have ah:=qN sJ (o:=.tup [.bl u,.bl v]) ht;show⟨t,_,rfl,.of qb,rfl,_,_,rfl,_,_,rfl,rfl,?_⟩;generalize upd J t (.tup [.bl u,.bl v])=J3 at ah;apply zg ?_;apply .inl ⟨rfl,rfl,?_⟩;show⟨by rw[ya,YK];show qi (by lk),ah,?_⟩
     have al:v=!u:=by
      rw[e1,U];rcases Nat.mod_two_eq_zero_or_one i with z | z
      .rw [z,yH (by lk)];rfl
      .rw [z,yl (by lk)];rfl
     rw[List.replicate_succ',yK,al];cases u<;>rfl
    .obtain⟨sJ,rfl⟩:=m;rw[show(bs.tail.map V.bl).length=bs.length-1 by rw[ya,xQ]];show⟨by rw[ya,YK];show yX (qi (by lk)),fun e he=>?_⟩;have s6:=qN (s5.trans sJ) (o:=.lst ((List.replicate (bs.length-1) true).map V.bl)) he;have ee:upd J e (.lst ((List.replicate (bs.length-1) true).map V.bl)) e=some (.lst ((List.replicate (bs.length-1) true).map V.bl)):=qb;generalize upd J e (.lst ((List.replicate (bs.length-1) true).map V.bl))=J6 at s6 ee;apply⟨e,_,rfl,SqL.of ee,?_⟩;rw[qft (fun b X=>(List.mem_replicate.mp X).2)];show q J6 s6
theorem ok_ir(F:Fun K "is_row" "is_row" qba f fd)(T:Txt K mg cc cw)(n:DefOk P w K mg base CX0 9 "partners_in" ["web","pairs"] (spPn cw))(m:DefOk P w K mg base CX0 4 "are_unlike_places" ["web","thing"] (spUl cw))(s:DefOk P w K mg base CX0 8 "goes_by_turns" ["web","partners","names"] (spGt cw)):FnOk P w K mg base CX0 10 f fd ["web","pairs","thing"] (spIr cw):=by
 show F.ok uz fun _ _ _ _ H vs Q E c h=>?_
 .obtain⟨x,l,a,ss,ns,us,tps,qs,rs,rfl,R,q⟩:=h;have u:=jZ c;have G:=R.rok;have t:=G.two;show⟨_,(qc (qo (i:=3) uz.nd rfl (yJ rfl) (qq n (hmR c) qz (qa (pv 0) (qa (pv 1) qd))))
 (qc (qK (PW.pt (qav (q8 (qQ (qq m (hmR c) qz (qa (pv 0) (qa (pv 2) qd))))) (zR (qm qdB (qp (zu (K:=K) rfl) rfl T.b_len YT (qa (pv 2) qd)) qg (qx _))))) (qe (qk jz)) qr)
 (qe (qk (qq s (hmR c) qz (qa (pv 0) (qa (pv 3) (qa (pv 2) qd)))))))),?_⟩
  apply⟨x,l,ss,ns,us,tps,qs,rfl,R.web,R.adj,R.prs,R.pgo,fun d H1 e p o=>?_⟩;apply⟨x,a,ss,ns,rs,rfl,R.web.same e,e _ _ R.row,G.nd,G.few,G.inn,fun H2 g=>?_⟩;have b:=e.trans g;apply yq ?_;apply .inl ⟨_,.inl (SqL.of (b _ _ R.row)),?_⟩;rw[ya];apply qG (fun h=>absurd (yk h) (by lk)) fun _=>?_;apply⟨x,l,d,a,ss,ns,us,tps,qs,rs,rfl,R.same b,g _ _ o,fun j r=>q j (b.trans r)⟩
theorem qeH{n:Str}{Q:VK}(e:H t=some (.tup [.non,.str n]))(q:Q (.bl true) H):qez K false .non (.ref t) H Q:=
 .inl ⟨t,_,rfl,.inr (SqT.of e),rfl,rfl,q⟩
theorem ok_ct(F:Fun K "can_turn" "can_turn" qak f fd)(T:Txt K mg cc cw)(I:DefOk P w K mg base CX0 9 "partners_in" ["web","pairs"] (spPn cw))(S:DefOk P w K mg base CX0 10 "is_row" ["web","pairs","thing"] (spIr cw)):FnOk P w K mg base CX0 11 f fd ["web","pairs","thing"] (spIr cw):=by
 show F.ok KJ fun _ _ _ _ H vs Q E u h=>?_
 .obtain⟨x,l,a,ss,ns,us,tps,qs,rs,rfl,R,q⟩:=h;have b:=jZ u;have G:=R.rok;have W:=G.two;show⟨_,(qc (qK (q8 (qQ (qq S (hmR u) qz (qa (pv 0) (qa (pv 1) (qa (pv 2) qd)))))) (qe (qk jz)) qr)
 (qc (qo (i:=3) KJ.nd rfl (yJ rfl) (qq I (hmR u) qz (qa (pv 0) (qa (pv 1) qd))))
 (qc (qo (i:=4) KJ.nd rfl (yJ rfl) (qad (qe0 b) (pv 3) (qt (qu (K:=K) rfl b) (pv 2) qg (fun _ _=>rfl)) ⟨rfl,rfl,rfl,rfl⟩))
 (qc (qo (i:=5) KJ.nd rfl (yJ rfl) (qad (qe0 b) (pv 3) (qt (qu (K:=K) rfl b) (pv 2) (qaX zM qg) (fun _ _=>rfl)) ⟨rfl,rfl,rfl,rfl⟩))
 (qe (qk (qap (jE (zU (K:=K) rfl b) (pv 4) (jP (qa j7 (qa (qt (qu (K:=K) rfl b) (pv 2) qg (fun _ _=>rfl)) qd))) (by with_unfolding_all rfl)) (qao (jE (zU (K:=K) rfl b) (pv 5) (jP (qa j7 (qa (qt (qu (K:=K) rfl b) (pv 2) (qaX zM qg) (fun _ _=>rfl)) qd))) (by with_unfolding_all rfl)))))))))),?_⟩
  apply⟨x,l,a,ss,ns,us,tps,qs,rs,rfl,R,fun H1 z=>?_⟩;show⟨_,rfl,qG (fun h=>by cases h) fun _=>?_⟩;apply⟨x,l,ss,ns,us,tps,qs,rfl,R.web.same z,R.adj,R.prs.same z,R.pgo,fun d H2 O L p=>?_⟩;obtain⟨s,B⟩:∃ s,rs[0]?=some s:=⟨_,yb (by lk)⟩;obtain⟨g,J⟩:∃ g,rs[1]?=some g:=⟨_,yb (by lk)⟩;obtain⟨r,D⟩:∃ r,rs[rs.length-1]?=some r:=⟨_,yb (by lk)⟩;obtain⟨m1,N⟩:∃ m1,rs[rs.length-2]?=some m1:=⟨_,yb (by lk)⟩;have m:=z.trans O;have C:=R.row;have c:=m _ _ C;have at_:∀{j:Nat} {n:Str},rs[j]?=some n->(rs.map V.str)[j]?=some (.str n):=fun e=>by rw[yd,e];rfl
  have back:∀{j:Nat} {n:Str},1<=j->j<=rs.length->rs[rs.length-j]?=some n->atI (rs.map V.str) (-(j:Int))=some (.str n):=fun l1 l2 e=>atI_back l1 (by rw[ya];show l2) (by rw[ya];show at_ e);apply qcm ?_;apply⟨d,rfl,.inl ⟨_,.inl p⟩,?_⟩;apply .inl (zv c (v:=.str s) (qv (j:=0) (at_ B)) ?_);show⟨_,DGet.k (k:=Sum.inr s) p,?_⟩;rw[jV,G.hd _ B];apply qcm ?_;apply⟨d,rfl,.inl ⟨_,.inl p⟩,?_⟩;apply⟨1,rfl,?_⟩;show .inl (zv c (v:=.str r) (back (j:=1) (by decide) (by lk) D) ?_);show⟨_,DGet.k (k:=Sum.inr r) p,?_⟩;rw[jV,G.tl _ D];apply .inl (zv c (v:=.str g) (qv (j:=1) (at_ J)) ?_);apply⟨by show 2<=sizeLine;decide,fun t M=>qeH qb ?_⟩;have A:=qN m (o:=.tup [.non,.str g]) M;generalize upd H2 t (.tup [.non,.str g])=U at A;show⟨_,rfl,zg ?_⟩;apply⟨2,rfl,?_⟩;show .inl (zv (A _ _ C) (v:=.str m1) (back (j:=2) (by decide) (by lk) N) ?_);apply⟨by show 2<=sizeLine;decide,fun X y=>qeH qb (q _ (qN A y))⟩
theorem ua:FnScope ["web","pairs","row","partners","steps"] ["web","pairs","row"] (qh qaP):=fS
noncomputable def qd4(rs:LS):LP:=stp rs++(stp rs).map fun q=>(q.2,q.1)
noncomputable def flT(a qs:LP)(rs:LS):LP:=a.filter fun q=>decide (pt qs q.1=some q.2) != decide (q∈qd4 rs)
inductive spTu(cw:Addr)(vs:List V)(H:Hp)(Q:VK)(E:XK):Prop|mk (x l a:Addr) (ss:LS) (ns:LN) (us:LQ) (tps qs:LP) (rs:LS) (_:vs=[.ref x,.ref l,.ref a]) (_:Rw cw H x l a ss ns us tps qs rs) (_:∀(l:Addr) (ls:LQ) (H':Hp),L2.Same H H'->H l=none->H' l=some (.lst (ls.map V.ref))->ls.length<=196->All2 (PrAt H H' l) ls (flT (qR ss ns ss.length) qs rs)->Q (.ref l) H')
theorem All2.app9{R:α->β->Prop}{l1 l2:List α}{m1 f:List β}(a:All2 R l1 m1)(b:All2 R l2 f):All2 R (l1++l2) (m1++f):=by
 show⟨by rw[yt,yt,a.len,b.len],fun k x y c d=>?_⟩;by_cases e:k<l1.length
 .rw [yQ e] at c;rw[yQ (by rw[<- a.len];show e)] at d;show a.at_ k x y c d
 .rw [yB (by lk)] at c;rw[yB (by rw[<- a.len];lk),<- a.len] at d;show b.at_ _ x y c d
theorem cat_W{a b:Addr}{Q:VK}(c:G a=some (.lst xs))(d:G b=some (.lst ys))(hl:xs.length+ys.length<=2000)(q:∀ p,G p=none->Q (.ref p) (upd G p (.lst (xs++ys)))):qdt K (.ref a) (.ref b) G Q:=.inl ⟨a,b,_,_,rfl,rfl,c,d,yi hl (by decide),q⟩
theorem ok_tu(F:Fun K "turned" "turned" qaP f fd)(T:Txt K mg cc cw)(Kc:DefOk P w K mg base CX0 9 "partners_in" ["web","pairs"] (spPn cw))(KG:MethOk P w K mg base CX0 7 cw "ties" ["self"] (spTs cw))(uO:DefOk P w K mg base CX0 11 "can_turn" ["web","pairs","thing"] (spIr cw)):FnOk P w K mg base CX0 12 f fd ["web","pairs","row"] (spTu cw):=by
 show F.ok ua fun _ _ _ _ H vs Q E hr h=>?_
 .obtain⟨x,pl,a,ss,ns,ps,tps,qs,rs,rfl,R,q⟩:=h;have u:=jZ hr;obtain⟨wx,dd,ol,nn,hb,_⟩:=id R.web;have ha:=R.row;have ah:=R.rok.few;have h2:=R.rok.two;show⟨_,(qc (qK (q8 (qQ (qq uO (hmR hr) qz (qa (pv 0) (qa (pv 1) (qa (pv 2) qd)))))) (qe jC) qr)
 (qc (qo (i:=3) ua.nd rfl (kg rfl) (qq Kc (hmR hr) qz (qa (pv 0) (qa (pv 1) qd))))
 (qc (qo (i:=4) ua.nd rfl (kg rfl) (qH (jN (K:=K) rfl) (qcI (K:=K) rfl rfl rfl rfl T.b_list T.b_zip (qa (pv 2) (qa (jx (qdy (K:=K) rfl) (pv 2) (jk qg) j6) qd))) (qcI (K:=K) rfl rfl rfl rfl T.b_list T.b_zip (qa (jx (qdy (K:=K) rfl) (pv 2) (jk qg) j6) (qa (pv 2) qd)))))
 (qe (qk (jT (sc:=qh qaP) (XN:=["web","pairs","row","partners","steps"]) ["tie","steps","partners"] 1 [4,3] rfl rfl rfl (by room) rfl (by room)
  (qW (K:=K) rfl (jm KG (hmR hr) (pv 0))) (fun _ _ _ _=>(qw (i:=0) (show(["tie","steps","partners"]:LS).Nodup by room) rfl (yJ rfl))) jB
  (fun _ _ _ _=>(zk (qm (qan (K:=K) rfl u) (jE (zE (K:=K) rfl u) (qad (qe0 u) (pv 2) (qt (qu (K:=K) rfl u) (pv 0) qg (fun _ _=>rfl)) ⟨rfl,rfl,rfl,rfl⟩) (qt (qu (K:=K) rfl u) (pv 0) qg (fun _ _=>rfl)) (qx _)) (jE (zU (K:=K) rfl u) (pv 0) (pv 1) (by with_unfolding_all rfl)) (qx _))))
  (fun _ _ _ _=>(pv 0)))))))),?_⟩
  apply⟨x,pl,a,ss,ns,ps,tps,qs,rs,rfl,R,fun H1 s1=>?_⟩;show⟨_,rfl,qG (fun h=>by cases h) fun _=>?_⟩;apply⟨x,pl,ss,ns,ps,tps,qs,rfl,R.web.same s1,R.adj,R.prs.same s1,R.pgo,fun d H2 s2 ai hd=>?_⟩;have N:=s1.trans s2;have n:=N _ _ ha;apply vLZ ?_;apply .inl ⟨a,_,rfl,SqL.of n,fun Z ac=>?_⟩;rw[qbb,<- ky];have t1:=qN (Sr H2) (o:=.lst (rs.tail.map V.str)) ac;have A:upd H2 Z (.lst (rs.tail.map V.str)) Z=some (.lst (rs.tail.map V.str)):=qb;generalize upd H2 Z (.lst (rs.tail.map V.str))=G1 at t1 A;apply⟨a,Z,_,_,rfl,SqL.of (t1 _ _ n),SqL.of A,by rw[ya];show ah,fun l1 b G2 Z1=>?_⟩;have t2:=t1.trans Z1.sm;apply vLZ ?_;apply .inl ⟨a,_,rfl,SqL.of (t2 _ _ n),fun c2 ad=>?_⟩;rw[qbb,<- ky];have t3:=qN (Sr G2) (o:=.lst (rs.tail.map V.str)) ad;have B:upd G2 c2 (.lst (rs.tail.map V.str)) c2=some (.lst (rs.tail.map V.str)):=qb;generalize upd G2 c2 (.lst (rs.tail.map V.str))=G3 at t3 B;have S:=t2.trans t3;apply⟨c2,a,_,_,rfl,SqL.of B,SqL.of (S _ _ n),by rw[ya,xQ];lk,fun l2 c G4 Y=>?_⟩;have t4:=S.trans Y.sm;have U:=t3.trans Y.sm
  have A1:=qd3 (qs:=stp rs) Z1 (by rw[qaz,xQ];lk) fun j q e=>by
   obtain⟨X,z2⟩:=stp_at.mp e;show⟨X,by rw[xZ];show z2⟩
  have A2:=qd3 (qs:=(stp rs).map fun q=>(q.2,q.1)) Y (by rw[ya,qaz,xQ];lk) fun j q e=>by
   rw[yd] at e;obtain⟨q',e',rfl⟩:=yn.mp e;obtain⟨X,z2⟩:=stp_at.mp e';show⟨by rw[xZ];show z2,X⟩
  have ak:b.length<=1000:=by rw[A1.len,qaz];lk
  have al:c.length<=1000:=by rw[A2.len,ya,qaz];lk
  show cat_W (U _ _ Z1.ls) Y.ls (by rw[ya,ya,A1.len,A2.len,ya,qaz];lk) fun st ag=>?_;have t5:=qN (Sr G4) (o:=.lst (b.map V.ref++c.map V.ref)) ag;have C:upd G4 st (.lst (b.map V.ref++c.map V.ref)) st=some (.lst (b.map V.ref++c.map V.ref)):=qb;generalize upd G4 st (.lst (b.map V.ref++c.map V.ref))=G5 at t5 C;have W:=t4.trans t5;have aa:PL G5 st (b++c) (qd4 rs):=⟨by rw[yK];show C,All2.app9 (A1.mono fun _ _ z=>(U.trans t5) _ _ z) (A2.mono fun _ _ z=>t5 _ _ z)⟩;have p:=N.trans W;have ae:=W _ _ hd;apply⟨x,wx,_,rfl,p _ _ hb,zO (by room),?_⟩;apply⟨x,ss,ns,rfl,R.web.same p,fun l ts G6 s6 aj hl af r=>?_⟩;have O:=p.trans s6;have L:=s6 _ _ ae;have D:=aa.same s6;show .inl ⟨⟨_,.of hl⟩,jF (xs:=ts.map V.ref) (fun i ys G=>G=G6/\∃ us:LQ,ys=us.map V.ref/\us.length<=i/\All2 (fun t ab=>G5 t=none/\G6 t=some (.tup [.str ab.1,.str ab.2])) us (flT ((qR ss ns ss.length).take i) qs rs)) ⟨rfl,[],rfl,yh _,.nil⟩ (fun i ys G _ m=>by rw[m.1];show .of hl) (fun i y ys G hy m=>?_) fun ys G m=>?_⟩
  .obtain⟨rfl,us,rfl,M,I⟩:=m;rw[yd] at hy;obtain⟨t,ht,rfl⟩:=yn.mp hy;have hi:i<ts.length:=(yc.mp ht).1;obtain⟨ab,J⟩:∃ ab,(qR ss ns ss.length)[i]?=some ab:=⟨_,yb (by rw[<- r.len];show hi)⟩;obtain⟨X,z2,z3⟩:=r.at_ i t ab ht J
   have s:flT ((qR ss ns ss.length).take (i+1)) qs rs=flT ((qR ss ns ss.length).take i) qs rs++(if (decide (pt qs ab.1=some ab.2) != decide (ab∈qd4 rs))=true then [ab] else []):=by
    unfold flT;rw[yR,J,Yt];show _++[ab].filter _=_;rw[Yq,xB]
   apply qcm ?_;apply⟨d,rfl,.inl ⟨_,.inl L⟩,?_⟩;apply .inl (zP z3 (v:=.str ab.1) (qv (j:=0) rfl) ?_);show⟨_,DGet.k (k:=Sum.inr ab.1) L,?_⟩;rw[jV];apply .inl (zP z3 (v:=.str ab.2) (qv (j:=1) rfl) ?_);show qeX ?_;apply pl_in D z3 ?_;show .inl ⟨rfl,rfl,?_⟩;have eb:eqV (.bl (decide (pt qs ab.1=some ab.2))) (.bl (decide ((ab.1,ab.2)∈qd4 rs)))=(decide (pt qs ab.1=some ab.2)==decide (ab∈qd4 rs)):=rfl;rw[yE rfl,eb,s];show⟨_,rfl,?_⟩;show if (decide (pt qs ab.1=some ab.2) != decide (ab∈qd4 rs))=true then _ else _
   cases am:(decide (pt qs ab.1=some ab.2) != decide (ab∈qd4 rs)) with
   | true =>
    show zg ?_;rw[yE rfl];apply⟨by rw[ya];show qi (by lk),rfl,us++[t],by rw[yK];rfl,by rw[yt];simp;lk,I.snoc ⟨X,z3⟩⟩
   | false =>
    show yq ?_;rw[yC (by decide),Yg];show⟨rfl,us,rfl,by lk,I⟩
  .obtain⟨rfl,us,rfl,M,I⟩:=m;have e:(ts.map V.ref).length=(qR ss ns ss.length).length:=by rw[ya,r.len]
   rw[e,yW] at I;rw[ya] at M;show⟨by rw[ya];show yX (qi (by lk)),fun g hg=>?_⟩;have s7:=qN O (o:=.lst (us.map V.ref)) hg;show q g us _ s7 (O.free hg) qb (by lk) (I.mono fun t ab z=>⟨p.free z.1,(fun e=>by rw[e,hg] at z;cases z.2),by rw[qf (fun e=>by rw[e,hg] at z;cases z.2)];show z.2⟩)
def adjR(rs:LS)(a b:Str):Prop:=∃ j:Nat,(rs[j]?=some a/\rs[j+1]?=some b)\/(rs[j]?=some b/\rs[j+1]?=some a)
theorem adjR.symm(h:adjR rs a b):adjR rs b a:=h.elim fun j z=>⟨j,z.symm⟩
theorem adjR.mem(h:adjR rs a b):a∈rs/\b∈rs:=h.elim fun j z=>z.elim (fun y=>⟨ye y.1,ye y.2⟩) fun y=>⟨ye y.2,ye y.1⟩
structure TurnR(f:Str->Option Str)(rs:LS):Prop where
 nd:rs.Nodup
 two:2<=rs.length
 sym:∀ a b,f a=some b->f b=some a
 alt:∀(j:Nat) r s t,rs[j]?=some r->rs[j+1]?=some s->rs[j+2]?=some t->(f s=some r↔¬ f s=some t)
 fst:∀ s t,rs[0]?=some s->rs[1]?=some t->f s=none\/f s=some t
 lst:∀ s t,rs[rs.length-1]?=some s->rs[rs.length-2]?=some t->f s=none\/f s=some t
theorem TurnR.near{f:Str->Option Str}(h:TurnR f rs)(n:a∈rs)(c:f a=some b):adjR rs a b:=by
 obtain⟨i,d⟩:=yf n;have o:i<rs.length:=(yc.mp d).1;have p:=h.two;by_cases m:i=0
 .subst m;obtain⟨t,e⟩:∃ t,rs[1]?=some t:=⟨_,yb (by lk)⟩;rcases h.fst a t d e with z | z
  .rw [z] at c;cases c
  .rw [c] at z;cases z;show⟨0,.inl ⟨d,e⟩⟩
 .by_cases hl:i=rs.length-1
  .obtain⟨t,e⟩:∃ t,rs[rs.length-2]?=some t:=⟨_,yb (by lk)⟩;rcases h.lst a t (by rw[<- hl];show d) e with z | z
   .rw [z] at c;cases c
   .rw [c] at z;cases z;show⟨rs.length-2,.inr ⟨e,by rw[show rs.length-2+1=i by lk];show d⟩⟩
  .obtain⟨r,l⟩:∃ r,rs[i-1]?=some r:=⟨_,yb (by lk)⟩;obtain⟨t,e⟩:∃ t,rs[i+1]?=some t:=⟨_,yb (by lk)⟩;have g:i-1+1=i:=by lk
   have j:i-1+2=i+1:=by lk
   have:=h.alt (i-1) r a t l (by rw[g];show d) (by rw[j];show e);by_cases z:f a=some t
   .rw [c] at z;cases z;show⟨i,.inl ⟨d,e⟩⟩
   .have z:=this.mpr z;rw[c] at z;cases z;show⟨i-1,.inr ⟨l,by rw[g];show d⟩⟩
def flipR(f:Str->Option Str)(rs:LS)(a b:Str):Prop:=(a∉rs/\f a=some b)\/(adjR rs a b/\f a≠some b)
theorem TurnR.xor{f:Str->Option Str}(h:TurnR f rs):flipR f rs a b↔¬ (f a=some b↔adjR rs a b):=by
 unfold flipR;constructor
 .rintro (⟨h1,c⟩ | ⟨h1,c⟩) e
  .show h1 (e.mp c).mem.1
  .show c (e.mpr h1)
 .intro e;by_cases h1:f a=some b
  .show .inl ⟨fun d=>e ⟨fun _=>h.near d h1,fun _=>h1⟩,h1⟩
  .by_cases c:adjR rs a b
   .show .inr ⟨c,h1⟩
   .show absurd ⟨fun z=>absurd z h1,fun z=>absurd z c⟩ e
theorem flipR.symm{f:Str->Option Str}(h:TurnR f rs)(e:flipR f rs a b):flipR f rs b a:=by
 rcases e with⟨h1,c⟩ | ⟨h1,c⟩
 .show .inl ⟨fun d=>?_,h.sym _ _ c⟩;show h1 (h.near d (h.sym _ _ c)).mem.2
 .show .inr ⟨h1.symm,fun z=>c (h.sym _ _ z)⟩
theorem adjR.at_(nd:rs.Nodup)(d:rs[i]?=some a)(h:adjR rs a b):rs[i+1]?=some b\/(1<=i/\rs[i-1]?=some b):=by
 obtain⟨j,⟨h1,c⟩ | ⟨h1,c⟩⟩:=h
 .have:=qA nd d h1;subst this;show .inl c
 .have:=qA nd d c;subst this;show .inr ⟨by lk,by simpa using h1⟩
theorem flipR.one{f:Str->Option Str}(h:TurnR f rs)(p:flipR f rs a b)(o:flipR f rs a c):b=c:=by
 rcases p with⟨h1,j⟩ | ⟨h1,j⟩
 .rcases o with⟨e,d⟩ | ⟨e,d⟩
  .rw [j] at d;show ym d
  .show absurd e.mem.1 h1
 .rcases o with⟨e,d⟩ | ⟨e,d⟩
  .show absurd h1.mem.1 e
  .obtain⟨i,l⟩:=yf h1.mem.1
   have g:∀{b c:Str},rs[i+1]?=some b->1<=i->rs[i-1]?=some c->f a≠some b->f a≠some c->False:=fun r q hc s t=>by
    have m:i-1+1=i:=by lk
    have n:i-1+2=i+1:=by lk
    show t ((h.alt (i-1) _ a _ hc (by rw[m];show l) (by rw[n];show r)).mpr s)
   rcases h1.at_ h.nd l with z1 | ⟨l1,z1⟩<;>rcases e.at_ h.nd l with z2 | ⟨l2,z2⟩
   .rw [z1] at z2;show ym z2
   .show(g z1 l2 z2 j d).elim
   .show(g z2 l1 z1 d j).elim
   .rw [z1] at z2;show ym z2
theorem TurnR.again{f:Str->Option Str}(h:TurnR f rs)(l:∀ a b,g a=some b↔flipR f rs a b):TurnR g rs:=by
 have on:∀{a b:Str},adjR rs a b->(g a=some b↔¬ f a=some b):=fun i=>by
  rw[l,h.xor];constructor
  .show fun e z=>e ⟨fun _=>i,fun _=>z⟩
  .show fun e z=>e (z.mpr i)
 have only:∀{a b:Str},a∈rs->g a=some b->adjR rs a b:=fun p e=>by
  rcases(l _ _).mp e with⟨h1,_⟩ | ⟨h1,_⟩
  .show absurd p h1
  .show h1
 show⟨h.nd,h.two,fun a b e=>(l _ _).mpr (((l _ _).mp e).symm h),fun j r s t m c d=>?_,fun s t c d=>?_,fun s t c d=>?_⟩
 .have n:adjR rs s r:=⟨j,.inr ⟨m,c⟩⟩;have o:adjR rs s t:=⟨j+1,.inl ⟨c,d⟩⟩;rw[on n,on o,h.alt j r s t m c d]
 .cases e:g s with
  | none=>show .inl rfl
  | some b =>
   have:=(only (ye c) e).at_ h.nd c;rcases this with z | ⟨z,_⟩
   .rw [d] at z;show .inr (by rw[<- e,e];show z.symm ▸ rfl)
   .omega
 .cases e:g s with
  | none=>show .inl rfl
  | some b =>
   have q:=h.two;have:=(only (ye c) e).at_ h.nd c;rcases this with z | ⟨_,z⟩
   .have:=(yc.mp z).1;lk
   .rw [show rs.length-1-1=rs.length-2 by lk,d] at z;show .inr (by rw[<- z])
theorem TurnR.inner{f:Str->Option Str}(h:TurnR f rs)(d:0<i)(h1:i+1<rs.length)(b:rs[i]?=some s):(f s).isSome=true:=by
 obtain⟨r,a⟩:∃ r,rs[i-1]?=some r:=⟨_,yb (by lk)⟩;obtain⟨t,c⟩:∃ t,rs[i+1]?=some t:=⟨_,yb h1⟩;have:=h.alt (i-1) r s t a (by rw[show i-1+1=i by lk];show b) (by rw[show i-1+2=i+1 by lk];show c)
 cases e:f s with
 | some _=>rfl
 | none =>
  rw[e] at this;have:=this.mpr (fun z=>by cases z);cases this
theorem qdk{f:Str->Option Str}(h:TurnR f rs)(e:∀ a b,g a=some b↔flipR f rs a b){t:Str}(c:adjR rs a t)(i:f a=none\/f a=some t)(d:g a=none\/g a=some t):(g a).isSome=!(f a).isSome:=by
 rcases i with z | z
 .rw [(e a t).mpr (.inr ⟨c,by rw[z];show fun y=>by cases y⟩),z];rfl
 .rcases d with y | y
  .rw [y,z];rfl
  .show absurd ⟨fun _=>c,fun _=>z⟩ (h.xor.mp ((e a t).mp y))
theorem qd5{f:Str->Option Str}(h:TurnR f rs)(j:rs[0]?=some a)(g:rs[rs.length-1]?=some b):(rs.filter fun s=>(f s).isSome).length+2=rs.length+(if (f a).isSome then 1 else 0)+(if (f b).isSome then 1 else 0):=by
 have d:=h.two
 obtain⟨m,n⟩:∃ m,rs=a::(m++[b]):=by
  match rs,j,g,d with
  | x::r,j,g,d =>
   have u:x=a:=ym j;have q:r≠[]:=fun z=>by rw[z] at d;simp at d
   show⟨r.dropLast,?_⟩
   have e:r.getLast q=b:=by
    have hl:0<r.length:=List.length_pos_iff.mpr q;rw[show(x::r).length-1=r.length-1+1 by simp;lk,List.getElem?_cons_succ] at g;rw[List.getLast_eq_getElem];show(yc.mp g).2
   rw[u,<- e,xk]
 have o:rs.length=m.length+2:=by rw[n];simp
 have c:(m.filter fun s=>(f s).isSome)=m:=List.filter_eq_self.mpr fun s t=>by
  obtain⟨i,p⟩:=yf t;have l:=(yc.mp p).1;show h.inner (i:=i+1) (by lk) (by lk) ?_;rw[n,List.getElem?_cons_succ,yQ l];show p
 rw[o,n,Yq,Yt,c,Yq,xB];cases (f a).isSome<;>cases (f b).isSome<;>simp<;>lk
theorem qcr(f:ss.Nodup)(i:rs.Nodup)(c:∀ s∈rs,s∈ss)(p:Str->Bool):(ss.filter p).length=(rs.filter p).length+(ss.filter fun s=>p s&&!decide (s∈rs)).length:=by
 have e:(rs.filter p).length=(ss.filter fun s=>p s&&decide (s∈rs)).length:=Nat.le_antisymm
  (qe3 (i.filter _) fun s d=>by
   obtain⟨a,b⟩:=yp.mp d;show yp.mpr ⟨c s a,by rw[b,yH a];rfl⟩)
  (qe3 (f.filter _) fun s d=>by
   obtain⟨a,b⟩:=yp.mp d;obtain⟨g,h⟩:=(Yc _ _).mp b;show yp.mpr ⟨yk h,g⟩)
 rw[e];clear e f c
 induction ss with
 | nil=>rfl
 | cons x r ih =>
  rw[Yq,Yq,Yq];cases p x<;>cases decide (x∈rs)<;>simp<;>lk
theorem qbE:∀{qs:LP},(∀ q∈qs,q.1≠q.2)->qs.Pairwise (fun q r=>q.1≠r.1/\q.1≠r.2/\q.2≠r.1/\q.2≠r.2)->(qj qs).Nodup
 | [],_,_=>kX
 | q::r,h,hp=>by
  obtain⟨j,l⟩:=List.pairwise_cons.mp hp;have i:=qbE (fun x f=>h x (yI _ f)) l;show(q.1::q.2::qj r).Nodup
  have out:∀ n∈qj r,q.1≠n/\q.2≠n:=fun n g=>by
   obtain⟨x,f,e⟩:=xt.mp g;obtain⟨a,b,c,d⟩:=j x f;simp only[yv,yz,yU] at e;rcases e with rfl | rfl
   .show⟨a,c⟩
   .show⟨b,d⟩
  show yo.mpr ⟨fun z=>?_,yo.mpr ⟨fun z=>(out _ z).2 rfl,i⟩⟩;rcases yv.mp z with z | z
  .show h q yO z
  .show(out _ z).1 rfl
theorem stpB_adj:(a,b)∈qd4 rs↔adjR rs a b:=by
 unfold qd4 adjR;rw[yA,YI];constructor
 .rintro (h | ⟨q,h,e⟩)
  .obtain⟨j,d⟩:=yf h;show⟨j,.inl (stp_at.mp d)⟩
  .obtain⟨j,d⟩:=yf h;cases e;show⟨j,.inr (stp_at.mp d)⟩
 .rintro ⟨j,⟨h1,c⟩ | ⟨h1,c⟩⟩
  .show .inl (ye (stp_at.mpr ⟨h1,c⟩))
  .show .inr ⟨(b,a),ye (stp_at.mpr ⟨h1,c⟩),rfl⟩
theorem flT_flip{d:LP}(h:TurnR (pt qs) rs):(a,b)∈flT d qs rs↔(a,b)∈d/\flipR (pt qs) rs a b:=by
 unfold flT;rw[yp,h.xor];show and_congr_right fun _=>?_;show(decide (pt qs a=some b) != decide ((a,b)∈qd4 rs))=true↔_;by_cases h1:pt qs a=some b<;>by_cases c:(a,b)∈qd4 rs
 .rw [yH h1,yH c];show⟨(fun z=>by cases z),fun z=>absurd ⟨fun _=>stpB_adj.mp c,fun _=>h1⟩ z⟩
 .rw [yH h1,yl c];show⟨fun _ z=>c (stpB_adj.mpr (z.mp h1)),fun _=>rfl⟩
 .rw [yl h1,yH c];show⟨fun _ z=>h1 (z.mpr (stpB_adj.mp c)),fun _=>rfl⟩
 .rw [yl h1,yl c];show⟨(fun z=>by cases z),fun z=>absurd ⟨fun y=>absurd y h1,fun y=>absurd (stpB_adj.mpr y) c⟩ z⟩
def tA(tps:LP)(a b:Str):Prop:=(a,b)∈tps\/(b,a)∈tps
theorem pt_some:s∈qj qs↔(pt qs s).isSome=true:=by
 cases e:pt qs s with
 | none=>show⟨fun z=>absurd z (pt_none.mp e),(fun z=>by cases z)⟩
 | some b=>show⟨fun _=>rfl,fun _=>Xh fun z=>by rw[pt_none.mpr z] at e;cases e⟩
structure PFn(ss:LS)(tps:LP)(f:Str->Option Str):Prop where
 sym:∀ a b,f a=some b->f b=some a
 tie:∀ a b,f a=some b->tA tps a b
noncomputable def qfu(f:Str->Option Str)(ss:LS):Nat:=(ss.filter fun s=>(f s).isSome).length
section
variable{ss:LS}{ns:LN}{tps qs:LP}{f g:Str->Option Str}
theorem PGo.fn(h:PGo ss tps qs):PFn ss tps (pt qs):=⟨fun a b e=>(qd0 h.nd).mp e,fun a b e=>by
 rcases qdY e with z | z
 .show(h.inn _ z).1
 .show(h.inn _ z).1.symm⟩
theorem PGo.cnt(h:PGo ss tps qs)(c:ss.Nodup):2*qs.length=qfu (pt qs) ss:=by
 rw[<- zG];show Nat.le_antisymm (qe3 h.nd fun s a=>yp.mpr ⟨?_,pt_some.mp a⟩) (qe3 (c.filter _) fun s a=>pt_some.mpr (yp.mp a).2);obtain⟨q,b,a⟩:=xt.mp a;simp only[yv,yz,yU] at a;rcases a with rfl | rfl
 .show(h.inn q b).2.1
 .show(h.inn q b).2.2.1
theorem qcN(hw:WOk ss ns)(p:Adj ss ns tps):(a,b)∈qR ss ns ss.length↔tA tps a b/\∃ i j:Nat,i<j/\ss[i]?=some a/\ss[j]?=some b:=by
 unfold qR;rw[xt];constructor
 .rintro ⟨i,f,h⟩;have f:=xI.mp f;obtain⟨s,l⟩:∃ s,ss[i]?=some s:=⟨_,yb f⟩;have d:ss.getD i ""=s:=by rw[Yh,l];rfl
  unfold qeU at h;rw[d] at h;obtain⟨o,u,e⟩:=YI.mp h;cases e;obtain⟨h1,c⟩:=yp.mp u;obtain⟨q,r⟩:=qdU hw.nd h1;have n:ss[ss.idxOf b]?=some b:=by rw[yb (YD q),Y7]
  show⟨(p i _ _ _ l n).mp r,i,_,yk c,l,n⟩
 .rintro ⟨h,i,j,g,h1,c⟩;show⟨i,xI.mpr (yc.mp h1).1,?_⟩;have d:ss.getD i ""=a:=by rw[Yh,h1];rfl
  have m:ss.idxOf b=j:=by
   have t:=ye c;show qA hw.nd (by rw[yb (YD t),Y7]) c
  unfold qeU;rw[d];show YI.mpr ⟨b,yp.mpr ⟨?_,yH (by rw[m];show g)⟩,rfl⟩;rw[qah hw.nd];show yp.mpr ⟨ye c,by rw[m];show(p i j a b h1 c).mpr h⟩
theorem dps_nd(hw:WOk ss ns):(qR ss ns ss.length).Nodup:=by
 show List.pairwise_flatMap.mpr ⟨fun i _=>?_,?_⟩
 .unfold qeU;show List.pairwise_map.mpr ?_;have nd:((inB ss 0 (ns.getD i 0)).filter fun o=>decide (i<ss.idxOf o)).Nodup:=by rw[qah hw.nd];show(hw.nd.filter _).filter _
  show nd.imp fun c e=>c (Prod.mk.inj e).2
 .show Xr (fun{i j} a b g q d r f e=>?_) (List.pairwise_lt_range (n:=ss.length));have a:=xI.mp a;have b:=xI.mp b;unfold qeU at d f;obtain⟨_,_,rfl⟩:=YI.mp d;obtain⟨_,_,rfl⟩:=YI.mp f;have e:=(Prod.mk.inj e).1;rw[Yh,Yh,yb a,yb b] at e;have:=qA hw.nd (yb a) (by rw[yb b];show congrArg some e.symm);lk
theorem qeI(hw:WOk ss ns)(A:Adj ss ns tps)(t:∀ ab∈tps,ab.1∈ss/\ab.2∈ss/\ab.1≠ab.2)(h:PFn ss tps g){L:LP}(f:∀ a b,(a,b)∈L↔(a,b)∈qR ss ns ss.length/\g a=some b)(H:L.Sublist (qR ss ns ss.length)):PGo ss tps L/\pt L=g:=by
 have mem:∀ q∈L,g q.1=some q.2/\tA tps q.1 q.2/\∃ i j:Nat,i<j/\ss[i]?=some q.1/\ss[j]?=some q.2:=fun q c=>by
  obtain⟨h1,G⟩:=(f q.1 q.2).mp c;show⟨G,(qcN hw A).mp h1⟩
 have inn:∀{a b:Str},tA tps a b->a∈ss/\b∈ss/\a≠b:=fun z=>z.elim (fun y=>t _ y) fun y=>⟨(t _ y).2.1,(t _ y).1,(t _ y).2.2.symm⟩
 have nd:(qj L).Nodup:=by
  show qbE (fun q c=>(inn (mem q c).2.1).2.2) (Xr (fun{q r} c I n=>?_) (H.nodup (dps_nd hw)));obtain⟨d,_,i,j,l1,o,p⟩:=mem q c;obtain⟨x,_,K,M,l2,D,E⟩:=mem r I;have w:=h.sym _ _ d;have F:=h.sym _ _ x;show⟨fun z=>?_,fun z=>?_,fun z=>?_,fun z=>?_⟩
  .rw [z,x] at d;show n (Xz z (ym d).symm)
  .rw [z,F] at d;have e:=ym d;rw[z] at o;rw[<- e] at p;have:=qA hw.nd o E;have:=qA hw.nd p D;lk
  .rw [z,x] at w;have e:=ym w;rw[z] at p;rw[<- e] at o;have:=qA hw.nd o E;have:=qA hw.nd p D;lk
  .rw [z,F] at w;show n (Xz (ym w).symm z)
 have C:∀ q∈L,(q∈tps\/(q.2,q.1)∈tps)/\q.1∈ss/\q.2∈ss/\q.1≠q.2:=fun q c=>⟨(mem q c).2.1,inn (mem q c).2.1⟩
 have hl:L.length<=30:=by
  have:=qe3 (l:=qj L) (m:=ss) nd fun s v=>by
   obtain⟨q,c,v⟩:=xt.mp v;simp only[yv,yz,yU] at v;rcases v with rfl | rfl
   .show(C q c).2.1
   .show(C q c).2.2.1
  rw[zG] at this;have:=hw.few;lk
 show⟨⟨C,nd,hl⟩,funext fun a=>qd1 fun b=>?_⟩;rw[qdZ nd];constructor
 .rintro (z | z)
  .show((f _ _).mp z).2
  .show h.sym _ _ ((f _ _).mp z).2
 .intro e;obtain⟨m1,J,ne⟩:=inn (h.tie _ _ e);obtain⟨i,B⟩:=yf m1;obtain⟨j,u⟩:=yf J;rcases Nat.lt_trichotomy i j with l | l | l
  .show .inl ((f _ _).mpr ⟨(qcN hw A).mpr ⟨h.tie _ _ e,i,j,l,B,u⟩,e⟩)
  .subst l;rw[B] at u;show absurd (ym u) ne
  .show .inr ((f _ _).mpr ⟨(qcN hw A).mpr ⟨(h.tie _ _ e).symm,j,i,l,u,B⟩,h.sym _ _ e⟩)
theorem tps_ok(hw:WOk ss ns)(c:Adj ss ns tps)(d:∀ ab∈tps,ab.1∈ss/\ab.2∈ss/\ab.1≠ab.2)(h:PGo ss tps qs):PGo ss tps (qbo (qR ss ns ss.length) qs)/\pt (qbo (qR ss ns ss.length) qs)=pt qs:=
 qeI hw c d h.fn (fun a b=>by unfold qbo;rw[yp,YG]) List.filter_sublist
end
theorem flip_ex{f:Str->Option Str}(h:TurnR f rs):∃ g:Str->Option Str,∀ a b,g a=some b↔flipR f rs a b:=
 ⟨fun a=>@dite _ (∃ b,flipR f rs a b) (Classical.propDecidable _) (fun z=>some z.choose) fun _=>none,fun a b=>by
  dsimp only;split
  .rename_i z
   show⟨fun e=>by rw[<- ym e];show z.choose_spec,fun e=>congrArg some (z.choose_spec.one h e)⟩
  .rename_i z
   show⟨(fun e=>by cases e),fun e=>absurd ⟨b,e⟩ z⟩⟩
section
variable{ss:LS}{tps qs:LP}{f g:Str->Option Str}{rs:LS}
theorem flip_fn(h:TurnR f rs)(i:PFn ss tps f)(d:∀ a b,adjR rs a b->tA tps a b)(c:∀ a b,g a=some b↔flipR f rs a b):PFn ss tps g:=
 ⟨fun a b e=>(c _ _).mpr (((c _ _).mp e).symm h),fun a b e=>((c _ _).mp e).elim (fun z=>i.tie _ _ z.2) fun z=>d _ _ z.1⟩
theorem flip_cnt(h:TurnR f rs)(i:∀ a b,g a=some b↔flipR f rs a b)(q:ss.Nodup)(e:∀ s∈rs,s∈ss)(c:rs[0]?=some a)(d:rs[rs.length-1]?=some b):qfu g ss+2=qfu f ss+(if (f a).isSome then 0 else 2)+(if (f b).isSome then 0 else 2):=by
 have C:=h.two;have l:=h.again i;unfold qfu;rw[qcr q h.nd e,qcr (p:=fun s=>(f s).isSome) q h.nd e];have o:=qd5 h c d;have j:=qd5 l c d
 have B:(ss.filter fun s=>(g s).isSome&&!decide (s∈rs))=ss.filter fun s=>(f s).isSome&&!decide (s∈rs):=List.filter_congr fun s _=>by
  by_cases z:s∈rs
  .rw [yH z];simp
  .have:g s=f s:=qd1 fun b=>by
    rw[i];show⟨fun y=>y.elim (fun x=>x.2) fun x=>absurd x.1.mem.1 z,fun y=>.inl ⟨z,y⟩⟩
   rw[this]
 rw[B];obtain⟨t,m⟩:∃ t,rs[1]?=some t:=⟨_,yb (by lk)⟩;obtain⟨u,n⟩:∃ u,rs[rs.length-2]?=some u:=⟨_,yb (by lk)⟩;have r:=qdk h i ⟨0,.inl ⟨c,m⟩⟩ (h.fst a t c m) (l.fst a t c m);have v:=qdk h i (a:=b) (t:=u) ⟨rs.length-2,.inr ⟨n,by rw[show rs.length-2+1=rs.length-1 by lk];show d⟩⟩ (h.lst b u d n) (l.lst b u d n);rw[r,v] at j;generalize (rs.filter fun s=>(g s).isSome).length=D at j ⊢;generalize (rs.filter fun s=>(f s).isSome).length=E at o ⊢;cases w:(f a).isSome<;>cases A:(f b).isSome<;>rw[w,A] at o j<;>simp at o j ⊢<;>lk
theorem turns_turn(c:∀ a b,f a=some b->f b=some a)(nd:rs.Nodup)(d:2<=rs.length)(st:Turns A f rs)(h:∀ s,rs[0]?=some s->f s=none)(tl:∀ s t,rs[rs.length-1]?=some s->rs[rs.length-2]?=some t->f s=none\/f s=some t):TurnR f rs:=by
 show⟨nd,d,c,fun j r s t i h1 l=>?_,fun s t h1 _=>.inl (h s h1),tl⟩;have e:=(st j r s i h1).2;have g:=(st (j+1) s t h1 l).2;have:f s=some r↔f r=some s:=⟨fun z=>c _ _ z,fun z=>c _ _ z⟩;rw[this,e,g];lk
theorem turns_adj(st:Turns (tA tps) f rs):∀ a b,adjR rs a b->tA tps a b:=fun a b h=>by
 obtain⟨j,⟨h1,c⟩ | ⟨h1,c⟩⟩:=h
 .show(st j _ _ h1 c).1
 .show(st j _ _ h1 c).1.symm
theorem Aug.row(h:Aug (tA tps) (pt qs) rs)(hl:rs.length<=1000)(c:∀ ab∈tps,ab.1∈ss/\ab.2∈ss/\ab.1≠ab.2):RowG ss tps qs rs:=by
 show⟨h.nd,h.two,hl,fun r n=>?_,fun j ab e=>?_,h.hd,h.tl⟩
 .obtain⟨i,d⟩:=yf n;have m:=(yc.mp d).1;have q:=h.two;have inn:∀{a b:Str},tA tps a b->a∈ss/\b∈ss:=fun z=>z.elim (fun y=>⟨(c _ y).1,(c _ y).2.1⟩) fun y=>⟨(c _ y).2.1,(c _ y).1⟩;by_cases l:i+1<rs.length
  .show(inn (h.st i r _ d (yb l)).1).1
  .show(inn (h.st (i-1) _ r (yb (by lk)) (by rw[show i-1+1=i by lk];show d)).1).2
 .obtain⟨f,g⟩:=stp_at.mp e;obtain⟨o,p⟩:=h.st j _ _ f g;show⟨o,Y8.mpr p⟩
theorem Aug.turn(h:Aug (tA tps) (pt qs) rs)(c:∀ a b,pt qs a=some b->pt qs b=some a):TurnR (pt qs) rs:=
 turns_turn c h.nd h.two h.st h.hd fun s t e _=>.inl (h.tl s e)
theorem turn_ok(hw:WOk ss ns)(n:Adj ss ns tps)(f:∀ ab∈tps,ab.1∈ss/\ab.2∈ss/\ab.1≠ab.2)(e:PGo ss tps qs)(h:Aug (tA tps) (pt qs) rs)(hl:rs.length<=1000):PGo ss tps (flT (qR ss ns ss.length) qs rs)/\(flT (qR ss ns ss.length) qs rs).length=qs.length+1:=by
 have c:=h.turn e.fn.sym;obtain⟨g,d⟩:=flip_ex c;obtain⟨l,o⟩:=qeI hw n f (flip_fn c e.fn (turns_adj h.st) d) (L:=flT (qR ss ns ss.length) qs rs) (fun a b=>by rw[flT_flip c,d]) List.filter_sublist;show⟨l,?_⟩;have p:=e.cnt hw.nd;have m:=l.cnt hw.nd;rw[o] at m;have q:=h.two;obtain⟨a,i⟩:∃ t,rs[0]?=some t:=⟨_,yb (by lk)⟩;obtain⟨b,j⟩:∃ t,rs[rs.length-1]?=some t:=⟨_,yb (by lk)⟩;have:=flip_cnt c d hw.nd (h.row hl f).inn i j;rw[h.hd a i,h.tl b j] at this;simp at this;lk
end
theorem Kb:FnScope ["web","pairs","now","rows","row"] ["web","pairs"] (qh jq):=fS
def MxF(ss:LS)(tps qs:LP):Prop:=∃ S:FS,Fn (tA tps) (pt qs) S ss
structure Wt(cw:Addr)(H:Hp)(x:Addr)(ss:LS)(ns:LN)(tps:LP):Prop where
 web:WebAt cw H x ss ns
 adj:Adj ss ns tps
 ok:∀ ab∈tps,ab.1∈ss/\ab.2∈ss/\ab.1≠ab.2
theorem Wt.same(h:Wt cw H x ss ns tps)(s:L2.Same H H'):Wt cw H' x ss ns tps:=⟨h.web.same s,h.adj,h.ok⟩
theorem Wt.wok(h:Wt cw H x ss ns tps):WOk ss ns:=by obtain⟨_,_,_,_,_,_,_,_,z⟩:=h.web;show z
theorem Wt.wb(h:Wt cw H x ss ns tps)(g:PGo ss tps qs):Wb (tA tps) ss qs:=by
 show⟨⟨fun z=>Or.symm z,fun z e=>?_,fun{a b} e=>g.fn.sym a b e,fun{a b} e=>g.fn.tie a b e⟩,fun a b z=>z.elim (fun y=>(h.ok _ y).1) fun y=>(h.ok _ y).2.1,g.nd,h.wok.few,h.wok.nd⟩;rcases z with z | z
 .show(h.ok _ z).2.2 e
 .show(h.ok _ z).2.2 e.symm
theorem Wt.bes(h:Wt cw H x ss ns tps):∀(j:Nat) z u,ss[j]?=some z->(u∈inB ss 0 (ns.getD j 0)↔tA tps z u):=fun j z u e=>by
 rw[qah h.wok.nd,yp];constructor
 .rintro ⟨h1,b⟩;show(h.adj j _ z u e (by rw[yb (YD h1),Y7])).mp b
 .intro t;have a:u∈ss:=t.elim (fun y=>(h.ok _ y).2.1) fun y=>(h.ok _ y).1;show⟨a,(h.adj j _ z u e (by rw[yb (YD a),Y7])).mpr t⟩
theorem mx_of{c:Addr}{a:Fo}{wt:LS}(h:FoD c cw H0 H a ss ns qs S dn wt .non (tA tps))(W:Wb (tA tps) ss qs):Fn (tA tps) (pt qs) S ss:=by
 rcases h.en with⟨_,rfl,I,C,sg⟩ | ⟨t,r,e,_⟩
 .have b:∀ v,v∈dn↔S.rows v≠none:=fun v=>by have:=h.fo.evi v;rwa[Yg] at this
  show⟨I,W.gr,W.inn,W.nd,fun v u hv d=>(C.cl v u ((b v).mpr hv) d).imp id fun z=>⟨z.1,Xh fun y=>z.2 ((b u).mpr y)⟩,sg,fun v hv=>h.fo.evs v ((h.fo.evi v).mpr hv)⟩
 .cases e
def FRow(ss:LS)(tps qs:LP)(H:Hp)(v:V)(H':Hp):Prop:=L2.Same H H'/\((v=.non/\MxF ss tps qs)\/∃(r:Addr) (rs:LS),v=.ref r/\H r=none/\H' r=some (.lst (rs.map V.str))/\rs.length<=1000/\Aug (tA tps) (pt qs) rs)
inductive spGf(cw:Addr)(vs:List V)(H:Hp)(Q:VK)(E:XK):Prop|mk (x l:Addr) (ss:LS) (ns:LN) (us:LQ) (tps qs:LP) (_:vs=[.ref x,.ref l]) (_:Wt cw H x ss ns tps) (_:PL H l us qs) (_:PGo ss tps qs) (_:∀(t l2 r2:Addr) (ls:LQ) (ws:List V) (rs:LP) (H':Hp),L2.Same H H'->H' t=some (.tup [.ref l2,.ref r2])->PL H' l2 ls rs->H' r2=some (.lst ws)->rs.length=qs.length+ws.length->PGo ss tps rs->MxF ss tps rs->Q (.ref t) H')
theorem qeY{y:Addr}{Q:VK}(W:Wt cw G x ss ns tps)(n:PL G l us qs)(b:PGo ss tps qs)(f:G y=none)(i:G dx=none)(d:dx≠y)
  (h:∀ H0 H2 a S dn wt lo,a.x=y->FoD (cc 9) cw H0 H2 a ss ns qs S dn wt lo (tA tps)->L2.Same G H2->Q .non H2):spFi cc cw [.ref y,.ref x,.ref l] (upd (upd G dx (.own y)) y (.ins (cc 9) dx [])) Q E:=by
 have j:=qN (qN (Sr G) (o:=.own y) i) (o:=.ins (cc 9) dx []) (show upd G dx (.own y) y=none by rw[qf (Yb d)];show f);show⟨y,dx,x,l,ss,ns,us,tps,qs,tA tps,rfl,qb,W.web.same j,W.adj,W.wb b,W.wok.nm,W.bes,n.same j,b.few,b.inn,fun H0 H' a S dn wt lo m _ g p=>h H0 H' a S dn wt lo m g fun c o e=>?_⟩;show g.fo.sm c o (p c o ?_);rw[zH (fun z=>by rw[z,f] at e;cases e),qf (fun z=>by rw[z,f] at e;cases e),qf (fun z=>by rw[z,i] at e;cases e)];show e
theorem qgc{a:Fo}{wt:LS}{Q:VK}(d:FoD (cc 9) cw H0 H2 a ss ns qs S dn wt lo (tA tps))(i:Wb (tA tps) ss qs)(h:∀ v H',FRow ss tps qs H2 v H'->Q v H'):spFr cc cw [.ref a.x] H2 Q E:=by
 show⟨H0,a,ss,ns,qs,S,dn,wt,lo,_,rfl,d,fun e=>?_,fun t r e f g l hl=>?_⟩
 .subst e;show h _ _ ⟨L2.Same.refl _,.inl ⟨rfl,S,mx_of d i⟩⟩
 .show h _ _ ⟨qN (Sr _) hl,.inr ⟨l,r,rfl,hl,qb,?_,g⟩⟩;rcases d.en with⟨b,_⟩ | ⟨t',m,b,c,_,_,j⟩
  .rw [e] at b;cases b
  .rw [e] at b;cases b;rw[f] at c;have:=congrArg List.length (show r.map V.str=m.map V.str by injection (ym c));rw[ya,ya] at this;lk
theorem ok_gf(F:Fun K "greatest_from" "greatest_from" jq f fd)(T:Txt K mg cc cw)(KW:DefOk P w K mg base CX0 10 "told_pairs" ["web","pairs"] (spTp cw))(KB:MakeOk P w K mg base CX0 10 (cc 9) "Forest" ["self","web","pairs"] (spFi cc cw))(Kv:MethOk P w K mg base CX0 1 (cc 9) "row" ["self"] (spFr cc cw))(uk:DefOk P w K mg base CX0 12 "turned" ["web","pairs","row"] (spTu cw)):FnOk P w K mg base CX0 13 f fd ["web","pairs"] (spGf cw):=by
 show F.ok Kb fun _ _ _ _ H vs Q E M h=>?_
 .obtain⟨x,l,ss,ns,us,tps,qs,rfl,W,hP,hG,q⟩:=h;have hu:=jZ M;show⟨_,(qc (qo (i:=2) Kb.nd rfl (yJ rfl) (qq KW (hmR M) qz (qa (pv 0) (qa (pv 1) qd))))
 (qc (qo (i:=3) Kb.nd rfl (yJ rfl) (qI qd))
 (qc (qo (i:=4) Kb.nd rfl (yJ rfl) (jm Kv (hmR M) (qbR KB (hmR M) (qa (pv 0) (qa (pv 2) qd)))))
 (qc (qaC yT (qm qcy (pv 4) j7 (qx _))
 (qc (qL (qbA (K:=K) rfl yN y8 y9 qS (pv 3) (qa (pv 4) qd)))
 (qc (qo (i:=2) Kb.nd rfl (yJ rfl) (qq uk (hmR M) qz (qa (pv 0) (qa (pv 2) (qa (pv 4) qd)))))
 (qe (qo (i:=4) Kb.nd rfl (yJ rfl) (jm Kv (hmR M) (qbR KB (hmR M) (qa (pv 0) (qa (pv 2) qd)))))))))
 (qe (qk (jP (qa (pv 2) (qa (pv 3) qd))))))))),?_⟩
  apply⟨x,l,ss,ns,us,tps,qs,rfl,W.web,W.adj,hP,hG,fun l1 af H1 s1 ax I _ hA1=>?_⟩;apply⟨by decide,fun c N=>?_⟩;have s2:=qN (Sr H1) (o:=.lst []) N;have d:upd H1 c (.lst []) c=some (.lst []):=qb;have W2:=W.same (s1.trans s2);have u:=tps_ok W.wok W.adj W.ok hG
  have ad:(qbo (qR ss ns ss.length) qs).length=qs.length+0:=by
   have c1:=hG.cnt W.wok.nd;have c2:=u.1.cnt W.wok.nd;rw[u.2] at c2;lk
  have n:PL (upd H1 c (.lst [])) l1 af (qbo (qR ss ns ss.length) qs):=⟨s2 _ _ I,hA1.mono fun _ _ z=>s2 _ _ z.2.2⟩;have ai:=s1.trans s2;generalize upd H1 c (.lst [])=G at ai d W2 n;generalize qbo (qR ss ns ss.length) qs=g at n u ad;replace u:=u.1;apply fun y dx hy D L=>qeY W2 n u hy D L fun H0 H3 a S dn wt lo ea hD s3=>?_;subst ea;obtain⟨fx,ff,ak,_,_,_,al⟩:=id hD.fo.obj;show⟨rfl,a.x,fx,ff,rfl,ak,al _ (by room),?_⟩;apply qgc hD (W2.wb u) fun v H4 hv=>?_;have ar:=ai.trans s3;have ae:H c=none:=s1.free N;have ah:l1≠c:=fun e=>by rw[e,N] at I;cases I
  ext;obtain⟨Wv,C⟩:∃ Wv:Nat->L2.St->Hp->Prop,Wv=fun m σ J=>∃(s:Addr) (us:LQ) (g:LP) (j:List V) (v:V),σ=[some (.ref x),some (.ref l),some (.ref s),some (.ref c),some v]/\L2.Same H J/\PL J s us g/\s≠c/\PGo ss tps g/\J c=some (.lst j)/\g.length=qs.length+j.length/\m=8-g.length /\
   ((v=.non/\MxF ss tps g)\/∃(r:Addr) (rs:LS),v=.ref r/\r≠c/\J r=some (.lst (rs.map V.str))/\rs.length<=1000/\Aug (tA tps) (pt g) rs):=⟨_,rfl⟩
  show⟨Wv,⟨_,by
   rw[C];show⟨l1,af,g,[],v,rfl,ar.trans hv.1,n.same (s3.trans hv.1),ah,u,hv.1 _ _ (s3 _ _ d),ad,rfl,hv.2.imp id ?_⟩;rintro⟨r,rs,e1,O,e3,e4,e5⟩;show⟨r,rs,e1,(fun z=>by rw[z,s3 _ _ d] at O;cases O),e3,e4,e5⟩⟩,fun m σ J ac=>?_⟩
  rw[C] at ac;obtain⟨s,us,g,j,v,rfl,sJ,B,ap,gJ,d,hc,hm,hv⟩:=ac;ext
  have av:2*g.length<=14:=by
   have:=gJ.cnt W.wok.nd;have h2:qfu (pt g) ss<=ss.length:=Yw _ _;have:=W.wok.few;lk
  rcases hv with⟨rfl,mx⟩ | ⟨r,rs,rfl,nr,er,hl,au⟩
  .show⟨rfl,_,rfl,qG (fun h=>by simp at h) fun _=>?_⟩;apply⟨by show 2<=sizeLine;decide,fun t ht=>?_⟩;have s9:=qN (Sr J) (o:=.tup [.ref s,.ref c]) ht;show q t s c us j g _ (sJ.trans s9) qb (B.same s9) (s9 _ _ d) hc gJ mx
  .show⟨rfl,_,rfl,zg ⟨fun as H'=>∃ m',m'<m/\Wv m' as H',fun _ _ z=>z,?_⟩⟩;apply⟨.inl ⟨rfl,_,SqL.of d⟩,?_⟩;apply⟨c,_,_,rfl,rfl,d,qi (by lk),?_⟩;have sU:=qaB sJ (o:=.lst (j++[.ref r])) ae;have aa:PL (upd J c (.lst (j++[.ref r]))) s us g:=⟨by rw[qf ap];show B.1,B.2.mono fun t ab z=>by rw[qf (qat z d (fun e=>by cases e))];show z⟩;have U:upd J c (.lst (j++[.ref r])) r=some (.lst (rs.map V.str)):=by rw[qf nr];show er
   have A:upd J c (.lst (j++[.ref r])) c=some (.lst (j++[.ref r])):=qb;generalize upd J c (.lst (j++[.ref r]))=G1 at sU aa U A ⊢;have WU:=W.same sU;apply⟨x,s,r,ss,ns,us,tps,g,rs,rfl,⟨WU.web,WU.adj,aa,gJ,U,au.row hl W.ok⟩,fun l3 ag H5 s5 p ao _ X=>?_⟩;obtain⟨g3,c3⟩:=turn_ok W.wok W.adj W.ok gJ au hl;generalize flT (qR ss ns ss.length) g rs=p3 at X g3 c3;have n3:l3≠c:=fun e=>by rw[e,A] at p;cases p
   have Z:PL H5 l3 ag p3:=⟨ao,X.mono fun _ _ z=>z.2.2⟩;have aj:=sU.trans s5;have W5:=W.same aj;have R:=s5 _ _ A;apply fun y dx hy D L=>qeY W5 Z g3 hy D L fun H6 H7 b S5 aw az ay eb Y s7=>?_;subst eb;obtain⟨fy,fg,am,_,_,_,an⟩:=id Y.fo.obj;show⟨rfl,b.x,fy,fg,rfl,am,an _ (by room),?_⟩;apply qgc Y (W5.wb g3) fun v H8 hv=>?_;apply⟨8-p3.length,by lk,?_⟩;rw[C];show⟨l3,ag,p3,j++[.ref r],v,rfl,(aj.trans s7).trans hv.1,Z.same (s7.trans hv.1),n3,g3,hv.1 _ _ (s7 _ _ R),by rw[c3,hc,yt];rfl,rfl,hv.2.imp id ?_⟩;rintro⟨r',aq,e1,O,e3,e4,e5⟩;show⟨r',aq,e1,(fun z=>by rw[z,s7 _ _ R] at O;cases O),e3,e4,e5⟩
theorem KY:FnScope ["_law_pairs","_law_name","_law_one","_law_other"] ["_law_pairs","_law_name"] (qh zI):=fS
theorem uG:FnScope ["_law_names_here","_law_pairs"] ["_law_names_here","_law_pairs"] (qh zf):=fS
noncomputable def tB(tps:LP)(a b:Str):Bool:=decide ((a,b)∈tps)||decide ((b,a)∈tps)
noncomputable def ptV(qs:LP)(s:Str):V:=((pt qs s).map V.str).getD .non
inductive spPa(vs:List V)(H:Hp)(Q:VK)(E:XK):Prop|mk (l:Addr) (us:LQ) (qs:LP) (s:Str) (_:vs=[.ref l,.str s]) (_:PL H l us qs) (_:Q (ptV qs s) H)
noncomputable def sgl(ss:LS)(qs:LP):LS:=ss.filter fun s=>(pt qs s).isNone
inductive spSg(vs:List V)(H:Hp)(Q:VK)(E:XK):Prop|mk (n l:Addr) (ss:LS) (us:LQ) (qs:LP) (_:vs=[.ref n,.ref l]) (_:H n=some (.lst (ss.map V.str))) (_:ss.length<=14) (_:PL H l us qs) (_:∀ r,H r=none->Q (.ref r) (upd H r (.lst ((sgl ss qs).map V.str))))
inductive spTd(vs:List V)(H:Hp)(Q:VK)(E:XK):Prop|mk (l:Addr) (ts:LQ) (tps:LP) (a b:Str) (_:vs=[.ref l,.str a,.str b]) (_:PL H l ts tps) (_:∀ H',L2.Same H H'->Q (.bl (tB tps a b)) H')
theorem ok_pa(F:Fun K "_law_partner" "_law_partner" zI f fd)(T:Txt K mg cc cw):FnOk P w K mg base CX0 1 f fd ["_law_pairs","_law_name"] spPa:=by
 show F.ok KY fun _ _ _ _ H vs Q E v h=>?_
 .obtain⟨l,us,qs,x,rfl,a,q⟩:=h;have r:=jZ v;show⟨_,(qc (ju yT rfl (ki_lst (K:=K) rfl (pv 0)) (qdz rfl (zY (qw (i:=2) KY.nd rfl (yJ rfl)) (zY (qw (i:=3) KY.nd rfl (yJ rfl)) qcw)))
 (qc (qK (qm (zE (K:=K) rfl r) (pv 2) (pv 1) (qx _)) (qe (qk (pv 3))) qr)
 (qe (qK (qm (zE (K:=K) rfl r) (pv 3) (pv 1) (qx _)) (qe (qk (pv 2))) qr))))
 (qe (qk j7))),?_⟩
  apply viLst ?_;apply⟨l,_,rfl,.of a.1,jc (xs:=us.map V.ref) (fun i g J=>J=H/\(∃ m n,g=[some (.ref l),some (.str x),m,n])/\pt qs x=pt (qs.drop i) x) ⟨rfl,⟨_,_,rfl⟩,rfl⟩ (fun i g J _ c=>by rw[c.1];show .of a.1) (fun i y g J s c=>?_) fun g J c=>?_⟩
  .obtain⟨rfl,⟨m,n,rfl⟩,e⟩:=c;rw[yd] at s;obtain⟨t,p,rfl⟩:=yn.mp s;have o:i<qs.length:=by rw[<- a.2.len];show(yc.mp p).1
   obtain⟨ab,b⟩:∃ ab,qs[i]?=some ab:=⟨_,yb o⟩;have u:=a.2.at_ i t ab p b
   have j:qs.drop i=ab::qs.drop (i+1):=by
    rw[Xi o,(yc.mp b).2]
   rw[j] at e;have e:pt qs x=if ab.1=x then some ab.2 else if ab.2=x then some ab.1 else pt (qs.drop (i+1)) x:=e;show⟨t,_,rfl,.of u,rfl,_,_,rfl,_,_,rfl,rfl,?_⟩;apply qfS ?_;ext;by_cases h1:ab.1=x
   .rw [yE h1] at e;show qG (fun _=>?_) fun h=>absurd (yH h1) h;ext;unfold ptV at q
    rwa[e] at q
   .rw [yC h1] at e;show qG (fun h=>absurd (yk h) h1) fun _=>?_;apply qfS ?_;ext;by_cases d:ab.2=x
    .rw [yE d] at e;show qG (fun _=>?_) fun h=>absurd (yH d) h;ext;unfold ptV at q
     rwa[e] at q
    .rw [yC d] at e;show qG (fun h=>absurd (yk h) d) fun _=>?_;show⟨rfl,⟨_,_,rfl⟩,e⟩
  .obtain⟨rfl,⟨m,n,rfl⟩,e⟩:=c;rw[ya,a.2.len,XF] at e;ext;unfold ptV at q
   rwa[e] at q
theorem ok_sg(F:Fun K "_law_singles" "_law_singles" zf f fd)(T:Txt K mg cc cw)(v:DefOk P w K mg base CX0 1 "_law_partner" ["_law_pairs","_law_name"] spPa):FnOk P w K mg base CX0 2 f fd ["_law_names_here","_law_pairs"] spSg:=by
 show F.ok uG fun _ _ _ _ H vs Q E j h=>?_
 .obtain⟨n,l,ss,us,qs,rfl,g,p,s,q⟩:=h;have A:=jZ j;show⟨_,(qe (qk (jT (sc:=qh zf) (XN:=["_law_names_here","_law_pairs"]) ["_law_name","_law_pairs"] 1 [1] rfl rfl rfl (by room) rfl (by room)
  (qW (K:=K) rfl (pv 0)) (fun _ _ _ _=>(qw (i:=0) (show(["_law_name","_law_pairs"]:LS).Nodup by room) rfl (yJ rfl))) jB
  (fun _ _ _ _=>(zk (qm qfE (qq v (hmR j) qz (qa (pv 1) (qa (pv 0) qd))) j7 (qx _))))
  (fun _ _ _ _=>(pv 0))))),?_⟩
  apply .inl ⟨⟨_,.of g⟩,jF (xs:=ss.map V.str) (fun i ys G=>G=H/\ys=(sgl (ss.take i) qs).map V.str) ⟨rfl,rfl⟩ (fun i ys G _ a=>by rw[a.1];show .of g) (fun i y ys G o a=>?_) fun ys G a=>?_⟩
  .obtain⟨rfl,rfl⟩:=a;rw[yd] at o;obtain⟨x,m,rfl⟩:=yn.mp o;have t:=(yc.mp m).1;have u:(sgl (ss.take i) qs).length<=i:=yi (Yw _ _) (by rw[yP];lk)
   have d:sgl (ss.take (i+1)) qs=sgl (ss.take i) qs++(if (pt qs x).isNone=true then [x] else []):=by
    unfold sgl;rw[yR,m,Yt];show _++[x].filter _=_;rw[Yq,xB]
   apply⟨l,us,qs,x,rfl,s,?_⟩;ext;rw[d];unfold ptV
   cases e:pt qs x with
   | none =>
    show⟨_,rfl,zg ?_⟩;apply⟨by rw[ya];show qi (by lk),rfl,by rw[yE (show(none:Option Str).isNone=true from rfl),yK];rfl⟩
   | some b =>
    show⟨_,rfl,qG (fun h=>by simp at h) fun _=>?_⟩;show⟨rfl,by rw[yC (show ¬ (some b).isNone=true from fun z=>by cases z),Yg]⟩
  .obtain⟨rfl,rfl⟩:=a;rw[show(ss.map V.str).length=ss.length from ya _,yW];show⟨by rw[ya];show yX (qi (yi (Yw _ _) (by lk))),fun r c=>q r c⟩
theorem Kt:FnScope ["_law_box_here","_law_ties_here","_law_found","_law_some","_law_tie"] ["_law_box_here","_law_ties_here"] (qh jY):=fS
theorem eqT_dec{a b:Addr}(d:H a=some (.lst (ss.map V.str)))(f:H b=some (.lst (rs.map V.str))):EqT K H 1 a b (decide (ss=rs)):=by
 by_cases hl:ss.length=rs.length
 .have z:=EqT.lst (K:=K) (H:=H) (n:=0) (e:=fun j=>eqV (.str (ss.getD j "")) (.str (rs.getD j ""))) (SqL.of d) (SqL.of f) (by rw[ya,ya];show hl) fun j x y h1 c=>by
   rw[yd] at h1 c;obtain⟨u,g,rfl⟩:=yn.mp h1;obtain⟨v,hv,rfl⟩:=yn.mp c;rw[Yh,Yh,g,hv];show .flat rfl rfl
  have e:(List.range (ss.map V.str).length).all (fun j=>eqV (.str (ss.getD j "")) (.str (rs.getD j "")))=decide (ss=rs):=by
   rw[YH,YR,YG];constructor
   .intro h;show List.ext_getElem hl fun i h1 c=>?_;have:=h i (xI.mpr (by rw[ya];show h1));rw[qcM,Yh,Yh,yb h1,yb c] at this;show yk this
   .rintro rfl j _;rw[qcM];show yH rfl
  rw[e] at z;show z
 .rw [yl (fun e=>hl (by rw[e]))];show .lstL (SqL.of d) (SqL.of f) (by rw[ya,ya];show hl)
inductive spSo(vs:List V)(H:Hp)(Q:VK)(E:XK):Prop|mk (p l:Addr) (ss:LS) (ts:LQ) (tps:LP) (_:vs=[.ref p,.ref l]) (_:Box H p) (_:TL p H l ts tps) (_:tps.length<=30) (_:(∀ ab∈tps,ab.1∈ss/\ab.2∈ss/\ab.1≠ab.2)) (_:∀(l':Addr) (us:LQ) (qs:LP) (H':Hp),BB p H H'->H l'=none->TL p H' l' us qs->PGo ss tps qs->Q (.ref l') H')
theorem Shuf.mem(sh:Shuf tps ups)(h:ab∈ups):ab∈tps\/(ab.2,ab.1)∈tps:=by
 obtain⟨f,d,a⟩:=sh;obtain⟨k,b⟩:=yf (d.mem_iff.mp h);obtain⟨c,hc⟩:∃ c,tps[k]?=some c:=⟨_,yb (by rw[a.len];show(yc.mp b).1)⟩;rcases a.at_ k c ab hc b with e | e
 .rw [e];show .inl (ye hc)
 .rw [e];show .inr (ye hc)
theorem Shuf.len(sh:Shuf tps ups):ups.length=tps.length:=by
 obtain⟨c,b,a⟩:=sh;rw[b.length_eq,a.len]
theorem ok_so(F:Fun K "_law_some_pairs" "_law_some_pairs" jY f fd)(T:Txt K mg cc cw)(Ka:DefOk P w K mg base CX0 1 "_law_take" ["_law_box_here","_law_many"] spTake)(KZ:DefOk P w K mg base CX0 2 "_law_shuffled" ["_law_box_here","_law_ties_here"] spShuf)(uK:DefOk P w K mg base CX0 2 "_law_singles" ["_law_names_here","_law_pairs"] spSg):FnOk P w K mg base CX0 3 f fd ["_law_box_here","_law_ties_here"] spSo:=by
 show F.ok Kt fun _ _ _ _ H vs Q E hr h=>?_
 .obtain⟨p,l,ss,ts,tps,rfl,hB,hT,aa,j,q⟩:=h;have hu:=jZ hr;show⟨_,(qc (qo (i:=2) Kt.nd rfl (yJ rfl) (qI qd))
 (qc (qo (i:=3) Kt.nd rfl (yJ rfl) (qq KZ (hmR hr) qz (qa (pv 0) (qa (pv 1) qd))))
 (qc (ju yT rfl (qW (K:=K) rfl (pv 3)) (qw (i:=4) Kt.nd rfl (yJ rfl))
 (qe (qK (PW.pt (qbc (qm qdC (qq Ka (hmR hr) qz (qa (pv 0) (qa qg qd))) qg (qx _)) (qau (qm (zE (K:=K) rfl hu) (qq uK (hmR hr) qz (qa (ji (zV (K:=K) rfl rfl) rfl T.b_list YY (qa (pv 4) qd)) (qa (pv 2) qd))) (ji (zV (K:=K) rfl rfl) rfl T.b_list YY (qa (pv 4) qd)) (qx _))))) (qe (qL (qbA (K:=K) rfl yN y8 y9 qS (pv 2) (qa (pv 4) qd)))) qr)))
 (qe (qk (pv 2)))))),?_⟩
  apply⟨by decide,fun d g=>?_⟩;have Y:=(BB.refl hB).new (o:=.lst []) g;have C:=hB.apart g;have e1:upd H d (.lst []) d=some (.lst []):=qb;have L:=hT.bb Y;generalize upd H d (.lst [])=H1 at Y e1 L;apply⟨p,l,ts,tps,rfl,Y.2,L,aa,fun sl X ups H2 Z n G sh=>?_⟩;have aj:=sh.len;have ag:d≠sl:=fun e=>by rw[<- e,e1] at n;cases n
  have e2:=Z.1 _ _ C e1;replace Z:=Y.trans Z;apply .inl ⟨⟨_,.of G.1⟩,jc (xs:=X.map V.ref) (fun i σ J=>BB p H J/\∃(us:LQ) (qs:LP) (y4:Option V),σ=[some (.ref p),some (.ref l),some (.ref d),some (.ref sl),y4]/\TL p J sl X ups/\TL p J d us qs/\(∀ q∈qs,q∈ups)/\(qj qs).Nodup/\qs.length<=i) ⟨Z,[],[],_,rfl,G,⟨e2,C,.nil⟩,(fun q h=>by cases h),kX,yh _⟩ (fun i σ J _ N=>by obtain⟨_,_,_,_,_,z,_⟩:=N;show .of z.1) (fun i y σ J S N=>?_) fun σ J N=>?_⟩
  .obtain⟨bJ,us,qs,y4,rfl,I,u,a,c,O⟩:=N;rw[yd] at S;obtain⟨t,ht,rfl⟩:=yn.mp S;have ac:=(yc.mp ht).1;have ai:i<30:=by have:=G.2.2.len;lk
   obtain⟨ab,B⟩:∃ ab,ups[i]?=some ab:=⟨_,yb (by rw[<- G.2.2.len];show ac)⟩;have U:=ye B;apply⟨p,4,rfl,bJ.2,by decide,by decide,fun r J1 r0 r1 c1=>?_⟩;have v:=I.bb c1;have s:=u.bb c1;have d1:=bJ.trans c1;have tt:=v.2.2.at_ i t ab ht B;apply qG (fun _=>?_) fun _=>qG (fun h=>by cases h) fun _=>⟨d1,us,qs,_,rfl,v,s,a,c,by lk⟩;apply .inl ⟨t,_,rfl,.inr (.of tt.2),fun l3 ad=>?_⟩;have s3:=qN (Sr J1) (o:=.lst [.str ab.1,.str ab.2]) ad;have e3:upd J1 l3 (.lst [.str ab.1,.str ab.2]) l3=some (.lst ([ab.1,ab.2].map V.str)):=qb;generalize upd J1 l3 (.lst [.str ab.1,.str ab.2])=J3 at s3 e3;apply⟨l3,d,[ab.1,ab.2],us,qs,rfl,e3,by show 2<=14;decide,(s.same s3).pl,fun l4 ae=>?_⟩;have s4:=qN s3 (o:=.lst ((sgl [ab.1,ab.2] qs).map V.str)) ae;have e4:upd J3 l4 (.lst ((sgl [ab.1,ab.2] qs).map V.str)) l4=some (.lst ((sgl [ab.1,ab.2] qs).map V.str)):=qb;generalize upd J3 l4 (.lst ((sgl [ab.1,ab.2] qs).map V.str))=J4 at s4 e4;apply .inl ⟨t,_,rfl,.inr (.of (s4 _ _ tt.2)),fun l5 M=>?_⟩;have s5:=qN s4 (o:=.lst [.str ab.1,.str ab.2]) M;have D:=qN (Sr J4) (o:=.lst [.str ab.1,.str ab.2]) M _ _ e4;have e5:upd J4 l5 (.lst [.str ab.1,.str ab.2]) l5=some (.lst ([ab.1,ab.2].map V.str)):=qb;generalize upd J4 l5 (.lst [.str ab.1,.str ab.2])=J5 at s5 e5 D;have d5:=d1.same s5;have A:=v.same s5;have b:=s.same s5;show .inl (.inl (.inr (.inl ⟨l4,l5,_,1,rfl,rfl,by decide,eqT_dec D e5,?_⟩)));rw[yC (by decide)];apply qG (fun hd=>?_) fun _=>⟨d5,us,qs,_,rfl,A,b,a,c,by lk⟩;have hd:=yk hd
   have W:ab.1∉qj qs/\ab.2∉qj qs:=by
    have k:∀ x∈[ab.1,ab.2],x∉qj qs:=fun x R=>by
     rw[<- hd] at R;have:=(yp.mp R).2;show pt_none.mp (Option.isNone_iff_eq_none.mp this)
    show⟨k _ (by simp),k _ (by simp)⟩
   have af:ab.1≠ab.2:=by
    rcases sh.mem U with z | z
    .show(j _ z).2.2
    .show Yb (j _ z).2.2
   apply⟨.inl ⟨rfl,_,SqL.of b.1⟩,?_⟩;apply⟨d,_,_,rfl,rfl,b.1,by rw[ya,b.2.2.len];show qi (by lk),?_⟩;have ah:=A.2.2.at_ i t ab ht B;show⟨d5.put g C,us++[t],qs++[ab],_,rfl,A.other (Yb ag) b.1,b.more ah,fun q hq=>?_,?_,by rw[yt];simp;lk⟩
   .rcases yA.mp hq with z | z
    .show a q z
    .rw [yx.mp z];show U
   .rw [zq];show yV.mpr ⟨c,by simp[af],fun x R y S e=>?_⟩;subst e;simp only[yv,yz,yU] at S;rcases S with rfl | rfl
    .show W.1 R
    .show W.2 R
  .obtain⟨bJ,us,qs,y4,rfl,I,u,a,c,O⟩:=N;apply q d us qs J bJ g u ⟨fun z hz=>?_,c,by rw[ya,G.2.2.len] at O;lk⟩;have m:=sh.mem (a z hz);show⟨m,?_⟩;rcases m with y | y
   .show j _ y
   .obtain⟨k1,k2,k3⟩:=j _ y;show⟨k2,k1,Yb k3⟩
noncomputable def qcO:V->Bool
 | .str x=>jG x
 | _=>false
noncomputable def qct:V->Str
 | .str x=>x
 | _=>""
theorem j5{x:V}(h:qcO x=true):x=.str (qct x)/\jG (qct x)=true/\(qct x).length<=6:=by
 cases x with
 | str y =>
  show⟨rfl,h,?_⟩;have h':jG y=true:=h;unfold jG at h';split at h'
  .rename_i z;show z.2
  .cases h'
 | _=>cases h
inductive Th(p:Addr)(H:Hp):Nat->V->Prop
 | flat {n:Nat} {v:V} (f:jR v=true) (l:∀ s,v=.str s->s.length<=100000):Th p H n v
 | lst {n:Nat} {a:Addr} {xs:List V} (e:H a=some (.lst xs)) (ne:a≠p) (h:∀ x∈xs,Th p H n x) (l:xs.length<=1000):Th p H (n+1) (.ref a)
 | tup {n:Nat} {a:Addr} {xs:List V} (e:H a=some (.tup xs)) (ne:a≠p) (h:∀ x∈xs,Th p H n x) (l:xs.length<=1000):Th p H (n+1) (.ref a)
 | dct {n:Nat} {a:Addr} {kvs:List (Key×V)} (e:H a=some (.dK kvs)) (ne:a≠p):Th p H n (.ref a)
theorem Th.mono:∀{n:Nat} {v:V},Th p H n v->Th p H (n+1) v
 | _,_,.flat f l=>.flat f l
 | _,_,.lst e ne h l=>.lst e ne (fun x a=>(h x a).mono) l
 | _,_,.tup e ne h l=>.tup e ne (fun x a=>(h x a).mono) l
 | _,_,.dct e ne=>.dct e ne
theorem Th.keep(k:∀ b o,b≠p->H b=some o->H' b=some o):∀{n:Nat} {v:V},Th p H n v->Th p H' n v
 | _,_,.flat f l=>.flat f l
 | _,_,.lst e ne h l=>.lst (k _ _ ne e) ne (fun x a=>(h x a).keep k) l
 | _,_,.tup e ne h l=>.tup (k _ _ ne e) ne (fun x a=>(h x a).keep k) l
 | _,_,.dct e ne=>.dct (k _ _ ne e) ne
theorem Th.same(h:Th p H n v)(s:L2.Same H H'):Th p H' n v:=h.keep fun b o _ e=>s b o e
noncomputable def isB:V->Bool
 | .bl _=>true
 | _=>false
theorem Th.ty(h:Th p H n v):∃ t∈["NoneType","bool","int","str","list","tuple","dict"],TyOf K H v (.type t)/\(qbs t "str"=true->∃ x,v=.str x/\x.length<=100000)/\(qbs t "str"=false->qcO v=false) /\
  (qbs t "tuple"=true->∃ a xs,v=.ref a/\H a=some (.tup xs)/\xs.length<=1000/\∀ x∈xs,Th p H n x)/\(qbs t "tuple"=false->∀ a xs,v=.ref a->H a≠some (.tup xs))/\qbs t "bool"=isB v:=by
 have no:∀{P:Prop} {a b:String},qbs a b=false->qbs a b=true->P:=fun h1 c=>by rw[h1] at c;cases c
 have yes:∀{P:Prop} {a b:String},qbs a b=true->qbs a b=false->P:=fun h1 c=>by rw[h1] at c;cases c
 cases h with
 | flat f l =>
  cases v with
  | non=>show⟨_,by simp,.non,no (by decide),fun _=>rfl,no (by decide),fun _ _ _ e=>by(cases e),rfl⟩
  | bl x=>show⟨_,by simp,.bl x,no (by decide),fun _=>rfl,no (by decide),fun _ _ _ e=>by(cases e),rfl⟩
  | int x=>show⟨_,by simp,.int x,no (by decide),fun _=>rfl,no (by decide),fun _ _ _ e=>by(cases e),rfl⟩
  | str x=>show⟨_,by simp,.str x,fun _=>⟨x,rfl,l x rfl⟩,yes (by decide),no (by decide),fun _ _ _ e=>by(cases e),rfl⟩
  | _=>cases f
 | lst e ne h l=>show⟨_,by simp,.lst e,no (by decide),fun _=>rfl,no (by decide),fun _ _ _ z=>by(cases z;rw[e];intro y;cases y),rfl⟩
 | tup e ne h l=>show⟨_,by simp,.tup e,no (by decide),fun _=>rfl,fun _=>⟨_,_,rfl,e,l,fun x d=>(h x d).mono⟩,yes (by decide),rfl⟩
 | dct e ne=>show⟨_,by simp,.dK e,no (by decide),fun _=>rfl,no (by decide),fun _ _ _ z=>by(cases z;rw[e];intro y;cases y),rfl⟩
inductive spNameG(vs:List V)(H:Hp)(Q:VK)(E:XK):Prop|mk (p:Addr) (n:Nat) (v:V) (_:vs=[v]) (_:Th p H n v) (_:∀ H',L2.Same H H'->Q (.bl (qcO v)) H')
theorem ok_nameG(F:Fun K "is_name" "is_name" zb f fd)(T:Txt K mg cc cw):FnOk P w K mg base CX0 1 f fd ["thing"] spNameG:=by
 show F.ok um fun _ _ _ _ H vs Q E G h=>?_
 .obtain⟨p,n,v,rfl,hv,q⟩:=h;show⟨_,(qc (qK (PW.pt (qav (q8 (qQ (qp (zl (K:=K) rfl) rfl T.b_isinstance Yk (qa (pv 0) (qa (jh (v:=.ty "str") rfl T.b_str boot_str rfl) qd))))) (zR (q8 (qcW qeo qeo qg (qp (zu (K:=K) rfl) rfl T.b_len YT (qa (pv 0) qd)) (qa2 rfl T.g_LONGEST_NAME)))))) (qe (qk jz)) qr)
 (qe (qk (qp (qec (K:=K) rfl rfl) rfl T.b_all boot_all (qa (jT (sc:=qh zb) (XN:=["thing"]) ["sign"] 1 [] rfl rfl rfl (by room) rfl (by room)
  (qW (K:=K) rfl (pv 0)) (fun _ _ _ _=>(qw (i:=0) (show(["sign"]:LS).Nodup by room) rfl (yJ rfl))) jB
  (fun _ _ _ _=>zj)
  (fun _ _ _ _=>(qcV qeo qeo jt (pv 0) jt))) qd))))),?_⟩
  obtain⟨t,u,ty,s,B,_,_,_⟩:=hv.ty (K:=K);apply zw (.inl ty) rfl (jl K t u "str" (by simp)) ?_;apply qG (fun h=>?_) fun h=>?_
  .ext;have z:=q H (Sr H);rw[B (by simpa using h)] at z;show z
  .obtain⟨x,rfl,C⟩:=s (by simpa using h);apply qfj (yi C (by decide)) ?_;ext;have e:=q;simp only[qcO,jG] at e
   have a:¬ (1<=x.length/\x.length<=6)->∀ H',L2.Same H H'->Q (.bl false) H':=fun hc H' s=>by
    have z:=e H' s;rw[yC hc] at z;show z
   show qG (fun h1=>?_) fun h1=>?_
   .ext;show qG (fun g=>?_) fun g=>?_
    .ext;show a (fun h=>?_) H (Sr H);simp only[xE,Xv] at g;lk
    .ext
     have m:1<=x.length/\x.length<=6:=by
      have D:=yk h1;simp only[xE,Xv,Classical.not_not] at g;lk
     rw[yE m] at e;show qbK (fun i ys H'=>H'=H/\ys=((x.cps.toList.take i).map sg).map V.bl) ⟨rfl,by simp⟩ (fun i c ys H' hc r=>?_) fun ys H' r=>?_
     .obtain⟨rfl,rfl⟩:=r;apply zg ?_;ext
      have hl:(List.map V.bl (List.map sg (List.take i x.cps.toList))).length<sizeLine:=by
       rw[ya,ya,yP];show qi (yi (XD _ _) (by simpa [Str.length] using(show x.length<=1000 by lk)))
      have d:∀ b,b=sg c->(List.map V.bl (List.map sg (List.take i x.cps.toList)))++[V.bl b]=List.map V.bl (List.map sg (List.take (i+1) x.cps.toList)):=by
       intro b A;have y:x.cps.toList[i]?=some c:=by simpa using hc
       rw[A,yR,y];simp
      show qG (fun j=>?_) fun j=>?_
      .ext;show⟨hl,rfl,d _ (by unfold sg;rw[yE j])⟩
      .show⟨hl,rfl,d _ (by unfold sg;rw[yC j])⟩
     .obtain⟨rfl,rfl⟩:=r;have u:x.cps.toList.take x.cps.size=x.cps.toList:=by rw[<- xl,yW]
      rw[u];show⟨?_,fun l hl=>?_⟩
      .rw [ya,ya];show yX (qi (by simpa [Str.length] using(show x.length<=1000 by lk)))
      .ext;show⟨l,x.cps.toList.map sg,rfl,SqL.of qb,?_⟩;have z:=e _ (qN (Sr H') (o:=.lst ((x.cps.toList.map sg).map V.bl)) hl);rw[X7];show z
   .ext;show a (fun h=>h1 (yH (by lk))) H (Sr H)
noncomputable def qas(ss:LS)(v:V):Bool:=if qcO v=true then decide (qct v∈ss) else false
inductive spPlaceG(vs:List V)(H:Hp)(Q:VK)(E:XK):Prop|mk (p:Addr) (n:Nat) (d:Addr) (ss:LS) (v:V) (_:vs=[.ref d,v]) (_:H d=some (.dK (qa4 ss 0))) (_:Th p H n v) (_:∀ H',L2.Same H H'->Q (.bl (qas ss v)) H')
theorem ok_placeG(F:Fun K "is_place" "is_place" zx f fd)(g:DefOk P w K mg base CX0 1 "is_name" ["thing"] spNameG):FnOk P w K mg base CX0 2 f fd ["numbers","thing"] spPlaceG:=by
 show F.ok uc fun _ _ _ _ H vs Q E b h=>?_
 .obtain⟨p,n,d,ss,v,rfl,i,hv,q⟩:=h;have j:=jZ b;show⟨_,(qe (qk (qap (qq g (hmR b) qz (qa (pv 1) qd)) (qao (jE (zU (K:=K) rfl j) (pv 1) (pv 0) (by with_unfolding_all rfl)))))),?_⟩;apply⟨p,n,v,rfl,hv,fun H1 c=>?_⟩;ext;have a:=q H1 c;unfold qas at a;show qG (fun hc=>?_) fun hc=>?_
  .ext;rw[yE hc] at a;obtain⟨e,_,_⟩:=j5 hc;generalize qct v=x at a e;subst e;show .inr (.inl ⟨d,_,rfl,DGet.k (k:=Sum.inr x) (c d _ i),?_⟩);rw[qay];show a
  .rw [yC hc] at a;show a
noncomputable def qcP(ss:LS)(y z:V):Bool:=qas ss y&&qas ss z&&!decide (qct y=qct z)
noncomputable def qcu(H:Hp)(ss:LS)(x:V):Option (Str×Str):=match x with
 | .ref a=>(match H a with
  | some (.tup [y,z])=>if qcP ss y z=true then some (qct y,qct z) else none
  | _=>none)
 | _=>none
theorem qdl{a:Addr}{y z:V}(e:H a=some (.tup [y,z])):qcu H ss (.ref a)=if qcP ss y z=true then some (qct y,qct z) else none:=by
 unfold qcu;dsimp only;rw[e]
theorem zJ{x:V}(h:∀ a xs,x=.ref a->H a=some (.tup xs)->xs.length≠2):qcu H ss x=none:=by
 unfold qcu
 cases x with
 | ref a =>
  dsimp only;split
  .rename_i y z e;show absurd rfl (h a _ rfl e)
  .rfl
 | _=>rfl
theorem tieV_keep{x:V}(h:Th p H n x)(k:∀ b o,b≠p->H b=some o->H' b=some o):qcu H' ss x=qcu H ss x:=by
 cases h with
 | flat f l=>cases x<;>first | rfl | cases f
 | lst e ne h l=>rw[zJ (H:=H') (fun a xs z y=>by(cases z;rw[k _ _ ne e] at y;cases y)),zJ (H:=H) fun a xs z y=>by(cases z;rw[e] at y;cases y)]
 | tup e ne h l=>unfold qcu;dsimp only;rw[k _ _ ne e,e]
 | dct e ne=>rw[zJ (H:=H') (fun a xs z y=>by(cases z;rw[k _ _ ne e] at y;cases y)),zJ (H:=H) fun a xs z y=>by(cases z;rw[e] at y;cases y)]
theorem tieV_same{x:V}(h:Th p H n x)(s:L2.Same H H'):qcu H' ss x=qcu H ss x:=tieV_keep h fun b o _ e=>s b o e
theorem zK(h:qas ss v=true):qcO v=true/\qct v∈ss:=by
 unfold qas at h;split at h
 .rename_i z;show⟨z,yk h⟩
 .cases h
inductive spTwoG(vs:List V)(H:Hp)(Q:VK)(E:XK):Prop|mk (p:Addr) (n:Nat) (d:Addr) (ss:LS) (v:V) (_:vs=[.ref d,v]) (_:H d=some (.dK (qa4 ss 0))) (_:Th p H n v) (_:∀ H',L2.Same H H'->Q (.bl (qcu H ss v).isSome) H')
theorem ok_twoG(F:Fun K "are_two_places" "are_two_places" je f fd)(T:Txt K mg cc cw)(A:DefOk P w K mg base CX0 2 "is_place" ["numbers","thing"] spPlaceG):FnOk P w K mg base CX0 3 f fd ["numbers","thing"] spTwoG:=by
 show F.ok Kk fun _ _ _ _ H vs Q E x h=>?_
 .obtain⟨p,n,d,ss,v,rfl,D,hv,q⟩:=h;have g:=jZ x;show⟨_,(qc (qK (PW.pt (qav (q8 (qQ (qp (zl (K:=K) rfl) rfl T.b_isinstance Yk (qa (pv 1) (qa (jh (v:=.ty "tuple") rfl T.b_tuple kh rfl) qd))))) (zR (qm (qan (K:=K) rfl g) (qp (zu (K:=K) rfl) rfl T.b_len YT (qa (pv 1) qd)) qg (qx _))))) (qe (qk jz)) qr)
 (qc (qo (i:=2) Kk.nd rfl (yJ rfl) (qap (qq A (hmR x) qz (qa (pv 0) (qa (qt (qu (K:=K) rfl g) (pv 1) qg (fun _ _=>rfl)) qd))) (qao (qq A (hmR x) qz (qa (pv 0) (qa (qt (qu (K:=K) rfl g) (pv 1) qg (fun _ _=>rfl)) qd))))))
 (qe (qk (qap (pv 2) (qao (jE (qan (K:=K) rfl g) (qt (qu (K:=K) rfl g) (pv 1) qg (fun _ _=>rfl)) (qt (qu (K:=K) rfl g) (pv 1) qg (fun _ _=>rfl)) (qx _)))))))),?_⟩
  obtain⟨t,M,ty,_,_,h1,J,_⟩:=hv.ty (K:=K);apply zw (.inl ty) rfl (jl K t M "tuple" (by simp)) ?_;apply qG (fun h=>?_) fun h=>?_
  .ext;have z:=q H (Sr H);rw[zJ (fun a xs e y=>absurd y (J (by simpa using h) a xs e))] at z;show z
  .obtain⟨a,xs,rfl,b,_,u⟩:=h1 (by simpa using h);apply qeT b ?_;apply .inl ⟨rfl,rfl,?_⟩;apply qG (fun h=>?_) fun h=>?_
   .ext;have z:=q H (Sr H)
    rw[zJ (fun U S e y=>by
     cases e;rw[b] at y;cases y;intro I;rw[I] at h;simp[eqV] at h)] at z
    show z
   .have hl:xs.length=2:=by
     simp only[Xf,eqV,xE,Bool.not_eq_false'] at h;have h':((xs.length:Int)==2)=true:=by simpa using h
     have:=kc h';lk
    match xs,hl,b,u with
    | [y,z],_,b,u =>
     have N:=u y (by simp);have hz:=u z (by simp);rw[qdl b] at q;apply .inl (zP b rfl ?_);apply⟨p,n,d,ss,y,rfl,D,N,fun H1 c=>?_⟩;ext
     have l:∀ H2,L2.Same H H2->¬ (qas ss y=true/\qas ss z=true)->Q (.bl false) H2:=fun H2 j L=>by
      have:=q H2 j;rw[yC (fun e=>L (by unfold qcP at e;simp only[Yc] at e;show⟨e.1.1,e.1.2⟩))] at this;show this
     show qG (fun r=>?_) fun r=>?_
     .ext;show .inl (zP (c _ _ b) rfl ?_);apply⟨p,n,d,ss,z,rfl,c _ _ D,hz.same c,fun H2 j=>?_⟩;apply qG (fun s=>?_) fun s=>?_
      .ext;show .inl (zP (j _ _ (c _ _ b)) rfl ?_);apply .inl (zP (j _ _ (c _ _ b)) rfl ?_);obtain⟨O,_⟩:=zK r;obtain⟨R,_⟩:=zK s;obtain⟨B,_,_⟩:=j5 O;obtain⟨C,_,_⟩:=j5 R;have m:=q H2 (c.trans j);unfold qcP at m;rw[r,s] at m;generalize qct y=o at B m;generalize qct z=sz at C m;subst B C;show .inl ⟨rfl,rfl,?_⟩
       have e:(if true=true then !eqV (V.str o) (V.str sz) else eqV (V.str o) (V.str sz))=(if (true&&true&&!decide (o=sz))=true then some (o,sz) else none).isSome:=by
        by_cases G:o=sz
        .subst G;simp[eqV]
        .simp [eqV,G]
       rw[e];show m
      .show l H2 (c.trans j) fun e=>s e.2
     .ext;show yq ?_;show l H1 c fun e=>r e.1
theorem qaQ{x:V}{t:Str×Str}(h:qcu H ss x=some t):∃ a,x=.ref a/\H a=some (.tup [.str t.1,.str t.2])/\jG t.1=true/\jG t.2=true/\t.1.length<=6/\t.2.length<=6/\t.1∈ss/\t.2∈ss/\t.1≠t.2:=by
 unfold qcu at h;split at h
 .rename_i a
  split at h
  .rename_i y z e
   split at h
   .rename_i hp
    cases h;unfold qcP at hp;simp only[Yc] at hp;obtain⟨⟨h1,g⟩,i⟩:=hp;obtain⟨l,m1⟩:=zK h1;obtain⟨m,j⟩:=zK g;obtain⟨b,d,l1⟩:=j5 l;obtain⟨c,f,l2⟩:=j5 m;show⟨a,rfl,?_,d,f,l1,l2,m1,j,?_⟩
    .show H a=some (.tup [.str (qct y),.str (qct z)]);rw[<- b,<- c];show e
    .simpa using i
   .cases h
  .cases h
 .cases h
noncomputable def qaA(H:Hp)(ss:LS)(tps:LP)(x:V):Option (Str×Str):=match qcu H ss x with
 | some ab=>if ab∈tps\/(ab.2,ab.1)∈tps then some ab else none
 | none=>none
theorem qcs{x:V}(h:Th p H n x)(s:L2.Same H H'):qaA H' ss tps x=qaA H ss tps x:=by unfold qaA;rw[tieV_same h s]
theorem qbp{x:V}(h:qaA H ss tps x=some ab):qcu H ss x=some ab/\(ab∈tps\/(ab.2,ab.1)∈tps):=by
 unfold qaA at h
 cases e:qcu H ss x with
 | none=>rw[e] at h;cases h
 | some q =>
  rw[e] at h;dsimp only at h;split at h
  .cases h;show⟨rfl,by assumption⟩
  .cases h
noncomputable def apL(H:Hp)(ss:LS)(tps:LP):LS->List V->Bool
 | _,[]=>true
 | seen,x::r=>match qaA H ss tps x with
  | none=>false
  | some ab=>if ab.1∈seen\/ab.2∈seen then false else apL H ss tps (seen++[ab.1,ab.2]) r
noncomputable def apV(H:Hp)(ss:LS)(tps:LP)(v:V):Bool:=match v with
 | .ref a=>(match H a with
  | some (.lst xs)=>apL H ss tps [] xs
  | _=>false)
 | _=>false
theorem qbq{a:Addr}(e:H a=some (.lst xs)):apV H ss tps (.ref a)=apL H ss tps [] xs:=by
 unfold apV;dsimp only;rw[e]
theorem qaR(h:∀ a xs,v=.ref a->H a≠some (.lst xs)):apV H ss tps v=false:=by
 unfold apV;split
 .split
  .rename_i a _ xs e;show absurd e (h a xs rfl)
  .rfl
 .rfl
theorem qdm(s:L2.Same H H'):∀{xs:List V} {seen:LS},(∀ y∈xs,∃ n,Th p H n y)->apL H' ss tps seen xs=apL H ss tps seen xs
 | [],_,_=>rfl
 | x::r,seen,h=>by
  show(match qaA H' ss tps x with | none=>false | some ab=>if ab.1∈seen\/ab.2∈seen then false else apL H' ss tps (seen++[ab.1,ab.2]) r)=(match qaA H ss tps x with | none=>false | some ab=>if ab.1∈seen\/ab.2∈seen then false else apL H ss tps (seen++[ab.1,ab.2]) r);rw[qcs (h x yO).choose_spec s]
  cases qaA H ss tps x with
  | none=>rfl
  | some ab=>dsimp only;rw[qdm s fun y a=>h y (yI _ a)]
theorem qaS(h:Th p H n v)(s:L2.Same H H'):apV H' ss tps v=apV H ss tps v:=by
 cases h with
 | flat f l =>
  have no:∀{G:Hp} (a:Addr) (xs:List V),v=.ref a->G a≠some (.lst xs):=fun a xs e=>by rw[e] at f;cases f
  rw[qaR no,qaR no]
 | lst e ne h l=>rw[qbq e,qbq (s _ _ e),qdm s fun y d=>⟨_,h y d⟩]
 | tup e ne h l=>rw[qaR (fun a xs c b=>by cases c;rw[s _ _ e] at b;cases b),qaR (fun a xs c b=>by cases c;rw[e] at b;cases b)]
 | dct e ne=>rw[qaR (fun a xs c b=>by cases c;rw[s _ _ e] at b;cases b),qaR (fun a xs c b=>by cases c;rw[e] at b;cases b)]
inductive spHtG(cw:Addr)(vs:List V)(H:Hp)(Q:VK)(E:XK):Prop|mk (p x:Addr) (k:Nat) (ss:LS) (ns:LN) (tps:LP) (v:V) (_:vs=[.ref x,v]) (_:WebAt cw H x ss ns) (_:Adj ss ns tps) (_:Th p H (k+1) v) (_:∀ H',L2.Same H H'->Q (.bl (qaA H ss tps v).isSome) H')
inductive spApG(cw:Addr)(vs:List V)(H:Hp)(Q:VK)(E:XK):Prop|mk (p x:Addr) (ss:LS) (ns:LN) (tps:LP) (v:V) (_:vs=[.ref x,v]) (_:WebAt cw H x ss ns) (_:Adj ss ns tps) (_:Th p H 3 v) (_:∀ H',L2.Same H H'->Q (.bl (apV H ss tps v)) H')
theorem ok_htG(F:Fun K "has_tie" "Web.has_tie" jJ f fd)(T:Txt K mg cc cw)(B:DefOk P w K mg base CX0 3 "are_two_places" ["numbers","thing"] spTwoG)(A:MethOk P w K mg base CX0 6 cw "tied" ["self","one","other"] (spTied cw)):FnOk P w K mg base CX0 7 f fd ["self","thing"] (spHtG cw):=by
 show F.ok K3 fun _ _ _ _ H vs Q E g h=>?_
 .obtain⟨p,x,k,ss,ns,tps,v,rfl,s,D,hv,q⟩:=h;have u:=jZ g;obtain⟨y,n,ol,R,t,d,J,I,hw⟩:=id s;show⟨_,(qe (qk (qap (qq B (hmR g) qz (qa (qD (K:=K) rfl (pv 0) rfl) (qa (pv 1) qd))) (qao (qF A (hmR g) (pv 0) (qa (qt (qu (K:=K) rfl u) (pv 1) qg (fun _ _=>rfl)) (qa (qt (qu (K:=K) rfl u) (pv 1) qg (fun _ _=>rfl)) qd))))))),?_⟩;apply .inl ⟨x,cw,y,_,.ref n,rfl,t,T.wcl,T.wn,jU,?_⟩;apply⟨p,k+1,n,ss,v,rfl,d,hv,fun H1 c=>?_⟩
  cases i:qcu H ss v with
  | none =>
   have e:(qaA H ss tps v).isSome=false:=by unfold qaA;rw[i];rfl
   have:=q H1 c;rw[e] at this;show⟨false,rfl,qG (fun h=>by cases h) fun _=>?_⟩;show this
  | some ab =>
   obtain⟨a,rfl,C,N,O,l1,l2,m1,L,G⟩:=qaQ i;show⟨true,rfl,zg ?_⟩;have b:=c _ _ C;apply⟨x,y,_,rfl,c _ _ t,zO (by room),?_⟩;apply .inl (zP b (v:=.str ab.1) (qv (j:=0) rfl) ?_);apply .inl (zP b (v:=.str ab.2) (qv (j:=1) rfl) ?_);ext;obtain⟨m,r⟩:=yf m1;obtain⟨l,o⟩:=yf L;show⟨x,ss,ns,ab.1,ab.2,m,l,rfl,s.same c,r,o,fun H2 M=>?_⟩
   have e:(qaA H ss tps (.ref a)).isSome=(ns.getD m 0).testBit l:=by
    unfold qaA;rw[i];dsimp only;rw[YH,D m l ab.1 ab.2 r o];split
    .rename_i h;show⟨fun _=>h,fun _=>rfl⟩
    .rename_i h;show⟨(fun z=>by cases z),fun z=>absurd z h⟩
   rw[<- e];show q H2 (c.trans M)
theorem ok_apG(F:Fun K "are_pairs" "are_pairs" zd f fd)(T:Txt K mg cc cw)(Kq:MethOk P w K mg base CX0 7 cw "has_tie" ["self","thing"] (spHtG cw)):FnOk P w K mg base CX0 8 f fd ["web","thing"] (spApG cw):=by
 show F.ok Kl fun _ _ _ _ H vs Q E hr h=>?_
 .obtain⟨p,x,ss,ns,tps,v,rfl,hW,hA,hv,q⟩:=h;have B:=jZ hr;obtain⟨wx,dd,ol,nn,hb,ah,aj,ai,hw⟩:=id hW;show⟨_,(qc (qK (q8 (qQ (qp (zl (K:=K) rfl) rfl T.b_isinstance Yk (qa (pv 1) (qa (jh (v:=.ty "list") rfl T.b_list YY rfl) qd))))) (qe (qk jz)) qr)
 (qc (qo (i:=2) Kl.nd rfl (yJ rfl) jg)
 (qc (ju yT rfl (qW (K:=K) rfl (pv 1)) (qw (i:=3) Kl.nd rfl (yJ rfl))
 (qc (qK (PW.pt (qav (q8 (qQ (qF Kq (hmR hr) (pv 0) (qa (pv 3) qd)))) (qav (qm (zU (K:=K) rfl B) (qt (qu (K:=K) rfl B) (pv 3) qg (fun _ _=>rfl)) (pv 2) (by with_unfolding_all rfl)) (zR (qm (zU (K:=K) rfl B) (qt (qu (K:=K) rfl B) (pv 3) qg (fun _ _=>rfl)) (pv 2) (by with_unfolding_all rfl)))))) (qe (qk jz)) qr)
 (qc (jD jz (jO (pv 2) (qt (qu (K:=K) rfl B) (pv 3) qg (fun _ _=>rfl)) (jQ B)))
 (qe (jD jz (jO (pv 2) (qt (qu (K:=K) rfl B) (pv 3) qg (fun _ _=>rfl)) (jQ B)))))))
 (qe (qk jz))))),?_⟩
  ext;by_cases n:∃ a xs,v=.ref a/\H a=some (.lst xs)
  .obtain⟨a,xs,rfl,C⟩:=n
   obtain⟨ag,af,ak⟩:a≠p/\(∀ y∈xs,Th p H 2 y)/\xs.length<=1000:=by
    cases hv with
    | lst e ne h l=>rw[C] at e;cases e;show⟨ne,h,l⟩
    | tup e ne h l=>rw[C] at e;cases e
    | dct e ne=>rw[C] at e;cases e
    | flat f l=>cases f
   rw[qbq C] at q;show zw (.inl (.lst C)) rfl (jl K "list" (by simp) "list" (by simp)) ?_;apply yq ?_;ext;intro d M;have s1:=qN (Sr H) (o:=.dK []) M;have ed:upd H d (.dK []) d=some (.dK (qaT [])):=qb;generalize upd H d (.dK [])=H1 at s1 ed;apply .inl ⟨⟨_,.of (s1 _ _ C)⟩,jc (xs:=xs) (fun i X J=>L2.Same H J/\∃ y3 seen,X=[some (.ref x),some (.ref a),some (.ref d),y3]/\J d=some (.dK (qaT seen))/\seen.length=2*i/\apL H ss tps [] xs=apL H ss tps seen (xs.drop i)) ⟨s1,_,[],rfl,ed,rfl,rfl⟩ (fun i X J _ S=>.of (S.1 _ _ C)) (fun i y X J hy S=>?_) fun X J S=>?_⟩
   .obtain⟨G,y3,seen,rfl,A,ae,g⟩:=S;have ac:i<xs.length:=(yc.mp hy).1
    have aa:xs.drop i=y::xs.drop (i+1):=by
     rw[Xi ac];have:=(yc.mp hy).2;rw[this]
    rw[aa] at g;have W:=af y (ye hy)
    have s:∀ m,L2.Same H m->apL H ss tps [] xs=false->Q (.bl false) m:=fun m I e=>by
     have:=q m I
     rwa[e] at this
    apply⟨x,wx,_,rfl,G _ _ hb,zO (by room),?_⟩;apply⟨p,x,1,ss,ns,tps,y,rfl,hW.same G,hA,W.same G,fun m I=>?_⟩;rw[qcs W G];have r:=G.trans I
    cases U:qaA H ss tps y with
    | none =>
     apply zg ?_;apply s m r ?_;rw[g];show(match qaA H ss tps y with | none=>false | some ab=>_)=_;rw[U]
    | some ab =>
     obtain⟨t1,t2⟩:=qbp U;obtain⟨b,rfl,Y,n1,n2,l1,l2,m1,m2,ad⟩:=qaQ t1;have u:=r _ _ Y
     have c:apL H ss tps [] xs=if ab.1∈seen\/ab.2∈seen then false else apL H ss tps (seen++[ab.1,ab.2]) (xs.drop (i+1)):=by
      rw[g];show(match qaA H ss tps (.ref b) with | none=>false | some ab=>_)=_;rw[U]
     apply yq ?_;apply .inl (zP u (v:=.str ab.1) (qv (j:=0) rfl) ?_);apply .inr (.inl ⟨d,_,rfl,DGet.k (k:=Sum.inr ab.1) (I _ _ A),?_⟩);rw[yC (by decide),ze];apply qG (fun D=>?_) fun D=>?_
     .ext;show zg ?_;apply s m r (by rw[c,yE (.inl (yk D))])
     .have N:ab.1∉seen:=fun e=>D (yH e);apply .inl (zP u (v:=.str ab.2) (qv (j:=1) rfl) ?_);apply .inr (.inl ⟨d,_,rfl,DGet.k (k:=Sum.inr ab.2) (I _ _ A),?_⟩);rw[yC (by decide),ze];apply qG (fun D=>?_) fun D=>?_
      .ext;show s m r (by rw[c,yE (.inr (yk D))])
      .have O:ab.2∉seen:=fun e=>D (yH e);rw[yC (fun h=>h.elim N O)] at c;apply .inl (zP u (v:=.str ab.1) (qv (j:=0) rfl) ?_);apply .inr ⟨d,_,rfl,DPut.k (k:=Sum.inr ab.1) (I _ _ A) (by unfold qaT;rw[ya,Yn];lk),?_⟩;rw[qaO N];have s3:=qaB r (o:=.dK (qaT (seen++[ab.1]))) M;have e3:upd m d (.dK (qaT (seen++[ab.1]))) d=some (.dK (qaT (seen++[ab.1]))):=qb;have Z:b≠d:=fun z=>by rw[z] at Y;rw[Y] at M;cases M
       have L:upd m d (.dK (qaT (seen++[ab.1]))) b=some (.tup [.str ab.1,.str ab.2]):=by rw[qf Z];show u
       generalize upd m d (.dK (qaT (seen++[ab.1])))=J3 at s3 e3 L;apply .inl (zP L (v:=.str ab.2) (qv (j:=1) rfl) ?_);apply .inr ⟨d,_,rfl,DPut.k (k:=Sum.inr ab.2) e3 (by unfold qaT;rw[ya,yt,Yn];simp only[yD,YN];lk),?_⟩;rw[qaO (fun z=>by rcases yA.mp z with z | z;show O z;show ad (yx.mp z).symm)];show⟨qaB s3 M,_,seen++[ab.1]++[ab.2],rfl,qb,by simp only[yt,yD,YN];lk,by rw[c,yZ];rfl⟩
   .obtain⟨G,y3,seen,rfl,A,ae,g⟩:=S;rw[XF] at g;ext;have:=q J G
    rwa[g] at this
  .have R:∀(a:Addr) (xs:List V),v=.ref a->H a≠some (.lst xs):=fun a xs e e'=>n ⟨a,xs,e,e'⟩;rw[qaR R] at q
   obtain⟨t,U,he,ty⟩:∃ t:String,t∈["NoneType","bool","int","str","list","tuple","dict"]/\qbs t "list"=false/\TyOf K H v (.type t):=by
    cases hv with
    | flat f l =>
     cases v with
     | non=>show⟨_,by simp,rfl,.non⟩
     | bl b=>show⟨"bool",by simp,rfl,.bl b⟩
     | int i=>show⟨"int",by simp,rfl,.int i⟩
     | str z=>show⟨"str",by simp,rfl,.str z⟩
     | _=>cases f
    | lst e ne h l=>show absurd e (R _ _ rfl)
    | tup e ne h l=>show⟨"tuple",by simp,rfl,.tup e⟩
    | dct e ne=>show⟨"dict",by simp,rfl,.dK e⟩
   show zw (.inl ty) rfl (jl K t U "list" (by simp)) ?_;rw[he];apply zg ?_;apply q H (Sr H)
def BdA(p cw:Addr)(H:Hp)(x:Addr)(ss:LS)(ns:LN)(tps:LP)(v:V):Prop:=WebAt cw H x ss ns/\Adj ss ns tps/\Th p H 3 v/\apV H ss tps v=false
inductive spPnB(cc:Nat->Addr)(cw:Addr)(vs:List V)(H:Hp)(u2_:VK)(E:XK):Prop|mk (p x:Addr) (ss:LS) (ns:LN) (tps:LP) (v:V) (_:vs=[.ref x,v]) (_:BdA p cw H x ss ns tps v) (_:Rz cc H E (0,v))
inductive spFiB(cc:Nat->Addr)(cw:Addr)(vs:List V)(H:Hp)(u2_:VK)(E:XK):Prop|mk (G:Hp) (p y dx x:Addr) (ss:LS) (ns:LN) (tps:LP) (v:V) (_:vs=[.ref y,.ref x,v]) (_:H y=some (.ins (cc 9) dx [])) (_:G y=none) (_:L2.Same G H) (_:BdA p cw G x ss ns tps v) (_:Rz cc G E (0,v))
theorem BdA.same(h:BdA p cw H x ss ns tps v)(s:L2.Same H H'):BdA p cw H' x ss ns tps v:=⟨h.1.same s,h.2.1,h.2.2.1.same s,(qaS h.2.2.1 s).trans h.2.2.2⟩
theorem ok_pnB(F:Fun K "partners_in" "partners_in" jK f fd)(T:Txt K mg cc cw)(m:XMakeOk P w K mg base 2 (cc 0) "NoPairs" ["self","found"] (spX (cc 0) (qe2 0)))(d:DefOk P w K mg base CX0 8 "are_pairs" ["web","thing"] (spApG cw)):FnOk P w K mg base (CX1 P w) 9 f fd ["web","pairs"] (spPnB cc cw):=by
 show F.ok1 Ki (fun vs H Q E h=>?_) fun _ _ _ _ H vs Q E c h=>?_
 .cases h;subst_vars;rfl
 .obtain⟨p,x,ss,ns,tps,v,rfl,⟨j,e,hv,b⟩,g⟩:=h;have a:=jZ c;show⟨_,(qc (qK (q8 (qQ (qq d (hmR c) qz (qa (pv 0) (qa (pv 1) qd))))) (qe (k_raise (K:=K) rfl qaI (pe_xm m (hmR c) (qa (pv 1) qd)))) qr)
 (qc (qo (i:=2) Ki.nd rfl (yJ rfl) jg)
 (qc (ju PassesOwn.leaving rfl (qW (K:=K) rfl (pv 1)) (qw (i:=3) Ki.nd rfl (yJ rfl))
 (qc (jD (qt (qu (K:=K) rfl a) (pv 3) qg (fun _ _=>rfl)) (jO (pv 2) (qt (qu (K:=K) rfl a) (pv 3) qg (fun _ _=>rfl)) (jQ a)))
 (qe (jD (qt (qu (K:=K) rfl a) (pv 3) qg (fun _ _=>rfl)) (jO (pv 2) (qt (qu (K:=K) rfl a) (pv 3) qg (fun _ _=>rfl)) (jQ a))))))
 (qe (qk (pv 2)))))),?_⟩
  apply⟨p,x,ss,ns,tps,v,rfl,j,e,hv,fun H1 l=>?_⟩;rw[b];apply zg ?_;apply raise_done (T.xat 0 (by decide)) (g.later l)
theorem ok_tpB(F:Fun K "told_pairs" "told_pairs" jp f fd)(T:Txt K mg cc cw)(d:DefOk P w K mg base (CX1 P w) 9 "partners_in" ["web","pairs"] (spPnB cc cw))(c:MethOk P w K mg base CX0 7 cw "ties" ["self"] (spTs cw)):FnOk P w K mg base (CX1 P w) 10 f fd ["web","pairs"] (spPnB cc cw):=by
 show F.ok1 Kz (fun vs H Q E h=>?_) fun _ _ _ _ H vs Q E b h=>?_
 .cases h;subst_vars;rfl
 .obtain⟨p,x,ss,ns,tps,v,rfl,g,e⟩:=h;have a:=jZ b;show⟨_,(qc (qo (i:=2) Kz.nd rfl (kg rfl) (qbP d (hmR b) qaI (qa (pv 0) (qa (pv 1) qd))))
 (qe (qk (jT (sc:=qh jp) (XN:=["web","pairs","partners"]) ["tie","partners"] 1 [2] rfl rfl rfl (by room) rfl (by room)
  (qW (K:=K) rfl (jm c (hmR b) (pv 0))) (fun _ _ _ _=>(qw (i:=0) (show(["tie","partners"]:LS).Nodup by room) rfl (yJ rfl))) jB
  (fun _ _ _ _=>(zk (qm (zE (K:=K) rfl a) (qad (qe0 a) (pv 1) (qt (qu (K:=K) rfl a) (pv 0) qg (fun _ _=>rfl)) ⟨rfl,rfl,rfl,rfl⟩) (qt (qu (K:=K) rfl a) (pv 0) qg (fun _ _=>rfl)) (qx _))))
  (fun _ _ _ _=>(pv 0)))))),?_⟩
  apply⟨p,x,ss,ns,tps,v,rfl,g,e⟩
theorem ok_gfB(F:Fun K "greatest_from" "greatest_from" jq f fd)(T:Txt K mg cc cw)(d:DefOk P w K mg base (CX1 P w) 10 "told_pairs" ["web","pairs"] (spPnB cc cw))(b:MakeOk P w K mg base (CX1 P w) 10 (cc 9) "Forest" ["self","web","pairs"] (spFiB cc cw))(c:MethOk P w K mg base CX0 1 (cc 9) "row" ["self"] (spFr cc cw))(j:DefOk P w K mg base CX0 12 "turned" ["web","pairs","row"] (spTu cw)):FnOk P w K mg base (CX1 P w) 13 f fd ["web","pairs"] (spPnB cc cw):=by
 show F.ok1 Kb (fun vs H Q E h=>?_) fun _ _ _ _ H vs Q E a h=>?_
 .cases h;subst_vars;rfl
 .obtain⟨p,x,ss,ns,tps,v,rfl,g,e⟩:=h;have l:=jZ a;show⟨_,(qc (qo (i:=2) Kb.nd rfl (yJ rfl) (qbP d (hmR a) qaI (qa (pv 0) (qa (pv 1) qd))))
 (qc (qo (i:=3) Kb.nd rfl (yJ rfl) (qI qd))
 (qc (qo (i:=4) Kb.nd rfl (yJ rfl) (jm c (hmR a) (qbQ b (hmR a) qaI (qa (pv 0) (qa (pv 2) qd)))))
 (qc (qaC PassesOwn.leaving (qm qcy (pv 4) j7 (qx _))
 (qc (qL (qbA (K:=K) rfl yN y8 y9 qS (pv 3) (qa (pv 4) qd)))
 (qc (qo (i:=2) Kb.nd rfl (yJ rfl) (qq j (hmR a) qz (qa (pv 0) (qa (pv 2) (qa (pv 4) qd)))))
 (qe (qo (i:=4) Kb.nd rfl (yJ rfl) (jm c (hmR a) (qbQ b (hmR a) qaI (qa (pv 0) (qa (pv 2) qd)))))))))
 (qe (qk (jP (qa (pv 2) (qa (pv 3) qd))))))))),?_⟩
  apply⟨p,x,ss,ns,tps,v,rfl,g,e⟩
theorem qeJ(F:Fun K "__init__" "Forest.__init__" jM f fd)(T:Txt K mg cc cw)(d:DefOk P w K mg base (CX1 P w) 9 "partners_in" ["web","pairs"] (spPnB cc cw))(c:MethOk P w K mg base CX0 8 (cc 9) "grow" ["self"] (spGw cc cw)):FnOk P w K mg base (CX1 P w) 10 f fd ["self","web","pairs"] (spFiB cc cw):=by
 show F.ok1 K5 (fun vs H Q E h=>?_) fun _ _ _ _ H vs Q E a h=>?_
 .cases h;subst_vars;rfl
 .obtain⟨G,p,y,dx,x,ss,ns,tps,v,rfl,j,g,l,i,e⟩:=h;have m:=jZ a;show⟨_,(qc (qV (K:=K) rfl (pv 0) (pv 1) rfl)
 (qc (qV (K:=K) rfl (pv 0) (qbP d (hmR a) qaI (qa (pv 1) (qa (pv 2) qd))) rfl)
 (qc (qV (K:=K) rfl (pv 0) jg rfl)
 (qc (qV (K:=K) rfl (pv 0) jg rfl)
 (qc (qV (K:=K) rfl (pv 0) jg rfl)
 (qc (qV (K:=K) rfl (pv 0) (qI qd) rfl)
 (qc (qV (K:=K) rfl (pv 0) (qI qd) rfl)
 (qc (qV (K:=K) rfl (pv 0) j7 rfl)
 (qe (qL (jm c (hmR a) (pv 0)))))))))))),?_⟩
  apply .inl ⟨y,cc 9,dx,_,rfl,j,T.fcl,T.fa _ (by decide),by decide,?_⟩;have b:L2.Same G (upd H y (.ins (cc 9) dx (qE "board" (.ref x) []))):=qaB l g;apply⟨p,x,ss,ns,tps,v,rfl,i.same b,e.later b⟩
theorem uH:FnScope ["_law_box_here","_law_some","_law_thing","_law_at"] ["_law_box_here","_law_some","_law_thing"] (qh qbW):=fS
inductive spOddG(vs:List V)(H:Hp)(Q:VK)(E:XK):Prop|mk (p:Addr) (_:vs=[.ref p]) (_:Box H p) (_:∀(v:V) (H':Hp),BB p H H'->Th p H' 1 v->Q v H')
inductive spPut(vs:List V)(H:Hp)(Q:VK)(E:XK):Prop|mk (p l:Addr) (xs:List V) (y:V) (_:vs=[.ref p,.ref l,y]) (_:Box H p) (_:H l=some (.lst xs)) (_:l≠p) (_:xs.length<=100) (_:∀(l':Addr) (ys:List V) (H':Hp),BB p H H'->H l'=none->H' l'=some (.lst ys)->l'≠p->(∀ z∈ys,z∈xs\/z=y)->ys.length<=2*xs.length+1->Q (.ref l') H')
theorem ok_oddG(F:Fun K "_law_odd" "_law_odd" qbm f fd)(Ka:DefOk P w K mg base CX0 1 "_law_take" ["_law_box_here","_law_many"] spTake):FnOk P w K mg base CX0 2 f fd ["_law_box_here"] spOddG:=by
 show F.ok uX fun _ A _ s H vs Q E D h=>?_
 .obtain⟨p,rfl,W,q⟩:=h;have hu:=jZ D;obtain⟨es,lp,q0,q2,j0,q3,q4,aa,ac,i,R⟩:=odd_parts;rw[i];show⟨_,(qe (qk (qt (qu (K:=K) rfl hu) (qI (R _ _ _ (fun _ _=>j7) (fun _ _ _=>qg) (fun _ _ _=>jz) (fun _ _ _=>jt) (fun _ _ _ h=>qI h) (fun _ _ _ _ h=>jP h) (fun _=>jg) (fun _ _ _ _=>qaX zM qg) qd fun _ _ _ _ ha D hs=>qa ha D hs)) (qq Ka (hmR D) qz (qa (pv 0) (qa qg qd))) (fun _ _=>rfl)))),?_⟩;apply⟨by show 1<=sizeLine;decide,fun l1 h1=>?_⟩;have j:=(BB.refl W).new (o:=.lst [.str "a"]) h1;have X:=W.apart h1;have f1:=h1;have a:upd H l1 (.lst [.str "a"]) l1=some (.lst [.str "a"]):=qb;generalize upd H l1 (.lst [.str "a"])=H1 at j a ⊢;apply⟨by show 2<=sizeLine;decide,fun J n=>?_⟩;have l:=j.new (o:=.tup [.str "a",.str "b"]) n;have Y:=j.apart n;have f2:=j.free n;have s2:=qN (Sr H1) (o:=.tup [.str "a",.str "b"]) n;have b:upd H1 J (.tup [.str "a",.str "b"]) J=some (.tup [.str "a",.str "b"]):=qb;replace a:=s2 _ _ a;generalize upd H1 J (.tup [.str "a",.str "b"])=H2 at l a b ⊢;clear s2 j n;ext;intro z t;have y:=l.new (o:=.dK []) t;have Z:=l.apart t;have f3:=l.free t;have T:=qN (Sr H2) (o:=.dK []) t;have c:upd H2 z (.dK []) z=some (.dK []):=qb;replace a:=T _ _ a;replace b:=T _ _ b;generalize upd H2 z (.dK [])=M at y a b c ⊢;clear T l t;apply vU ?_;apply⟨by show 10<=sizeLine;decide,fun L C=>?_⟩;generalize u:[V.non,V.int 0,V.bl true,V.str "",V.str "A",V.ref l1,V.ref J,V.ref z,V.int (-1),V.str "zzzzzzz"]=xs;have O:=y.new (o:=.lst xs) C;have n4:=y.apart C;have I:=qN (Sr M) (o:=.lst xs) C;have B:upd M L (.lst xs) L=some (.lst xs):=qb;replace a:=I _ _ a;replace b:=I _ _ b;replace c:=I _ _ c;generalize upd M L (.lst xs)=H4 at O a b c B ⊢;clear I y C;apply⟨p,10,rfl,O.2,by decide,by decide,fun r N r0 r1 m=>?_⟩;replace a:=m.1 _ _ X a;replace b:=m.1 _ _ Y b;replace c:=m.1 _ _ Z c;replace B:=m.1 _ _ n4 B;have hl:xs.length=10:=by rw[<- u];rfl
  obtain⟨v,ix,hv⟩:=qar (xs:=xs) r0 (by lk);show .inl (zv B ix ?_);have S:=ye hv;rw[<- u] at S;simp only[yv,yz,yU] at S;show q v N (O.trans m) ?_;have d:∀{v:V},jR v=true->(∀ s,v=.str s->s.length<=100000)->Th p N 1 v:=fun h g=>.flat h g;have U:∀{x:Str},x.length<=100000->Th p N 0 (.str x):=fun{x} h=>.flat rfl fun s e=>by cases e;show h
  rcases S with rfl | rfl | rfl | rfl | rfl | rfl | rfl | rfl | rfl | rfl
  .show d rfl fun s e=>by cases e
  .show d rfl fun s e=>by cases e
  .show d rfl fun s e=>by cases e
  .show d rfl fun s e=>by cases e;room
  .show d rfl fun s e=>by cases e;room
  .show .lst a X (fun x G=>by rw[yx.mp G];show U (by room)) (by decide)
  .show .tup b Y (fun x G=>?_) (by decide);simp only[yv,yz,yU] at G;rcases G with rfl | rfl<;>show U (by room)
  .show .dct c Z
  .show d rfl fun s e=>by cases e
  .show d rfl fun s e=>by cases e;room
theorem ok_put(F:Fun K "_law_put" "_law_put" qbW f fd)(T:Txt K mg cc cw)(N:DefOk P w K mg base CX0 1 "_law_take" ["_law_box_here","_law_many"] spTake):FnOk P w K mg base CX0 2 f fd ["_law_box_here","_law_some","_law_thing"] spPut:=by
 show F.ok uH fun _ _ _ _ H vs Q E L h=>?_
 .obtain⟨p,l,xs,y,rfl,hB,hl,U,few,q⟩:=h;have hu:=jZ L;show⟨_,(qc (qo (i:=3) uH.nd rfl (yJ rfl) (qq N (hmR L) qz (qa (pv 0) (qa (qH (jN (K:=K) rfl) (qp (zu (K:=K) rfl) rfl T.b_len YT (qa (pv 1) qd)) qg) qd))))
 (qe (qk (qH (jN (K:=K) rfl) (qH (jN (K:=K) rfl) (jx (qdy (K:=K) rfl) (pv 1) j6 (jk (pv 3))) (qI (qa (pv 2) qd))) (jx (qdy (K:=K) rfl) (pv 1) (jk (qH (jN (K:=K) rfl) (pv 3) (qq N (hmR L) qz (qa (pv 0) (qa qg qd))))) j6))))),?_⟩
  apply qaY hl ?_;apply⟨p,_,rfl,hB,by lk,by lk,fun r H1 r0 r1 v=>?_⟩;have d:=v.1 _ _ U hl;apply .inl ⟨l,xs,rfl,SqL.of d,fun e h1=>?_⟩;have x:=v.new (o:=.lst (qaw xs none (some r))) h1;have n1:=v.apart h1;have W:=qN (Sr H1) (o:=.lst (qaw xs none (some r))) h1;have c:upd H1 e (.lst (qaw xs none (some r))) e=some (.lst (qaw xs none (some r))):=qb;have a:=W _ _ d;generalize upd H1 e (.lst (qaw xs none (some r)))=H2 at x c a ⊢;clear W;apply⟨by show 1<=sizeLine;decide,fun g D=>?_⟩;have A:=x.new (o:=.lst [y]) D;have n2:=x.apart D;have M:=qN (Sr H2) (o:=.lst [y]) D;have R:upd H2 g (.lst [y]) g=some (.lst [y]):=qb;replace c:=M _ _ c;replace a:=M _ _ a;generalize upd H2 g (.lst [y])=s at A c R a ⊢;clear M;have c1:=zA xs none (some r);show .inl ⟨e,g,_,_,rfl,rfl,c,R,by show _+1<=sizeLine;show yX (qi (by lk)),fun j G=>?_⟩;have B:=A.new (o:=.lst (qaw xs none (some r)++[y])) G;have n3:=A.apart G;have X:=qN (Sr s) (o:=.lst (qaw xs none (some r)++[y])) G;have b:upd s j (.lst (qaw xs none (some r)++[y])) j=some (.lst (qaw xs none (some r)++[y])):=qb;replace a:=X _ _ a;generalize upd s j (.lst (qaw xs none (some r)++[y]))=H4 at B b a ⊢;clear X;apply⟨p,2,rfl,B.2,by decide,by decide,fun t u t0 t1 C=>?_⟩;have O:=B.trans C;replace b:=C.1 _ _ n3 b;replace a:=C.1 _ _ U a;apply .inl ⟨l,xs,rfl,SqL.of a,fun m I=>?_⟩;have c2:=zA xs (some (r+t)) none;have n:=O.new (o:=.lst (qaw xs (some (r+t)) none)) I;have n4:=O.apart I;have Y:=qN (Sr u) (o:=.lst (qaw xs (some (r+t)) none)) I;have S:upd u m (.lst (qaw xs (some (r+t)) none)) m=some (.lst (qaw xs (some (r+t)) none)):=qb;replace b:=Y _ _ b;generalize upd u m (.lst (qaw xs (some (r+t)) none))=H6 at n b S ⊢;clear Y;show .inl ⟨j,m,_,_,rfl,rfl,b,S,by rw[yt,Xa];show yX (qi (by lk)),fun Z J=>?_⟩;show q Z _ _ (n.new J) (n.free J) qb (n.apart J) (fun z hz=>?_) ?_
  .rcases yA.mp hz with hz | hz
   .rcases yA.mp hz with hz | hz
    .show .inl (qdV hz)
    .show .inr (yx.mp hz)
   .show .inl (qdV hz)
  .rw [yt,yt,Xa];lk
theorem Kx:FnScope ["_law_ties_here","_law_thing","_law_seen","_law_pair"] ["_law_ties_here","_law_thing"] (qh j9):=fS
structure TsG(ss:LS)(tps:LP):Prop where
 inn:∀ ab∈tps,ab.1∈ss/\ab.2∈ss/\ab.1≠ab.2
 nm:∀ s∈ss,jG s=true
theorem Th.ob(h:Th p H n v):ObV H v:=by
 cases h with
 | flat f l=>show .inl f
 | lst e ne h l=>show .inr ⟨_,_,rfl,e,rfl⟩
 | tup e ne h l=>show .inr ⟨_,_,rfl,e,rfl⟩
 | dct e ne=>show .inr ⟨_,_,rfl,e,rfl⟩
theorem qeK{x:Str}:eqS x v=true↔v=.str x:=by
 cases v with
 | str y=>show⟨fun h=>by rw[kc (show(x==y)=true from h)],fun h=>by cases h;show Y6 x⟩
 | _=>show⟨(fun h=>by cases h),fun h=>by cases h⟩
noncomputable def qdw(tps:LP)(u v:V):Bool:=tps.any fun t=>eqS t.1 u&&eqS t.2 v
theorem inTs_iff{u:V}:qdw tps u v=true↔∃ ab∈tps,u=.str ab.1/\v=.str ab.2:=by
 unfold qdw;rw[YB];constructor
 .rintro ⟨t,h1,a⟩;simp only[Yc,qeK] at a;show⟨t,h1,a.1,a.2⟩
 .rintro ⟨t,h1,a,b⟩;show⟨t,h1,by simp only[Yc,qeK];show⟨a,b⟩⟩
theorem TsG.yes{u:V}(g:TsG ss tps)(e:H t=some (.tup [u,v]))(h:qdw tps u v=true\/qdw tps v u=true):∃ ab,u=.str ab.1/\v=.str ab.2/\qaA H ss tps (.ref t)=some ab/\ab.1≠ab.2:=by
 have c:∀ ab:Str×Str,(ab∈tps\/(ab.2,ab.1)∈tps)->u=.str ab.1->v=.str ab.2->∃ ab,u=.str ab.1/\v=.str ab.2/\qaA H ss tps (.ref t)=some ab/\ab.1≠ab.2:=fun ab h1 a b=>by
  have ⟨m1,m2,ne⟩:ab.1∈ss/\ab.2∈ss/\ab.1≠ab.2:=h1.elim (fun z=>g.inn _ z) fun z=>⟨(g.inn _ z).2.1,(g.inn _ z).1,fun e=>(g.inn _ z).2.2 e.symm⟩;show⟨ab,a,b,?_,ne⟩;subst a b;unfold qaA
  have pl:∀{s},s∈ss->qas ss (.str s)=true:=fun{s} d=>by
   unfold qas;rw[yE (show qcO (.str s)=true from g.nm s d)];show yH d
  have pv:qcP ss (.str ab.1) (.str ab.2)=true:=by
   unfold qcP;rw[pl m1,pl m2];show(!decide (ab.1=ab.2))=true;rw[yl ne];rfl
  rw[qdl e,yE pv];show(if ((ab.1,ab.2)∈tps\/(ab.2,ab.1)∈tps) then some (ab.1,ab.2) else none)=some ab;rw[yE h1]
 rcases h with h | h
 .obtain⟨ab,h1,a,b⟩:=inTs_iff.mp h;show c ab (.inl h1) a b
 .obtain⟨ab,h1,a,b⟩:=inTs_iff.mp h;show c (ab.2,ab.1) (.inr h1) b a
theorem TsG.no{u:V}(e:H t=some (.tup [u,v]))(h1:qdw tps u v=false)(f:qdw tps v u=false):qaA H ss tps (.ref t)=none:=by
 cases h:qaA H ss tps (.ref t) with
 | none=>rfl
 | some ab =>
  obtain⟨g,t2⟩:=qbp h;obtain⟨b,d,c,_⟩:=qaQ g;cases d;rw[e] at c;have a:=HO.tup.inj (ym c);simp only[kR,and_true] at a;rcases t2 with t2 | t2
  .have:=inTs_iff.mpr ⟨ab,t2,a.1,a.2⟩;rw[h1] at this;cases this
  .have:=inTs_iff.mpr ⟨_,t2,a.2,a.1⟩;rw[f] at this;cases this
theorem qdn{x:V}(h:∀ a xs,x=.ref a->H a=some (.tup xs)->xs.length≠2):qaA H ss tps x=none:=by unfold qaA;rw[zJ h]
theorem qeL{tl b:Addr}{u:V}{Q:VK}(a:TL p H tl ts tps)(d:H b=some (.tup [u,v]))(g:ObV H u)(hv:ObV H v)(q:Q (.bl (!qdw tps u v)) H):qfq K (.ref b) (.ref tl) H Q:=by
 show .inr ⟨tl,b,ts.zip tps,u,v,rfl,rfl,?_,fun t f=>?_,d,g,hv,?_⟩
 .have e:(ts.zip tps).map (fun t=>V.ref t.1)=ts.map V.ref:=by
   have:(ts.zip tps).map (fun t=>V.ref t.1)=((ts.zip tps).map Prod.fst).map V.ref:=by rw[List.map_map];rfl
   rw[this,List.map_fst_zip (xT a.2.2.len)]
  rw[e];show .of a.1
 .obtain⟨i,c⟩:=yf f;rw[List.getElem?_zip_eq_some] at c;show(a.2.2.at_ i _ _ c.1 c.2).2
 .have e:((ts.zip tps).any fun t=>eqS t.2.1 u&&eqS t.2.2 v)=qdw tps u v:=by
   unfold qdw;have:tps=(ts.zip tps).map Prod.snd:=by rw[List.map_snd_zip (xT a.2.2.len.symm)]
   conv=>rhs;rw[this]
   rw[List.any_map];rfl
  rw[e];show q
inductive spApL(vs:List V)(H:Hp)(Q:VK)(E:XK):Prop|mk (p tl:Addr) (ss:LS) (ts:LQ) (tps:LP) (v:V) (_:vs=[.ref tl,v]) (_:TL p H tl ts tps) (_:TsG ss tps) (_:Th p H 3 v) (_:∀ H',L2.Same H H'->Q (.bl (apV H ss tps v)) H')
theorem ok_apL(F:Fun K "_law_are_pairs" "_law_are_pairs" j9 f fd)(T:Txt K mg cc cw):FnOk P w K mg base CX0 1 f fd ["_law_ties_here","_law_thing"] spApL:=by
 show F.ok Kx fun _ _ _ _ H vs Q E hr h=>?_
 .obtain⟨p,tl,ss,ts,tps,v,rfl,hT,hg,hv,q⟩:=h;have W:=jZ hr;show⟨_,(qc (qK (q8 (qQ (qp (zl (K:=K) rfl) rfl T.b_isinstance Yk (qa (pv 1) (qa (jh (v:=.ty "list") rfl T.b_list YY rfl) qd))))) (qe (qk jz)) qr)
 (qc (qo (i:=2) Kx.nd rfl (yJ rfl) (qI qd))
 (qc (ju yT rfl (qW (K:=K) rfl (pv 1)) (qw (i:=3) Kx.nd rfl (yJ rfl))
 (qc (qK (PW.pt (qav (q8 (qQ (qp (zl (K:=K) rfl) rfl T.b_isinstance Yk (qa (pv 3) (qa (jh (v:=.ty "tuple") rfl T.b_tuple kh rfl) qd))))) (qav (qm (qan (K:=K) rfl W) (qp (zu (K:=K) rfl) rfl T.b_len YT (qa (pv 3) qd)) qg (qx _)) (zR (PW.pt (qbc (qm (qdd (K:=K) rfl W) (pv 3) (pv 0) (by with_unfolding_all rfl)) (qau (qm (qdd (K:=K) rfl W) (qeB (K:=K) rfl (pv 3) (jk (qaX zM qg))) (pv 0) (by with_unfolding_all rfl))))))))) (qe (qk jz)) qr)
 (qc (qK (PW.pt (qav (qm (zU (K:=K) rfl W) (qt (qu (K:=K) rfl W) (pv 3) qg (fun _ _=>rfl)) (pv 2) (by with_unfolding_all rfl)) (zR (qm (zU (K:=K) rfl W) (qt (qu (K:=K) rfl W) (pv 3) qg (fun _ _=>rfl)) (pv 2) (by with_unfolding_all rfl))))) (qe (qk jz)) qr)
 (qe (qo (i:=2) Kx.nd rfl (yJ rfl) (qH (jN (K:=K) rfl) (pv 2) (ji (zV (K:=K) rfl rfl) rfl T.b_list YY (qa (pv 3) qd))))))))
 (qe (qk jz))))),?_⟩
  ext;by_cases C:∃ a xs,v=.ref a/\H a=some (.lst xs)
  .obtain⟨a,xs,rfl,N⟩:=C
   obtain⟨ah,ag,ai⟩:a≠p/\(∀ y∈xs,Th p H 2 y)/\xs.length<=1000:=by
    cases hv with
    | lst e ne h l=>rw[N] at e;cases e;show⟨ne,h,l⟩
    | tup e ne h l=>rw[N] at e;cases e
    | dct e ne=>rw[N] at e;cases e
    | flat f l=>cases f
   rw[qbq N] at q;show zw (.inl (.lst N)) rfl (jl K "list" (by simp) "list" (by simp)) ?_;apply yq ?_;apply⟨by show 0<=sizeLine;decide,fun d hd=>?_⟩;have s1:=qN (Sr H) (o:=.lst []) hd;have ed:upd H d (.lst []) d=some (.lst (([]:LS).map V.str)):=qb;generalize upd H d (.lst [])=H1 at s1 ed;apply .inl ⟨⟨_,.of (s1 _ _ N)⟩,jc (xs:=xs) (fun i σ J=>L2.Same H J/\∃ d y3 seen,σ=[some (.ref tl),some (.ref a),some (.ref d),y3]/\J d=some (.lst (seen.map V.str))/\seen.length=2*i/\apL H ss tps [] xs=apL H ss tps seen (xs.drop i)) ⟨s1,d,_,[],rfl,ed,rfl,rfl⟩ (fun i σ J _ Y=>.of (Y.1 _ _ N)) (fun i y σ J hy Y=>?_) fun σ J Y=>?_⟩
   .obtain⟨D,d,y3,seen,rfl,g,af,s⟩:=Y;have ad:i<xs.length:=(yc.mp hy).1
    have ac:xs.drop i=y::xs.drop (i+1):=by
     rw[Xi ad];have:=(yc.mp hy).2;rw[this]
    rw[ac] at s;have Z:=ag y (ye hy)
    have n:∀ G,L2.Same H G->apL H ss tps [] xs=false->Q (.bl false) G:=fun G x e=>by
     have:=q G x
     rwa[e] at this
    have none_stop:∀ G,L2.Same H G->qaA H ss tps y=none->Q (.bl false) G:=fun G x e=>n G x (by
     rw[s];show(match qaA H ss tps y with | none=>false | some ab=>_)=_;rw[e])
    obtain⟨t,U,ty,_,_,h1,h2,_⟩:=(Z.same D).ty (K:=K);apply zw (.inl ty) rfl (jl K t U "tuple" (by simp)) ?_;apply qG (fun h=>?_) fun h=>?_
    .show zg ?_;apply none_stop J D (qdn fun a' aa e z=>absurd (D _ _ z) (h2 (by simpa using h) a' aa e))
    .obtain⟨b,zs,rfl,m,_,hz⟩:=h1 (by simpa using h)
     have A:H b=some (.tup zs):=by
      cases Z with
      | lst e ne h l=>rw[D _ _ e] at m;cases m
      | tup e ne h l=>rw[D _ _ e] at m;cases m;show e
      | dct e ne=>rw[D _ _ e] at m;cases m
      | flat f l=>cases f
     apply qeT m ?_;apply .inl ⟨rfl,rfl,?_⟩;apply qG (fun h=>?_) fun h=>?_
     .show zg ?_;apply none_stop J D (qdn fun a' aa e z=>?_);cases e;rw[A] at z;cases z;intro e2;rw[e2] at h;simp[eqV] at h
     .have hl:zs.length=2:=by
       simp only[Xf,eqV,xE,Bool.not_eq_false'] at h;have h':((zs.length:Int)==2)=true:=by simpa using h
       have:=kc h';lk
      match zs,hl,m,A,hz with
      | [u,z],_,m,A,hz =>
       have I:=(hz u (by simp)).ob;have L:=(hz z (by simp)).ob;apply qeL (hT.same D) m I L ?_;apply qG (fun h1=>?_) fun h1=>?_
       .ext;show vU ?_;apply⟨rfl,b,_,_,rfl,SqT.of m,fun t2 h2=>?_⟩;have x:=qN D (o:=.tup [z,u]) h2;have M:=qN (Sr J) (o:=.tup [z,u]) h2;have e2:upd J t2 (.tup [z,u]) t2=some (.tup [z,u]):=qb;replace m:=M _ _ m;replace g:=M _ _ g;have I:=((hz u (by simp)).same M).ob;have L:=((hz z (by simp)).same M).ob;generalize upd J t2 (.tup [z,u])=G at x e2 m g I L;apply qeL (hT.same x) e2 L I ?_;apply qG (fun h3=>?_) fun h3=>?_
        .ext;show none_stop _ x (TsG.no A (by simpa using h1) (by simpa using h3))
        .have O:qdw tps u z=true\/qdw tps z u=true:=.inr (by simpa using h3);obtain⟨ab,rfl,rfl,U,ae⟩:=hg.yes A O
         have c:apL H ss tps [] xs=if ab.1∈seen\/ab.2∈seen then false else apL H ss tps (seen++[ab.1,ab.2]) (xs.drop (i+1)):=by
          rw[s];show(match qaA H ss tps (.ref b) with | none=>false | some ab=>_)=_;rw[U]
         apply .inl (zP m (v:=.str ab.1) (qv (j:=0) rfl) ?_);apply .inl ⟨d,_,rfl,.inl (SqL.of g),rfl,zX seen,?_⟩;rw[qaV,yC (by decide)];apply qG (fun r=>?_) fun r=>?_
         .show zg ?_;apply n _ x (by rw[c,yE (.inl (yk r))])
         .have R:ab.1∉seen:=fun e=>r (yH e);apply .inl (zP m (v:=.str ab.2) (qv (j:=1) rfl) ?_);apply .inl ⟨d,_,rfl,.inl (SqL.of g),rfl,zX seen,?_⟩;rw[qaV,yC (by decide)];apply qG (fun r=>?_) fun r=>?_
          .ext;show n _ x (by rw[c,yE (.inr (yk r))])
          .have S:ab.2∉seen:=fun e=>r (yH e);rw[yC (fun h=>h.elim R S)] at c;apply .inl ⟨b,_,rfl,.inr (.of m),fun l3 B=>?_⟩;have s3:=qN x (o:=.lst [.str ab.1,.str ab.2]) B;have e3:=qN (Sr _) (o:=.lst [.str ab.1,.str ab.2]) B _ _ g;show .inl ⟨d,l3,_,_,rfl,rfl,e3,qb,by rw[ya];show seen.length+2<=sizeLine;rw[Yn];lk,fun a4 h4=>?_⟩;show⟨qN s3 h4,a4,_,seen++[ab.1,ab.2],rfl,by rw[qb,yK];rfl,by rw[yt];show seen.length+2=_;lk,c⟩
       .rename L2.Same H J=>x
        have O:qdw tps u z=true\/qdw tps z u=true:=.inl (by simpa using h1);show yq ?_;obtain⟨ab,rfl,rfl,U,ae⟩:=hg.yes A O
        have c:apL H ss tps [] xs=if ab.1∈seen\/ab.2∈seen then false else apL H ss tps (seen++[ab.1,ab.2]) (xs.drop (i+1)):=by
         rw[s];show(match qaA H ss tps (.ref b) with | none=>false | some ab=>_)=_;rw[U]
        apply .inl (zP m (v:=.str ab.1) (qv (j:=0) rfl) ?_);apply .inl ⟨d,_,rfl,.inl (SqL.of g),rfl,zX seen,?_⟩;rw[qaV,yC (by decide)];apply qG (fun r=>?_) fun r=>?_
        .show zg ?_;apply n _ x (by rw[c,yE (.inl (yk r))])
        .have R:ab.1∉seen:=fun e=>r (yH e);apply .inl (zP m (v:=.str ab.2) (qv (j:=1) rfl) ?_);apply .inl ⟨d,_,rfl,.inl (SqL.of g),rfl,zX seen,?_⟩;rw[qaV,yC (by decide)];apply qG (fun r=>?_) fun r=>?_
         .ext;show n _ x (by rw[c,yE (.inr (yk r))])
         .have S:ab.2∉seen:=fun e=>r (yH e);rw[yC (fun h=>h.elim R S)] at c;apply .inl ⟨b,_,rfl,.inr (.of m),fun l3 B=>?_⟩;have s3:=qN x (o:=.lst [.str ab.1,.str ab.2]) B;have e3:=qN (Sr _) (o:=.lst [.str ab.1,.str ab.2]) B _ _ g;show .inl ⟨d,l3,_,_,rfl,rfl,e3,qb,by rw[ya];show seen.length+2<=sizeLine;rw[Yn];lk,fun a4 h4=>?_⟩;show⟨qN s3 h4,a4,_,seen++[ab.1,ab.2],rfl,by rw[qb,yK];rfl,by rw[yt];show seen.length+2=_;lk,c⟩
   .obtain⟨D,d,y3,seen,rfl,g,af,s⟩:=Y;rw[XF] at s;ext;have:=q J D
    rwa[s] at this
  .have X:∀(a:Addr) (xs:List V),v=.ref a->H a≠some (.lst xs):=fun a xs e e'=>C ⟨a,xs,e,e'⟩;rw[qaR X] at q
   obtain⟨t,U,he,ty⟩:∃ t:String,t∈["NoneType","bool","int","str","list","tuple","dict"]/\qbs t "list"=false/\TyOf K H v (.type t):=by
    cases hv with
    | flat f l =>
     cases v with
     | non=>show⟨_,by simp,rfl,.non⟩
     | bl b=>show⟨"bool",by simp,rfl,.bl b⟩
     | int i=>show⟨"int",by simp,rfl,.int i⟩
     | str z=>show⟨"str",by simp,rfl,.str z⟩
     | _=>cases f
    | lst e ne h l=>show absurd e (X _ _ rfl)
    | tup e ne h l=>show⟨"tuple",by simp,rfl,.tup e⟩
    | dct e ne=>show⟨"dict",by simp,rfl,.dK e⟩
   show zw (.inl ty) rfl (jl K t U "list" (by simp)) ?_;rw[he];apply zg ?_;apply q H (Sr H)
theorem Ks:FnScope ["_law_box_here","_law_names_here","_law_ties_here","_law_pairs","_law_one","_law_other","_law_odd_here","_law_some","_law_way"] ["_law_box_here","_law_names_here","_law_ties_here","_law_pairs"] (qh qal):=fS
theorem qcQ{i j:Int}{Q:VK}(q:Q (.bl (decide (i=j))) H):qfH K (.int i) (.int j) H Q:=.inl (.inl (.inl ⟨rfl,rfl,by
 have e:(if false=true then !eqV (V.int i) (V.int j) else eqV (V.int i) (V.int j))=decide (i=j):=by
  rw[yC (by decide)];unfold eqV;rw[YH,YG];show Ye
 rw[e];show q⟩))
theorem Th.kb(h:Th p H n v)(b:BB p H H'):Th p H' n v:=h.keep fun c o z e=>b.1 c o z e
theorem Th.txt{x:Str}(h:x.length<=64):Th p H n (.str x):=.flat rfl fun s e=>by cases e;lk
structure SpI(p n tl l:Addr)(ss:LS)(ts us:LQ)(tps qs:LP)(H J:Hp):Prop where
 b:BB p H J
 n:NL p J n ss
 t:TL p J tl ts tps
 l:TL p J l us qs
section
variable{p n tl l:Addr}{ss:LS}{ts us:LQ}{tps qs:LP}{H J J':Hp}
theorem SpI.bb(h:SpI p n tl l ss ts us tps qs H J)(b:BB p J J'):SpI p n tl l ss ts us tps qs H J':=⟨h.b.trans b,h.n.bb b,h.t.bb b,h.l.bb b⟩
theorem qdo(a:∀ s∈ss,s.length<=64)(hc:c.length<=64)(h:v∈ss.map V.str++[.str c]):∃ s,v=.str s/\s.length<=64:=by
 rcases yA.mp h with h | h
 .obtain⟨s,b,rfl⟩:=YI.mp h;show⟨s,rfl,a s b⟩
 .show⟨c,yx.mp h,hc⟩
theorem SpI.box(h:SpI p n tl l ss ts us tps qs H J):Box J p:=h.b.2
theorem SpI.nw(h:SpI p n tl l ss ts us tps qs H J){a:Addr}(e:J a=none):BB p J (upd J a o):=(BB.refl h.box).new e
theorem TL.th(h:TL p H l us qs)(d:∀ ab∈qs,ab.1.length<=64/\ab.2.length<=64)(hv:v∈us.map V.ref):Th p H 2 v:=by
 obtain⟨u,e,rfl⟩:=YI.mp hv;obtain⟨i,b⟩:=yf e;obtain⟨ab,a⟩:∃ ab,qs[i]?=some ab:=⟨_,yb (by rw[<- h.2.2.len];show(yc.mp b).1)⟩;obtain⟨f,g⟩:=h.2.2.at_ i u ab b a;have:=d ab (ye a);show .tup g f (fun x c=>?_) (by show 2<=1000;decide);simp only[yv,yz,yU] at c;rcases c with rfl | rfl
 .show .txt this.1
 .show .txt this.2
end
structure SpX(p n tl l:Addr)(ss:LS)(ts us:LQ)(tps qs:LP)(od:V)(xs:List V)(H J:Hp):Prop where
 s:SpI p n tl l ss ts us tps qs H J
 o:Th p J 1 od
 a:∀ x∈xs,Th p J 2 x
section
variable{p n tl l:Addr}{ss:LS}{ts us:LQ}{tps qs:LP}{od:V}{xs ys:List V}{H J J':Hp}{c:Addr}
theorem SpX.bb(h:SpX p n tl l ss ts us tps qs od xs H J)(b:BB p J J'):SpX p n tl l ss ts us tps qs od xs H J':=⟨h.s.bb b,h.o.kb b,fun x c=>(h.a x c).kb b⟩
theorem SpX.same(h:SpX p n tl l ss ts us tps qs od xs H J)(s:L2.Same J J'):SpX p n tl l ss ts us tps qs od xs H J':=h.bb ((BB.refl h.s.box).same s)
theorem SpX.tup(h:SpX p n tl l ss ts us tps qs od xs H J)(e:J c=none)(d:∀ y∈ys,Th p J 1 y)(hl:ys.length<=1000):SpX p n tl l ss ts us tps qs od (.ref c::xs) H (upd J c (.tup ys)):=by
 have b:=h.s.nw (o:=.tup ys) e;have h':=h.bb b;show⟨h'.s,h'.o,fun x hx=>?_⟩;rcases yv.mp hx with rfl | hx
 .show .tup qb (h.s.b.apart e) (fun y z=>(d y z).kb b) hl
 .show h'.a x hx
theorem SpX.lst(h:SpX p n tl l ss ts us tps qs od xs H J)(e:J c=none)(d:∀ y∈ys,Th p J 1 y)(hl:ys.length<=1000):SpX p n tl l ss ts us tps qs od (.ref c::xs) H (upd J c (.lst ys)):=by
 have b:=h.s.nw (o:=.lst ys) e;have h':=h.bb b;show⟨h'.s,h'.o,fun x hx=>?_⟩;rcases yv.mp hx with rfl | hx
 .show .lst qb (h.s.b.apart e) (fun y z=>(d y z).kb b) hl
 .show h'.a x hx
end
inductive spSpl(vs:List V)(H:Hp)(Q:VK)(E:XK):Prop|mk (p n tl l:Addr) (ss:LS) (ts us:LQ) (tps qs:LP) (_:vs=[.ref p,.ref n,.ref tl,.ref l]) (_:Box H p) (_:NL p H n ss) (_:NOk ss) (_:TL p H tl ts tps) (_:TL p H l us qs) (_:tps.length<=30) (_:qs.length<=30) (_:(∀ ab∈tps,ab.1∈ss/\ab.2∈ss)) (_:(∀ ab∈qs,ab.1∈ss/\ab.2∈ss)) (_:∀(v:V) (H':Hp),BB p H H'->Th p H' 3 v->(∀ a xs,v=.ref a->H' a=some (.lst xs)->(a=l\/H a=none)/\xs.length<=100)->Q v H')
theorem ok_spl(F:Fun K "_law_spoilt" "_law_spoilt" qal f fd)(T:Txt K mg cc cw)(Ka:DefOk P w K mg base CX0 1 "_law_take" ["_law_box_here","_law_many"] spTake)(u9:DefOk P w K mg base CX0 2 "_law_odd" ["_law_box_here"] spOddG)(uU:DefOk P w K mg base CX0 1 "_law_fresh" ["_law_names_here"] spFresh)(uL:DefOk P w K mg base CX0 2 "_law_put" ["_law_box_here","_law_some","_law_thing"] spPut):FnOk P w K mg base CX0 3 f fd ["_law_box_here","_law_names_here","_law_ties_here","_law_pairs"] spSpl:=by
 show F.ok Ks fun _ _ _ s H vs Q E N h=>?_
 .obtain⟨p,n,tl,l,ss,ts,us,tps,qs,rfl,hB,hN,ad,hT,hL,az,aw,ar,ap,q⟩:=h;have O:=jZ N;have S:SpI p n tl l ss ts us tps qs H H:=⟨BB.refl hB,hN,hT,hL⟩;have h6:∀ s∈ss,s.length<=64:=fun s hs=>by have:=(j5 (x:=.str s) (ad.nm s hs)).2.2;show yi this (by decide)
  have few:=ad.few;have ac:(ss.map V.str).length=ss.length:=ya ..;show⟨_,(qc (qo (i:=4) Ks.nd rfl (yJ rfl) (qt (qu (K:=K) rfl O) (qH (jN (K:=K) rfl) (pv 1) (qI (qa jt qd))) (qq Ka (hmR N) qz (qa (pv 0) (qa (qH (jN (K:=K) rfl) (qp (zu (K:=K) rfl) rfl T.b_len YT (qa (pv 1) qd)) qg) qd))) (fun _ _=>rfl)))
 (qc (qo (i:=5) Ks.nd rfl (yJ rfl) (qt (qu (K:=K) rfl O) (qH (jN (K:=K) rfl) (pv 1) (qI (qa jt qd))) (qq Ka (hmR N) qz (qa (pv 0) (qa (qH (jN (K:=K) rfl) (qp (zu (K:=K) rfl) rfl T.b_len YT (qa (pv 1) qd)) qg) qd))) (fun _ _=>rfl)))
 (qc (qo (i:=6) Ks.nd rfl (yJ rfl) (qq u9 (hmR N) qz (qa (pv 0) qd)))
 (qc (qo (i:=7) Ks.nd rfl (yJ rfl) (qI (qa (jP (qa (pv 4) (qa (pv 5) qd))) (qa (jP (qa (pv 4) (qa (pv 4) qd))) (qa (qI (qa (pv 4) (qa (pv 5) qd))) (qa (jP (qa (pv 4) (qa (pv 5) (qa (pv 4) qd)))) (qa (jP (qa (pv 4) qd)) (qa (jP (qa (pv 6) (qa (pv 4) qd))) (qa (jP (qa (pv 4) (qa (pv 6) qd))) (qa (pv 6) qd))))))))))
 (qc (qL (qbA (K:=K) rfl yN y8 y9 qS (pv 7) (qa (jP (qa (pv 4) (qa (qq uU (hmR N) qz (qa (pv 1) qd)) qd))) qd)))
 (qc (qo (i:=8) Ks.nd rfl (yJ rfl) (qq Ka (hmR N) qz (qa (pv 0) (qa qg qd))))
 (qc (qK (qm qdB (pv 8) qg (qx _)) (qe (qk (qq uL (hmR N) qz (qa (pv 0) (qa (pv 3) (qa (qt (qu (K:=K) rfl O) (pv 7) (pv 8) (fun _ _=>rfl)) qd)))))) qr)
 (qc (qK (PW.pt (qbc (qm (zE (K:=K) rfl O) (pv 8) qg (qx _)) (qau (qm (qan (K:=K) rfl O) (pv 3) (qI qd) (qx _))))) (qe (qk (qH (jN (K:=K) rfl) (pv 3) (qI (qa (pe_step (K:=K) rfl (qt (qu (K:=K) rfl O) (pv 3) (qq Ka (hmR N) qz (qa (pv 0) (qa (qp (zu (K:=K) rfl) rfl T.b_len YT (qa (pv 3) qd)) qd))) (fun _ _=>rfl)) (jk (qt (qu (K:=K) rfl O) (qI (qa qg (qa (qaX zM qg) qd))) (qq Ka (hmR N) qz (qa (pv 0) (qa qg qd))) (fun _ _=>rfl)))) qd))))) qr)
 (qc (qK (PW.pt (qbc (qm (zE (K:=K) rfl O) (pv 8) qg (qx _)) (qau (qm (qan (K:=K) rfl O) (pv 2) (qI qd) (qx _))))) (qe (qk (qq uL (hmR N) qz (qa (pv 0) (qa (pv 3) (qa (qt (qu (K:=K) rfl O) (pv 2) (qq Ka (hmR N) qz (qa (pv 0) (qa (qp (zu (K:=K) rfl) rfl T.b_len YT (qa (pv 2) qd)) qd))) (fun _ _=>rfl)) qd)))))) qr)
 (qc (qK (qm (zE (K:=K) rfl O) (pv 8) qg (qx _)) (qe (qk (qt (qu (K:=K) rfl O) (qI (qa (ji (k_tupleU (K:=K) rfl) rfl T.b_tuple kh (qa (pv 3) qd)) (qa j7 (qa jt (qa jg (qa qg (qa jz qd))))))) (qq Ka (hmR N) qz (qa (pv 0) (qa qg qd))) (fun _ _=>rfl)))) qr)
 (qe (qk (pv 3))))))))))))),?_⟩
  apply⟨by show 1<=sizeLine;decide,fun Z h1=>?_⟩;have b1:=S.nw (o:=.lst [.str "a"]) h1;have d:upd H Z (.lst [.str "a"]) Z=some (.lst [.str "a"]):=qb;replace S:=S.bb b1;generalize upd H Z (.lst [.str "a"])=H1 at S d;clear b1;show .inl ⟨n,Z,_,_,rfl,rfl,S.n.1,d,by rw[ya];show ss.length+1<=sizeLine;show yX (qi (by lk)),fun a2 h2=>?_⟩;have G:=S.nw (o:=.lst (ss.map V.str++[.str "a"])) h2;have n2:=S.b.apart h2;have c:upd H1 a2 (.lst (ss.map V.str++[.str "a"])) a2=some (.lst (ss.map V.str++[.str "a"])):=qb;replace S:=S.bb G;generalize upd H1 a2 (.lst (ss.map V.str++[.str "a"]))=H2 at S c;clear G d;apply qaY S.n.1 ?_;apply⟨p,_,rfl,S.box,by lk,by lk,fun r1 H3 ax bh I=>?_⟩;replace S:=S.bb I;replace c:=I.1 _ _ n2 c;obtain⟨v1,al,af⟩:=qar (xs:=ss.map V.str++[V.str "a"]) ax (by rw[yt,ac];show r1<((ss.length+1:Nat):Int);lk);obtain⟨one,rfl,l1⟩:=qdo h6 (by room) (ye af);show .inl (zv c al ?_);clear c I al af;apply⟨by show 1<=sizeLine;decide,fun Z h1=>?_⟩;have b1:=S.nw (o:=.lst [.str "b"]) h1;have d:upd H3 Z (.lst [.str "b"]) Z=some (.lst [.str "b"]):=qb;replace S:=S.bb b1;generalize upd H3 Z (.lst [.str "b"])=H4 at S d;clear b1;show .inl ⟨n,Z,_,_,rfl,rfl,S.n.1,d,by rw[ya];show ss.length+1<=sizeLine;show yX (qi (by lk)),fun a2 h2=>?_⟩;have G:=S.nw (o:=.lst (ss.map V.str++[.str "b"])) h2;have n2:=S.b.apart h2;have c:upd H4 a2 (.lst (ss.map V.str++[.str "b"])) a2=some (.lst (ss.map V.str++[.str "b"])):=qb;replace S:=S.bb G;generalize upd H4 a2 (.lst (ss.map V.str++[.str "b"]))=H5 at S c;clear G d;apply qaY S.n.1 ?_;apply⟨p,_,rfl,S.box,by lk,by lk,fun r2 H6 aq ay I=>?_⟩;replace S:=S.bb I;replace c:=I.1 _ _ n2 c;obtain⟨v2,am,ag⟩:=qar (xs:=ss.map V.str++[V.str "b"]) aq (by rw[yt,ac];show r2<((ss.length+1:Nat):Int);lk);obtain⟨u,rfl,l2⟩:=qdo h6 (by room) (ye ag);show .inl (zv c am ?_);clear c I am ag;apply⟨p,rfl,S.box,fun od H7 b7 ho=>?_⟩;replace S:=S.bb b7;clear b7;have t1:∀{J:Hp} {k:Nat},Th p J k (.str one):=.txt l1;have g:∀{J:Hp} {k:Nat},Th p J k (.str u):=.txt l2;ext;have X:SpX p n tl l ss ts us tps qs od [od] H H7:=⟨S,ho,fun x hx=>by rw[yx.mp hx];show ho.mono⟩;clear S ho;show⟨by show 2<=sizeLine;decide,fun c1 g1=>?_⟩;replace X:=X.tup (ys:=[.str one,.str u]) g1 (fun y hy=>by simp only[yv,yz,yU] at hy;rcases hy with rfl | rfl<;>first | show t1 | show g | show X.o) (by show 2<=1000;decide);generalize upd H7 c1 (.tup [.str one,.str u])=J1 at X;apply⟨by show 2<=sizeLine;decide,fun c2 g2=>?_⟩;replace X:=X.tup (ys:=[.str one,.str one]) g2 (fun y hy=>by simp only[yv,yz,yU] at hy;rcases hy with rfl | rfl<;>first | show t1 | show g | show X.o) (by show 2<=1000;decide);generalize upd J1 c2 (.tup [.str one,.str one])=J2 at X;apply⟨by show 2<=sizeLine;decide,fun c3 g3=>?_⟩;replace X:=X.lst (ys:=[.str one,.str u]) g3 (fun y hy=>by simp only[yv,yz,yU] at hy;rcases hy with rfl | rfl<;>first | show t1 | show g | show X.o) (by show 2<=1000;decide);generalize upd J2 c3 (.lst [.str one,.str u])=J3 at X;apply⟨by show 3<=sizeLine;decide,fun c4 g4=>?_⟩;replace X:=X.tup (ys:=[.str one,.str u,.str one]) g4 (fun y hy=>by simp only[yv,yz,yU] at hy;rcases hy with rfl | rfl | rfl<;>first | show t1 | show g | show X.o) (by show 3<=1000;decide);generalize upd J3 c4 (.tup [.str one,.str u,.str one])=J4 at X;apply⟨by show 1<=sizeLine;decide,fun c5 g5=>?_⟩;replace X:=X.tup (ys:=[.str one]) g5 (fun y hy=>by simp only[yv,yz,yU] at hy;rcases hy with rfl<;>first | show t1 | show g | show X.o) (by show 1<=1000;decide);generalize upd J4 c5 (.tup [.str one])=J5 at X;apply⟨by show 2<=sizeLine;decide,fun c6 g6=>?_⟩;replace X:=X.tup (ys:=[od,.str one]) g6 (fun y hy=>by simp only[yv,yz,yU] at hy;rcases hy with rfl | rfl<;>first | show t1 | show g | show X.o) (by show 2<=1000;decide);generalize upd J5 c6 (.tup [od,.str one])=J6 at X;apply⟨by show 2<=sizeLine;decide,fun c7 g7=>?_⟩;replace X:=X.tup (ys:=[.str one,od]) g7 (fun y hy=>by simp only[yv,yz,yU] at hy;rcases hy with rfl | rfl<;>first | show t1 | show g | show X.o) (by show 2<=1000;decide);generalize upd J6 c7 (.tup [.str one,od])=J7 at X;apply⟨by show 8<=sizeLine;decide,fun L gL=>?_⟩;generalize aj:[V.ref c1,V.ref c2,V.ref c3,V.ref c4,V.ref c5,V.ref c6,V.ref c7,od]=xs;have ah:xs.length=8:=by rw[<- aj];rfl
  have ai:∀ x∈xs,x∈[V.ref c7,V.ref c6,V.ref c5,V.ref c4,V.ref c3,V.ref c2,V.ref c1,od]:=fun x hx=>by
   rw[<- aj] at hx;simp only[yv,yz,yU] at hx ⊢;rcases hx with h | h | h | h | h | h | h | h<;>simp only[h,true_or,or_true]
  have D:=qN (Sr J7) (o:=.lst xs) gL;have nL:=X.s.b.apart gL;have m:upd J7 L (.lst xs) L=some (.lst xs):=qb;generalize upd J7 L (.lst xs)=J8 at D m;apply⟨.inl ⟨rfl,_,SqL.of m⟩,?_⟩;apply⟨n,ss,rfl,(X.same D).s.n.1,few,fun fr J9 s2 as _=>?_⟩;replace m:=s2 _ _ m;replace D:=D.trans s2;clear s2;apply⟨by show 2<=sizeLine;decide,fun A g9=>?_⟩;have n9:=(X.same D).s.b.apart g9;have ao:A≠L:=fun z=>by rw[z,m] at g9;cases g9
  replace D:=qN D (o:=.tup [.str one,.str fr]) g9;replace m:=qN (Sr J9) (o:=.tup [.str one,.str fr]) g9 _ _ m;have e9:upd J9 A (.tup [.str one,.str fr]) A=some (.tup [.str one,.str fr]):=qb;generalize upd J9 A (.tup [.str one,.str fr])=J10 at D m e9;apply⟨L,_,_,rfl,rfl,m,by rw[ah];show qi (by decide),?_⟩;replace D:=qaB D (o:=.lst (xs++[.ref A])) gL;replace e9:upd J10 L (.lst (xs++[.ref A])) A=some (.tup [.str one,.str fr]):=by rw[qf ao];show e9
  replace m:upd J10 L (.lst (xs++[.ref A])) L=some (.lst (xs++[.ref A])):=qb;generalize upd J10 L (.lst (xs++[.ref A]))=J11 at D m e9;replace X:=X.same D;clear D;apply⟨p,14,rfl,X.s.box,by decide,by decide,fun wy J12 w0 w1 M=>?_⟩;replace X:=X.bb M;replace m:=M.1 _ _ nL m;replace e9:=M.1 _ _ n9 e9;clear M
  have t9:Th p J12 2 (.ref A):=.tup e9 n9 (fun y hy=>by
   simp only[yv,yz,yU] at hy;rcases hy with rfl | rfl
   .show t1
   .show .txt (yi (j5 (x:=.str fr) as).2.2 (by decide))) (by show 2<=1000;decide)
  have tz:∀ x∈xs++[V.ref A],Th p J12 2 x:=fun x hx=>by
   rcases yA.mp hx with hx | hx
   .show X.a x (ai x hx)
   .rw [yx.mp hx];show t9
  have av:(xs++[V.ref A]).length=9:=by rw[yt,ah];rfl
  generalize xs++[V.ref A]=zs at m tz av;clear e9 t9 ai n9 ao;have S:=X.s;clear X;have bf:(us.map V.ref).length<=30:=by rw[ya,hL.2.2.len];show aw
  have be:(ts.map V.ref).length<=30:=by rw[ya,hT.2.2.len];show az
  have W:∀ ab∈qs,ab.1.length<=64/\ab.2.length<=64:=fun ab h=>⟨h6 _ (ap ab h).1,h6 _ (ap ab h).2⟩;have tn:∀ ab∈tps,ab.1.length<=64/\ab.2.length<=64:=fun ab h=>⟨h6 _ (ar ab h).1,h6 _ (ar ab h).2⟩
  have C:∀(J:Hp) (l':Addr) (ys:List V),SpI p n tl l ss ts us tps qs H J->(l'=l\/H l'=none)->J l'=some (.lst ys)->l'≠p->(∀ y∈ys,Th p J 2 y)->ys.length<=100->Q (.ref l') J:=fun J l' ys S' hl e nl hy hn =>
   q _ _ S'.b (.lst e nl hy (by lk)) fun a zs ea ez=>by cases ea;rw[e] at ez;cases ez;show⟨hl,hn⟩
  have put:∀(J:Hp) (v:V) (E':XK),SpI p n tl l ss ts us tps qs H J->Th p J 2 v->spPut [.ref p,.ref l,v] J (fun x H'=>Q x H') E':=fun J v E' S' hv =>
   ⟨p,l,_,v,rfl,S'.box,S'.l.1,S'.l.2.1,by lk,fun l' ys J' b f e nl hm hn=>C J' l' ys (S'.bb b) (.inr (S'.b.free f)) e nl (fun y hy=>(hm y hy).elim (fun z=>(S'.l.th W z).kb b) fun z=>by rw[z];show hv.kb b) (by lk)⟩
  apply qG (fun h9=>?_) fun h9=>?_
  .have h9:=yk h9;obtain⟨v,ix,hv⟩:=qar (xs:=zs) w0 (by lk);apply .inl (zv m ix ?_);apply put _ v _ S (tz v (ye hv))
  .ext;show qcQ ?_;apply qG (fun h=>?_) fun bd=>?_
   .have h:=yk h;apply⟨by decide,fun z hz=>?_⟩;replace S:=S.bb (S.nw (o:=.lst []) hz);have ez:upd J12 z (.lst []) z=some (.lst []):=qb;generalize upd J12 z (.lst [])=J13 at S ez;show qdX S.l.1 ez ?_;apply qG (fun R=>?_) fun R=>?_
    .have ae:0<us.length:=by cases us with
      | nil=>cases R
      | cons=>show Nat.succ_pos _
     apply qaY S.l.1 ?_;apply⟨p,_,rfl,S.box,by rw[ya];lk,by lk,fun r J14 r0 r1 b=>?_⟩;replace S:=S.bb b;rw[ya] at r1;obtain⟨v,ix,hv⟩:=qar (xs:=us.map V.ref) r0 (by rw[ya];show r1);show .inl (zv S.l.1 ix ?_);rw[yd] at hv;obtain⟨t,ht,rfl⟩:=yn.mp hv;obtain⟨ab,aa⟩:∃ ab,qs[r.toNat]?=some ab:=⟨_,yb (by rw[<- S.l.2.2.len];show(yc.mp ht).1)⟩;have an:=ye aa;apply vU ?_;apply⟨by show 2<=sizeLine;decide,fun k1 f1=>?_⟩;have nk:=S.b.apart f1;replace S:=S.bb (S.nw (o:=.lst [.int 1,.int (-1)]) f1);have ek:upd J14 k1 (.lst [.int 1,.int (-1)]) k1=some (.lst [.int 1,.int (-1)]):=qb;generalize upd J14 k1 (.lst [.int 1,.int (-1)])=J15 at S ek;apply⟨p,2,rfl,S.box,by decide,by decide,fun r2 J16 aq ay G=>?_⟩;replace S:=S.bb G;replace ek:=G.1 _ _ nk ek;have et:=S.l.2.2.at_ _ t ab ht aa;have au:r2=0\/r2=1:=by lk
     rcases au with rfl | rfl
     .show .inl (zv (v:=.int 1) ek (qv (j:=0) rfl) ?_);show⟨_,rfl,t,_,_,rfl,SqT.of et.2,.inr ⟨rfl,?_⟩⟩;ext;have Y:Th p J16 2 (.ref t):=S.l.th W (List.mem_map_of_mem (ye ht));show⟨by show 1<=sizeLine;decide,fun B f2=>?_⟩;have b4:=S.nw (o:=.lst [.ref t]) f2;have e4:upd J16 B (.lst [.ref t]) B=some (.lst [.ref t]):=qb;replace Y:=Y.kb b4;replace S:=S.bb b4;generalize upd J16 B (.lst [.ref t])=J18 at S e4 Y;clear b4;show .inl ⟨l,B,_,_,rfl,rfl,S.l.1,e4,by show(us.map V.ref).length+1<=sizeLine;show yX (qi (by lk)),fun k3 U=>?_⟩;have M:=S.nw (o:=.lst (us.map V.ref++[.ref t])) U;show C _ k3 _ (S.bb M) (.inr (S.b.free U)) qb (S.b.apart U) (fun y hy=>?_) (by rw[yt];show(us.map V.ref).length+1<=100;lk);rcases yA.mp hy with hy | hy
      .show(S.l.th W hy).kb M
      .rw [yx.mp hy];show Y.kb M
     .show .inl (zv (v:=.int (-1)) ek (qv (j:=1) rfl) ?_);show⟨_,rfl,t,_,_,rfl,SqT.of et.2,.inl ⟨rfl,fun g h2=>?_⟩⟩
      have Y:Th p (upd J16 g (.tup [.str ab.2,.str ab.1])) 2 (.ref g):=.tup qb (S.b.apart h2) (fun x hx=>by
       simp only[yv,yz,yU] at hx;rcases hx with rfl | rfl
       .show .txt (W ab an).2
       .show .txt (W ab an).1) (by show 2<=1000;decide)
      replace S:=S.bb (S.nw (o:=.tup [.str ab.2,.str ab.1]) h2);generalize upd J16 g (.tup [.str ab.2,.str ab.1])=J17 at S Y;apply⟨by show 1<=sizeLine;decide,fun B f2=>?_⟩;have b4:=S.nw (o:=.lst [.ref g]) f2;have e4:upd J17 B (.lst [.ref g]) B=some (.lst [.ref g]):=qb;replace Y:=Y.kb b4;replace S:=S.bb b4;generalize upd J17 B (.lst [.ref g])=J18 at S e4 Y;clear b4;show .inl ⟨l,B,_,_,rfl,rfl,S.l.1,e4,by show(us.map V.ref).length+1<=sizeLine;show yX (qi (by lk)),fun k3 U=>?_⟩;have M:=S.nw (o:=.lst (us.map V.ref++[.ref g])) U;show C _ k3 _ (S.bb M) (.inr (S.b.free U)) qb (S.b.apart U) (fun y hy=>?_) (by rw[yt];show(us.map V.ref).length+1<=100;lk);rcases yA.mp hy with hy | hy
      .show(S.l.th W hy).kb M
      .rw [yx.mp hy];show Y.kb M
    .ext;show qcQ ?_;apply qG (fun h'=>absurd (yk h') (by lk)) fun _=>?_;show yq ?_;apply qcQ ?_;apply qG (fun h'=>absurd (yk h') (by lk)) fun _=>?_;apply C _ l _ S (.inl rfl) S.l.1 S.l.2.1 (fun y hy=>S.l.th W hy) (by lk)
   .show yq ?_;apply qcQ ?_;apply qG (fun h=>?_) fun ba=>?_
    .have h:=yk h;apply⟨by decide,fun z hz=>?_⟩;replace S:=S.bb (S.nw (o:=.lst []) hz);have ez:upd J12 z (.lst []) z=some (.lst []):=qb;generalize upd J12 z (.lst [])=J13 at S ez;show qdX S.t.1 ez ?_;apply qG (fun R=>?_) fun R=>?_
     .have ae:0<ts.length:=by cases ts with
       | nil=>cases R
       | cons=>show Nat.succ_pos _
      apply qaY S.t.1 ?_;apply⟨p,_,rfl,S.box,by rw[ya];lk,by lk,fun r J14 r0 r1 b=>?_⟩;replace S:=S.bb b;rw[ya] at r1;obtain⟨v,ix,hv⟩:=qar (xs:=ts.map V.ref) r0 (by rw[ya];show r1);show .inl (zv S.t.1 ix ?_);apply put _ v _ S (S.t.th tn (ye hv))
     .ext;show qcQ ?_;apply qG (fun h'=>absurd (yk h') (by lk)) fun _=>?_;apply C _ l _ S (.inl rfl) S.l.1 S.l.2.1 (fun y hy=>S.l.th W hy) (by lk)
    .show yq ?_;apply qcQ ?_;apply qG (fun h=>?_) fun bc=>?_
     .ext;show⟨l,_,rfl,.inl ⟨SqL.of S.l.1,fun k1 f1=>?_⟩⟩;have n1:=S.b.apart f1;have b1:=S.nw (o:=.tup (us.map V.ref)) f1;have d:upd J12 k1 (.tup (us.map V.ref)) k1=some (.tup (us.map V.ref)):=qb;replace S:=S.bb b1;generalize upd J12 k1 (.tup (us.map V.ref))=J13 at S d;clear b1;ext;intro B f2;have n2:=S.b.apart f2;have G:=S.nw (o:=.dK []) f2;have c:upd J13 B (.dK []) B=some (.dK []):=qb;replace d:=G.1 _ _ n1 d;replace S:=S.bb G;generalize upd J13 B (.dK [])=J14 at S d c;clear G;apply⟨by show 6<=sizeLine;decide,fun k3 U=>?_⟩;have n3:=S.b.apart U;generalize ak:[V.ref k1,V.non,V.str "ab",V.ref B,V.int 7,V.bl true]=ys;have I:=S.nw (o:=.lst ys) U;have e3:upd J14 k3 (.lst ys) k3=some (.lst ys):=qb;replace d:=I.1 _ _ n1 d;replace c:=I.1 _ _ n2 c;replace S:=S.bb I;generalize upd J14 k3 (.lst ys)=J15 at S d c e3;clear I;apply⟨p,6,rfl,S.box,by decide,by decide,fun r J16 r0 r1 b=>?_⟩;replace S:=S.bb b;replace d:=b.1 _ _ n1 d;replace c:=b.1 _ _ n2 c;replace e3:=b.1 _ _ n3 e3;have bg:ys.length=6:=by rw[<- ak];rfl
      obtain⟨v,ix,hv⟩:=qar (xs:=ys) r0 (by lk);show .inl (zv e3 ix ?_);have hm:=ye hv;rw[<- ak] at hm;simp only[yv,yz,yU] at hm
      have no:∀{a:Addr} {o:HO},J16 a=some o->(∀ xs,o≠.lst xs)->∀(a':Addr) (xs:List V),V.ref a=.ref a'->J16 a'=some (.lst xs)->(a'=l\/H a'=none)/\xs.length<=100:=fun d c a' xs z z'=>by
       cases z;rw[d] at z';show absurd (ym z') (c xs)
      rcases hm with rfl | rfl | rfl | rfl | rfl | rfl
      .show q _ _ S.b (.tup d n1 (fun y hy=>S.l.th W hy) (by lk)) (no d fun xs z=>by cases z)
      .show q _ _ S.b (.flat rfl fun s e=>by cases e) fun a xs z=>by cases z
      .show q _ _ S.b (.flat rfl fun s e=>by cases e;room) fun a xs z=>by cases z
      .show q _ _ S.b (.dct c n2) (no c fun xs z=>by cases z)
      .show q _ _ S.b (.flat rfl fun s e=>by cases e) fun a xs z=>by cases z
      .show q _ _ S.b (.flat rfl fun s e=>by cases e) fun a xs z=>by cases z
     .ext;show C _ l _ S (.inl rfl) S.l.1 S.l.2.1 (fun y hy=>S.l.th W hy) (by lk)
theorem Kw:FnScope ["_law_web","_law_way","_law_thing","_law_told","e","_law_same"] ["_law_web","_law_way","_law_thing"] (qh zL):=fS
theorem qbr(h:jR v=true):eqV v v=true:=by cases v<;>first | rfl | show Y6 _ | cases h
theorem qbX(h:jR v=true\/∃ a,v=.ref a):EqD K H n v v true:=by
 rcases h with h | ⟨a,rfl⟩
 .have:=EqD.flat (K:=K) (H:=H) (n:=n) h h
  rwa[qbr h] at this
 .show .self
theorem qeg(h:ObV H v):jR v=true\/∃ a,v=.ref a:=h.imp id fun⟨a,_,e,_⟩=>⟨a,e⟩
theorem qdp{a:Addr}{Q:VK}(e:H a=some (.lst xs))(h:∀ x∈xs,jR x=true\/∃ a,x=.ref a)(q:Q (.bl (!neg)) H):qed K neg (.ref a) (.ref a) H Q:=by
 show .inr (.inl ⟨a,a,true,1,rfl,rfl,by decide,?_,by cases neg<;>show q⟩)
 have z:=EqT.lst (K:=K) (n:=0) (e:=fun _=>true) (SqL.of e) (SqL.of e) rfl fun j x y b c=>by
  rw[b] at c;cases c;show qbX (h x (ye b))
 have d:((List.range xs.length).all fun _=>true)=true:=by simp
 rwa[d] at z
theorem Th.eqU{Q:VK}(h:Th p H n v)(q:Q (.bl (!neg)) H):qed K neg v v H Q:=by
 cases h with
 | flat f l=>show .inl ⟨f,f,by rw[qbr f];cases neg<;>show q⟩
 | lst e ne h l=>show qdp e (fun x b=>qeg (h x b).ob) q
 | @tup _ a xs e ne h l =>
  show .inr (.inl ⟨a,a,true,1,rfl,rfl,by decide,?_,by cases neg<;>show q⟩)
  have z:=EqT.tup (K:=K) (n:=0) (e:=fun _=>true) (SqT.of e) (SqT.of e) fun j x y b c=>by
   rw[b] at c;cases c;show qbX (qeg (h x (ye b)).ob)
  have d:(((List.range (min xs.length xs.length)).all fun _=>true)&&xs.length==xs.length)=true:=by simp
  rwa[d] at z
 | dct e ne=>show .inr (.inr ⟨_,_,rfl,rfl,e,q⟩)
theorem qdq:∀{xs:List V} {seen:LS},apL H ss tps seen xs=true->∃(us:LQ) (qs:LP),xs=us.map V.ref/\All2 (fun t ab=>H t=some (.tup [.str ab.1,.str ab.2])) us qs/\(∀ q∈qs,(q∈tps\/(q.2,q.1)∈tps)/\q.1∈ss/\q.2∈ss/\q.1≠q.2)/\(qj qs).Nodup/\∀ x∈qj qs,x∉seen
 | [],_,_=>⟨[],[],rfl,All2.nil,(fun q h=>by cases h),kX,fun x h=>by cases h⟩
 | x::r,seen,h=>by
  have h:(match qaA H ss tps x with | none=>false | some ab=>if ab.1∈seen\/ab.2∈seen then false else apL H ss tps (seen++[ab.1,ab.2]) r)=true:=h
  cases c:qaA H ss tps x with
  | none=>rw[c] at h;cases h
  | some ab =>
   rw[c] at h;dsimp only at h;split at h
   .cases h
   .rename_i hs
    obtain⟨us,qs,e,g,l,m,d⟩:=qdq h;obtain⟨o,p⟩:=qbp c;obtain⟨a,rfl,i,_,_,_,_,m1,n,b⟩:=qaQ o;show⟨a::us,ab::qs,by rw[e];rfl,⟨by rw[yD,yD,g.len],fun j t q h1 f=>?_⟩,fun q hq=>?_,?_,fun y hy=>?_⟩
    .cases j with
     | zero=>cases h1;cases f;show i
     | succ j=>show g.at_ j t q (by simpa using h1) (by simpa using f)
    .rcases yv.mp hq with rfl | hq
     .show⟨p,m1,n,b⟩
     .show l q hq
    .have k:∀ y∈qj qs,y≠ab.1/\y≠ab.2:=fun y hy=>⟨fun e=>d y hy (by rw[e];simp),fun e=>d y hy (by rw[e];simp)⟩;show(ab.1::ab.2::qj qs).Nodup;show yo.mpr ⟨fun z=>?_,yo.mpr ⟨fun z=>(k _ z).2 rfl,m⟩⟩;rcases yv.mp z with z | z
     .show b z
     .show(k _ z).1 rfl
    .rcases yv.mp (show y∈ab.1::ab.2::qj qs from hy) with rfl | hy
     .show fun z=>hs (.inl z)
     .rcases yv.mp hy with rfl | hy
      .show fun z=>hs (.inr z)
      .show fun z=>d y hy (yA.mpr (.inl z))
theorem qfv(W:Wt cw H x ss ns tps)(h:apV H ss tps v=true):∃(a:Addr) (us:LQ) (qs:LP),v=.ref a/\PL H a us qs/\PGo ss tps qs:=by
 unfold apV at h;split at h
 .rename_i a
  split at h
  .rename_i xs e
   obtain⟨us,qs,rfl,g,c,d,_⟩:=qdq h;show⟨a,us,qs,rfl,⟨e,g⟩,⟨c,d,?_⟩⟩
   have h1:=j3 (l:=qj qs) (m:=ss) d fun y b=>by
    obtain⟨q,f,b⟩:=xt.mp b;simp only[yv,yz,yU] at b;rcases b with rfl | rfl
    .show(c q f).2.1
    .show(c q f).2.2.1
   rw[zG] at h1;have:=W.wok.few;lk
  .cases h
 .cases h
def KpB(v:V)(H H':Hp):Prop:=∀ b o,(∀ xs,v=.ref b->o≠.lst xs)->H b=some o->H' b=some o
def qfw(cc:Nat->Addr)(cw:Addr):Sp:=fun vs H Q E=>spFi cc cw vs H Q E\/spFiB cc cw vs H Q E
def qfx(cc:Nat->Addr)(cw:Addr):Sp:=fun vs H Q E=>spGf cw vs H Q E\/spPnB cc cw vs H Q E
inductive spRfP(cw:Addr)(vs:List V)(H:Hp)(Q:VK)(E:XK):Prop|mk (p x:Addr) (ss:LS) (ns:LN) (tps:LP) (way:Int) (v:V) (_:vs=[.ref x,.int way,v]) (_:Wt cw H x ss ns tps) (_:Th p H 3 v) (_:(∀ a xs,v=.ref a->H a=some (.lst xs)->xs.length<=100)) (_:(apV H ss tps v=true->∀ H',L2.Same H H'->Q (.str "let by") H')) (_:(apV H ss tps v=false->∀ H',KpB v H H'->Q (.str "refused") H'))
theorem ok_rfP(F:Fun K "_law_refused" "_law_refused" zL f fd)(T:Txt K mg cc cw)(KB:MakeOk P w K mg base (CX1 P w) 10 (cc 9) "Forest" ["self","web","pairs"] (qfw cc cw))(uv:DefOk P w K mg base (CX1 P w) 13 "greatest_from" ["web","pairs"] (qfx cc cw)):FnOk P w K mg base CX0 14 f fd ["_law_web","_law_way","_law_thing"] (spRfP cw):=by
 show F.ok Kw fun _ _ _ _ H vs Q E hr h=>?_
 .obtain⟨p,x,ss,ns,tps,ag,v,rfl,G,hv,U,qy,qn⟩:=h;have Z:=jZ hr;show⟨_,(qc (qo (i:=3) Kw.nd rfl (yJ rfl) j7)
 (qc (ps_try rfl rfl rfl qr)
 (qc (qK (qm qfE (pv 3) j7 (qx _)) (qe (qk jt)) qr)
 (qc (qK (PW.pt (qav (q8 (qQ (qp (zl (K:=K) rfl) rfl T.b_isinstance Yk (qa (pv 3) (qa (qbH (v:=.ref (cc 0)) rfl T.m_NoPairs rfl) qd))))) (qav (qQ (qp (qcD (K:=K) rfl) rfl T.b_isinstance Yk (qa (pv 3) (qa (jP (qa (qbH (v:=.ref (cc 1)) rfl T.m_NoPlace rfl) (qa (qbH (v:=.ref (cc 2)) rfl T.m_NoTie rfl) qd))) qd)))) (zR (qm (qan (K:=K) rfl Z) (qD (K:=K) rfl (pv 3) rfl) (pv 2) (qx _)))))) (qe (qk jt)) qr)
 (qc (qK (qQ (qp (zl (K:=K) rfl) rfl T.b_isinstance Yk (qa (pv 2) (qa (jh (v:=.ty "list") rfl T.b_list YY rfl) qd)))) (qe (qL (qbA (K:=K) rfl yN y8 y9 qS (pv 2) (qa jt qd)))) qr)
 (qc (qo (i:=5) Kw.nd rfl (yJ rfl) (qap (jE (zE (K:=K) rfl Z) (qD (K:=K) rfl (pv 3) rfl) (pv 2) (qx _)) (qao (jE (zE (K:=K) rfl Z) (qp (zl (K:=K) rfl) rfl T.b_isinstance Yk (qa (qD (K:=K) rfl (pv 3) rfl) (qa (jh (v:=.ty "bool") rfl T.b_bool boot_bool rfl) qd))) (qp (zl (K:=K) rfl) rfl T.b_isinstance Yk (qa (pv 2) (qa (jh (v:=.ty "bool") rfl T.b_bool boot_bool rfl) qd))) (qx _)))))
 (qe (qk (qt (qu (K:=K) rfl Z) (qI (qa jt (qa jt qd))) (ji qb2 rfl T.b_int boot_int (qa (pv 5) qd)) (fun _ _=>rfl)))))))))),?_⟩
  apply⟨fun σ c aa H'=>∃ m,c=.ref (cc 0)/\aa=some m/\L2.Same H H'/\H' m=some (.xd [(qe2 0,v)])/\apV H ss tps v=false/\σ=[some (.ref x),some (.int ag),some v,some .non,none,none],_,fun pn xe qaI=>(qe (qK (qm (zE (K:=K) rfl Z) (pv 1) qg (qx _)) (qe (qL (qbQ KB (hmR hr) qaI (qa (pv 0) (qa (pv 2) qd))))) (qe (qL (qbP uv (hmR hr) qaI (qa (pv 0) (qa (pv 2) qd))))))),?_,fun a C ah ai H' hE N=>?_⟩
  .ext;show qcQ ?_;apply qG (fun h0=>?_) fun h0=>?_
   .ext;show fun y dx D O X=>?_
    cases g:apV H ss tps v with
    | true =>
     obtain⟨a,us,qs,rfl,hP,hG⟩:=qfv G g;show .inl (qeY G hP hG D O X fun H0 H2 a S dn wt lo ea hD n=>⟨rfl,?_⟩);apply⟨true,rfl,zg ?_⟩;apply qy g _ n
    | false =>
     have n:=qN (qN (Sr H) (o:=.own y) O) (o:=.ins (cc 9) dx []) (show upd H dx (.own y) y=none by rw[qf (Yb X)];show D);show .inr ⟨H,p,y,dx,x,ss,ns,tps,v,rfl,qb,D,n,⟨G.web,G.adj,hv,g⟩,fun m H' s' D=>⟨m,rfl,rfl,s',D,rfl,rfl⟩⟩
   .ext
    cases g:apV H ss tps v with
    | true =>
     obtain⟨a,us,qs,rfl,hP,hG⟩:=qfv G g;show .inl ⟨x,a,ss,ns,us,tps,qs,rfl,G,hP,hG,fun t l2 r2 ls ws rs H' s' _ _ _ _ _ _=>?_⟩;apply⟨true,rfl,zg ?_⟩;apply qy g _ s'
    | false=>show .inr ⟨p,x,ss,ns,tps,v,rfl,⟨G.web,G.adj,hv,g⟩,fun m H' s' D=>⟨m,rfl,rfl,s',D,rfl,rfl⟩⟩
  .obtain⟨m,hc,rfl,s1,D,g,rfl⟩:=hE;cases hc;show⟨_,(ph_as (K:=K) rfl Kw.nd (i:=4) rfl rfl rfl T.m_OnceError (qe (qo (i:=3) Kw.nd rfl (yJ rfl) (pv 4))) ph_nil),?_⟩;show⟨true,T.mroO 0 (by decide),T.xat 3 (by decide),T.xat 0 (by decide),zg ?_⟩;apply⟨false,rfl,qG (fun h=>by cases h) fun _=>?_⟩;ext;have ac:IsX H' a (cc 0) (some m):=.inr N;have af:TyX K H' (.ref a) (.ref (cc 0)):=.inr ⟨a,cc 0,some m,rfl,rfl,ac,T.xat 0 (by decide),fun d z=>by cases z;show⟨_,D⟩⟩;show zw af rfl (T.kit 0 0 (by decide) (by decide)) ?_;apply qG (fun h=>by simp at h) fun _=>?_;apply⟨by show 2<=sizeLine;decide,fun tp Y=>?_⟩;have n:=qN s1 (o:=.tup [.ref (cc 1),.ref (cc 2)]) Y;have I:=qN (Sr H') (o:=.tup [.ref (cc 1),.ref (cc 2)]) Y;have e2:upd H' tp (.tup [.ref (cc 1),.ref (cc 2)]) tp=some (.tup [.ref (cc 1),.ref (cc 2)]):=qb;have q:=I _ _ N;have s:=I _ _ D;generalize upd H' tp (.tup [.ref (cc 1),.ref (cc 2)])=H2 at n I e2 q s;have tx:TyX K H2 (.ref a) (.ref (cc 0)):=.inr ⟨a,cc 0,some m,rfl,rfl,.inr q,T.xat 0 (by decide),fun d z=>by cases z;show⟨_,s⟩⟩;apply⟨_,tp,_,.ref (cc 0),[.ref (cc 1),.ref (cc 2)],false,rfl,tx,e2,rfl,?_,?_⟩
   .have k1:=T.kit 0 1 (by decide) (by decide);have k2:=T.kit 0 2 (by decide) (by decide);simp only[W.kitAny,k1,k2];rfl
   apply yq ?_;apply .inr ⟨a,cc 0,m,_,v,rfl,.inr q,T.xat 0 (by decide),T.na 0 (by decide),s,rfl,?_⟩;apply(hv.same n).eqU ?_;apply yq ?_;ext;by_cases A:∃ c xs,v=.ref c/\H2 c=some (.lst xs)
   .obtain⟨c,xs,rfl,hc⟩:=A;show zw (.inl (.lst hc)) rfl (jl K "list" (by simp) "list" (by simp)) ?_;apply zg ?_;apply⟨.inl ⟨rfl,_,SqL.of hc⟩,?_⟩;ext
    obtain⟨hx,ad⟩:xs.length<=100/\∀ x∈xs,jR x=true\/∃ a,x=.ref a:=by
     cases hv with
     | lst e ne h l =>
      have e':=n _ _ e;rw[hc] at e';cases e';show⟨U c xs rfl e,fun x hx=>qeg (h x hx).ob⟩
     | tup e ne h l=>rw[n _ _ e] at hc;cases hc
     | dct e ne=>rw[n _ _ e] at hc;cases hc
     | flat f l=>cases f
    show⟨c,xs,_,rfl,rfl,hc,qi (by lk),?_⟩;have r:upd H2 c (.lst (xs++[.str "more"])) a=_:=(qf (fun z=>by rw[z,hc] at q;cases q)).trans q;have u:upd H2 c (.lst (xs++[.str "more"])) m=_:=(qf (fun z=>by rw[z,hc] at s;cases s)).trans s;have e3:upd H2 c (.lst (xs++[.str "more"])) c=some (.lst (xs++[.str "more"])):=qb
    have kp:KpB (.ref c) H (upd H2 c (.lst (xs++[.str "more"]))):=fun b o z e=>by
     by_cases hb:b=c
     .subst hb;have:=n _ _ e;rw[hc] at this;cases this;show absurd rfl (z xs rfl)
     .rw [qf hb];show n _ _ e
    have R:∀ x∈xs++[V.str "more"],jR x=true\/∃ a,x=.ref a:=fun x hx=>by
     rcases yA.mp hx with hx | hx
     .show ad x hx
     .rw [yx.mp hx];show .inl rfl
    generalize upd H2 c (.lst (xs++[.str "more"]))=J at r u e3 kp;have ty:TyOf K J (.ref c) (.type "list"):=.lst e3;have kb:=jl K "list" (by simp) "bool" (by simp);have eb:(if false=true then !eqV (V.bl (qbs "list" "bool")) (V.bl (qbs "list" "bool")) else eqV (V.bl (qbs "list" "bool")) (V.bl (qbs "list" "bool")))=true:=by simp[eqV]
    apply .inr ⟨a,cc 0,m,_,(.ref c),rfl,.inr r,T.xat 0 (by decide),T.na 0 (by decide),u,rfl,?_⟩;apply .inl (.inl (qdp e3 R ?_));apply zg ?_;apply .inr ⟨a,cc 0,m,_,(.ref c),rfl,.inr r,T.xat 0 (by decide),T.na 0 (by decide),u,rfl,?_⟩;apply zw (.inl ty) rfl kb ?_;apply zw (.inl ty) rfl kb ?_;show .inl (.inl (.inl ⟨rfl,rfl,?_⟩));rw[eb];apply⟨by show 2<=sizeLine;decide,fun L hL=>?_⟩;have B:KpB (.ref c) H (upd J L (.lst [.str "another",.str "refused"])):=fun b o z e=>qN (Sr J) hL _ _ (kp b o z e);have M:upd J L (.lst [.str "another",.str "refused"]) L=some (.lst [.str "another",.str "refused"]):=qb;generalize upd J L (.lst [.str "another",.str "refused"])=H4 at B M;apply .inr ⟨true,rfl,?_⟩;show .inl (zv (v:=.str "refused") M (qv (j:=1) rfl) (qn g _ B))
   .obtain⟨t,ht,he,ty⟩:∃ t:String,t∈["NoneType","bool","int","str","list","tuple","dict"]/\qbs t "list"=false/\TyOf K H2 v (.type t):=by
     cases hv.same n with
     | flat f l =>
      cases v with
      | non=>show⟨_,by simp,rfl,.non⟩
      | bl b=>show⟨"bool",by simp,rfl,.bl b⟩
      | int i=>show⟨"int",by simp,rfl,.int i⟩
      | str z=>show⟨"str",by simp,rfl,.str z⟩
      | _=>cases f
     | lst e ne h l=>show absurd ⟨_,_,rfl,e⟩ A
     | tup e ne h l=>show⟨"tuple",by simp,rfl,.tup e⟩
     | dct e ne=>show⟨"dict",by simp,rfl,.dK e⟩
    show zw (.inl ty) rfl (jl K t ht "list" (by simp)) ?_;rw[he];apply yq ?_;have kp:KpB v H H2:=fun b o _ e=>n _ _ e;have ae:=hv.same n
    rename H2 a=_=>r
    rename H2 m=_=>u
    have kb:=jl K t ht "bool" (by simp);have eb:(if false=true then !eqV (V.bl (qbs t "bool")) (V.bl (qbs t "bool")) else eqV (V.bl (qbs t "bool")) (V.bl (qbs t "bool")))=true:=by simp[eqV]
    apply .inr ⟨a,cc 0,m,_,v,rfl,.inr r,T.xat 0 (by decide),T.na 0 (by decide),u,rfl,?_⟩;apply .inl (.inl (ae.eqU ?_));apply zg ?_;apply .inr ⟨a,cc 0,m,_,v,rfl,.inr r,T.xat 0 (by decide),T.na 0 (by decide),u,rfl,?_⟩;apply zw (.inl ty) rfl kb ?_;apply zw (.inl ty) rfl kb ?_;show .inl (.inl (.inl ⟨rfl,rfl,?_⟩));rw[eb];apply⟨by show 2<=sizeLine;decide,fun L hL=>?_⟩;have B:KpB v H (upd H2 L (.lst [.str "another",.str "refused"])):=fun b o z e=>qN (Sr H2) hL _ _ (kp b o z e);have M:upd H2 L (.lst [.str "another",.str "refused"]) L=some (.lst [.str "another",.str "refused"]):=qb;generalize upd H2 L (.lst [.str "another",.str "refused"])=H4 at B M;apply .inr ⟨true,rfl,?_⟩;show .inl (zv (v:=.str "refused") M (qv (j:=1) rfl) (qn g _ B))
theorem Kr:FnScope ["_law_script","_law_k","_law_box_here","_law_names_here","_law_ties_here","_law_web","_law_pairs","_law_way","_law_thing","_law_kept","_law_due"] ["_law_script"] (qh qcR):=fS
theorem FnOk.or{P:Program}{w:World}{base:Heap}{CX:CXT}{k:Nat}{f:Addr}{fd:FuncData}{d:LS}{b c:Sp}(e:FnOk P w K mg base CX k f fd d b)(g:FnOk P w K mg base CX k f fd d c):FnOk P w K mg base CX k f fd d (fun vs H Q E=>b vs H Q E\/c vs H Q E):=
 ⟨fun vs H Q E h=>h.elim (e.len vs H Q E) (g.len vs H Q E),fun A a s H args us vs Q E l j i hv m=>m.elim (e.run A a s H args us vs Q E l j i hv) (g.run A a s H args us vs Q E l j i hv)⟩
theorem wt_new{y:Addr}(h:WebN H0 cw H y ss ns)(e:qbk ss ns kps)(g:TGo ss kps):Wt cw H y ss ns kps:=
 ⟨h.web,fun a b s t d c=>by rw[e.2.2 a b s t d c,YG],g.inn⟩
structure Wq(p cw:Addr)(H:Hp)(x:Addr)(ss:LS)(ns:LN)(tps:LP):Prop where
 web:WebP (fun a=>a=p) cw H x ss ns
 adj:Adj ss ns tps
 ok:∀ ab∈tps,ab.1∈ss/\ab.2∈ss/\ab.1≠ab.2
section
variable{p cw x:Addr}{H H':Hp}{ss:LS}{ns:LN}{tps:LP}
theorem Wq.wt(h:Wq p cw H x ss ns tps):Wt cw H x ss ns tps:=⟨h.web.web,h.adj,h.ok⟩
theorem Wq.bb(h:Wq p cw H x ss ns tps)(b:BB p H H'):Wq p cw H' x ss ns tps:=⟨h.web.keep fun c o n e=>b.1 c o n e,h.adj,h.ok⟩
theorem Wq.same(h:Wq p cw H x ss ns tps)(s:L2.Same H H'):Wq p cw H' x ss ns tps:=⟨h.web.keep fun c o _ e=>s c o e,h.adj,h.ok⟩
end
theorem tok_go(c:ss.Nodup)(h:TOk ss tps):TGo ss tps:=by
 show⟨h.few,fun ab b=>?_,Xr (fun{q r} i m d=>⟨d,fun z=>?_⟩) h.nd⟩
 .obtain⟨j,k,l,h1,a⟩:=h.ok ab b;show⟨ye h1,ye a,fun e=>by rw[e] at h1;have:=qA c h1 a;lk⟩
 .obtain⟨j,k,l,h1,a⟩:=h.ok q i;obtain⟨n,k',l',f,g⟩:=h.ok r m;rw[z] at h1 a;have:=qA c h1 g;have:=qA c a f;lk
theorem wmake{m y:Addr}{Q:VK}(F:G m=some (.lst (ss.map V.str)))(g:ss.length<=14)(nd:ss.Nodup)(H:∀ s∈ss,jG s=true)(C:PL G l us kps)(j:TGo ss kps)(p:G y=none)(D:G dx=none)(i:dx≠y)
  (h:∀ ns H2,L2.Same G H2->WebN G cw H2 y ss ns->Wt cw H2 y ss ns kps->Q .non H2):spWeb cw [.ref y,.ref m,.ref l] (upd (upd G dx (.own y)) y (.ins cw dx [])) Q E:=by
 have f:=qN (qN (Sr G) (o:=.own y) D) (o:=.ins cw dx []) (show upd G dx (.own y) y=none by rw[qf (Yb i)];show p);show⟨y,dx,m,l,ss,us,kps,rfl,qb,f _ _ F,g,nd,H,C.same f,j,fun ns H' b B A=>?_⟩
 have a:WebN G cw H' y ss ns:=by
  obtain⟨I,d,ol,n,h1,q,r,t,u,v,w,x⟩:=B
  have k:∀ c,upd (upd G dx (.own y)) y (.ins cw dx []) c=none->G c=none:=fun c z=>by
   cases e:G c with
   | none=>rfl
   | some o=>rw[f _ _ e] at z;cases z
  show⟨I,d,ol,n,h1,q,r,t,u,k _ v,k _ w,k _ x⟩
 show h ns H' (fun c o e=>b c o (fun z=>by rw[z,p] at e;cases e) (f _ _ e)) a (wt_new a A j)
inductive spLaw(K:W.Frag)(vs:List V)(H:Hp)(Q:VK)(E:XK):Prop|mk (a:Addr) (ns:LX) (_:vs=[.ref a]) (_:SqL K H a (ns.map V.int)) (_:ns.length<=63) (_:∀ H',Q (.bl true) H')
theorem BB.out(s:L2.Same H H1)(a:H p=none)(b:BB p H1 H2):L2.Same H H2:=fun c o e=>b.1 c o (fun z=>by subst z;rw[a] at e;cases e) (s c o e)
theorem vAsgT{c:TE}{b:TGs}{D:Ends}{a:L2.St}(h:c a H fun x H1=>qfz K n b x a H1 D.nx):qeZ c (qfz K n b) D a H:=h
theorem qbF:∀{l m:LP},All2 (fun a b=>b=a\/b=(a.2,a.1)) l m->(qj m).Perm (qj l)
 | [],[],_=>.refl _
 | [],_::_,h=>by have:=h.len;cases this
 | _::_,[],h=>by have:=h.len;cases this
 | a::l,b::m,h=>by
  have c:=qbF (l:=l) (m:=m) ⟨kZ h.len,fun k x y d f=>h.at_ (k+1) x y d f⟩;have e:=h.at_ 0 a b rfl rfl;show(b.1::b.2::qj m).Perm (a.1::a.2::qj l);rcases e with rfl | rfl
  .show(c.cons _).cons _
  .show(List.Perm.swap _ _ _).trans ((c.cons _).cons _)
section
variable{ss:LS}{tps qs:LP}
theorem Shuf.names(sh:Shuf qs ups):(qj ups).Perm (qj qs):=by
 obtain⟨c,b,a⟩:=sh;show(b.flatMap_right _).trans (qbF a)
theorem Shuf.pgo(sh:Shuf qs ups)(g:PGo ss tps qs):PGo ss tps ups:=by
 show⟨fun q a=>?_,sh.names.nodup_iff.mpr g.nd,by rw[sh.len];show g.few⟩;rcases sh.mem a with z | z
 .show g.inn q z
 .obtain⟨b,c,d,e⟩:=g.inn _ z;show⟨b.symm,d,c,e.symm⟩
end
theorem qfy(g:TsG ss tps):∀{us:LQ} {qs:LP} {seen:LS},All2 (fun t ab=>H t=some (.tup [.str ab.1,.str ab.2])) us qs->(∀ q∈qs,q∈tps\/(q.2,q.1)∈tps)->(qj qs).Nodup->(∀ x∈qj qs,x∉seen)->apL H ss tps seen (us.map V.ref)=true
 | [],_,_,_,_,_,_=>rfl
 | _::_,[],_,h,_,_,_=>by have:=h.len;cases this
 | u::us,q::qs,seen,h,hi,hn,hs=>by
  have e:=h.at_ 0 u q rfl rfl;have c:(q.1::q.2::qj qs).Nodup:=hn;have a:∀ x∈q.1::q.2::qj qs,x∉seen:=hs;obtain⟨ab,d,f,j,_⟩:=g.yes e ((hi q yO).imp (fun z=>inTs_iff.mpr ⟨q,z,rfl,rfl⟩) fun z=>inTs_iff.mpr ⟨_,z,rfl,rfl⟩);obtain rfl:ab=q:=Xz (V.str.inj d).symm (V.str.inj f).symm;show(match qaA H ss tps (.ref u) with | none=>false | some ab=>if ab.1∈seen\/ab.2∈seen then false else apL H ss tps (seen++[ab.1,ab.2]) (us.map V.ref))=true;rw[j];dsimp only;rw[yC (fun z=>z.elim (a _ (by simp)) (a _ (by simp)))];obtain⟨m1,m⟩:=yo.mp c;obtain⟨n,o⟩:=yo.mp m;show qfy g ⟨kZ h.len,fun k x y b l=>h.at_ (k+1) x y b l⟩ (fun p i=>hi p (yI _ i)) o fun x b z=>?_;rcases yA.mp z with z | z
  .show a x (by simp[b]) z
  .simp only[yv,yz,yU] at z;rcases z with rfl | rfl
   .show m1 (by simp[b])
   .show n b
theorem qdr{x:Str}{Q:VK}(q:Q (.bl false) H):qed K true (.str x) (.str x) H Q:=.inl ⟨rfl,rfl,by rw[yE rfl,qbr (v:=.str x) rfl];show q⟩
theorem eq_lists{a b:Addr}{Q:VK}(g:H a=some (.lst xs))(i:H b=some (.lst xs))(h:∀ x∈xs,jR x=true\/∃ a,x=.ref a)(q:Q (.bl false) H):qed K true (.ref a) (.ref b) H Q:=by
 show .inr (.inl ⟨a,b,true,1,rfl,rfl,by decide,?_,q⟩)
 have z:=EqT.lst (K:=K) (n:=0) (e:=fun _=>true) (SqL.of g) (SqL.of i) rfl fun j x y c d=>by
  rw[c] at d;cases d;show qbX (h x (ye c))
 have f:((List.range xs.length).all fun _=>true)=true:=by simp
 rwa[f] at z
theorem tl_ap(g:TsG ss tps)(h:TL p H l us qs)(a:PGo ss tps qs):apV H ss tps (.ref l)=true:=by
 rw[qbq h.1];show qfy g h.pl.2 (fun q b=>(a.inn q b).1) a.nd fun x _ z=>by cases z
theorem ok_law35(F:Fun K "law" "law" qcR f fd)(T:Txt K mg cc cw)(u8:DefOk P w K mg base CX0 1 "_law_cell" ["_law_script","_law_k"] (spCell K))(Ua:DefOk P w K mg base CX0 1 "_law_box" ["_law_cell_here"] spBox)(Ka:DefOk P w K mg base CX0 1 "_law_take" ["_law_box_here","_law_many"] spTake)(uV:DefOk P w K mg base CX0 3 "_law_drawn" ["_law_box_here","_law_most"] spDrawn)(Ub:MakeOk P w K mg base CX0 5 cw "Web" ["self","names","ties"] (spWeb cw))(ux:DefOk P w K mg base CX0 3 "_law_some_pairs" ["_law_box_here","_law_ties_here"] spSo)(KZ:DefOk P w K mg base CX0 2 "_law_shuffled" ["_law_box_here","_law_ties_here"] spShuf)(uP:DefOk P w K mg base CX0 3 "_law_spoilt" ["_law_box_here","_law_names_here","_law_ties_here","_law_pairs"] spSpl)(uE:DefOk P w K mg base CX0 1 "_law_are_pairs" ["_law_ties_here","_law_thing"] spApL)(ue:DefOk P w K mg base CX0 14 "_law_refused" ["_law_web","_law_way","_law_thing"] (spRfP cw)):FnOk P w K mg base CX0 15 f fd ["_law_script"] (spLaw K):=by
 show F.ok Kr fun _ _ _ s H vs Q E D h=>?_
 .obtain⟨a,zs,rfl,ha,hl,q⟩:=h;have hu:=jZ D;show⟨_,(qc (ju yT rfl (za rfl T.b_range (qa (qp (call_max2 rfl) rfl T.b_max boot_max (qa qg (qa (qp (call_min2 rfl) rfl T.b_min boot_min (qa qg (qa (qp (zu (K:=K) rfl) rfl T.b_len YT (qa (pv 0) qd)) qd))) qd))) qd)) (qw (i:=1) Kr.nd rfl (yJ rfl))
 (qc (qo (i:=2) Kr.nd rfl (yJ rfl) (qq Ua (hmR D) qz (qa (qq u8 (hmR D) qz (qa (pv 0) (qa (pv 1) qd))) qd)))
 (qc (jD (qq uV (hmR D) qz (qa (pv 2) (qa (qt (qu (K:=K) rfl hu) (qI (qa qg (qa qg qd))) (ji qb2 rfl T.b_int boot_int (qa (jE (zE (K:=K) rfl hu) (pv 1) qg (qx _)) qd)) (fun _ _=>rfl)) qd))) (qdz rfl (zY (qw (i:=3) Kr.nd rfl (yJ rfl)) (zY (qw (i:=4) Kr.nd rfl (yJ rfl)) qcw))))
 (qc (qo (i:=5) Kr.nd rfl (yJ rfl) (qbR Ub (hmR D) (qa (pv 3) (qa (pv 4) qd))))
 (qc (qo (i:=6) Kr.nd rfl (yJ rfl) (qq KZ (hmR D) qz (qa (pv 2) (qa (qq ux (hmR D) qz (qa (pv 2) (qa (pv 4) qd))) qd))))
 (qc (ju yT rfl (za rfl T.b_range (qa qg qd)) (qw (i:=7) Kr.nd rfl (yJ rfl))
 (qc (qo (i:=8) Kr.nd rfl (yJ rfl) (qq uP (hmR D) qz (qa (pv 2) (qa (pv 3) (qa (pv 4) (qa (ji (zV (K:=K) rfl rfl) rfl T.b_list YY (qa (pv 6) qd)) qd))))))
 (qc (qo (i:=9) Kr.nd rfl (yJ rfl) (qcT (qQ (qp (zl (K:=K) rfl) rfl T.b_isinstance Yk (qa (pv 8) (qa (jh (v:=.ty "list") rfl T.b_list YY rfl) qd)))) (ji (zV (K:=K) rfl rfl) rfl T.b_list YY (qa (pv 8) qd)) (pv 8)))
 (qc (qo (i:=10) Kr.nd rfl (yJ rfl) jt)
 (qc (qK (qQ (qq uE (hmR D) qz (qa (pv 4) (qa (pv 8) qd)))) (qe (qo (i:=10) Kr.nd rfl (yJ rfl) jt)) qr)
 (qc (qK (qm (qan (K:=K) rfl hu) (qq ue (hmR D) qz (qa (pv 5) (qa (pv 7) (qa (pv 8) qd)))) (pv 10) (qx _)) (qe (qk jz)) qr)
 (qe (qK (PW.pt (qbc (qm (zE (K:=K) rfl hu) (pv 10) jt (qx _)) (qau (qm (qan (K:=K) rfl hu) (pv 8) (pv 9) (qx _))))) (qe (qk jz)) qr))))))))
 (qe (qK (qm (qan (K:=K) rfl hu) (qq ue (hmR D) qz (qa (pv 5) (qa (qq Ka (hmR D) qz (qa (pv 2) (qa qg qd))) (qa (pv 6) qd)))) jt (qx _)) (qe (qk jz)) qr))))))))
 (qe (qk jz))),?_⟩
  apply qep ha ?_;apply⟨_,_,rfl,?_⟩;apply⟨_,_,rfl,?_⟩;ext;rw[ya];show⟨_,rfl,by split<;>split<;>lk,by split<;>split<;>lk,?_⟩;generalize hN:(Int.toNat _)=N;have bf:N<=63:=by rw[<- hN];split<;>split<;>lk
  clear hN;show zS (fun i σ H'=>L2.Same H H'/\∃ x1 x2 x3 x4 x5 x6 x7 x8 x9 C,σ=[some (.ref a),x1,x2,x3,x4,x5,x6,x7,x8,x9,C]) ⟨L2.Same.refl H,none,none,none,none,none,none,none,none,none,none,rfl⟩ (fun i σ H1 hi hp=>?_) fun σ H1 hp=>?_
  .obtain⟨s1,x1,x2,x3,x4,x5,x6,x7,x8,x9,C,rfl⟩:=hp;apply⟨a,zs,_,rfl,s1.seq ha,by lk,by lk,fun c=>?_⟩;apply⟨c,rfl,fun p u1 u2 u3 ak=>?_⟩;have s2:=qN s1 (o:=.lst [.int u1,.int u2,.int u3]) ak;have hB:Box (upd H1 p (.lst [.int u1,.int u2,.int u3])) p:=⟨u1,u2,u3,qb⟩;have al:H p=none:=s1.free ak;generalize upd H1 p (.lst [.int u1,.int u2,.int u3])=H2 at s2 hB;apply vAsgT ?_;apply⟨by show 2<=sizeLine;decide,fun m hm=>?_⟩;have b3:=(BB.refl hB).new (o:=.lst [.int 8,.int 14]) hm;have em:upd H2 m (.lst [.int 8,.int 14]) m=some (.lst [.int 8,.int 14]):=qb;generalize upd H2 m (.lst [.int 8,.int 14])=H3 at b3 em ⊢;apply .inl (.inl (.inl ⟨rfl,rfl,?_⟩));apply .inr ⟨_,rfl,?_⟩
   obtain⟨mo,ax,ay,an⟩:=(show ∀ bb:Bool,∃ mo:Int,atI [V.int 8,V.int 14] (if bb=true then 1 else 0)=some (.int mo)/\0<=mo/\mo<=14 from fun bb=>by
    cases bb
    .show⟨8,rfl,by decide,by decide⟩
    .show⟨14,rfl,by decide,by decide⟩) _
   show .inl (zv em ax ?_);apply⟨p,mo,rfl,ay,an,b3.2,fun t n l ss ts tps H4 ag ht bi hn hO bh hT aq=>?_⟩;show⟨t,_,rfl,SqT.of ht,rfl,_,_,rfl,_,_,rfl,rfl,?_⟩;have b4:=b3.trans ag;have Z:TGo ss tps:=tok_go hO.nd aq;apply fun y dx hy ar av=>wmake hn.1 hO.few hO.nd hO.nm hT.pl Z hy ar av fun ns H5 s5 wn W5=>⟨rfl,?_⟩;have Wq5:Wq p cw H5 y ss ns tps:=⟨wn.apart (b4.apart hy) (fun z e Y=>by subst e;obtain⟨_,_,_,q9⟩:=b4.2;rw[q9] at Y;cases Y),W5.adj,Z.inn⟩;have b5:=b4.same s5;have aj:=hn.same s5;have ac:=hT.same s5;apply⟨p,l,ss,ts,tps,rfl,b5.2,ac,Z.few,Z.inn,fun l6 bc az H6 c6 bd ai aa=>?_⟩;apply⟨p,l6,bc,az,rfl,c6.2,ai,aa.few,fun lp us qs H7 c7 be W sh=>?_⟩;have hG:=sh.pgo aa;have b7:=(b5.trans c6).trans c7;have Wq7:=(Wq5.bb c6).bb c7;have au:=(aj.bb c6).bb c7;have ad:=(ac.bb c6).bb c7;clear ag b4 b5 hn hT W5 wn aj ac Wq5 c6 c7 ai aa;have g:TsG ss tps:=⟨Z.inn,hO.nm⟩;have S7:L2.Same H H7:=b7.out s2 al;ext;have af:∀ ab∈qs,ab.1∈ss/\ab.2∈ss:=fun ab h=>⟨(hG.inn ab h).2.1,(hG.inn ab h).2.2.1⟩
   have ao:∀ ab∈qs,ab.1.length<=64/\ab.2.length<=64:=fun ab h=>by
    have k:∀ s∈ss,s.length<=64:=fun s hs=>by have:=(j5 (x:=.str s) (hO.nm s hs)).2.2;show yi this (by decide)
    show⟨k _ (af ab h).1,k _ (af ab h).2⟩
   have bj:us.length<=30:=by rw[W.2.2.len];show hG.few
   show⟨_,rfl,by decide,by decide,?_⟩;show zS (fun i σ J=>BB p H7 J/\∃ x1 x7 x8 x9 C,σ=[some (.ref a),x1,some (.ref p),some (.ref n),some (.ref l),some (.ref y),some (.ref lp),x7,x8,x9,C]) ⟨BB.refl b7.2,_,_,_,_,_,rfl⟩ (fun i2 σ J bg hp=>?_) fun σ J hp=>?_
   .obtain⟨bJ,x1,x7,x8,x9,C,rfl⟩:=hp;apply .inl ⟨lp,_,rfl,.inl (SqL.of (W.bb bJ).1),fun c hc=>?_⟩;have nc:=bJ.apart hc;have fc:=bJ.free hc;have I:=bJ.new (o:=.lst (us.map V.ref)) hc;have ec:upd J c (.lst (us.map V.ref)) c=some (.lst (us.map V.ref)):=qb;generalize upd J c (.lst (us.map V.ref))=J1 at I ec;have ap:TL p J1 c us qs:=⟨ec,nc,(W.bb I).2.2⟩;apply⟨p,n,l,c,ss,ts,us,tps,qs,rfl,I.2,au.bb I,hO,ad.bb I,ap,Z.few,hG.few,fun ab h=>⟨(Z.inn ab h).1,(Z.inn ab h).2.1⟩,af,fun v R b2 hv am=>?_⟩;have j:=I.trans b2
    have ah:∀(J4 X:Hp),L2.Same R J4->KpB v J4 X->BB p H7 X:=fun J4 X G kp=>by
     show⟨fun b o hb e=>kp b o (fun xs ev eo=>?_) (G _ _ (j.1 b o hb e)),?_⟩
     .subst eo;rcases(am b xs ev (j.1 b _ hb e)).1 with z | z
      .rw [z,fc] at e;cases e
      .rw [I.1 b _ hb e] at z;cases z
     .obtain⟨v1,v2,v3,e⟩:=j.2;show⟨v1,v2,v3,kp p _ (fun xs ev eo=>?_) (G _ _ e)⟩;subst ev
      cases hv with
      | flat f l=>cases f
      | lst e ne h l=>show ne rfl
      | tup e ne h l=>show ne rfl
      | dct e ne=>show ne rfl
    ext;by_cases O:∃ S xs,v=.ref S/\R S=some (.lst xs)
    .obtain⟨S,xs,rfl,A⟩:=O;have hx:=(am S xs rfl A).2
     have as:∀ x∈xs,jR x=true\/∃ a,x=.ref a:=by
      cases hv with
      | lst e ne h l=>rw[A] at e;cases e;show fun x hx=>qeg (h x hx).ob
      | tup e ne h l=>rw[A] at e;cases e
      | dct e ne=>rw[A] at e;cases e
      | flat f l=>cases f
     show zw (.inl (.lst A)) rfl (jl K "list" (by simp) "list" (by simp)) ?_;apply zg ?_;apply .inl ⟨S,_,rfl,.inl (SqL.of A),fun kq hk=>?_⟩;have s3:=qN (Sr R) (o:=.lst xs) hk;have ek:upd R kq (.lst xs) kq=some (.lst xs):=qb;generalize upd R kq (.lst xs)=J3 at s3 ek;apply⟨p,l,ss,ts,tps,.ref S,rfl,(ad.bb j).same s3,g,hv.same s3,fun J4 G=>?_⟩;have d:=s3.trans G;rw[qaS hv s3];have u:∀ a B,V.ref S=.ref a->J4 a=some (.lst B)->B.length<=100:=fun a B e1 U=>by cases e1;rw[d _ _ A] at U;cases U;show hx
     cases M:apV R ss tps (.ref S) with
     | true =>
      apply zg ?_;apply⟨p,y,ss,ns,tps,_,.ref S,rfl,((Wq7.bb j).same d).wt,hv.same d,u,fun _ X s5=>?_,fun e=>by rw[qaS hv d,M] at e;cases e⟩;apply qdr ?_;apply yq ?_;apply .inl (.inl (.inl ⟨rfl,rfl,?_⟩));have Y:(if false=true then !eqV (V.str "let by") (V.str "let by") else eqV (V.str "let by") (V.str "let by"))=true:=by room
      rw[Y];show⟨true,rfl,zg ?_⟩;apply eq_lists (s5 _ _ (d _ _ A)) (s5 _ _ (G _ _ ek)) as ?_;apply yq ?_;show⟨j.same (d.trans s5),_,_,_,_,_,rfl⟩
     | false =>
      apply yq ?_;apply⟨p,y,ss,ns,tps,_,.ref S,rfl,((Wq7.bb j).same d).wt,hv.same d,u,fun e=>(by rw[qaS hv d,M] at e;cases e),fun _ X kp=>?_⟩;apply qdr ?_;apply yq ?_;apply .inl (.inl (.inl ⟨rfl,rfl,?_⟩));have Y:(if false=true then !eqV (V.str "refused") (V.str "let by") else eqV (V.str "refused") (V.str "let by"))=false:=by room
      rw[Y];apply yq ?_;show⟨ah _ X d kp,_,_,_,_,_,rfl⟩
    .have ae:∀(a:Addr) (xs:List V),v=.ref a->R a≠some (.lst xs):=fun a xs e e'=>O ⟨a,xs,e,e'⟩;have M:apV R ss tps v=false:=qaR ae
     obtain⟨t',aw,he,ty⟩:∃ t:String,t∈["NoneType","bool","int","str","list","tuple","dict"]/\qbs t "list"=false/\TyOf K R v (.type t):=by
      cases hv with
      | flat f l =>
       cases v with
       | non=>show⟨_,by simp,rfl,.non⟩
       | bl b=>show⟨"bool",by simp,rfl,.bl b⟩
       | int i=>show⟨"int",by simp,rfl,.int i⟩
       | str z=>show⟨"str",by simp,rfl,.str z⟩
       | _=>cases f
      | lst e ne h l=>show absurd e (ae _ _ rfl)
      | tup e ne h l=>show⟨"tuple",by simp,rfl,.tup e⟩
      | dct e ne=>show⟨"dict",by simp,rfl,.dK e⟩
     show zw (.inl ty) rfl (jl K t' aw "list" (by simp)) ?_;rw[he];apply yq ?_;apply⟨p,l,ss,ts,tps,v,rfl,ad.bb j,g,hv,fun J4 G=>?_⟩;rw[M]
     have u:∀ a B,v=.ref a->J4 a=some (.lst B)->B.length<=100:=fun a B e1 U=>by
      subst e1
      cases hv with
      | flat f l=>cases f
      | lst e ne h l=>show absurd e (ae _ _ rfl)
      | tup e ne h l=>rw[G _ _ e] at U;cases U
      | dct e ne=>rw[G _ _ e] at U;cases U
     apply yq ?_;apply⟨p,y,ss,ns,tps,_,v,rfl,((Wq7.bb j).same G).wt,hv.same G,u,fun e=>(by rw[qaS hv G,M] at e;cases e),fun _ X kp=>?_⟩;apply qdr ?_;apply yq ?_;apply .inl (.inl (.inl ⟨rfl,rfl,?_⟩));have Y:(if false=true then !eqV (V.str "refused") (V.str "let by") else eqV (V.str "refused") (V.str "let by"))=false:=by room
     rw[Y];apply yq ?_;show⟨ah _ X G kp,_,_,_,_,_,rfl⟩
   .obtain⟨bJ,x1,x7,x8,x9,C,rfl⟩:=hp;apply⟨p,2,rfl,bJ.2,by decide,by decide,fun r J1 r0 r1 c1=>?_⟩;have I:=bJ.trans c1;have L:=W.bb I;apply⟨p,y,ss,ns,tps,r,.ref lp,rfl,(Wq7.bb I).wt,.lst L.1 L.2.1 (fun x hx=>L.th ao hx) (by rw[ya];lk),(fun a xs e1 U=>by cases e1;rw[L.1] at U;cases U;rw[ya];lk),fun _ R ba=>?_,fun e=>by rw[tl_ap g L hG] at e;cases e⟩;apply qdr ?_;apply yq ?_;show⟨(b7.trans (I.same ba)).out s2 al,_,_,_,_,_,_,_,_,_,_,rfl⟩
  .obtain⟨s1,_⟩:=hp;apply q H1
end
theorem all_mk{l:W.OpenLaw}{w:World}{h:Heap}{fa f d p q r b:Addr}{C D E:Tok}(X:K.In h)(G:h.Ns mainGlobals mg)(Y:mg "law"=some (.ref fa))
  (C0_:W.nsIn K mainGlobals "NoPairs"=some (some (.ref p)))
  (C1_:W.nsIn K mainGlobals "NoPlace"=some (some (.ref q)))
  (C2_:W.nsIn K mainGlobals "NoTie"=some (some (.ref r)))
  (C3_:W.nsIn K mainGlobals "OnceError"=some (some (.ref b)))
  (Cw_:W.nsIn K mainGlobals "Web"=some (some (.ref f)))
  (Cf_:W.nsIn K mainGlobals "Forest"=some (some (.ref d)))
  (va:FG K "are_pairs" zd)
  (UQ:FG K "partners_in" jK)
  (U3:FG K "told_pairs" jp)
  (vT:FG K "is_row" qba)
  (Up:FG K "are_unlike_places" jd)
  (UD:FG K "goes_by_turns" qP)
  (vi:FG K "can_turn" qak)
  (vV:FG K "turned" qaP)
  (UE:FG K "greatest_from" jq)
  (vz:FG K "is_name" zb)
  (vA:FG K "has_bit" qaJ)
  (vk:FG K "is_place" zx)
  (Uw:FG K "are_two_places" je)
  (U4:FG K "numbers_of" zm)
  (vD:FG K "near_of" qaK)
  (vW:FG K "_law_cell" qa7)
  (VR:FG K "_law_box" qbU)
  (vX:FG K "_law_take" qa8)
  (vE:FG K "_law_names" zy)
  (vY:FG K "_law_ties" qa9)
  (vF:FG K "_law_drawn" qaN)
  (U5:FG K "_law_shuffled" j4)
  (vG:FG K "_law_fresh" zW)
  (VS:FG K "_law_odd" qbm)
  (vb:FG K "_law_partner" zI)
  (vc:FG K "_law_singles" zf)
  (UK:FG K "_law_some_pairs" jY)
  (UR:FG K "_law_are_pairs" j9)
  (VT:FG K "_law_put" qbW)
  (vm:FG K "_law_spoilt" qal)
  (vd:FG K "_law_refused" zL)
  (V0:FG K "law" qcR)
  (wq:FM K p "__init__" "NoPairs.__init__" jW)
  (wu:FC K b "__init__" "OnceError.__init__" jy)
  (wv:FM K f "__init__" "Web.__init__" qaf)
  (vn:FM K f "places" "Web.places" zn)
  (vZ:FM K f "ties" "Web.ties" qai)
  (US:FM K f "has_place" "Web.has_place" jH)
  (ve:FM K f "has_tie" "Web.has_tie" jJ)
  (UT:FM K f "number_of" "Web.number_of" jI)
  (vo:FM K f "beside" "Web.beside" zo)
  (UF:FM K f "bits_beside" "Web.bits_beside" jr)
  (v8:FM K f "tied" "Web.tied" qag)
  (U6:FM K f "names_in" "Web.names_in" jw)
  (UU:FM K d "__init__" "Forest.__init__" jM)
  (v9:FM K d "row" "Forest.row" zr)
  (vH:FM K d "grow" "Forest.grow" j8)
  (vp:FM K d "reach" "Forest.reach" jX)
  (Ux:FM K d "look_around" "Forest.look_around" qZ)
  (Uq:FM K d "bring_together" "Forest.bring_together" qJ)
  (Uk:FM K d "bases_down_from" "Forest.bases_down_from" qO)
  (Uy:FM K d "reach_round" "Forest.reach_round" qY)
  (vJ:FM K d "fold" "Forest.fold" jL)
  (X0:XL K p (.ref b::qbS))
  (q0:XQ K p)
  (X1:XL K q (.ref b::qbS))
  (q1:XQ K q)
  (X2:XL K r (.ref b::qbS))
  (q2:XQ K r)
  (X3:XL K b qbS)
  (q3:XQ K b)
  (y0:W.findIn K (.ref p) "found"=some none)
  (y1:W.findIn K (.ref q) "found"=some none)
  (y2:W.findIn K (.ref r) "found"=some none)
  (ac:W.mroIn K p (.ref b)=some true)
  (ad:W.mroIn K q (.ref b)=some true)
  (ae:W.mroIn K r (.ref b)=some true)
  (nd:([p,q,r]++[b]).Nodup)
  (r1:W.readsIn K b (.type "type")=true)
  (r3:W.specialIn K (.ref b) "__getattribute__"=some (some (.builtin "type.__getattribute__")))
  (v1:W.findIn K (.type "type") "__getattribute__"=some (some (.builtin "type.__getattribute__")))
  (v3:W.subIn K (.type "type") (.type "type")=some true)
  (v4:W.findCls K (.type "ValueError") (.type "type") "__init__"=some (.val (.builtin "ValueError.__init__")))
  (w1:W.plainGet K f Str.empty=true)
  (w2:W.hasDictIn K f=true)
  (w3:W.plainOver K f=true)
  (w4:W.findIn K (.ref f) "__setattr__"=some (some (.builtin "object.__setattr__")))
  (w5:W.makesIn K f=true)
  (w6:W.keepIn K (.ref f)=true)
  (w7:W.findIn K (.ref f) "numbers"=some none)
  (w8:W.findIn K (.ref f) "order"=some none)
  (w9:W.findIn K (.ref f) "near"=some none)
  (u:W.specialIn K (.builtin "object.__class__") "__get__"=some (some (.builtin "getset_descriptor.__get__")))
  (x:W.takesIn K (.builtin "object.__class__")=some true)
  (ag:W.plainGet K d Str.empty=true)
  (ah:W.hasDictIn K d=true)
  (ai:W.plainOver K d=true)
  (aj:W.findIn K (.ref d) "__setattr__"=some (some (.builtin "object.__setattr__")))
  (A:W.makesIn K d=true)
  (B:W.keepIn K (.ref d)=true)
  (ar:W.findIn K (.ref d) "board"=some none)
  (as:W.findIn K (.ref d) "partners"=some none)
  (au:W.findIn K (.ref d) "rows"=some none)
  (av:W.findIn K (.ref d) "parents"=some none)
  (aw:W.findIn K (.ref d) "bases"=some none)
  (ax:W.findIn K (.ref d) "rings"=some none)
  (ay:W.findIn K (.ref d) "waiting"=some none)
  (az:W.findIn K (.ref d) "longer"=some none)
  (ao:W.nsIn K mainGlobals "zip"=some none)
  (z0:W.nsIn K mainGlobals "len"=some none)
  (z1:W.nsIn K mainGlobals "int"=some none)
  (z2:W.nsIn K mainGlobals "enumerate"=some none)
  (z3:W.nsIn K mainGlobals "all"=some none)
  (z4:W.nsIn K mainGlobals "max"=some none)
  (z5:W.nsIn K mainGlobals "min"=some none)
  (z6:W.nsIn K mainGlobals "isinstance"=some none)
  (z7:W.nsIn K mainGlobals "bool"=some none)
  (z8:W.nsIn K mainGlobals "str"=some none)
  (z9:W.nsIn K mainGlobals "range"=some none)
  (ak:W.nsIn K mainGlobals "list"=some none)
  (al:W.nsIn K mainGlobals "tuple"=some none)
  (am:W.nsIn K mainGlobals "ValueError"=some none)
  (u0:W.nsIn K mainGlobals "LONGEST_NAME"=some (some (.int 6 C)))
  (u1:W.nsIn K mainGlobals "MOST_PLACES"=some (some (.int 14 D)))
  (u2:W.nsIn K mainGlobals "MOST_TIES"=some (some (.int 30 E))) :
  ∃ fd:FuncData,(∀(s:Shared) (v:Value),BindsTo s fd ⟨[v],[]⟩ [("_law_script",v)])/\∀ base:Heap,K.In base->base.Ns mainGlobals mg->FnOk l.prog w K mg base CX0 15 fa fd ["_law_script"] (spLaw K):=by
 obtain⟨_,_,Uv,J⟩:=va;obtain⟨_,_,Uo,L⟩:=UQ;obtain⟨_,_,Uu,M⟩:=U3;obtain⟨_,_,Va,Vh⟩:=vT;obtain⟨_,_,Ur,Vi⟩:=Up;obtain⟨_,_,UG,Vj⟩:=UD;obtain⟨_,_,vq,Vk⟩:=vi;obtain⟨_,_,Vb,Vl⟩:=vV;obtain⟨_,_,UH,vv⟩:=UE;obtain⟨_,_,UM,N⟩:=vz;obtain⟨_,_,vK,Vm⟩:=vA;obtain⟨_,_,UI,F⟩:=vk;obtain⟨_,_,Uh,H⟩:=Uw;obtain⟨_,_,U7,Vn⟩:=U4;obtain⟨_,_,vL,Vo⟩:=vD;obtain⟨_,_,Vc,Vp⟩:=vW;obtain⟨_,_,VU,Vq⟩:=VR;obtain⟨_,_,Vd,Vr⟩:=vX;obtain⟨_,_,vM,Vs⟩:=vE;obtain⟨_,_,Ve,Vt⟩:=vY;obtain⟨_,_,vN,Vu⟩:=vF;obtain⟨_,_,U8,Vv⟩:=U5;obtain⟨_,_,vO,Vw⟩:=vG;obtain⟨_,_,VV,Vx⟩:=VS;obtain⟨_,_,vf,Vy⟩:=vb;obtain⟨_,_,vg,Vz⟩:=vc;obtain⟨_,_,UL,VA⟩:=UK;obtain⟨_,_,UV,VB⟩:=UR;obtain⟨_,_,VW,VC⟩:=VT;obtain⟨_,_,vw,VD⟩:=vm;obtain⟨_,_,vh,VE⟩:=vd;obtain⟨_,_,V1,VF⟩:=V0;obtain⟨_,_,ww,wz,VX⟩:=wq;obtain⟨_,_,wA,VY⟩:=wu;obtain⟨_,_,wB,wC,VZ⟩:=wv;obtain⟨_,_,V2,V3,VG⟩:=vn;obtain⟨_,_,V4,V5,VH⟩:=vZ;obtain⟨_,_,V6,V7,VI⟩:=US;obtain⟨_,_,VJ,VL,I⟩:=ve;obtain⟨_,_,V8,V9,VM⟩:=UT;obtain⟨_,_,wa,wc,VN⟩:=vo;obtain⟨_,_,wd,we,VO⟩:=UF;obtain⟨_,_,wf,wg,VP⟩:=v8;obtain⟨_,_,wj,wm,VQ⟩:=U6;obtain⟨_,_,P,R,y⟩:=UU;obtain⟨_,_,Vf,Vg,U9⟩:=v9;obtain⟨_,_,vP,vQ,UO⟩:=vH;obtain⟨_,_,vx,vy,UJ⟩:=vp;obtain⟨_,_,Uz,UA,Ui⟩:=Ux;obtain⟨_,_,Us,Ut,Ue⟩:=Uq;obtain⟨_,_,Ul,Um,Ud⟩:=Uk;obtain⟨_,_,UB,UC,Uj⟩:=Uy;obtain⟨_,_,vR,vS,UP⟩:=vJ;have e:=Y.symm.trans (X9 X G V1);cases e;have Y0:XAt K p:=qee X0 qcG q0 u x;have Y1:XAt K q:=qee X1 qcG q1 u x;have Y2:XAt K r:=qee X2 qcG q2 u x;have Y3:XAt K b:=qee X3 qdR q3 u x;obtain⟨Z,ap,aa,aq⟩:=kits nd (fun i t=>match i,t with | 0,_=>X0 | 1,_=>X1 | 2,_=>X2 | n+3,h=>absurd h (by simp only[yD,YN];lk)) X3;have g:Cls K f:=⟨w1,w2,w3,w4⟩;have m:Cls K d:=⟨ag,ah,ai,aj⟩
 have af:∀ a∈fAtt,NoAttr K d a:=fun a U=>by
  unfold fAtt at U;simp only[yv,yz,yU] at U;rcases U with rfl | rfl | rfl | rfl | rfl | rfl | rfl | rfl<;>assumption
 have z:∀ i,i<4->([p,q,r,b,b,b,b,b,b]:LQ).getD i d=([p,q,r]:LQ).getD i b:=fun i t=>match i,t with | 0,_=>rfl | 1,_=>rfl | 2,_=>rfl | 3,_=>rfl | n+4,h=>absurd h (by lk);have T:Txt K mg (fun i=>([p,q,r,b,b,b,b,b,b]:LQ).getD i d) f:=⟨YJ X G z0,
  YJ X G z1,
  YJ X G z2,
  YJ X G z3,
  YJ X G z4,
  YJ X G z5,
  YJ X G z6,
  YJ X G z7,
  YJ X G z8,
  YJ X G z9,
  YJ X G ak,
  YJ X G al,
  YJ X G am,
  ⟨C,X9 X G u0⟩,
  ⟨D,X9 X G u1⟩,
  ⟨E,X9 X G u2⟩,
  X9 X G C0_,
  X9 X G C1_,
  X9 X G C2_,
  X9 X G C3_,
  ⟨v1,v3,v4⟩,
  fun i t=>match i,t with | 0,_=>Y0 | 1,_=>Y1 | 2,_=>Y2 | 3,_=>Y3 | n+4,h=>absurd h (by lk),
  fun i t=>match i,t with | 0,_=>y0 | 1,_=>y1 | 2,_=>y2 | n+3,h=>absurd h (by lk),
  (fun i j t hj=>by rw[z i (by lk),z j (by lk)];show Z i j t hj),
  (fun i t=>by rw[z i (by lk)];show aa i t),
  fun i t=>match i,t with | 0,_=>ac | 1,_=>ad | 2,_=>ae | n+3,h=>absurd h (by lk),
  g,
  w7,
  w8,
  w9,
  X9 X G Cw_,
  X9 X G Cf_,
  m,
  af,
  YJ X G ao⟩
 obtain⟨oc,od,kV,S,pm,an,cd,ct,sl,rfl,lk,hc⟩:=VF.ex;show⟨W.fnOf "law" "law" (qax qcR) (zt qcR) (qh qcR) .none kV S pm an cd ct,fun s v=>.of_eq rfl,fun base _ _=>?_⟩;have d_once:CMethOk l.prog w K mg base CX0 1 b "OnceError" "__init__" ["self","text"] (spOnce K):=fc_mk X G C3_ r1 wA r3 VY (ok_once VY T);have d0:XMakeOk l.prog w K mg base 2 p "NoPairs" ["self","found"] (spX p (qe2 0)):=fx_mk X G C0_ Y0 q0 ww wz VX (ok_NoPairs VX T d_once);have c:=@fg_mk l.prog w K mg base h;have o:=@fm_mk l.prog w K mg base;have O:=@fw_mk l.prog w K mg base h;have d_name:=c X G UM N (ok_name N T);have d_place:=c X G UI F (ok_place F d_name);have d_two:=c X G Uh H (ok_two H T d_place);have d_bit:=c X G vK Vm (ok_bit Vm);have d_nums:=c X G U7 Vn (ok_nums Vn T d_name);have d_near:=c X G vL Vo (ok_near Vo T d_two d_bit);have q_web:MakeOk l.prog w K mg base CX0 5 f "Web" ["self","names","ties"] (spWeb f):=O X G Cw_ w5 w6 wB wC VZ (ok_web VZ T d_nums d_near);have m_has:=o g V6 V7 VI (ok_has VI T d_place);have m_num:=o g V8 V9 VM (ok_num VM T m_has);have m_bb:=o g wd we VO (ok_bb VO T m_num);have m_nin:=o g wj wm VQ (ok_nin VQ T d_bit);have m_bs:=o g wa wc VN (ok_bs VN T m_bb m_nin);have m_tied:=o g wf wg VP (ok_tied VP T m_bb m_num d_bit);have m_pls:=o g V2 V3 VG (ok_pls VG T);have m_ts:=o g V4 V5 VH (ok_ts VH T m_bs);have m_ht:=o g VJ VL I (ok_ht I T d_two m_tied);have d_ap:=c X G Uv J (ok_ap J T m_ht);have d_pn:=c X G Uo L (ok_pn L T d_ap);have d_tp:=c X G Uu M (ok_tp M T d_pn m_ts);have d_ul:=c X G Ur Vi (ok_ul Vi T m_has);have d_gt:=c X G UG Vj (ok_gt Vj T m_ht);have d_ir:=c X G Va Vh (ok_ir Vh T d_pn d_ul d_gt);have d_ct:=c X G vq Vk (ok_ct Vk T d_pn d_ir);have d_tu:=c X G Vb Vl (ok_tu Vl T d_pn m_ts d_ct);have p_re:=o m vx vy UJ (ok_re UJ T);have p_bd:=o m Ul Um Ud (ok_bd Ud T);have p_rr:=o m UB UC Uj (ok_rr Uj T p_re);have p_fd:=o m vR vS UP (ok_fdF UP T m_pls);have p_bt:=o m Us Ut Ue (ok_bt Ue T p_bd p_rr p_fd);have p_la:=o m Uz UA Ui (ok_la Ui T m_bs p_bt p_re);have p_gw:=o m vP vQ UO (ok_gw UO T m_pls p_re p_la);have p_mk:MakeOk l.prog w K mg base CX0 10 d "Forest" ["self","web","pairs"] (spFi (fun i=>([p,q,r,b,b,b,b,b,b]:LQ).getD i d) f):=O X G Cf_ A B P R y (qfs y T d_pn p_gw);have p_row:=o m Vf Vg U9 (ok_fr U9 T);have b_name:=c X G UM N (ok_nameG N T);have b_place:=c X G UI F (ok_placeG F b_name);have b_two:=c X G Uh H (ok_twoG H T b_place);have b_ht:=o g VJ VL I (ok_htG I T b_two m_tied);have b_ap:=c X G Uv J (ok_apG J T b_ht);have b_pn:=c X G Uo L (ok_pnB L T d0 b_ap);have b_tp:=c X G Uu M (ok_tpB M T b_pn m_ts);have b_mk:MakeOk l.prog w K mg base (CX1 l.prog w) 10 d "Forest" ["self","web","pairs"] (spFiB (fun i=>([p,q,r,b,b,b,b,b,b]:LQ).getD i d) f):=O X G Cf_ A B P R y (qeJ y T b_pn p_gw);have g_mk:MakeOk l.prog w K mg base (CX1 l.prog w) 10 d "Forest" ["self","web","pairs"] (qfw (fun i=>([p,q,r,b,b,b,b,b,b]:LQ).getD i d) f):=O X G Cf_ A B P R y (FnOk.or (qfs y T d_pn p_gw).any (qeJ y T b_pn p_gw));have g_gf:DefOk l.prog w K mg base (CX1 l.prog w) 13 "greatest_from" ["web","pairs"] (qfx (fun i=>([p,q,r,b,b,b,b,b,b]:LQ).getD i d) f):=c X G UH vv (FnOk.or (ok_gf vv T d_tp p_mk p_row d_tu).any (ok_gfB vv T b_tp b_mk p_row d_tu));have d_tk:=c X G Vd Vr (ok_take Vr);have d_sh:=c X G U8 Vv (ok_shuf Vv T d_tk);have d_pa:=c X G vf Vy (ok_pa Vy T);have d_sg:=c X G vg Vz (ok_sg Vz T d_pa);have d_so:=c X G UL VA (ok_so VA T d_tk d_sh d_sg);have d_sp:=c X G vw VD (ok_spl VD T d_tk (c X G VV Vx (ok_oddG Vx d_tk)) (c X G vO Vw (ok_fresh Vw)) (c X G VW VC (ok_put VC T d_tk)));show ok_law35 VF T (c X G Vc Vp (ok_cell Vp T)) (c X G VU Vq (ok_box Vq)) d_tk (c X G vN Vu (ok_drawn Vu d_tk (c X G vM Vs (ok_names Vs T d_tk)) (c X G Ve Vt (ok_ties Vt T d_tk)))) q_web d_so d_sh d_sp (c X G UV VB (ok_apL VB T)) (c X G vh VE (ok_rfP VE T g_mk g_gf))
theorem walk{l:PySem.W.OpenLaw}{q:Program}{loose:LS}{XP:(Str->Option Value)->Heap->Prop}{YP:World->Heap->Prop}{d:DefRec}{K:Params->yg}(j:l.most=some 63)(b:d.params.defaults=[])
  (i:∀(w:World) (h:Heap),YP w h->(K w.params).In h)
  (F:∀(w:World) (mg:Str->Option Value) (c:Addr) (h:Heap),(K w.params).In h->h.Ns mainGlobals mg->mg d.name=some (.ref c) ->
   ∃ e:FuncData,(∀(s:Shared) (u:Value),BindsTo s e ⟨[u],[]⟩ [("_law_script",u)])/\∀ base:Heap,(K w.params).In base->base.Ns mainGlobals mg->FnOk l.prog w (K w.params) mg base CX0 15 c e ["_law_script"] (spLaw (K w.params))) :
  PySem.W.WalkO q loose XP YP l.row.toRowW d [] (fun f vs=>PySem.call f vs):=
 L2.walk_of (n:=63) (k:=15) (x:="_law_script") (CX:=fun _=>CX0) (sp:=fun w=>spLaw (K w.params)) j (by decide) b ⟨rfl,by decide,by decide,rfl⟩ i F (fun _ _ a ns hl _ g=>⟨a,ns,rfl,g,hl,fun _=>rfl⟩) fun _ _ _ _ _ z=>z
end K35
set_option maxRecDepth 100000 in
set_option maxHeartbeats 0 in
theorem PySem.Challenge.cw_onceroad_k35_what_are_no_pairs_holds : PySem.Challenge.rw_onceroad_k35_what_are_no_pairs.Holds := by
  w_on; o_law
  show PySem.W.holds_open (q := K35.Q) (loose := []) (Xt := K35.Xt) (XP := PySem.W.XL K35.Q []) (Yf := PySem.W.Hook.obs K35.Hk) (Ya := PySem.W.Hook.val K35.Hk) (YP := PySem.W.Hook.says (PySem.W.kHook K35.Kf K35.ks K35.ks_eq)) (N := K35.NN) K35.hl (PySem.W.Hook.of K35.Hk) (PySem.W.Hook.keeps K35.Hk) (fun s e => PySem.W.xl_of s (Bool.and_eq_true_iff.mp e).1) PySem.W.XL.keeps (by rfl) (by rfl) (by rfl) (fun s e => PySem.W.recFacts_of (Bool.and_eq_true_iff.mp e).2) (by rfl) (by first | assumption | room) (by room) ⟨rfl, rfl, rfl, rfl, rfl, by room⟩ ?hw ?hc
  (case hw => w_witness2)
  k_fill
  show K35.walk (l := PySem.Challenge.rw_onceroad_k35_what_are_no_pairs) rfl rfl (fun w h Y => PySem.W.kIn_of Y) ?F
  case F =>
    intro w mg fa h KX G hmg
    refine' K35.all_mk KX G hmg ?_ ?_ ?_ ?_ ?_ ?_ ?_ ?_ ?_ ?_ ?_ ?_ ?_ ?_ ?_ ?_ ?_ ?_ ?_ ?_ ?_ ?_ ?_ ?_ ?_ ?_ ?_ ?_ ?_ ?_ ?_ ?_ ?_ ?_ ?_ ?_ ?_ ?_ ?_ ?_ ?_ ?_ ?_ ?_ ?_ ?_ ?_ ?_ ?_ ?_ ?_ ?_ ?_ ?_ ?_ ?_ ?_ ?_ ?_ ?_ ?_ ?_ ?_ ?_ ?_ ?_ ?_ ?_ ?_ ?_ ?_ ?_ ?_ ?_ ?_ ?_ ?_ ?_ ?_ ?_ ?_ ?_ ?_ ?_ ?_ ?_ ?_ ?_ ?_ ?_ ?_ ?_ ?_ ?_ ?_ ?_ ?_ ?_ ?_ ?_ ?_ ?_ ?_ ?_ ?_ ?_ ?_ ?_ ?_ ?_ ?_ ?_ ?_ ?_ ?_ ?_ ?_ ?_ ?_ ?_ ?_
    any_goals first | k_is | decide
    any_goals first | k_is | decide | show⟨_, _, by k_is, L2.fun_mk (by k_is) (by k_is) (by k_is)⟩ | show⟨_, _, by k_is, by k_is, L2.fun_mk (by k_is) (by k_is) (by k_is)⟩ | show⟨_, _, _, _, _, _, _, _, _, _, _, _, _, _, _, by k_is⟩ | show⟨by k_is, by k_is, by k_is, by k_is, by k_is, by k_is, by k_is, by k_is⟩ | kernel_rfl | fail
